import PyProof.Rows.All
import Wide.All
import OpenK.AllK
import Wide.FinOn
import HandS.Base
import HandS.Call
import HandS.List
import HandS.Comp
import HandS.Ends
import HandS.Iter
import HandS.Text
import HandS.Words
import HandS.WordsList
import HandS.Wide
import HandS.FStr
import HandS.IsInst
import PySem.Challenge.RW_mustercall_k04_texts_read_back
set_option Elab.async false
set_option linter.all false
set_option maxRecDepth 100000
set_option maxHeartbeats 4000000
/-! What my proofs share: a def with its promise as one thing, small rules, heaps. -/
namespace Mus
open PySem L2
/-- a def of the text that keeps a promise, and all that a call of it asks -/
structure DefOk (P : Program) (w : World) (K : PySem.W.Frag) (mg : Str → Option Value) (base : Heap) (CX : CXT) (x : Str) (ps : List Str) (k : Nat) (sp : Sp) where
  f : Addr
  fd : FuncData
  G : FnOk P w K mg base CX k f fd ps sp
  m : mg x = some (.ref f)
  kp : PySem.W.keepIn K (.ref f) = true
  b : Binds K fd ps []
def DefOk.mono {P : Program} {w : World} {K : PySem.W.Frag} {mg : Str → Option Value} {base : Heap} {CX : CXT} {x : Str} {ps : List Str} {j k : Nat} {sp : Sp} (c : DefOk P w K mg base CX x ps j sp) (h : j ≤ k) : DefOk P w K mg base CX x ps k sp :=
  ⟨c.f, c.fd, c.G.mono h, c.m, c.kp, c.b⟩
/-- a def of the text as the top left it: no promise yet -/
structure DefAt (K : PySem.W.Frag) (mg : Str → Option Value) (x : Str) (ps : List Str) (st : Stmt) where
  f : Addr
  fd : FuncData
  F : Fun K x x st f fd
  m : mg x = some (.ref f)
  b : Binds K fd ps []
def DefAt.ok {P : Program} {w : World} {K : PySem.W.Frag} {mg : Str → Option Value} {base : Heap} {CX : CXT} {x : Str} {ps : List Str} {st : Stmt} {k : Nat} {sp : Sp} (d : DefAt K mg x ps st) (h : ∀ {f : Addr} {fd : FuncData}, Fun K x x st f fd → FnOk P w K mg base CX k f fd ps sp) : DefOk P w K mg base CX x ps k sp :=
  ⟨d.f, d.fd, h d.F, d.m, d.F.kp, d.b⟩
section
variable {X : Cx}
theorem pcall {x : Str} {ps : List Str} {j k : Nat} {sp : Sp} {e : Expr} {es : List Expr} {t : TA} {p pos : Pos} (c : DefOk X.prog X.w X.K X.mg X.base CX0 x ps j sp) (hr : Room k X.A) (ha : PA X (e :: es) t) (hj : j ≤ k := by first | decide | omega) (hg : Gl X x := by rfl)
    (db0 : (x == ("__debug__" : Str)) = false := by decide) (st0 : starEach (e :: es) X.env = (false, eval e X.env) :: starEach es X.env := by rfl) (pl0 : (backTo pos (starEach es X.env)).any (·.1) = false := by rfl) :
    PE X (.Call (.Name x p) (e :: es) [] pos) (tCall sp [] E0 t) := pe_call c.G (hr.mono hj) hg c.m c.kp c.b .nil pass0 ha db0 st0 pl0
/-- a text n times -/
theorem op_mul_str : OpR X (binaryOp .Mult) (fun x y H Q => ∃ (z : Str) (n : Int), x = .str z ∧ y = .int n ∧ 2 ≤ n ∧ n ≤ 1000 ∧ 1 ≤ z.length ∧ z.length ≤ 1000 ∧ ∀ r : Str, TL.tl r = (List.replicate n.toNat (TL.tl z)).flatten → Q (.str r) H) := by
  intro pins s σ H x y v u Q I rx ry h
  obtain ⟨z, n, rfl, rfl, h2, h3, h4, h5, q⟩ := h
  obtain ⟨t, rfl⟩ := rx
  obtain ⟨t', rfl⟩ := ry
  have n1 : ¬ n < 1 := by omega
  have n2 : ¬ (n == 1 || z.length == 0) = true := by
    rw [Bool.or_eq_true, beq_iff_eq, beq_iff_eq]; omega
  have hr : (decide (n < -(2 ^ 63 : Int)) || decide (n ≥ 2 ^ 63)) = false := by
    rw [decide_eq_false (by omega), decide_eq_false (by omega)]; rfl
  have hm : z.length * n.toNat ≤ 1000 * 1000 := Nat.mul_le_mul h5 (by omega)
  have hl : Builtin.Str.tooLong (z.length * n.toNat) = false := by
    unfold Builtin.Str.tooLong
    have e : sizeLine = 16777216 := sizeLine_eq
    rw [decide_eq_false (by omega)]
  have hb : ¬ ((z.length : Int) > (2 ^ 63 - 1) / n) := by
    have : (1000 : Int) ≤ (2 ^ 63 - 1) / n := by
      rw [Int.le_ediv_iff_mul_le (by omega)]
      omega
    omega
  refine PySem.P.mul_str hr (fun _ _ => hb) (fun _ _ => hl) ?_
  rw [if_neg n1, if_neg n2]
  have hf : ∀ (k : Nat) (acc : Array Nat), ((List.replicate k z.cps).foldl (· ++ ·) acc).toList = acc.toList ++ (List.replicate k z.cps.toList).flatten := by
    intro k
    induction k with
    | zero => intro acc; simp
    | succ k ih =>
      intro acc
      rw [List.replicate_succ, List.foldl_cons, ih, List.replicate_succ, List.flatten_cons, Array.toList_append, List.append_assoc]
  have hr : TL.tl (⟨(List.replicate n.toNat z.cps).foldl (· ++ ·) #[]⟩ : Str) = (List.replicate n.toNat (TL.tl z)).flatten := by
    show ((List.replicate n.toNat z.cps).foldl (· ++ ·) #[]).toList = _
    rw [hf]; rfl
  have hlen : (⟨(List.replicate n.toNat z.cps).foldl (· ++ ·) #[]⟩ : Str).length ≤ sizeLine := by
    rw [TL.len_tl, hr]
    have e : sizeLine = 16777216 := sizeLine_eq
    have z2 : ((List.replicate n.toNat (TL.tl z)).flatten).length = z.length * n.toNat := by
      rw [TL.len_tl]
      generalize n.toNat = k
      induction k with
      | zero => rfl
      | succ k ih => rw [List.replicate_succ, List.flatten_cons, List.length_append, ih, Nat.mul_succ, Nat.add_comm]
    omega
  exact ⟨hlen, .str _, H, I.tok _, ⟨_, rfl⟩, q _ hr⟩
/-- for c in a text -/
theorem for_str {z : Str} {g : TG} {tb : TS} {D : Ends} {σ : St} {H : Hp} (Pv : Nat → St → Hp → Prop) (h0 : Pv 0 σ H)
    (hs : ∀ i c σ H, (TL.tl z)[i]? = some c → Pv i σ H → g (.str ⟨#[c]⟩) σ H fun σ2 H2 => tb { D with nx := Pv (i + 1), ct := Pv (i + 1), bk := D.nx } σ2 H2) (hd : ∀ σ H, Pv (TL.tl z).length σ H → D.nx σ H) :
    ∃ W : Nat → Nat → St → Hp → Prop, (∃ m, W 0 m σ H) ∧ ∀ i m σ H, W i m σ H →
      ((Its z).stop i H ∧ D.nx σ H) ∨ ((Its z).go i H ∧ ∃ N : St → Hp → Prop, (∀ σ' H', N σ' H' → ∃ m', m' < m ∧ W (i + 1) m' σ' H') ∧ ∀ x H', (Its z).yld i H x H' → g x σ H' fun σ2 H2 => tb { D with nx := N, ct := N, bk := D.nx } σ2 H2) := by
  have hl : (TL.tl z).length = z.cps.size := Array.length_toList
  refine ⟨fun i m σ H => m = (TL.tl z).length - i ∧ i ≤ (TL.tl z).length ∧ Pv i σ H, ⟨(TL.tl z).length, rfl, Nat.zero_le _, h0⟩, ?_⟩
  rintro i m σ H ⟨rfl, le1, pv1⟩
  by_cases lt1 : i < (TL.tl z).length
  · refine .inr ⟨(by show i < z.cps.size; omega), Pv (i + 1), fun σ' H' p' => ⟨(TL.tl z).length - (i + 1), by omega, rfl, lt1, p'⟩, fun x H' y => ?_⟩
    obtain ⟨e, c, hc, ex⟩ := y
    subst e
    subst ex
    exact hs i c σ H' (by rw [Array.getElem?_toList]; exact hc) pv1
  · have e : i = (TL.tl z).length := by omega
    subst e
    exact .inl ⟨(by show z.cps.size ≤ _; omega), hd σ H pv1⟩
end
/-! ### heaps -/
/-- all but what stands at p is as it was -/
def But (p : Addr) (H H' : Hp) : Prop := ∀ b o, H b = some o → b ≠ p → H' b = some o
theorem But.refl (p : Addr) (H : Hp) : But p H H := fun _ _ h _ => h
theorem But.trans {p : Addr} {H H1 H2 : Hp} (a : But p H H1) (b : But p H1 H2) : But p H H2 := fun c o h n => b c o (a c o h n) n
theorem But.of {p : Addr} {H H' : Hp} (a : Same H H') : But p H H' := fun c o h _ => a c o h
theorem same_new {H : Hp} {p : Addr} (h : H p = none) (o : HO) : Same H (upd H p o) := fun b u q => by rw [upd_ne (ne_of_none q h)]; exact q
theorem but_upd {H : Hp} {p : Addr} (o : HO) : But p H (upd H p o) := fun b u q n => by rw [upd_ne n]; exact q
theorem same_seqT {K : PySem.W.Frag} {H H' : Hp} {a : Addr} {xs : List V} (e : Same H H') (h : SqT K H a xs) : SqT K H' a xs := by
  rcases h with (h | ⟨o, h⟩) | h
  · exact .inl (.inl (e _ _ h))
  · exact .inl (.inr ⟨o, e _ _ h⟩)
  · exact .inr h
/-- tuples stay where only a list may change -/
theorem But.seqT {K : PySem.W.Frag} {H H' : Hp} {p a : Addr} {xs ys : List V} (e : But p H H') (hp : H p = some (.lst ys)) (h : SqT K H a xs) : SqT K H' a xs := by
  rcases h with (h | ⟨o, h⟩) | h
  · exact .inl (.inl (e _ _ h (ne_of h hp (by intro z; cases z))))
  · exact .inl (.inr ⟨o, e _ _ h (ne_of h hp (by intro z; cases z))⟩)
  · exact .inr h
theorem But.seqL {K : PySem.W.Frag} {H H' : Hp} {p a : Addr} {xs : List V} (e : But p H H') (hp : a ≠ p) (h : SqL K H a xs) : SqL K H' a xs := by
  rcases h with (h | ⟨o, h⟩) | h
  · exact .inl (.inl (e _ _ h hp))
  · exact .inl (.inr ⟨o, e _ _ h hp⟩)
  · exact .inr h
end Mus

set_option maxRecDepth 100000
/-! Plain values and their canonical texts: the mathematics. -/
namespace Txt4
open PySem L2 PySem.NumText TL
/-- a plain value -/
inductive D where
  | int (i : Int)
  | str (z : Str)
  | tup (ds : List D)
/-- the signs of an int -/
def numI (i : Int) : List Nat := if i < 0 then 45 :: numL i.natAbs else numL i.natAbs
mutual
def enc : D → List Nat
  | .int i => numI i
  | .str z => numL (tl z).length ++ 58 :: tl z
  | .tup ds => 40 :: (encs ds ++ [41])
def encs : List D → List Nat
  | [] => []
  | d :: ds => enc d ++ 59 :: encs ds
end
mutual
def dep : D → Nat
  | .int _ => 0
  | .str _ => 0
  | .tup ds => deps ds + 1
def deps : List D → Nat
  | [] => 0
  | d :: ds => max (dep d) (deps ds)
end
/-- a printable sign -/
def Pr (c : Nat) : Prop := 32 ≤ c ∧ c ≤ 126 ∧ c ≠ 37
mutual
def ok : D → Prop
  | .int i => i.natAbs < 10 ^ 24
  | .str z => ∀ c ∈ tl z, Pr c
  | .tup ds => oks ds
def oks : List D → Prop
  | [] => True
  | d :: ds => ok d ∧ oks ds
end
/-- what may stand behind a value's text -/
def tailOk (r : List Nat) : Prop := r = [] ∨ ∃ q, r = 59 :: q
/-- no digit at the head -/
def nd (r : List Nat) : Prop := ∀ c q, r = c :: q → ¬ (48 ≤ c ∧ c ≤ 57)
theorem tailOk.nd {r : List Nat} (h : tailOk r) : nd r := by
  intro c q e
  rcases h with h | ⟨s, h⟩
  · rw [h] at e; cases e
  · rw [h] at e; cases e; omega
theorem nd_cons {c : Nat} {q : List Nat} (h : ¬ (48 ≤ c ∧ c ≤ 57)) : nd (c :: q) := by
  intro d s e; cases e; exact h
/-- two runs of digits -/
theorem run_eq : ∀ {a b r s : List Nat}, AllDigits a → AllDigits b → nd r → nd s → a ++ r = b ++ s → a = b ∧ r = s
  | [], [], _, _, _, _, _, _, e => ⟨rfl, e⟩
  | [], y :: b, r, s, _, hb, hr, _, e => by
    have z : r = y :: (b ++ s) := e
    exact absurd hb.head (hr _ _ z)
  | x :: a, [], r, s, ha, _, _, hs, e => by
    have z : s = x :: (a ++ r) := e.symm
    exact absurd ha.head (hs _ _ z)
  | x :: a, y :: b, r, s, ha, hb, hr, hs, e => by
    have z : x = y ∧ a ++ r = b ++ s := List.cons.inj e
    obtain ⟨h1, h2⟩ := run_eq ha.tail hb.tail hr hs z.2
    exact ⟨by rw [z.1, h1], h2⟩
theorem numI_inj {i j : Int} (h : numI i = numI j) : i = j := by
  unfold numI at h
  have d1 := numL_digits i.natAbs
  have d2 := numL_digits j.natAbs
  split at h <;> split at h
  · have := numL_inj (List.cons.inj h).2; omega
  · exfalso
    rw [← h] at d2
    have := d2.head; omega
  · exfalso
    rw [h] at d1
    have := d1.head; omega
  · have := numL_inj h; omega
theorem numL_head (n : Nat) : ∃ c q, numL n = c :: q ∧ 48 ≤ c ∧ c ≤ 57 := by
  have d := numL_digits n
  cases e : numL n with
  | nil => exact absurd e (numL_ne n)
  | cons c q =>
    rw [e] at d
    exact ⟨c, q, rfl, d.head⟩
theorem numI_run {i j : Int} {r s : List Nat} (hr : nd r) (hs : nd s) (e : numI i ++ r = numI j ++ s) : i = j ∧ r = s := by
  have d1 := numL_digits i.natAbs
  have d2 := numL_digits j.natAbs
  by_cases hi : i < 0 <;> by_cases hj : j < 0
  · have e' : 45 :: (numL i.natAbs ++ r) = 45 :: (numL j.natAbs ++ s) := by
      unfold numI at e; rw [if_pos hi, if_pos hj] at e; exact e
    obtain ⟨h1, h2⟩ := run_eq d1 d2 hr hs (List.cons.inj e').2
    have := numL_inj h1
    exact ⟨by omega, h2⟩
  · exfalso
    obtain ⟨c, q, h, hc⟩ := numL_head j.natAbs
    unfold numI at e; rw [if_pos hi, if_neg hj, h] at e
    have := (List.cons.inj e).1
    omega
  · exfalso
    obtain ⟨c, q, h, hc⟩ := numL_head i.natAbs
    unfold numI at e; rw [if_neg hi, if_pos hj, h] at e
    have := (List.cons.inj e).1
    omega
  · unfold numI at e; rw [if_neg hi, if_neg hj] at e
    obtain ⟨h1, h2⟩ := run_eq d1 d2 hr hs e
    have := numL_inj h1
    exact ⟨by omega, h2⟩
theorem numI_not40 {i : Int} {r q : List Nat} (e : numI i ++ r = 40 :: q) : False := by
  unfold numI at e
  split at e
  · have := (List.cons.inj e).1; omega
  · obtain ⟨c, p, h, hc⟩ := numL_head i.natAbs
    rw [h] at e
    have := (List.cons.inj e).1; omega
theorem numL_not40 {n : Nat} {r q : List Nat} (e : numL n ++ r = 40 :: q) : False := by
  obtain ⟨c, p, h, hc⟩ := numL_head n
  rw [h] at e
  have := (List.cons.inj e).1; omega
theorem int_str {i : Int} {n : Nat} {r q : List Nat} (hr : tailOk r) (e : numI i ++ r = numL n ++ 58 :: q) : False := by
  unfold numI at e
  split at e
  · obtain ⟨c, p, h, hc⟩ := numL_head n
    rw [h] at e
    have := (List.cons.inj e).1; omega
  · obtain ⟨_, h2⟩ := run_eq (numL_digits _) (numL_digits _) hr.nd (nd_cons (by omega)) e
    rcases hr with hr | ⟨s, hr⟩
    · rw [hr] at h2; cases h2
    · rw [hr] at h2; have := (List.cons.inj h2).1; omega
theorem cat_len {a b r s : List Nat} (h : a.length = b.length) (e : a ++ r = b ++ s) : a = b ∧ r = s := List.append_inj e h
mutual
/-- a text ahead of an end or a semicolon is one value's -/
theorem enc_run : ∀ (d e : D) (r s : List Nat), tailOk r → tailOk s → enc d ++ r = enc e ++ s → d = e ∧ r = s
  | .int i, .int j, r, s, hr, hs, h => by
    obtain ⟨h1, h2⟩ := numI_run hr.nd hs.nd h
    exact ⟨by rw [h1], h2⟩
  | .int i, .str z, r, s, hr, hs, h => by
    have h' : numI i ++ r = numL (tl z).length ++ 58 :: (tl z ++ s) := by
      have h0 : numI i ++ r = (numL (tl z).length ++ 58 :: tl z) ++ s := h
      rw [h0, List.append_assoc]; rfl
    exact (int_str hr h').elim
  | .int i, .tup es, r, s, hr, hs, h => (numI_not40 (h : numI i ++ r = 40 :: ((encs es ++ [41]) ++ s))).elim
  | .str z, .int j, r, s, hr, hs, h => by
    have h' : numI j ++ s = numL (tl z).length ++ 58 :: (tl z ++ r) := by
      have h0 : (numL (tl z).length ++ 58 :: tl z) ++ r = numI j ++ s := h
      rw [← h0, List.append_assoc]; rfl
    exact (int_str hs h').elim
  | .str z, .str y, r, s, hr, hs, h => by
    have h' : numL (tl z).length ++ 58 :: (tl z ++ r) = numL (tl y).length ++ 58 :: (tl y ++ s) := by
      have h0 : (numL (tl z).length ++ 58 :: tl z) ++ r = (numL (tl y).length ++ 58 :: tl y) ++ s := h
      rw [List.append_assoc, List.append_assoc] at h0; exact h0
    obtain ⟨h1, h2⟩ := run_eq (numL_digits _) (numL_digits _) (nd_cons (by omega)) (nd_cons (by omega)) h'
    obtain ⟨h3, h4⟩ := cat_len (numL_inj h1) (List.cons.inj h2).2
    exact ⟨by rw [ext_tl h3], h4⟩
  | .str z, .tup es, r, s, hr, hs, h => by
    have h0 : (numL (tl z).length ++ 58 :: tl z) ++ r = 40 :: ((encs es ++ [41]) ++ s) := h
    rw [List.append_assoc] at h0
    exact (numL_not40 h0).elim
  | .tup ds, .int j, r, s, hr, hs, h => (numI_not40 (h.symm : numI j ++ s = 40 :: ((encs ds ++ [41]) ++ r))).elim
  | .tup ds, .str z, r, s, hr, hs, h => by
    have h0 : (numL (tl z).length ++ 58 :: tl z) ++ s = 40 :: ((encs ds ++ [41]) ++ r) := h.symm
    rw [List.append_assoc] at h0
    exact (numL_not40 h0).elim
  | .tup ds, .tup es, r, s, hr, hs, h => by
    have h0 : 40 :: ((encs ds ++ [41]) ++ r) = 40 :: ((encs es ++ [41]) ++ s) := h
    have h1 := (List.cons.inj h0).2
    rw [List.append_assoc, List.append_assoc] at h1
    obtain ⟨h2, h3⟩ := encs_run ds es r s h1
    exact ⟨by rw [h2], h3⟩
theorem encs_run : ∀ (ds es : List D) (r s : List Nat), encs ds ++ 41 :: r = encs es ++ 41 :: s → ds = es ∧ r = s
  | [], [], r, s, h => ⟨rfl, (List.cons.inj h).2⟩
  | [], e :: es, r, s, h => by
    exfalso
    have h0 : 41 :: r = (enc e ++ 59 :: encs es) ++ 41 :: s := h
    rw [List.append_assoc] at h0
    exact enc_not41 e h0.symm
  | d :: ds, [], r, s, h => by
    exfalso
    have h0 : (enc d ++ 59 :: encs ds) ++ 41 :: r = 41 :: s := h
    rw [List.append_assoc] at h0
    exact enc_not41 d h0
  | d :: ds, e :: es, r, s, h => by
    have h0 : (enc d ++ 59 :: encs ds) ++ 41 :: r = (enc e ++ 59 :: encs es) ++ 41 :: s := h
    rw [List.append_assoc, List.append_assoc] at h0
    obtain ⟨h1, h2⟩ := enc_run d e _ _ (.inr ⟨_, rfl⟩) (.inr ⟨_, rfl⟩) h0
    obtain ⟨h3, h4⟩ := encs_run ds es r s (List.cons.inj h2).2
    exact ⟨by rw [h1, h3], h4⟩
theorem enc_not41 : ∀ (d : D) {r q : List Nat}, enc d ++ r = 41 :: q → False
  | .int i, r, q, h => by
    have h0 : numI i ++ r = 41 :: q := h
    unfold numI at h0
    split at h0
    · have := (List.cons.inj h0).1; omega
    · obtain ⟨c, p, e, hc⟩ := numL_head i.natAbs
      rw [e] at h0
      have := (List.cons.inj h0).1; omega
  | .str z, r, q, h => by
    obtain ⟨c, p, e, hc⟩ := numL_head (tl z).length
    have h0 : (numL (tl z).length ++ 58 :: tl z) ++ r = 41 :: q := h
    rw [e] at h0
    have := (List.cons.inj h0).1; omega
  | .tup ds, r, q, h => by
    have := (List.cons.inj (h : 40 :: ((encs ds ++ [41]) ++ r) = 41 :: q)).1; omega
end
/-- equal texts, equal values -/
theorem enc_inj {d e : D} (h : enc d = enc e) : d = e := (enc_run d e [] [] (.inl rfl) (.inl rfl) (by rw [List.append_nil, List.append_nil]; exact h)).1
/-- no text goes on behind another one with a semicolon -/
theorem enc_pre {d e : D} {q : List Nat} (h : enc e = enc d ++ 59 :: q) : False := by
  have z := enc_run e d [] (59 :: q) (.inl rfl) (.inr ⟨_, rfl⟩) (by rw [List.append_nil]; exact h)
  cases z.2
/-- every sign of a text is printable -/
theorem pr_digits {l : List Nat} (h : AllDigits l) : ∀ c ∈ l, Pr c := fun c hc => by
  have := h c hc
  exact ⟨by omega, by omega, by omega⟩
mutual
theorem enc_pr : ∀ (d : D), ok d → ∀ c ∈ enc d, Pr c
  | .int i, _, c, hc => by
    have hc' : c ∈ numI i := hc
    unfold numI at hc'
    split at hc'
    · rcases List.mem_cons.mp hc' with e | hc'
      · rw [e]; exact ⟨by omega, by omega, by omega⟩
      · exact pr_digits (numL_digits _) c hc'
    · exact pr_digits (numL_digits _) c hc'
  | .str z, h, c, hc => by
    have hc' : c ∈ numL (tl z).length ++ 58 :: tl z := hc
    rcases List.mem_append.mp hc' with hc' | hc'
    · exact pr_digits (numL_digits _) c hc'
    · rcases List.mem_cons.mp hc' with e | hc'
      · rw [e]; exact ⟨by omega, by omega, by omega⟩
      · exact h c hc'
  | .tup ds, h, c, hc => by
    have hc' : c ∈ 40 :: (encs ds ++ [41]) := hc
    rcases List.mem_cons.mp hc' with e | hc'
    · rw [e]; exact ⟨by omega, by omega, by omega⟩
    · rcases List.mem_append.mp hc' with hc' | hc'
      · exact encs_pr ds h c hc'
      · rw [List.mem_singleton.mp hc']; exact ⟨by omega, by omega, by omega⟩
theorem encs_pr : ∀ (ds : List D), oks ds → ∀ c ∈ encs ds, Pr c
  | [], _, c, hc => absurd (hc : c ∈ ([] : List Nat)) (List.not_mem_nil)
  | d :: ds, h, c, hc => by
    have hc' : c ∈ enc d ++ 59 :: encs ds := hc
    have h' : ok d ∧ oks ds := h
    rcases List.mem_append.mp hc' with hc' | hc'
    · exact enc_pr d h'.1 c hc'
    · rcases List.mem_cons.mp hc' with e | hc'
      · rw [e]; exact ⟨by omega, by omega, by omega⟩
      · exact encs_pr ds h'.2 c hc'
end
theorem enc_len (d : D) : 1 ≤ (enc d).length := by
  cases d with
  | int i =>
    have e : enc (.int i) = numI i := by rw [enc]
    rw [e]; unfold numI
    split
    · simp
    · obtain ⟨c, q, h, _⟩ := numL_head i.natAbs
      rw [h]; simp
  | str z => rw [enc, List.length_append, List.length_cons]; omega
  | tup ds => rw [enc]; simp

/-! ### parts -/
theorem encs_append : ∀ a b : List D, encs (a ++ b) = encs a ++ encs b
  | [], _ => rfl
  | d :: a, b => by
    show enc d ++ 59 :: encs (a ++ b) = (enc d ++ 59 :: encs a) ++ encs b
    rw [encs_append a b, List.append_assoc]; rfl
theorem encs_one (d : D) : encs [d] = enc d ++ [59] := rfl
theorem take_more {α : Type} {l : List α} {i : Nat} {x : α} (h : l[i]? = some x) : l.take (i + 1) = l.take i ++ [x] := by
  have hi : i < l.length := (List.getElem?_eq_some_iff.mp h).1
  have e : l[i] = x := (List.getElem?_eq_some_iff.mp h).2
  rw [List.take_succ_eq_append_getElem hi, e]
theorem encs_take {ds : List D} {i : Nat} {d : D} (h : ds[i]? = some d) : encs (ds.take (i + 1)) = encs (ds.take i) ++ (enc d ++ [59]) := by
  rw [take_more h, encs_append, encs_one]
theorem encs_take_le (ds : List D) (i : Nat) : (encs (ds.take i)).length ≤ (encs ds).length := by
  have e : encs ds = encs (ds.take i) ++ encs (ds.drop i) := by rw [← encs_append, List.take_append_drop]
  rw [e, List.length_append]; omega
theorem oks_at : ∀ {ds : List D} {i : Nat} {d : D}, oks ds → ds[i]? = some d → ok d
  | [], _, _, _, h => by simp at h
  | e :: ds, 0, d, k, h => by
    have z : e = d := Option.some.inj h
    rw [← z]; exact (k : ok e ∧ oks ds).1
  | e :: ds, i + 1, d, k, h => oks_at (k : ok e ∧ oks ds).2 (by simpa using h)
theorem deps_at : ∀ {ds : List D} {i : Nat} {d : D}, ds[i]? = some d → dep d ≤ deps ds
  | [], _, _, h => by simp at h
  | e :: ds, 0, d, h => by
    have z : e = d := Option.some.inj h
    rw [← z]; exact Nat.le_max_left _ _
  | e :: ds, i + 1, d, h => Nat.le_trans (deps_at (ds := ds) (by simpa using h)) (Nat.le_max_right _ _)
theorem oks_snoc : ∀ {ds : List D} {d : D}, oks ds → ok d → oks (ds ++ [d])
  | [], d, _, k => ⟨k, trivial⟩
  | e :: ds, d, h, k => ⟨(h : ok e ∧ oks ds).1, oks_snoc (h : ok e ∧ oks ds).2 k⟩
theorem deps_snoc : ∀ {ds : List D} {d : D} {n : Nat}, deps ds ≤ n → dep d ≤ n → deps (ds ++ [d]) ≤ n
  | [], d, n, _, k => Nat.max_le.mpr ⟨k, Nat.zero_le _⟩
  | e :: ds, d, n, h, k => Nat.max_le.mpr ⟨(Nat.max_le.mp h).1, deps_snoc (Nat.max_le.mp h).2 k⟩
theorem encs_len : ∀ ds : List D, ds.length ≤ (encs ds).length
  | [] => Nat.le_refl _
  | d :: ds => by
    have h := encs_len ds
    show ds.length + 1 ≤ (enc d ++ 59 :: encs ds).length
    rw [List.length_append, List.length_cons]; omega
/-- texts one behind the other -/
def flat (ws : List Str) : List Nat := (ws.map tl).flatten
theorem flat_append (a b : List Str) : flat (a ++ b) = flat a ++ flat b := by
  unfold flat; rw [List.map_append, List.flatten_append]
theorem flat_one (z : Str) : flat [z] = tl z := by
  unfold flat; simp
theorem joinL_nil : ∀ l : List (List Nat), joinL [] l = l.flatten
  | [] => rfl
  | [p] => by simp [joinL]
  | p :: q :: r => by
    show p ++ ([] ++ joinL [] (q :: r)) = _
    rw [joinL_nil (q :: r)]; rfl
theorem tl_glue (ws : List Str) : tl (Txt.join Str.empty ws) = flat ws := by
  rw [join_eq, tl_join]
  exact joinL_nil _
theorem flat_len (ws : List Str) : (ws.map (·.length)).sum = (flat ws).length := by
  induction ws with
  | nil => rfl
  | cons z r ih =>
    rw [List.map_cons, List.sum_cons, ih]
    show z.length + (flat r).length = (flat ([z] ++ r)).length
    rw [flat_append, flat_one, List.length_append, len_tl]

/-! ### numbers as texts -/
theorem tl_int (i : Int) : tl (Str.ofString (toString i)) = numI i := by
  cases i with
  | ofNat m =>
    have e : numI (Int.ofNat m) = numL m := by
      unfold numI
      rw [if_neg (by simp)]
      rfl
    rw [e]
    exact tl_num m
  | negSucc m =>
    have e : numI (Int.negSucc m) = 45 :: numL (m + 1) := by
      unfold numI
      rw [if_pos (by omega)]
      rfl
    rw [e, tl_ofString]
    have e2 : toString (Int.negSucc m) = "-" ++ toString (m + 1) := rfl
    rw [e2, String.toList_append, List.map_append]
    have e3 := tl_num (m + 1)
    rw [tl_ofString] at e3
    have e4 : (toString (((m + 1 : Nat)) : Int)) = toString (m + 1) := rfl
    rw [e4] at e3
    rw [e3]
    rfl
theorem numI_len {i : Int} (h : i.natAbs < 10 ^ 24) : (numI i).length ≤ 25 := by
  have z := numL_len (n := i.natAbs) (k := 24) (by omega) h
  unfold numI
  split
  · rw [List.length_cons]; omega
  · omega
theorem intText_numI {z : Str} {i : Int} (e : tl z = numI i) (h : i.natAbs < 10 ^ 24) : intText? z = some i := by
  have hl := numI_len h
  have hz : z.length ≤ 4300 := by rw [len_tl, e]; omega
  by_cases hi : i < 0
  · have e1 : z.cps.toList = 45 :: numL i.natAbs := by
      have e0 : tl z = numI i := e
      unfold numI at e0; rw [if_pos hi] at e0; exact e0
    rw [intText_neg e1 (numL_digits _) (numL_ne _) hz, numL_val]
    exact congrArg some (by omega)
  · have e1 : z.cps.toList = numL i.natAbs := by
      have e0 : tl z = numI i := e
      unfold numI at e0; rw [if_neg hi] at e0; exact e0
    have e2 := intText_digits (x := z) (by rw [e1]; exact numL_digits _) (by rw [e1]; exact numL_ne _) hz
    rw [e2, e1, numL_val]
    exact congrArg some (by omega)
end Txt4

set_option maxRecDepth 100000
set_option maxHeartbeats 4000000
namespace Mus
open PySem L2 Txt4 TL PySem.NumText
def top (i : Nat) : Stmt := PySem.Challenge.pw_mustercall_k04_texts_read_back.main.body.getD i (.Pass ⟨0, 0, 0, 0⟩)
/-- what the top has bound beside the defs -/
structure Tx (mg : Str → Option Value) : Prop where
  b_len : mg "len" = none
  b_isinstance : mg "isinstance" = none
  b_ord : mg "ord" = none
  b_str : mg "str" = none
  b_int : mg "int" = none
  b_bool : mg "bool" = none
  b_tuple : mg "tuple" = none
  b_range : mg "range" = none
  b_min : mg "min" = none
  b_max : mg "max" = none
  c_MOST_DIGITS : ∃ t, mg "MOST_DIGITS" = some (.int 24 t)
  c_MOST_DEPTH : ∃ t, mg "MOST_DEPTH" = some (.int 8 t)
  c_MOST_LENGTH : ∃ t, mg "MOST_LENGTH" = some (.int 100000 t)
  c__REFUSED_CODE : ∃ t, mg "_REFUSED_CODE" = some (.int 37 t)
theorem log_small {i : Int} (h : i.natAbs < 2 ^ 1000) : i.natAbs.log2 < 1920 := Nat.lt_of_lt_of_le (PySem.Flt.log2_lt_of (by omega) h) (by omega)
theorem sl : sizeLine = 16777216 := sizeLine_eq
section
variable {P : Program} {w : World} {K : PySem.W.Frag} {mg : Str → Option Value} {base : Heap}
theorem pe_const {X : Cx} {x : Str} {i : Int} {pos : Pos} (hm : ∃ t, X.mg x = some (.int i t)) (hg : Gl X x := by rfl) (hd : (x == ("__debug__" : Str)) = false := by decide) : PE X (.Name x pos) (tC (.int i)) := by
  obtain ⟨t, h⟩ := hm
  exact pe_glob hg h ⟨t, rfl⟩ hd
theorem pe_ty {X : Cx} {x : Str} {pos : Pos} (n : String) (hm : X.mg x = none) (hv : bootBuiltins x = some (.type n) := by decide +kernel) (hg : Gl X x := by rfl) (hn : x ≠ "__name__" := by decide) (hd : (x == ("__debug__" : Str)) = false := by decide) : PE X (.Name x pos) (tC (.ty n)) := pe_bltn hg hm hv rfl hn hd
theorem isi_no {a b : String} (h : kitB a b = some false) {K : PySem.W.Frag} : PySem.W.kitOne K (.type a) (.type b) = some false := kit_ty h
/-! ### the printable signs -/
def prB (c : Nat) : Bool := decide (32 ≤ c) && decide (c ≤ 126) && decide (c ≠ 37)
theorem prB_of {c : Nat} (h : Pr c) : prB c = true := by
  obtain ⟨h1, h2, h3⟩ := h
  unfold prB
  rw [decide_eq_true h1, decide_eq_true h2, decide_eq_true h3]; rfl
theorem one_lt (a b : Nat) : (decide ([a] < [b])) = decide (a < b) := by
  by_cases h : a < b
  · rw [decide_eq_true h]; exact decide_eq_true (by simp [List.cons_lt_cons_iff, h])
  · rw [decide_eq_false h]; exact decide_eq_false (by simp [List.cons_lt_cons_iff, h])
theorem one_ge {y : Str} {b : Nat} (c : Nat) (e0 : tl y = [b]) : (!decide (tl ⟨#[c]⟩ < tl y)) = decide (b ≤ c) := by
  rw [e0, show tl ⟨#[c]⟩ = [c] from rfl, one_lt]
  by_cases h : c < b
  · rw [decide_eq_true h, decide_eq_false (by omega)]; rfl
  · rw [decide_eq_false h, decide_eq_true (by omega)]; rfl
theorem one_le {y : Str} {b : Nat} (c : Nat) (e0 : tl y = [b]) : (!decide (tl y < tl ⟨#[c]⟩)) = decide (c ≤ b) := by
  rw [e0, show tl ⟨#[c]⟩ = [c] from rfl, one_lt]
  by_cases h : b < c
  · rw [decide_eq_true h, decide_eq_false (by omega)]; rfl
  · rw [decide_eq_false h, decide_eq_true (by omega)]; rfl
abbrev s__is_printable_character : Stmt := top 9
abbrev N__is_printable_character : List Str := ["character"]
abbrev P__is_printable_character : List Str := ["character"]
theorem sc__is_printable_character : FnScope N__is_printable_character P__is_printable_character (defScope s__is_printable_character) := ⟨rfl, rfl, rfl, by decide +kernel, rfl, by decide +kernel, by decide +kernel⟩
def sp__is_printable_character : Sp := fun vs H Q _ => ∃ c : Nat, vs = [.str ⟨#[c]⟩] ∧ Q (.bl (prB c)) H
theorem ok__is_printable_character {f : Addr} {fd : FuncData} (T : Tx mg) (F : Fun K "_is_printable_character" "_is_printable_character" s__is_printable_character f fd) : FnOk P w K mg base CX0 (1) f fd P__is_printable_character (sp__is_printable_character) := by
  have nd := sc__is_printable_character.nd
  refine F.ok sc__is_printable_character (fun vs H Q E h => ?_) (fun cdv A outer s H vs Q E hr h => ?_)
  · obtain ⟨c, rfl, _⟩ := h
    rfl
  · obtain ⟨c, rfl, q⟩ := h
    refine ⟨_, (pss_one (ps_ret (pe_and (pe_chain op_le_str op_le_str pe_str (pv 0) pe_str) (pe_one (pe_cmpR op_ne (pe_callB call_ord (by rfl) T.b_ord (by decide +kernel) (pa_cons (pv 0) pa_nil)) (pe_const T.c__REFUSED_CODE) (nomark _)))))), ?_⟩
    refine ⟨_, rfl, _, _, rfl, rfl, _, rfl, ?_⟩
    have e1 := one_ge (y := Str.ofString " ") (b := 32) c (by decide)
    have e2 := one_le (y := Str.ofString "~") (b := 126) c (by decide)
    rw [e1]
    unfold prB at q
    by_cases h1 : 32 ≤ c
    · rw [decide_eq_true h1] at q ⊢
      refine iteT ?_
      refine ⟨_, _, rfl, rfl, _, rfl, ?_⟩
      rw [e2]
      by_cases h2 : c ≤ 126
      · rw [decide_eq_true h2] at q ⊢
        refine iteT ?_
        refine ⟨_, rfl, _, rfl, rfl, rfl, ?_⟩
        have e3 : (!decide (V.int ((((⟨#[c]⟩ : Str).cps.getD 0 0 : Nat)) : Int) = V.int 37)) = decide (c ≠ 37) := by
          show (!decide (V.int (c : Int) = V.int 37)) = decide (c ≠ 37)
          by_cases h3 : c = 37
          · subst h3; rfl
          · rw [decide_eq_true h3, decide_eq_false (by intro z; cases z; exact h3 rfl)]; rfl
        rw [e3]
        exact q
      · rw [decide_eq_false h2] at q ⊢
        exact iteF q
    · rw [decide_eq_false h1] at q ⊢
      refine iteF ?_
      exact ⟨_, rfl, iteF q⟩
abbrev s_is_printable : Stmt := top 8
abbrev N_is_printable : List Str := ["value", "character"]
abbrev P_is_printable : List Str := ["value"]
theorem sc_is_printable : FnScope N_is_printable P_is_printable (defScope s_is_printable) := ⟨rfl, rfl, rfl, by decide +kernel, rfl, by decide +kernel, by decide +kernel⟩
def sp_is_printable : Sp := fun vs H Q _ => ∃ z : Str, vs = [.str z] ∧ Q (.bl ((tl z).all prB)) H
theorem all_take {l : List Nat} {i c : Nat} (h : l[i]? = some c) (hp : (l.take i).all prB = true) : prB c = true → (l.take (i + 1)).all prB = true := by
  intro hc
  have hi : i < l.length := (List.getElem?_eq_some_iff.mp h).1
  have e : l[i] = c := (List.getElem?_eq_some_iff.mp h).2
  rw [List.take_succ_eq_append_getElem hi, List.all_append, hp, e]
  simp [hc]
theorem all_not {l : List Nat} {i c : Nat} (h : l[i]? = some c) (hc : prB c = false) : l.all prB = false := by
  rw [List.all_eq_false]
  exact ⟨c, List.mem_of_getElem? h, by rw [hc]; simp⟩
theorem ok_is_printable {f : Addr} {fd : FuncData} (T : Tx mg) (c__is_printable_character : DefOk P w K mg base CX0 "_is_printable_character" P__is_printable_character 1 (sp__is_printable_character))(F : Fun K "is_printable" "is_printable" s_is_printable f fd) : FnOk P w K mg base CX0 (2) f fd P_is_printable (sp_is_printable) := by
  have nd := sc_is_printable.nd
  refine F.ok sc_is_printable (fun vs H Q E h => ?_) (fun cdv A outer s H vs Q E hr h => ?_)
  · obtain ⟨c, rfl, _⟩ := h
    rfl
  · obtain ⟨z, rfl, q⟩ := h
    refine ⟨_, (pss_cons (ps_if (pt_not (pt_val (pe_callB call_isi (by rfl) T.b_isinstance (by decide +kernel) (pa_cons (pv 0) (pa_cons (pe_ty "str" T.b_str) pa_nil)))))
        (pss_one (ps_ret pe_bl))
        pss_nil)
      (pss_cons (ps_for PassesOwn.never rfl (pi_str (pv 0)) (pg_name (i := 1) nd rfl (Or.inl rfl))
        (pss_one (ps_if (pt_not (pt_val (pcall c__is_printable_character hr (pa_cons (pv 1) pa_nil))))
          (pss_one (ps_ret pe_bl))
          pss_nil)))
      (pss_one (ps_ret pe_bl)))), ?_⟩
    refine ⟨_, rfl, _, _, _, _, true, rfl, .ty _, .base (.str z), kit_ty (by decide +kernel), _, rfl, ?_⟩
    refine iteF ?_
    refine ⟨_, rfl, z, rfl, for_str (z := z) (fun i σ H' => H' = H ∧ (∃ v, σ = [some (.str z), v]) ∧ ((tl z).take i).all prB = true) ⟨rfl, ⟨none, rfl⟩, rfl⟩ ?_ ?_⟩
    · rintro i c σ H' hc ⟨rfl, ⟨v, rfl⟩, hp⟩
      refine ⟨_, rfl, c, rfl, _, rfl, ?_⟩
      cases hb : prB c with
      | true => exact iteF ⟨rfl, ⟨_, rfl⟩, all_take hc hp hb⟩
      | false =>
        refine iteT ?_
        have e := all_not hc hb
        rw [e] at q
        exact q
    · rintro σ H' ⟨rfl, ⟨v, rfl⟩, hp⟩
      rw [List.take_length] at hp
      rw [hp] at q
      exact q
abbrev s_is_integer : Stmt := top 10
abbrev N_is_integer : List Str := ["value", "least", "greatest"]
abbrev P_is_integer : List Str := ["value", "least", "greatest"]
theorem sc_is_integer : FnScope N_is_integer P_is_integer (defScope s_is_integer) := ⟨rfl, rfl, rfl, by decide +kernel, rfl, by decide +kernel, by decide +kernel⟩
def sp_is_integer : Sp := fun vs H Q _ => ∃ i a b : Int, vs = [.int i, .int a, .int b] ∧ Q (.bl (decide (a ≤ i) && decide (i ≤ b))) H
theorem ok_is_integer {f : Addr} {fd : FuncData} (T : Tx mg) (F : Fun K "is_integer" "is_integer" s_is_integer f fd) : FnOk P w K mg base CX0 (1) f fd P_is_integer (sp_is_integer) := by
  have nd := sc_is_integer.nd
  refine F.ok sc_is_integer (fun vs H Q E h => ?_) (fun cdv A outer s H vs Q E hr h => ?_)
  · obtain ⟨_, _, _, rfl, _⟩ := h
    rfl
  · obtain ⟨i, a, b, rfl, q⟩ := h
    refine ⟨_, (pss_cons (ps_if (PW.pt (pw_or (pt_not (pt_val (pe_callB call_isi (by rfl) T.b_isinstance (by decide +kernel) (pa_cons (pv 0) (pa_cons (pe_ty "int" T.b_int) pa_nil))))) (pw_or1 (pt_val (pe_callB call_isi (by rfl) T.b_isinstance (by decide +kernel) (pa_cons (pv 0) (pa_cons (pe_ty "bool" T.b_bool) pa_nil)))))))
        (pss_one (ps_ret pe_bl))
        pss_nil)
      (pss_one (ps_ret (pe_chain op_le op_le (pv 1) (pv 0) (pv 2))))), ?_⟩
    refine ⟨_, rfl, _, _, _, _, true, rfl, .ty _, .base (.int i), kit_ty (by decide +kernel), _, rfl, ?_⟩
    refine iteF ?_
    refine ⟨_, rfl, _, _, _, _, false, rfl, .ty _, .base (.int i), kit_ty (by decide +kernel), _, rfl, ?_⟩
    refine iteF ?_
    refine ⟨_, rfl, _, rfl, _, _, rfl, rfl, _, rfl, ?_⟩
    by_cases h1 : a ≤ i
    · rw [decide_eq_true h1] at q ⊢
      refine iteT ?_
      exact ⟨_, rfl, _, _, rfl, rfl, q⟩
    · rw [decide_eq_false h1] at q ⊢
      exact iteF q
abbrev s__put : Stmt := top 14
abbrev N__put : List Str := ["piece", "room", "parts"]
abbrev P__put : List Str := ["piece", "room", "parts"]
theorem sc__put : FnScope N__put P__put (defScope s__put) := ⟨rfl, rfl, rfl, by decide +kernel, rfl, by decide +kernel, by decide +kernel⟩
def sp__put : Sp := fun vs H Q _ => ∃ (z : Str) (r : Int) (p : Addr) (xs : List V), vs = [.str z, .int r, .ref p] ∧ H p = some (.lst xs) ∧ (z.length : Int) ≤ r ∧ r ≤ 100000 ∧ xs.length < sizeLine ∧ Q (.int (r - z.length)) (upd H p (.lst (xs ++ [.str z])))
theorem ok__put {f : Addr} {fd : FuncData} (T : Tx mg) (F : Fun K "_put" "_put" s__put f fd) : FnOk P w K mg base CX0 (1) f fd P__put (sp__put) := by
  have nd := sc__put.nd
  refine F.ok sc__put (fun vs H Q E h => ?_) (fun cdv A outer s H vs Q E hr h => ?_)
  · obtain ⟨_, _, _, _, rfl, _⟩ := h
    rfl
  · obtain ⟨z, r, p, xs, rfl, hp, hz, hr1, hx, q⟩ := h
    have hs := sl
    refine ⟨_, (pss_cons (ps_if (pt_cmpR op_gt (pe_callB call_len_str (by rfl) T.b_len (by decide +kernel) (pa_cons (pv 0) pa_nil)) (pv 1) (nomark _))
        (pss_one ps_never)
        pss_nil)
      (pss_cons (ps_expr (pe_bm PySem.F.plainAttrs_list PySem.F.slot_list_append PySem.F.type_list_append mt_append (pv 2) (pa_cons (pv 0) pa_nil)))
      (pss_one (ps_ret (pe_op op_sub (pv 1) (pe_callB call_len_str (by rfl) T.b_len (by decide +kernel) (pa_cons (pv 0) pa_nil))))))), ?_⟩
    refine ⟨_, rfl, _, rfl, by omega, _, rfl, _, _, rfl, rfl, _, rfl, ?_⟩
    rw [decide_eq_false (show ¬ r < (z.length : Int) by omega)]
    refine iteF ?_
    refine ⟨_, rfl, .inl ⟨rfl, _, SqL.of hp⟩, _, rfl, p, xs, _, rfl, rfl, hp, hx, ?_⟩
    exact ⟨_, rfl, _, rfl, _, rfl, by omega, _, _, rfl, rfl, q⟩
abbrev s__string_text : Stmt := top 15
abbrev N__string_text : List Str := ["value"]
abbrev P__string_text : List Str := ["value"]
theorem sc__string_text : FnScope N__string_text P__string_text (defScope s__string_text) := ⟨rfl, rfl, rfl, by decide +kernel, rfl, by decide +kernel, by decide +kernel⟩
def sp__string_text : Sp := fun vs H Q _ => ∃ z : Str, vs = [.str z] ∧ (tl z).length ≤ 100000 ∧ (∀ c ∈ tl z, Pr c) ∧ ∀ y : Str, tl y = enc (.str z) → Q (.str y) H
theorem all_pr {l : List Nat} (h : ∀ c ∈ l, Pr c) : l.all prB = true := by
  rw [List.all_eq_true]
  exact fun c hc => prB_of (h c hc)
theorem ok__string_text {f : Addr} {fd : FuncData} (T : Tx mg) (c_is_printable : DefOk P w K mg base CX0 "is_printable" P_is_printable 2 (sp_is_printable))(F : Fun K "_string_text" "_string_text" s__string_text f fd) : FnOk P w K mg base CX0 (3) f fd P__string_text (sp__string_text) := by
  have nd := sc__string_text.nd
  refine F.ok sc__string_text (fun vs H Q E h => ?_) (fun cdv A outer s H vs Q E hr h => ?_)
  · obtain ⟨_, rfl, _⟩ := h
    rfl
  · obtain ⟨z, rfl, hz, hp, q⟩ := h
    have hs := sl
    have hl := len_tl z
    refine ⟨_, (pss_cons (ps_if (PW.pt (pw_or (pt_cmpR op_gt (pe_callB call_len_str (by rfl) T.b_len (by decide +kernel) (pa_cons (pv 0) pa_nil)) (pe_const T.c_MOST_LENGTH) (nomark _)) (pw_or1 (pt_not (pt_val (pcall c_is_printable hr (pa_cons (pv 0) pa_nil)))))))
        (pss_one ps_never)
        pss_nil)
      (pss_one (ps_ret (pe_op op_add_str (pe_joined (.cons (pe_fmt (pe_callB call_len_str (by rfl) T.b_len (by decide +kernel) (pa_cons (pv 0) pa_nil))) (.cons pe_str .nil))) (pv 0))))), ?_⟩
    refine ⟨_, rfl, _, rfl, by omega, _, _, rfl, rfl, _, rfl, ?_⟩
    rw [decide_eq_false (show ¬ (100000 : Int) < (z.length : Int) by omega)]
    refine iteF ?_
    refine ⟨_, rfl, z, rfl, ?_⟩
    rw [all_pr hp]
    refine ⟨_, rfl, iteF ?_⟩
    have e1 : tl (Str.ofString (toString (z.length : Int))) = numL (tl z).length := by rw [hl]; exact tl_num _
    have hn := numL_len (n := (tl z).length) (k := 6) (by omega) (by omega)
    have e2 : tl (Str.empty ++ Str.ofString (toString (z.length : Int))) = numL (tl z).length := by rw [tl_append, e1]; rfl
    have e3 : tl (Str.empty ++ Str.ofString (toString (z.length : Int)) ++ Str.ofString ":") = numL (tl z).length ++ [58] := by rw [tl_append, e2]; rfl
    have z2 : (Str.empty ++ Str.ofString (toString (z.length : Int))).length ≤ sizeLine := by rw [len_tl, e2]; omega
    have z3 : (Str.empty ++ Str.ofString (toString (z.length : Int)) ++ Str.ofString ":").length ≤ 10 := by
      rw [len_tl, e3, List.length_append, List.length_singleton]; omega
    refine ⟨_, rfl, z, rfl, by omega, .inr ⟨(z.length : Int), rfl, log_small (by omega), _, rfl, z2, _, rfl, by omega, ?_⟩⟩
    refine ⟨_, rfl, _, _, rfl, rfl, by omega, q _ ?_⟩
    rw [tl_append, e3, List.append_assoc]
    rfl
abbrev s__integer_text : Stmt := top 16
abbrev N__integer_text : List Str := ["value", "greatest"]
abbrev P__integer_text : List Str := ["value"]
theorem sc__integer_text : FnScope N__integer_text P__integer_text (defScope s__integer_text) := ⟨rfl, rfl, rfl, by decide +kernel, rfl, by decide +kernel, by decide +kernel⟩
def sp__integer_text : Sp := fun vs H Q _ => ∃ i : Int, vs = [.int i] ∧ i.natAbs < 10 ^ 24 ∧ ∀ y : Str, tl y = numI i → Q (.str y) H
theorem ok__integer_text {f : Addr} {fd : FuncData} (T : Tx mg) (c_is_integer : DefOk P w K mg base CX0 "is_integer" P_is_integer 1 (sp_is_integer))(F : Fun K "_integer_text" "_integer_text" s__integer_text f fd) : FnOk P w K mg base CX0 (2) f fd P__integer_text (sp__integer_text) := by
  have nd := sc__integer_text.nd
  refine F.ok sc__integer_text (fun vs H Q E h => ?_) (fun cdv A outer s H vs Q E hr h => ?_)
  · obtain ⟨_, rfl, _⟩ := h
    rfl
  · obtain ⟨i, rfl, hi, q⟩ := h
    refine ⟨_, (pss_cons (ps_set (i := 1) nd rfl (Or.inl rfl) (pe_callTy call_int_str (by rfl) T.b_int (by decide +kernel) (pa_cons (pe_op op_mul_str pe_str (pe_const T.c_MOST_DIGITS)) pa_nil)))
      (pss_cons (ps_if (pt_not (pt_val (pcall c_is_integer hr (pa_cons (pv 0) (pa_cons (pe_un un_neg (pv 1)) (pa_cons (pv 1) pa_nil))))))
        (pss_one ps_never)
        pss_nil)
      (pss_one (ps_ret (pe_callTy call_str_int (by rfl) T.b_str (by decide +kernel) (pa_cons (pv 0) pa_nil)))))), ?_⟩
    refine ⟨_, 24, rfl, rfl, by omega, by omega, by decide, by decide, fun r hr1 => ?_⟩
    have e9 : tl r = numL (10 ^ 24 - 1) := by rw [hr1]; decide +kernel
    have n9 : intText? r = some (10 ^ 24 - 1) := by
      rw [intText_numI (i := 10 ^ 24 - 1) (by rw [e9]; rfl) (by decide)]
    refine ⟨r, _, rfl, n9, by rw [len_tl, e9]; decide +kernel, ?_⟩
    refine ⟨_, rfl, _, rfl, _, rfl, _, rfl, i, _, _, rfl, _, rfl, ?_⟩
    rw [decide_eq_true (show -(10 ^ 24 - 1) ≤ i by omega), decide_eq_true (show i ≤ 10 ^ 24 - 1 by omega)]
    refine iteF ?_
    refine ⟨_, rfl, i, rfl, log_small (by omega), q _ (tl_int i)⟩

/-! ### plain values in the heap -/
mutual
inductive Rep (K : PySem.W.Frag) (H : Hp) : V → D → Prop
  | int (i : Int) : Rep K H (.int i) (.int i)
  | str (z : Str) : Rep K H (.str z) (.str z)
  | tup {a : Addr} {xs : List V} {ds : List D} : SqT K H a xs → Reps K H xs ds → Rep K H (.ref a) (.tup ds)
inductive Reps (K : PySem.W.Frag) (H : Hp) : List V → List D → Prop
  | nil : Reps K H [] []
  | cons {v : V} {d : D} {vs : List V} {ds : List D} : Rep K H v d → Reps K H vs ds → Reps K H (v :: vs) (d :: ds)
end
mutual
theorem Rep.mono {K : PySem.W.Frag} {H H' : Hp} (k : ∀ a xs, SqT K H a xs → SqT K H' a xs) : ∀ {v : V} {d : D}, Rep K H v d → Rep K H' v d
  | _, _, .int i => .int i
  | _, _, .str z => .str z
  | _, _, .tup h r => .tup (k _ _ h) (Reps.mono k r)
theorem Reps.mono {K : PySem.W.Frag} {H H' : Hp} (k : ∀ a xs, SqT K H a xs → SqT K H' a xs) : ∀ {vs : List V} {ds : List D}, Reps K H vs ds → Reps K H' vs ds
  | _, _, .nil => .nil
  | _, _, .cons h r => .cons (Rep.mono k h) (Reps.mono k r)
end
theorem Reps.length {K : PySem.W.Frag} {H : Hp} : ∀ {vs : List V} {ds : List D}, Reps K H vs ds → vs.length = ds.length
  | _, _, .nil => rfl
  | _, _, .cons _ r => congrArg Nat.succ (Reps.length r)
theorem Reps.at {K : PySem.W.Frag} {H : Hp} : ∀ {vs : List V} {ds : List D} {i : Nat} {v : V}, Reps K H vs ds → vs[i]? = some v → ∃ d, ds[i]? = some d ∧ Rep K H v d
  | _, _, _, _, .nil, h => by simp at h
  | v :: vs, d :: ds, 0, x, .cons r _, h => by
    have e : v = x := Option.some.inj h
    subst e
    exact ⟨d, rfl, r⟩
  | v :: vs, d :: ds, i + 1, x, .cons _ r, h => by
    obtain ⟨e, h1, h2⟩ := Reps.at (i := i) r (by simpa using h)
    exact ⟨e, by simpa using h1, h2⟩
theorem Reps.snoc {K : PySem.W.Frag} {H : Hp} : ∀ {vs : List V} {ds : List D} {v : V} {d : D}, Reps K H vs ds → Rep K H v d → Reps K H (vs ++ [v]) (ds ++ [d])
  | _, _, _, _, .nil, h => .cons h .nil
  | _, _, _, _, .cons r s, h => .cons r (Reps.snoc s h)
theorem tup_ty {K : PySem.W.Frag} {H : Hp} {a : Addr} {xs : List V} (h : SqT K H a xs) : TyX K H (.ref a) (.type "tuple") := by
  rcases h with (h | ⟨o, h⟩) | ⟨o, its, n, h1, h2, _⟩
  · exact .base (.tup h)
  · exact .fTuple h
  · exact .kTuple h1 h2
/-! ### encode -/
def sp__write (K : PySem.W.Frag) (n : Nat) : Sp := fun vs H Q _ => ∃ (v : V) (d : D) (k r : Int) (p : Addr) (zs : List Str), vs = [v, .int k, .int r, .ref p] ∧ Rep K H v d ∧ Txt4.ok d ∧ (dep d : Int) ≤ k ∧ dep d ≤ n ∧
  H p = some (.lst (zs.map V.str)) ∧ ((enc d).length : Int) ≤ r ∧ (zs.length : Int) + r ≤ 100000 ∧
  ∀ ws H', flat ws = enc d → ws.length ≤ (enc d).length → But p H H' → H' p = some (.lst ((zs ++ ws).map V.str)) → Q (.int (r - (enc d).length)) H'
def sp__write_tuple (K : PySem.W.Frag) (n : Nat) : Sp := fun vs H Q _ => ∃ (a : Addr) (xs : List V) (ds : List D) (k r : Int) (p : Addr) (zs : List Str), vs = [.ref a, .int k, .int r, .ref p] ∧ SqT K H a xs ∧ Reps K H xs ds ∧ oks ds ∧ (deps ds : Int) + 1 ≤ k ∧ deps ds + 1 ≤ n ∧
  H p = some (.lst (zs.map V.str)) ∧ ((enc (.tup ds)).length : Int) ≤ r ∧ (zs.length : Int) + r ≤ 100000 ∧
  ∀ ws H', flat ws = enc (.tup ds) → ws.length ≤ (enc (.tup ds)).length → But p H H' → H' p = some (.lst ((zs ++ ws).map V.str)) → Q (.int (r - (enc (.tup ds)).length)) H'
abbrev s__write : Stmt := top 12
abbrev N__write : List Str := ["value", "depth", "room", "parts"]
abbrev P__write : List Str := ["value", "depth", "room", "parts"]
theorem sc__write : FnScope N__write P__write (defScope s__write) := ⟨rfl, rfl, rfl, by decide +kernel, rfl, by decide +kernel, by decide +kernel⟩
abbrev s__write_tuple : Stmt := top 13
abbrev N__write_tuple : List Str := ["items", "depth", "room", "parts", "item"]
abbrev P__write_tuple : List Str := ["items", "depth", "room", "parts"]
theorem sc__write_tuple : FnScope N__write_tuple P__write_tuple (defScope s__write_tuple) := ⟨rfl, rfl, rfl, by decide +kernel, rfl, by decide +kernel, by decide +kernel⟩
theorem ok__write {f : Addr} {fd : FuncData} (T : Tx mg) {n : Nat} (c__write_tuple : DefOk P w K mg base CX0 "_write_tuple" P__write_tuple (3 + 2 * n) (sp__write_tuple K n)) (c__put : DefOk P w K mg base CX0 "_put" P__put 1 (sp__put)) (c__string_text : DefOk P w K mg base CX0 "_string_text" P__string_text 3 (sp__string_text)) (c__integer_text : DefOk P w K mg base CX0 "_integer_text" P__integer_text 2 (sp__integer_text))(F : Fun K "_write" "_write" s__write f fd) : FnOk P w K mg base CX0 (3 + 2 * n + 1) f fd P__write (sp__write K n) := by
  have nd := sc__write.nd
  refine F.ok sc__write (fun vs H Q E h => ?_) (fun cdv A outer s H vs Q E hr h => ?_)
  · obtain ⟨_, _, _, _, _, _, rfl, _⟩ := h
    rfl
  · obtain ⟨v, d, k, r, p, zs, rfl, hv, hd, hk, hn, hp, hl, hz, q⟩ := h
    have hs := sl
    refine ⟨_, (pss_cons (ps_if (pt_val (pe_callB call_isi (by rfl) T.b_isinstance (by decide +kernel) (pa_cons (pv 0) (pa_cons (pe_ty "tuple" T.b_tuple) pa_nil))))
        (pss_one (ps_ret (pcall c__write_tuple hr (pa_cons (pv 0) (pa_cons (pv 1) (pa_cons (pv 2) (pa_cons (pv 3) pa_nil)))))))
        pss_nil)
      (pss_cons (ps_if (pt_val (pe_callB call_isi (by rfl) T.b_isinstance (by decide +kernel) (pa_cons (pv 0) (pa_cons (pe_ty "str" T.b_str) pa_nil))))
        (pss_one (ps_ret (pcall c__put hr (pa_cons (pcall c__string_text hr (pa_cons (pv 0) pa_nil)) (pa_cons (pv 2) (pa_cons (pv 3) pa_nil))))))
        pss_nil)
      (pss_one (ps_ret (pcall c__put hr (pa_cons (pcall c__integer_text hr (pa_cons (pv 0) pa_nil)) (pa_cons (pv 2) (pa_cons (pv 3) pa_nil)))))))), ?_⟩
    cases hv with
    | @tup a xs ds ht hr2 =>
      refine ⟨_, rfl, _, _, _, _, true, rfl, .ty _, tup_ty ht, kit_ty (by decide +kernel), _, rfl, iteT ?_⟩
      refine ⟨_, rfl, _, rfl, _, rfl, _, rfl, a, xs, ds, k, r, p, zs, rfl, ht, hr2, hd, hk, hn, hp, hl, hz, q⟩
    | str z =>
      refine ⟨_, rfl, _, _, _, _, false, rfl, .ty _, .base (.str z), kit_ty (by decide +kernel), _, rfl, iteF ?_⟩
      refine ⟨_, rfl, _, _, _, _, true, rfl, .ty _, .base (.str z), kit_ty (by decide +kernel), _, rfl, iteT ?_⟩
      have hl1 : (enc (.str z)).length = (numL (tl z).length).length + ((tl z).length + 1) := by rw [enc, List.length_append, List.length_cons]
      have hl2 := enc_len (.str z)
      refine ⟨_, rfl, z, rfl, by omega, hd, fun y hy => ?_⟩
      have hy2 : y.length = (enc (.str z)).length := by rw [len_tl, hy]
      refine ⟨_, rfl, _, rfl, y, r, p, _, rfl, hp, by omega, by omega, by rw [List.length_map]; omega, ?_⟩
      rw [hy2]
      exact q [y] _ (by rw [flat_one, hy]) (by simpa using hl2) (but_upd _) (by rw [upd_same, List.map_append]; rfl)
    | int i =>
      refine ⟨_, rfl, _, _, _, _, false, rfl, .ty _, .base (.int i), kit_ty (by decide +kernel), _, rfl, iteF ?_⟩
      refine ⟨_, rfl, _, _, _, _, false, rfl, .ty _, .base (.int i), kit_ty (by decide +kernel), _, rfl, iteF ?_⟩
      have hl2 := enc_len (.int i)
      refine ⟨_, rfl, i, rfl, hd, fun y hy => ?_⟩
      have hy2 : y.length = (enc (.int i)).length := by rw [len_tl, hy]; rfl
      refine ⟨_, rfl, _, rfl, y, r, p, _, rfl, hp, by omega, by omega, by rw [List.length_map]; omega, ?_⟩
      rw [hy2]
      exact q [y] _ (by rw [flat_one, hy]; rfl) (by simpa using hl2) (but_upd _) (by rw [upd_same, List.map_append]; rfl)
theorem ok__write_tuple {f : Addr} {fd : FuncData} (T : Tx mg) {n : Nat} (c__write : DefOk P w K mg base CX0 "_write" P__write (3 + 2 * n + 1) (sp__write K n)) (c__put : DefOk P w K mg base CX0 "_put" P__put 1 (sp__put))(F : Fun K "_write_tuple" "_write_tuple" s__write_tuple f fd) : FnOk P w K mg base CX0 (4 + 2 * n + 1) f fd P__write_tuple (sp__write_tuple K (n + 1)) := by
  have nd := sc__write_tuple.nd
  refine F.ok sc__write_tuple (fun vs H Q E h => ?_) (fun cdv A outer s H vs Q E hr h => ?_)
  · obtain ⟨_, _, _, _, _, _, _, rfl, _⟩ := h
    rfl
  · obtain ⟨a, xs, ds, k, r, p, zs, rfl, ht, hrs, hd, hk, hn, hp, hl, hz, q⟩ := h
    have hs := sl
    refine ⟨_, (pss_cons (ps_if (pt_cmpR op_eq (pv 1) pe_int (nomark _))
        (pss_one ps_never)
        pss_nil)
      (pss_cons (ps_set (i := 2) nd rfl (Or.inl rfl) (pcall c__put hr (pa_cons pe_str (pa_cons (pv 2) (pa_cons (pv 3) pa_nil)))))
      (pss_cons (ps_for PassesOwn.never rfl (pi_tup (pv 0)) (pg_name (i := 4) nd rfl (Or.inl rfl))
        (pss_cons (ps_set (i := 2) nd rfl (Or.inl rfl) (pcall c__write hr (pa_cons (pv 4) (pa_cons (pe_op op_sub (pv 1) pe_int) (pa_cons (pv 2) (pa_cons (pv 3) pa_nil))))))
        (pss_one (ps_set (i := 2) nd rfl (Or.inl rfl) (pcall c__put hr (pa_cons pe_str (pa_cons (pv 2) (pa_cons (pv 3) pa_nil))))))))
      (pss_one (ps_ret (pcall c__put hr (pa_cons pe_str (pa_cons (pv 2) (pa_cons (pv 3) pa_nil))))))))), ?_⟩
    have hlen : (enc (.tup ds)).length = (encs ds).length + 2 := by
      rw [enc, List.length_cons, List.length_append, List.length_singleton]
    refine ⟨_, rfl, rfl, _, rfl, ?_⟩
    rw [decide_eq_false (show ¬ V.int k = V.int 0 by intro z; cases z; omega)]
    refine iteF ?_
    have l1 : (Str.ofString "(").length = 1 := by decide
    have t1 : tl (Str.ofString "(") = [40] := by decide
    refine ⟨_, rfl, _, rfl, _, r, p, _, rfl, hp, by omega, by omega, by rw [List.length_map]; omega, ?_⟩
    have b0 : But p H (upd H p (.lst (zs.map V.str ++ [.str (Str.ofString "(")]))) := but_upd _
    refine ⟨_, rfl, a, rfl, ⟨xs, b0.seqT hp ht⟩, for_tup (K := K) (a := a) (xs := xs) (fun i σ H' => ∃ (ws : List Str) (v : Option V), σ = [some (.ref a), some (.int k), some (.int (r - 1 - (encs (ds.take i)).length)), some (.ref p), v] ∧ But p H H' ∧
      H' p = some (.lst ((zs ++ ws).map V.str)) ∧ flat ws = 40 :: encs (ds.take i) ∧ ws.length ≤ (flat ws).length) ?_ ?_ ?_ ?_⟩
    · refine ⟨[Str.ofString "("], none, ?_, b0, ?_, ?_, ?_⟩
      · have e : (encs (ds.take 0)).length = 0 := rfl
        rw [e, l1]
        show [some (V.ref a), some (V.int k), some (V.int (r - ((1 : Nat) : Int))), some (V.ref p), none] = _
        congr 3
        congr 2
        omega
      · rw [upd_same, List.map_append]; rfl
      · rw [flat_one, t1]; rfl
      · rw [flat_one, t1]; decide
    · rintro i σ H' hi ⟨ws, v, rfl, b1, h1, _, _⟩
      exact b1.seqT hp ht
    · rintro i x σ H' hx ⟨ws, v, rfl, b1, h1, e1, z1⟩
      obtain ⟨d, hdi, rx⟩ := hrs.at hx
      have et := encs_take hdi
      have etl : (encs (ds.take (i + 1))).length = (encs (ds.take i)).length + ((enc d).length + 1) := by rw [et, List.length_append, List.length_append, List.length_singleton]
      have ele := encs_take_le ds (i + 1)
      have l2 : (Str.ofString ";").length = 1 := by decide
      have t2 : tl (Str.ofString ";") = [59] := by decide
      have fl : (flat ws).length = (encs (ds.take i)).length + 1 := by rw [e1, List.length_cons]
      have dd := deps_at hdi
      refine ⟨_, rfl, _, rfl, _, _, rfl, rfl, _, rfl, _, rfl, x, d, k - 1, _, p, zs ++ ws, rfl, rx.mono (fun a xs h => b1.seqT hp h), oks_at hd hdi, by omega, by omega, h1, by omega, by rw [List.length_append]; omega, fun ws2 H2 f2 z2 b2 h2 => ?_⟩
      have z2' : ws2.length ≤ (flat ws2).length := by rw [f2]; exact z2
      have fl2 : (flat ws2).length = (enc d).length := by rw [f2]
      refine ⟨_, rfl, _, rfl, _, _, p, _, rfl, h2, by omega, by omega, by rw [List.length_map, List.length_append, List.length_append]; omega, ?_⟩
      refine ⟨ws ++ (ws2 ++ [Str.ofString ";"]), some x, ?_, b1.trans (b2.trans (but_upd _)), ?_, ?_, ?_⟩
      · rw [etl, l2]
        show [some (V.ref a), some (V.int k), some (V.int (r - 1 - ((encs (ds.take i)).length : Int) - ((enc d).length : Int) - ((1 : Nat) : Int))), some (V.ref p), some x] = _
        congr 3
        congr 2
        omega
      · rw [upd_same, ← List.append_assoc, ← List.append_assoc, List.map_append (l₂ := [Str.ofString ";"])]; rfl
      · rw [flat_append, flat_append, flat_one, e1, f2, t2, et]; rfl
      · rw [flat_append, flat_append, flat_one, t2, List.length_append, List.length_append, List.length_append, List.length_append]
        simp only [List.length_singleton]
        omega
    · rintro σ H' ⟨ws, v, rfl, b1, h1, e1, z1⟩
      have le : xs.length = ds.length := hrs.length
      rw [le, List.take_length] at e1 ⊢
      have l3 : (Str.ofString ")").length = 1 := by decide
      have t3 : tl (Str.ofString ")") = [41] := by decide
      have fl : (flat ws).length = (encs ds).length + 1 := by rw [e1, List.length_cons]
      refine ⟨_, rfl, _, rfl, _, _, p, _, rfl, h1, by omega, by omega, by rw [List.length_map, List.length_append]; omega, ?_⟩
      have ee : r - 1 - ((encs ds).length : Int) - (((Str.ofString ")").length : Nat) : Int) = r - ((enc (.tup ds)).length : Int) := by omega
      rw [ee]
      refine q (ws ++ [Str.ofString ")"]) _ ?_ ?_ (b1.trans (but_upd _)) ?_
      · rw [flat_append, flat_one, e1, t3]; rfl
      · rw [List.length_append, List.length_singleton]; omega
      · rw [upd_same, ← List.append_assoc, List.map_append (l₂ := [Str.ofString ")"])]; rfl
end
end Mus

set_option maxRecDepth 100000
set_option maxHeartbeats 4000000
namespace Mus
open PySem L2 Txt4 TL PySem.NumText
section
variable {P : Program} {w : World} {K : PySem.W.Frag} {mg : Str → Option Value} {base : Heap}
theorem dT {p : Prop} [Decidable p] {A B : Prop} (h : p) (a : A) : if decide p = true then A else B := by
  rw [decide_eq_true h]; exact iteT a
theorem dF {p : Prop} [Decidable p] {A B : Prop} (h : ¬ p) (b : B) : if decide p = true then A else B := by
  rw [decide_eq_false h]; exact iteF b
theorem nT {p : Prop} [Decidable p] {A B : Prop} (h : ¬ p) (a : A) : if (!decide p) = true then A else B := by
  rw [decide_eq_false h]; exact iteT a
theorem nF {p : Prop} [Decidable p] {A B : Prop} (h : p) (b : B) : if (!decide p) = true then A else B := by
  rw [decide_eq_true h]; exact iteF b
theorem no_call {CX : CXT} {k : Nat} {f : Addr} {fd : FuncData} {ps : List Str} {sp : Sp} (no : ∀ vs H Q E, ¬ sp vs H Q E) : FnOk P w K mg base CX k f fd ps sp :=
  ⟨fun vs H Q E h => absurd h (no vs H Q E), fun A outer s H args us vs Q E _ _ _ _ h => absurd h (no vs H Q E)⟩
/-- the two of the writing, for every depth -/
def mk_write (T : Tx mg) (aW : DefAt K mg "_write" P__write s__write) (aT : DefAt K mg "_write_tuple" P__write_tuple s__write_tuple) (c__put : DefOk P w K mg base CX0 "_put" P__put 1 (sp__put)) (c__string_text : DefOk P w K mg base CX0 "_string_text" P__string_text 3 (sp__string_text)) (c__integer_text : DefOk P w K mg base CX0 "_integer_text" P__integer_text 2 (sp__integer_text)) :
    ∀ n : Nat, DefOk P w K mg base CX0 "_write" P__write (3 + 2 * n + 1) (sp__write K n) × DefOk P w K mg base CX0 "_write_tuple" P__write_tuple (3 + 2 * n) (sp__write_tuple K n)
  | 0 =>
    let t : DefOk P w K mg base CX0 "_write_tuple" P__write_tuple (3 + 2 * 0) (sp__write_tuple K 0) := aT.ok fun _ => no_call (by
      rintro vs H Q E ⟨a, xs, ds, k, r, p, zs, _, _, _, _, _, h, _⟩
      omega)
    (aW.ok fun F => ok__write T t c__put c__string_text c__integer_text F, t)
  | n + 1 =>
    let p := mk_write T aW aT c__put c__string_text c__integer_text n
    let t : DefOk P w K mg base CX0 "_write_tuple" P__write_tuple (3 + 2 * (n + 1)) (sp__write_tuple K (n + 1)) := (aT.ok fun F => ok__write_tuple T p.1 c__put F).mono (by omega)
    (aW.ok fun F => ok__write T t c__put c__string_text c__integer_text F, t)
abbrev s_encode : Stmt := top 11
abbrev N_encode : List Str := ["value", "parts"]
abbrev P_encode : List Str := ["value"]
theorem sc_encode : FnScope N_encode P_encode (defScope s_encode) := ⟨rfl, rfl, rfl, by decide +kernel, rfl, by decide +kernel, by decide +kernel⟩
def sp_encode (K : PySem.W.Frag) : Sp := fun vs H Q _ => ∃ (v : V) (d : D), vs = [v] ∧ Rep K H v d ∧ Txt4.ok d ∧ dep d ≤ 8 ∧ (enc d).length ≤ 100000 ∧ ∀ y H', tl y = enc d → Same H H' → Q (.str y) H'
theorem ok_encode {f : Addr} {fd : FuncData} (T : Tx mg) (c__write : DefOk P w K mg base CX0 "_write" P__write 20 (sp__write K 8))(F : Fun K "encode" "encode" s_encode f fd) : FnOk P w K mg base CX0 (21) f fd P_encode (sp_encode K) := by
  have nd := sc_encode.nd
  refine F.ok sc_encode (fun vs H Q E h => ?_) (fun cdv A outer s H vs Q E hr h => ?_)
  · obtain ⟨_, _, rfl, _⟩ := h
    rfl
  · obtain ⟨v, d, rfl, hv, hd, hdep, hl, q⟩ := h
    have hs := sl
    refine ⟨_, (pss_cons (ps_set (i := 1) nd rfl (Or.inl rfl) (pe_lst pa_nil))
      (pss_cons (ps_expr (pcall c__write hr (pa_cons (pv 0) (pa_cons (pe_const T.c_MOST_DEPTH) (pa_cons (pe_const T.c_MOST_LENGTH) (pa_cons (pv 1) pa_nil))))))
      (pss_one (ps_ret (pe_join pe_str (pv 1)))))), ?_⟩
    refine ⟨by decide, fun p hp => ?_⟩
    have s1 := same_new hp (.lst [])
    refine ⟨_, rfl, _, rfl, v, d, 8, 100000, p, [], rfl, hv.mono (fun a xs h => same_seqT s1 h), hd, by omega, by omega, upd_same, by omega, by decide, fun ws H' f1 z1 b1 h1 => ?_⟩
    have s2 : Same H H' := fun b o e => b1 b o (s1 b o e) (ne_of_none e hp)
    have z2 := flat_len ws
    refine ⟨⟨_, rfl⟩, _, rfl, _, p, ws, rfl, rfl, .inl (SqL.of h1), ?_, q _ _ ?_ s2⟩
    · rw [z2, f1]
      have : (Str.ofString "").length = 0 := by decide
      rw [this]; omega
    · exact (tl_glue ws).trans f1
/-! ### decode -/
theorem cut_mid {z : Str} {pre mid post : List Nat} (e : tl z = pre ++ (mid ++ post)) : tl (cutS z (some (pre.length : Int)) (some ((pre.length : Int) + (mid.length : Int)))) = mid := by
  have hl := len_tl z
  rw [e, List.length_append, List.length_append] at hl
  have e2 : (pre.length : Int) + (mid.length : Int) = ((pre.length + mid.length : Nat) : Int) := by omega
  unfold cutS
  rw [e2, HT.sIx_nat, HT.sIx_nat, Nat.min_eq_left (by omega), Nat.min_eq_left (by omega)]
  show ((tl z).drop pre.length).take (pre.length + mid.length - pre.length) = mid
  rw [e, List.drop_left, Nat.add_sub_cancel_left, List.take_left]
theorem cut_one {z : Str} {pre r : List Nat} (e : tl z = pre ++ r) : tl (cutS z (some (pre.length : Int)) (some ((pre.length : Int) + 1))) = r.take 1 := by
  have hl := len_tl z
  rw [e, List.length_append] at hl
  have e2 : (pre.length : Int) + 1 = ((pre.length + 1 : Nat) : Int) := by omega
  unfold cutS
  rw [e2, HT.sIx_nat, HT.sIx_nat, show min pre.length z.length = pre.length from Nat.min_eq_left (by omega)]
  show ((tl z).drop pre.length).take (min (pre.length + 1) z.length - pre.length) = r.take 1
  rw [e, List.drop_left]
  cases r with
  | nil => simp
  | cons c r =>
    rw [List.length_cons] at hl
    rw [Nat.min_eq_left (by omega), Nat.add_sub_cancel_left]
theorem str_eq {x y : Str} : decide (V.str x = V.str y) = decide (tl x = tl y) := by
  by_cases h : tl x = tl y
  · rw [decide_eq_true h, ext_tl h]; exact decide_eq_true rfl
  · rw [decide_eq_false h]; exact decide_eq_false (by intro z; cases z; exact h rfl)
abbrev s__digits_end : Stmt := top 22
abbrev N__digits_end : List Str := ["text", "start", "end"]
abbrev P__digits_end : List Str := ["text", "start"]
theorem sc__digits_end : FnScope N__digits_end P__digits_end (defScope s__digits_end) := ⟨rfl, rfl, rfl, by decide +kernel, rfl, by decide +kernel, by decide +kernel⟩
def sp__digits_end : Sp := fun vs H Q _ => ∃ (z : Str) (pre ds post : List Nat), vs = [.str z, .int pre.length] ∧ tl z = pre ++ (ds ++ post) ∧ AllDigits ds ∧ nd post ∧ z.length ≤ 100000 ∧ Q (.int ((pre.length : Int) + (ds.length : Int))) H
theorem ok__digits_end {f : Addr} {fd : FuncData} (T : Tx mg) (F : Fun K "_digits_end" "_digits_end" s__digits_end f fd) : FnOk P w K mg base CX0 (1) f fd P__digits_end (sp__digits_end) := by
  have nd := sc__digits_end.nd
  refine F.ok sc__digits_end (fun vs H Q E h => ?_) (fun cdv A outer s H vs Q E hr h => ?_)
  · obtain ⟨_, _, _, _, rfl, _⟩ := h
    rfl
  · obtain ⟨z, pre, ds, post, rfl, e, hd, hn, hz, q⟩ := h
    have hs := sl
    refine ⟨_, (pss_cons (ps_set (i := 2) nd rfl (Or.inl rfl) (pv 1))
      (pss_cons (ps_while PassesOwn.never (PW.pt (pw_and (pt_cmpR op_lt (pv 2) (pe_callB call_len_str (by rfl) T.b_len (by decide +kernel) (pa_cons (pv 0) pa_nil)) (nomark _)) (pw_and1 (pt_chain op_le_str op_le_str pe_str (pe_ix ix_str (pv 0) (pv 2) (fun _ _ => rfl)) pe_str))))
        (pss_one (ps_aug (i := 2) nd rfl (Or.inl rfl) pe_int ip_add)))
      (pss_one (ps_ret (pv 2))))), ?_⟩
    have hl := len_tl z
    rw [e, List.length_append, List.length_append] at hl
    refine ⟨_, rfl, fun m σ H' => H' = H ∧ m ≤ ds.length ∧ σ = [some (.str z), some (.int pre.length), some (.int ((pre.length : Int) + ((ds.length - m : Nat) : Int)))], ⟨ds.length, rfl, Nat.le_refl _, ?_⟩, ?_⟩
    · rw [Nat.sub_self]
      show [some (V.str z), some (V.int pre.length), some (V.int (pre.length : Int))] = _
      congr 3
    · rintro m σ H' ⟨rfl, hm, rfl⟩
      refine ⟨_, rfl, _, rfl, _, rfl, by omega, _, _, rfl, rfl, _, rfl, ?_⟩
      have at1 : ∀ c, (ds ++ post)[ds.length - m]? = some c → atI (tl z) ((pre.length : Int) + ((ds.length - m : Nat) : Int)) = some c := by
        intro c hc
        rw [show (pre.length : Int) + ((ds.length - m : Nat) : Int) = ((pre.length + (ds.length - m) : Nat) : Int) by omega]
        refine atI_nat ?_
        rw [e, List.getElem?_append_right (by omega), Nat.add_sub_cancel_left]
        exact hc
      cases m with
      | zero =>
        rw [Nat.sub_zero] at at1 ⊢
        cases hp : post with
        | nil =>
          rw [hp, List.length_nil] at hl
          rw [decide_eq_false (by omega)]
          exact iteF ⟨_, rfl, q⟩
        | cons c r =>
          rw [hp, List.length_cons] at hl
          rw [decide_eq_true (by omega)]
          refine iteT ?_
          have hc := at1 c (by rw [hp, List.getElem?_append_right (by omega), Nat.sub_self]; rfl)
          refine ⟨_, rfl, _, rfl, z, _, c, rfl, rfl, by omega, hc, _, _, rfl, rfl, _, rfl, ?_⟩
          have e1 := one_ge (y := Str.ofString "0") (b := 48) c (by decide)
          have e2 := one_le (y := Str.ofString "9") (b := 57) c (by decide)
          have hc2 := hn c r hp
          rw [e1]
          by_cases h1 : 48 ≤ c
          · rw [decide_eq_true h1]
            refine iteT ⟨_, _, rfl, rfl, _, rfl, ?_⟩
            rw [e2, decide_eq_false (by omega)]
            exact iteF ⟨_, rfl, q⟩
          · rw [decide_eq_false h1]
            exact iteF ⟨_, rfl, iteF ⟨_, rfl, q⟩⟩
      | succ m =>
        have hj : ds.length - (m + 1) < ds.length := by omega
        rw [decide_eq_true (by omega)]
        refine iteT ?_
        have hc := at1 ds[ds.length - (m + 1)] (by rw [List.getElem?_append_left hj]; exact List.getElem?_eq_getElem hj)
        have hdc := hd _ (List.getElem_mem hj)
        refine ⟨_, rfl, _, rfl, z, _, _, rfl, rfl, by omega, hc, _, _, rfl, rfl, _, rfl, ?_⟩
        rw [one_ge (y := Str.ofString "0") (b := 48) _ (by decide), decide_eq_true hdc.1]
        refine iteT ⟨_, _, rfl, rfl, _, rfl, ?_⟩
        rw [one_le (y := Str.ofString "9") (b := 57) _ (by decide), decide_eq_true hdc.2]
        refine iteT ⟨_, fun σ' H' h => ⟨m, Nat.lt_succ_self m, h⟩, ?_⟩
        refine ⟨_, rfl, _, _, rfl, rfl, rfl, by omega, ?_⟩
        show [some (V.str z), some (V.int pre.length), some (V.int ((pre.length : Int) + ((ds.length - (m + 1) : Nat) : Int) + 1))] = _
        congr 3
        congr 2
        omega
abbrev s__read_integer : Stmt := top 21
abbrev N__read_integer : List Str := ["text", "start", "first_digit", "end", "number"]
abbrev P__read_integer : List Str := ["text", "start"]
theorem sc__read_integer : FnScope N__read_integer P__read_integer (defScope s__read_integer) := ⟨rfl, rfl, rfl, by decide +kernel, rfl, by decide +kernel, by decide +kernel⟩
def sp__read_integer : Sp := fun vs H Q _ => ∃ (z : Str) (pre post : List Nat) (i : Int), vs = [.str z, .int pre.length] ∧ tl z = pre ++ (numI i ++ post) ∧ nd post ∧ i.natAbs < 10 ^ 24 ∧ z.length ≤ 100000 ∧
  ∀ p, H p = none → Q (.ref p) (upd H p (.tup [.int i, .int ((pre.length : Int) + ((numI i).length : Int))]))
theorem take1 {c : Nat} {l : List Nat} : (c :: l).take 1 = [c] := by simp
theorem ok__read_integer {f : Addr} {fd : FuncData} (T : Tx mg) (c__digits_end : DefOk P w K mg base CX0 "_digits_end" P__digits_end 1 (sp__digits_end))(F : Fun K "_read_integer" "_read_integer" s__read_integer f fd) : FnOk P w K mg base CX0 (2) f fd P__read_integer (sp__read_integer) := by
  have nd := sc__read_integer.nd
  refine F.ok sc__read_integer (fun vs H Q E h => ?_) (fun cdv A outer s H vs Q E hr h => ?_)
  · obtain ⟨_, _, _, _, rfl, _⟩ := h
    rfl
  · obtain ⟨z, pre, post, i, rfl, e, hn, hi, hz, q⟩ := h
    have hs := sl
    have h25 := numI_len hi
    have hdl := numL_len (n := i.natAbs) (k := 24) (by omega) hi
    have hdp : 1 ≤ (numL i.natAbs).length := by
      obtain ⟨c, r, e0, _⟩ := numL_head i.natAbs
      rw [e0]; simp
    refine ⟨_, (pss_cons (ps_set (i := 2) nd rfl (Or.inl rfl) (pv 1))
      (pss_cons (ps_if (pt_cmpR op_eq (pe_slice sl_str (pv 0) (po_some (pv 1)) (po_some (pe_op op_add (pv 1) pe_int))) pe_str (nomark _))
        (pss_one (ps_set (i := 2) nd rfl (Or.inl rfl) (pe_op op_add (pv 1) pe_int)))
        pss_nil)
      (pss_cons (ps_set (i := 3) nd rfl (Or.inl rfl) (pcall c__digits_end hr (pa_cons (pv 0) (pa_cons (pv 2) pa_nil))))
      (pss_cons (ps_if (pt_not (pt_chain op_le op_le pe_int (pe_op op_sub (pv 3) (pv 2)) (pe_const T.c_MOST_DIGITS)))
        (pss_one ps_never)
        pss_nil)
      (pss_cons (ps_set (i := 4) nd rfl (Or.inl rfl) (pe_callTy call_int_str (by rfl) T.b_int (by decide +kernel) (pa_cons (pe_slice sl_str (pv 0) (po_some (pv 1)) (po_some (pv 3))) pa_nil)))
      (pss_cons (ps_if (pt_cmpR op_ne (pe_callTy call_str_int (by rfl) T.b_str (by decide +kernel) (pa_cons (pv 4) pa_nil)) (pe_slice sl_str (pv 0) (po_some (pv 1)) (po_some (pv 3))) (nomark _))
        (pss_one ps_never)
        pss_nil)
      (pss_one (ps_ret (pe_tup (pa_cons (pv 4) (pa_cons (pv 3) pa_nil))))))))))), ?_⟩
    refine ⟨_, rfl, _, rfl, _, rfl, _, rfl, _, rfl, _, _, rfl, rfl, _, rfl, z, rfl, by omega, rfl, _, rfl, ?_⟩
    rw [str_eq, cut_one e, show tl (Str.ofString "-") = [45] by decide]
    have mid := cut_mid e
    have it := intText_numI mid hi
    have ml : (cutS z (some (pre.length : Int)) (some ((pre.length : Int) + ((numI i).length : Int)))).length ≤ 640 := by rw [len_tl, mid]; omega
    have key : ∃ pre2 : List Nat, tl z = pre2 ++ (numL i.natAbs ++ post) ∧ (pre2.length : Int) + ((numL i.natAbs).length : Int) = (pre.length : Int) + ((numI i).length : Int) ∧
        ((decide ((numI i ++ post).take 1 = [45]) = true ∧ (pre.length : Int) + 1 = (pre2.length : Int)) ∨ (decide ((numI i ++ post).take 1 = [45]) = false ∧ (pre.length : Int) = (pre2.length : Int))) := by
      by_cases h0 : i < 0
      · have en : numI i = 45 :: numL i.natAbs := by unfold numI; rw [if_pos h0]
        have ln : ((numI i).length : Int) = ((numL i.natAbs).length : Int) + 1 := by rw [en, List.length_cons]; omega
        have lp : ((pre ++ [45]).length : Int) = (pre.length : Int) + 1 := by rw [List.length_append, List.length_singleton]; omega
        refine ⟨pre ++ [45], by rw [e, en, List.append_assoc]; rfl, by omega, .inl ⟨?_, by omega⟩⟩
        rw [en, List.cons_append, take1]; decide
      · have en : numI i = numL i.natAbs := by unfold numI; rw [if_neg h0]
        refine ⟨pre, by rw [e, en], by rw [en], .inr ⟨?_, rfl⟩⟩
        obtain ⟨c, r, e0, hc⟩ := numL_head i.natAbs
        rw [en, e0, List.cons_append, take1]
        exact decide_eq_false (by intro z; have := (List.cons.inj z).1; omega)
    obtain ⟨pre2, e2, hf, hcase⟩ := key
    have e9 : tl (Str.ofString (toString i)) = numI i := tl_int i
    rcases hcase with ⟨hb, hl⟩ | ⟨hb, hl⟩ <;> rw [hb]
    · refine iteT ⟨_, rfl, _, _, rfl, rfl, ?_⟩
      refine ⟨_, rfl, _, rfl, z, pre2, numL i.natAbs, post, congrArg (fun t => [V.str z, V.int t]) hl, e2, numL_digits _, hn, hz, ?_⟩
      rw [hf]
      refine ⟨_, rfl, _, rfl, _, _, rfl, rfl, _, _, rfl, rfl, _, rfl, dT (by omega) ⟨_, _, rfl, rfl, _, rfl, nF (by omega) ?_⟩⟩
      refine ⟨_, rfl, _, rfl, _, rfl, _, rfl, _, rfl, z, rfl, by omega, _, i, rfl, it, ml, ?_⟩
      refine ⟨_, rfl, i, rfl, log_small (by omega), _, rfl, _, rfl, _, rfl, _, rfl, _, rfl, z, rfl, by omega, rfl, _, rfl, ?_⟩
      rw [str_eq, e9, mid]
      refine nF rfl ⟨_, rfl, _, rfl, by show 2 ≤ sizeLine; omega, fun p hp => q p hp⟩
    · refine iteF ?_
      refine ⟨_, rfl, _, rfl, z, pre2, numL i.natAbs, post, congrArg (fun t => [V.str z, V.int t]) hl, e2, numL_digits _, hn, hz, ?_⟩
      rw [hf]
      refine ⟨_, rfl, _, rfl, _, _, rfl, rfl, _, _, rfl, rfl, _, rfl, dT (by omega) ⟨_, _, rfl, rfl, _, rfl, nF (by omega) ?_⟩⟩
      refine ⟨_, rfl, _, rfl, _, rfl, _, rfl, _, rfl, z, rfl, by omega, _, i, rfl, it, ml, ?_⟩
      refine ⟨_, rfl, i, rfl, log_small (by omega), _, rfl, _, rfl, _, rfl, _, rfl, _, rfl, z, rfl, by omega, rfl, _, rfl, ?_⟩
      rw [str_eq, e9, mid]
      refine nF rfl ⟨_, rfl, _, rfl, by show 2 ≤ sizeLine; omega, fun p hp => q p hp⟩
abbrev s__read_characters : Stmt := top 20
abbrev N__read_characters : List Str := ["text", "start", "length", "end"]
abbrev P__read_characters : List Str := ["text", "start", "length"]
theorem sc__read_characters : FnScope N__read_characters P__read_characters (defScope s__read_characters) := ⟨rfl, rfl, rfl, by decide +kernel, rfl, by decide +kernel, by decide +kernel⟩
def sp__read_characters : Sp := fun vs H Q _ => ∃ (z : Str) (pre mid post : List Nat), vs = [.str z, .int pre.length, .int mid.length] ∧ tl z = pre ++ (mid ++ post) ∧ z.length ≤ 100000 ∧
  ∀ p (y : Str), tl y = mid → H p = none → Q (.ref p) (upd H p (.tup [.str y, .int ((pre.length : Int) + (mid.length : Int))]))
theorem ok__read_characters {f : Addr} {fd : FuncData} (T : Tx mg) (F : Fun K "_read_characters" "_read_characters" s__read_characters f fd) : FnOk P w K mg base CX0 (1) f fd P__read_characters (sp__read_characters) := by
  have nd := sc__read_characters.nd
  refine F.ok sc__read_characters (fun vs H Q E h => ?_) (fun cdv A outer s H vs Q E hr h => ?_)
  · obtain ⟨_, _, _, _, rfl, _⟩ := h
    rfl
  · obtain ⟨z, pre, mid, post, rfl, e, hz, q⟩ := h
    have hs := sl
    have hl := len_tl z
    rw [e, List.length_append, List.length_append] at hl
    refine ⟨_, (pss_cons (ps_set (i := 3) nd rfl (Or.inl rfl) (pe_op op_add (pv 1) (pv 2)))
      (pss_cons (ps_if (pt_cmpR op_gt (pv 3) (pe_callB call_len_str (by rfl) T.b_len (by decide +kernel) (pa_cons (pv 0) pa_nil)) (nomark _))
        (pss_one ps_never)
        pss_nil)
      (pss_one (ps_ret (pe_tup (pa_cons (pe_slice sl_str (pv 0) (po_some (pv 1)) (po_some (pv 3))) (pa_cons (pv 3) pa_nil))))))), ?_⟩
    refine ⟨_, rfl, _, rfl, _, _, rfl, rfl, _, rfl, _, rfl, _, rfl, by omega, _, _, rfl, rfl, _, rfl, dF (by omega) ?_⟩
    refine ⟨_, rfl, _, rfl, _, rfl, _, rfl, _, rfl, z, rfl, by omega, _, rfl, by show 2 ≤ sizeLine; omega, fun p hp => ?_⟩
    exact q p _ (cut_mid e) hp
end
end Mus

set_option maxRecDepth 100000
set_option maxHeartbeats 4000000
namespace Mus
open PySem L2 Txt4 TL PySem.NumText
section
variable {P : Program} {w : World} {K : PySem.W.Frag} {mg : Str → Option Value} {base : Heap}
theorem tup2 {H : Hp} {a : Addr} {v : V} {i j : Int} (h : H a = some (.tup [v, .int i])) (e : i = j) : H a = some (.tup [v, .int j]) := e ▸ h
theorem take1_eq {l : List Nat} {c : Nat} (h : l.take 1 = [c]) : ∃ q, l = c :: q := by
  cases l with
  | nil => simp at h
  | cons x r =>
    rw [take1] at h
    exact ⟨r, by rw [(List.cons.inj h).1]⟩
def sp__read (K : PySem.W.Frag) (n : Nat) : Sp := fun vs H Q _ => ∃ (z : Str) (pre post : List Nat) (d : D) (k : Int), vs = [.str z, .int pre.length, .int k] ∧ tl z = pre ++ (enc d ++ post) ∧ tailOk post ∧ Txt4.ok d ∧ (dep d : Int) ≤ k ∧ dep d ≤ n ∧ z.length ≤ 100000 ∧
  ∀ v p H', Same H H' → Rep K H' v d → H' p = some (.tup [v, .int ((pre.length : Int) + ((enc d).length : Int))]) → Q (.ref p) H'
def sp__read_tuple (K : PySem.W.Frag) (n : Nat) : Sp := fun vs H Q _ => ∃ (z : Str) (pre post : List Nat) (ds : List D) (k : Int), vs = [.str z, .int pre.length, .int k] ∧ tl z = pre ++ (encs ds ++ 41 :: post) ∧ oks ds ∧ (deps ds : Int) + 1 ≤ k ∧ deps ds + 1 ≤ n ∧ z.length ≤ 100000 ∧
  ∀ v p H', Same H H' → Rep K H' v (.tup ds) → H' p = some (.tup [v, .int ((pre.length : Int) + ((encs ds).length : Int) + 1)]) → Q (.ref p) H'
abbrev s__read : Stmt := top 18
abbrev N__read : List Str := ["text", "start", "depth", "number", "end"]
abbrev P__read : List Str := ["text", "start", "depth"]
theorem sc__read : FnScope N__read P__read (defScope s__read) := ⟨rfl, rfl, rfl, by decide +kernel, rfl, by decide +kernel, by decide +kernel⟩
abbrev s__read_tuple : Stmt := top 19
abbrev N__read_tuple : List Str := ["text", "start", "depth", "items", "place", "item"]
abbrev P__read_tuple : List Str := ["text", "start", "depth"]
theorem sc__read_tuple : FnScope N__read_tuple P__read_tuple (defScope s__read_tuple) := ⟨rfl, rfl, rfl, by decide +kernel, rfl, by decide +kernel, by decide +kernel⟩
theorem ok__read {f : Addr} {fd : FuncData} (T : Tx mg) {n : Nat} (c__read_tuple : DefOk P w K mg base CX0 "_read_tuple" P__read_tuple (3 + 2 * n) (sp__read_tuple K n)) (c__read_integer : DefOk P w K mg base CX0 "_read_integer" P__read_integer 2 (sp__read_integer)) (c__read_characters : DefOk P w K mg base CX0 "_read_characters" P__read_characters 1 (sp__read_characters))(F : Fun K "_read" "_read" s__read f fd) : FnOk P w K mg base CX0 (3 + 2 * n + 1) f fd P__read (sp__read K n) := by
  have nd := sc__read.nd
  refine F.ok sc__read (fun vs H Q E h => ?_) (fun cdv A outer s H vs Q E hr h => ?_)
  · obtain ⟨_, _, _, _, _, rfl, _⟩ := h
    rfl
  · obtain ⟨z, pre, post, d, k, rfl, e, hp, hd, hk, hn, hz, q⟩ := h
    have hs := sl
    have hl := len_tl z
    have hl2 := hl
    rw [e, List.length_append, List.length_append] at hl2
    refine ⟨_, (pss_cons (ps_if (pt_cmpR op_eq (pe_slice sl_str (pv 0) (po_some (pv 1)) (po_some (pe_op op_add (pv 1) pe_int))) pe_str (nomark _))
        (pss_one (ps_ret (pcall c__read_tuple hr (pa_cons (pv 0) (pa_cons (pe_op op_add (pv 1) pe_int) (pa_cons (pv 2) pa_nil))))))
        pss_nil)
      (pss_cons (ps_asg (pcall c__read_integer hr (pa_cons (pv 0) (pa_cons (pv 1) pa_nil))) (pg_tup (by rfl) (pgs_cons (pg_name (i := 3) nd rfl (Or.inl rfl)) (pgs_cons (pg_name (i := 4) nd rfl (Or.inl rfl)) pgs_nil))))
      (pss_cons (ps_if (PW.pt (pw_or (pt_cmpR op_lt (pv 3) pe_int (nomark _)) (pw_or1 (pt_cmpR op_ne (pe_slice sl_str (pv 0) (po_some (pv 4)) (po_some (pe_op op_add (pv 4) pe_int))) pe_str (nomark _)))))
        (pss_one (ps_ret (pe_tup (pa_cons (pv 3) (pa_cons (pv 4) pa_nil)))))
        pss_nil)
      (pss_one (ps_ret (pcall c__read_characters hr (pa_cons (pv 0) (pa_cons (pe_op op_add (pv 4) pe_int) (pa_cons (pv 3) pa_nil))))))))), ?_⟩
    refine ⟨_, rfl, _, rfl, _, rfl, _, rfl, _, _, rfl, rfl, _, rfl, z, rfl, by omega, rfl, _, rfl, ?_⟩
    rw [str_eq, cut_one e, show tl (Str.ofString "(") = [40] by decide]
    cases d with
    | tup ds =>
      have en : enc (.tup ds) = 40 :: (encs ds ++ [41]) := by rw [enc]
      have e2 : tl z = (pre ++ [40]) ++ (encs ds ++ 41 :: post) := by
        rw [e, en, List.append_assoc, List.cons_append, List.append_assoc]; rfl
      have lp : ((pre ++ [40]).length : Int) = (pre.length : Int) + 1 := by rw [List.length_append, List.length_singleton]; omega
      have le : (enc (.tup ds)).length = (encs ds).length + 2 := by rw [en, List.length_cons, List.length_append, List.length_singleton]
      refine dT (by rw [en]; rfl) ?_
      refine ⟨_, rfl, _, rfl, _, _, rfl, rfl, _, rfl, z, pre ++ [40], post, ds, k, by rw [lp]; rfl, e2, hd, hk, hn, hz, fun v p H' s1 r1 h1 => q v p H' s1 r1 (tup2 h1 (by omega))⟩
    | int i =>
      have en : enc (.int i) = numI i := by rw [enc]
      refine dF (fun h => ?_) ?_
      · obtain ⟨r, h1⟩ := take1_eq h
        exact numI_not40 h1
      refine ⟨_, rfl, _, rfl, z, pre, post, i, rfl, e, hp.nd, hd, hz, fun p np => ?_⟩
      refine ⟨p, _, rfl, SqT.of upd_same, rfl, _, _, rfl, _, _, rfl, rfl, ?_⟩
      refine ⟨_, rfl, _, _, rfl, rfl, _, rfl, ?_⟩
      have s1 := same_new np (.tup [.int i, .int ((pre.length : Int) + ((numI i).length : Int))])
      by_cases h0 : i < 0
      · refine dT h0 (iteT ⟨_, rfl, _, rfl, by show 2 ≤ sizeLine; omega, fun p2 np2 => ?_⟩)
        exact q _ p2 _ (s1.trans (same_new np2 _)) (.int i) (by rw [upd_same]; rfl)
      · refine dF h0 ?_
        have e2 : tl z = (pre ++ numI i) ++ post := by rw [e, en, List.append_assoc]
        have lp : ((pre ++ numI i).length : Int) = (pre.length : Int) + ((numI i).length : Int) := by rw [List.length_append]; omega
        refine ⟨_, rfl, _, rfl, _, rfl, _, rfl, _, _, rfl, rfl, _, rfl, z, rfl, by omega, rfl, _, rfl, ?_⟩
        rw [← lp, str_eq, cut_one e2, show tl (Str.ofString ":") = [58] by decide]
        have hc : ¬ post.take 1 = [58] := by
          intro h
          obtain ⟨r, h1⟩ := take1_eq h
          rcases hp with hp | ⟨s, hp⟩
          · rw [hp] at h1; cases h1
          · rw [hp] at h1; have := (List.cons.inj h1).1; omega
        rw [decide_eq_false hc, lp]
        refine iteT ⟨_, rfl, _, rfl, by show 2 ≤ sizeLine; omega, fun p2 np2 => ?_⟩
        exact q _ p2 _ (s1.trans (same_new np2 _)) (.int i) (by rw [upd_same]; rfl)
    | str y =>
      have en : enc (.str y) = numL (tl y).length ++ 58 :: tl y := by rw [enc]
      have ei : numI ((tl y).length : Int) = numL (tl y).length := by unfold numI; rw [if_neg (by omega)]; rfl
      have le : (enc (.str y)).length = (numL (tl y).length).length + ((tl y).length + 1) := by rw [en, List.length_append, List.length_cons]
      refine dF (fun h => ?_) ?_
      · obtain ⟨r, h1⟩ := take1_eq h
        rw [en, List.append_assoc] at h1
        exact numL_not40 h1
      have e1 : tl z = pre ++ (numI ((tl y).length : Int) ++ (58 :: (tl y ++ post))) := by rw [e, en, ei, List.append_assoc]; rfl
      refine ⟨_, rfl, _, rfl, z, pre, 58 :: (tl y ++ post), ((tl y).length : Int), rfl, e1, nd_cons (by omega), by omega, hz, fun p np => ?_⟩
      refine ⟨p, _, rfl, SqT.of upd_same, rfl, _, _, rfl, _, _, rfl, rfl, ?_⟩
      refine ⟨_, rfl, _, _, rfl, rfl, _, rfl, dF (by omega) ?_⟩
      have e2 : tl z = (pre ++ numI ((tl y).length : Int)) ++ (58 :: (tl y ++ post)) := by rw [e1, List.append_assoc]
      have lp : ((pre ++ numI ((tl y).length : Int)).length : Int) = (pre.length : Int) + ((numI ((tl y).length : Int)).length : Int) := by rw [List.length_append]; omega
      have e3 : tl z = ((pre ++ numI ((tl y).length : Int)) ++ [58]) ++ (tl y ++ post) := by rw [e2, List.append_assoc _ [58]]; rfl
      have lp2 : ((((pre ++ numI ((tl y).length : Int)) ++ [58]).length : Nat) : Int) = ((pre ++ numI ((tl y).length : Int)).length : Int) + 1 := by rw [List.length_append, List.length_singleton]; omega
      rw [← lp]
      have s1 := same_new np (.tup [.int ((tl y).length : Int), .int ((pre ++ numI ((tl y).length : Int)).length : Int)])
      refine ⟨_, rfl, _, rfl, _, rfl, _, rfl, _, _, rfl, rfl, _, rfl, z, rfl, by omega, rfl, _, rfl, ?_⟩
      rw [str_eq, cut_one e2, show tl (Str.ofString ":") = [58] by decide, take1, decide_eq_true rfl]
      refine iteF ⟨_, rfl, _, rfl, _, _, rfl, rfl, _, rfl, z, (pre ++ numI ((tl y).length : Int)) ++ [58], tl y, post, by rw [lp2]; rfl, e3, hz, fun p2 y2 hy np2 => ?_⟩
      have ey : y2 = y := ext_tl hy
      rw [ey]
      have lei : ((numI ((tl y).length : Int)).length : Int) = ((numL (tl y).length).length : Int) := by rw [ei]
      exact q _ p2 _ (s1.trans (same_new np2 _)) (.str y) (tup2 upd_same (by omega))
theorem ok__read_tuple {f : Addr} {fd : FuncData} (T : Tx mg) {n : Nat} (c__read : DefOk P w K mg base CX0 "_read" P__read (3 + 2 * n + 1) (sp__read K n))(F : Fun K "_read_tuple" "_read_tuple" s__read_tuple f fd) : FnOk P w K mg base CX0 (4 + 2 * n + 1) f fd P__read_tuple (sp__read_tuple K (n + 1)) := by
  have nd := sc__read_tuple.nd
  refine F.ok sc__read_tuple (fun vs H Q E h => ?_) (fun cdv A outer s H vs Q E hr h => ?_)
  · obtain ⟨_, _, _, _, _, rfl, _⟩ := h
    rfl
  · obtain ⟨z, pre, post, ds, k, rfl, e, hd, hk, hn, hz, q⟩ := h
    have hs := sl
    have hl := len_tl z
    have hl2 := hl
    rw [e, List.length_append, List.length_append] at hl2
    refine ⟨_, (pss_cons (ps_if (pt_cmpR op_eq (pv 2) pe_int (nomark _))
        (pss_one ps_never)
        pss_nil)
      (pss_cons (ps_set (i := 3) nd rfl (Or.inl rfl) (pe_lst pa_nil))
      (pss_cons (ps_set (i := 4) nd rfl (Or.inl rfl) (pv 1))
      (pss_cons (ps_while PassesOwn.never (pt_cmpR op_ne (pe_slice sl_str (pv 0) (po_some (pv 4)) (po_some (pe_op op_add (pv 4) pe_int))) pe_str (nomark _))
        (pss_cons (ps_asg (pcall c__read hr (pa_cons (pv 0) (pa_cons (pv 4) (pa_cons (pe_op op_sub (pv 2) pe_int) pa_nil)))) (pg_tup (by rfl) (pgs_cons (pg_name (i := 5) nd rfl (Or.inl rfl)) (pgs_cons (pg_name (i := 4) nd rfl (Or.inl rfl)) pgs_nil))))
        (pss_cons (ps_if (pt_cmpR op_ne (pe_slice sl_str (pv 0) (po_some (pv 4)) (po_some (pe_op op_add (pv 4) pe_int))) pe_str (nomark _))
          (pss_one ps_never)
          pss_nil)
        (pss_cons (ps_expr (pe_bm PySem.F.plainAttrs_list PySem.F.slot_list_append PySem.F.type_list_append mt_append (pv 3) (pa_cons (pv 5) pa_nil)))
        (pss_one (ps_aug (i := 4) nd rfl (Or.inl rfl) pe_int ip_add))))))
      (pss_one (ps_ret (pe_tup (pa_cons (pe_callTy call_tuple_of (by rfl) T.b_tuple (by decide +kernel) (pa_cons (pv 3) pa_nil)) (pa_cons (pe_op op_add (pv 4) pe_int) pa_nil))))))))), ?_⟩
    refine ⟨_, rfl, rfl, _, rfl, dF (by intro z; cases z; omega) ?_⟩
    refine ⟨by decide, fun p np => ⟨_, rfl, ?_⟩⟩
    refine ⟨fun m σ H' => ∃ (xs : List V) (v : Option V), m ≤ ds.length ∧ σ = [some (.str z), some (.int pre.length), some (.int k), some (.ref p), some (.int ((pre.length : Int) + ((encs (ds.take (ds.length - m))).length : Int))), v] ∧ Same H H' ∧
      H' p = some (.lst xs) ∧ Reps K H' xs (ds.take (ds.length - m)), ⟨ds.length, [], none, Nat.le_refl _, ?_, same_new np _, upd_same, ?_⟩, ?_⟩
    · rw [Nat.sub_self]
      show [some (V.str z), some (V.int pre.length), some (V.int k), some (V.ref p), some (V.int (pre.length : Int)), none] = _
      congr 5
    · rw [Nat.sub_self]
      exact .nil
    · rintro m σ H' ⟨xs, v, hm, rfl, s1, hp, hr2⟩
      have ej : encs ds = encs (ds.take (ds.length - m)) ++ encs (ds.drop (ds.length - m)) := by rw [← encs_append, List.take_append_drop]
      have e2 : tl z = (pre ++ encs (ds.take (ds.length - m))) ++ (encs (ds.drop (ds.length - m)) ++ 41 :: post) := by rw [e, ej, List.append_assoc, List.append_assoc]
      have lp : ((pre ++ encs (ds.take (ds.length - m))).length : Int) = (pre.length : Int) + ((encs (ds.take (ds.length - m))).length : Int) := by rw [List.length_append]; omega
      rw [← lp]
      refine ⟨_, rfl, _, rfl, _, rfl, _, rfl, _, _, rfl, rfl, _, rfl, z, rfl, by omega, rfl, _, rfl, ?_⟩
      rw [str_eq, cut_one e2, show tl (Str.ofString ")") = [41] by decide]
      cases m with
      | zero =>
        rw [Nat.sub_zero, List.take_length] at hr2 lp ⊢
        rw [List.drop_length]
        refine nF take1 ?_
        refine ⟨_, rfl, p, xs, rfl, .inl ⟨SqL.of hp, fun a na => ?_⟩⟩
        refine ⟨_, rfl, _, _, rfl, rfl, by show 2 ≤ sizeLine; omega, fun p2 np2 => ?_⟩
        have s2 := same_new na (.tup xs)
        have s3 := same_new np2 (.tup [.ref a, .int (((pre ++ encs ds).length : Int) + 1)])
        refine q (.ref a) p2 _ (s1.trans (s2.trans s3)) (.tup (same_seqT s3 (SqT.of upd_same)) (hr2.mono fun b ys h => same_seqT s3 (same_seqT s2 h))) (tup2 upd_same (by omega))
      | succ m =>
        have hj : ds.length - (m + 1) < ds.length := by omega
        have hat : ds[ds.length - (m + 1)]? = some ds[ds.length - (m + 1)] := List.getElem?_eq_getElem hj
        have ed : ds.drop (ds.length - (m + 1)) = ds[ds.length - (m + 1)] :: ds.drop (ds.length - (m + 1) + 1) := List.drop_eq_getElem_cons hj
        generalize ds[ds.length - (m + 1)] = d at hat ed
        have ee : encs (ds.drop (ds.length - (m + 1))) = enc d ++ 59 :: encs (ds.drop (ds.length - (m + 1) + 1)) := by rw [ed]; rfl
        have e3 : tl z = (pre ++ encs (ds.take (ds.length - (m + 1)))) ++ (enc d ++ (59 :: (encs (ds.drop (ds.length - (m + 1) + 1)) ++ 41 :: post))) := by rw [e2, ee, List.append_assoc (enc d)]; rfl
        have dd := deps_at hat
        refine nT (fun h => ?_) ?_
        · obtain ⟨r, h1⟩ := take1_eq h
          rw [ee, List.append_assoc] at h1
          exact enc_not41 d h1
        refine ⟨_, fun σ' H' h => ⟨m, Nat.lt_succ_self m, h⟩, ?_⟩
        refine ⟨_, rfl, _, rfl, _, rfl, _, _, rfl, rfl, z, _, _, d, k - 1, rfl, e3, .inr ⟨_, rfl⟩, oks_at hd hat, by omega, by omega, hz, fun u p2 H2 s2 ru h2 => ?_⟩
        refine ⟨p2, _, rfl, SqT.of h2, rfl, _, _, rfl, _, _, rfl, rfl, ?_⟩
        have e4 : tl z = ((pre ++ encs (ds.take (ds.length - (m + 1)))) ++ enc d) ++ (59 :: (encs (ds.drop (ds.length - (m + 1) + 1)) ++ 41 :: post)) := by rw [e3, ← List.append_assoc]
        have lp4 : (((pre ++ encs (ds.take (ds.length - (m + 1)))) ++ enc d).length : Int) = ((pre ++ encs (ds.take (ds.length - (m + 1)))).length : Int) + ((enc d).length : Int) := by rw [List.length_append]; omega
        rw [← lp4]
        refine ⟨_, rfl, _, rfl, _, rfl, _, rfl, _, _, rfl, rfl, _, rfl, z, rfl, by omega, rfl, _, rfl, ?_⟩
        rw [str_eq, cut_one e4, show tl (Str.ofString ";") = [59] by decide]
        refine nF take1 ?_
        have hp2 := s2 _ _ hp
        have hln := hr2.length
        rw [List.length_take] at hln
        have hz3 := encs_len ds
        refine ⟨_, rfl, .inl ⟨rfl, _, SqL.of hp2⟩, _, rfl, p, xs, _, rfl, rfl, hp2, by omega, ?_⟩
        refine ⟨_, rfl, _, _, rfl, rfl, ?_⟩
        have b3 : But p H2 (upd H2 p (.lst (xs ++ [u]))) := but_upd _
        have ej : ds.length - m = ds.length - (m + 1) + 1 := by omega
        have et := take_more hat
        have etl : (encs (ds.take (ds.length - (m + 1) + 1))).length = (encs (ds.take (ds.length - (m + 1)))).length + ((enc d).length + 1) := by rw [encs_take hat, List.length_append, List.length_append, List.length_singleton]
        refine ⟨xs ++ [u], some u, by omega, ?_, fun b o h => b3 b o (s2 b o (s1 b o h)) (ne_of_none h np), upd_same, ?_⟩
        · rw [ej]
          show [some (V.str z), some (V.int pre.length), some (V.int k), some (V.ref p), some (V.int (((pre ++ encs (ds.take (ds.length - (m + 1)))) ++ enc d).length + 1)), some u] = _
          congr 5
          congr 2
          omega
        · rw [ej, et]
          exact (hr2.mono fun b ys h => b3.seqT hp2 (same_seqT s2 h)).snoc (ru.mono fun b ys h => b3.seqT hp2 h)
/-- the two of the reading, for every depth -/
def mk_read (T : Tx mg) (aR : DefAt K mg "_read" P__read s__read) (aT : DefAt K mg "_read_tuple" P__read_tuple s__read_tuple) (c__read_integer : DefOk P w K mg base CX0 "_read_integer" P__read_integer 2 (sp__read_integer)) (c__read_characters : DefOk P w K mg base CX0 "_read_characters" P__read_characters 1 (sp__read_characters)) :
    ∀ n : Nat, DefOk P w K mg base CX0 "_read" P__read (3 + 2 * n + 1) (sp__read K n) × DefOk P w K mg base CX0 "_read_tuple" P__read_tuple (3 + 2 * n) (sp__read_tuple K n)
  | 0 =>
    let t : DefOk P w K mg base CX0 "_read_tuple" P__read_tuple (3 + 2 * 0) (sp__read_tuple K 0) := aT.ok fun _ => no_call (by
      rintro vs H Q E ⟨z, pre, post, ds, k, _, _, _, _, h, _⟩
      omega)
    (aR.ok fun F => ok__read T t c__read_integer c__read_characters F, t)
  | n + 1 =>
    let p := mk_read T aR aT c__read_integer c__read_characters n
    let t : DefOk P w K mg base CX0 "_read_tuple" P__read_tuple (3 + 2 * (n + 1)) (sp__read_tuple K (n + 1)) := (aT.ok fun F => ok__read_tuple T p.1 F).mono (by omega)
    (aR.ok fun F => ok__read T t c__read_integer c__read_characters F, t)
abbrev s_decode : Stmt := top 17
abbrev N_decode : List Str := ["text", "value", "end"]
abbrev P_decode : List Str := ["text"]
theorem sc_decode : FnScope N_decode P_decode (defScope s_decode) := ⟨rfl, rfl, rfl, by decide +kernel, rfl, by decide +kernel, by decide +kernel⟩
def sp_decode (K : PySem.W.Frag) : Sp := fun vs H Q _ => ∃ (z : Str) (d : D), vs = [.str z] ∧ tl z = enc d ∧ Txt4.ok d ∧ dep d ≤ 8 ∧ (enc d).length ≤ 100000 ∧ ∀ v H', Same H H' → Rep K H' v d → Q v H'
theorem ok_decode {f : Addr} {fd : FuncData} (T : Tx mg) (c_is_printable : DefOk P w K mg base CX0 "is_printable" P_is_printable 2 (sp_is_printable)) (c__read : DefOk P w K mg base CX0 "_read" P__read 20 (sp__read K 8))(F : Fun K "decode" "decode" s_decode f fd) : FnOk P w K mg base CX0 (21) f fd P_decode (sp_decode K) := by
  have nd := sc_decode.nd
  refine F.ok sc_decode (fun vs H Q E h => ?_) (fun cdv A outer s H vs Q E hr h => ?_)
  · obtain ⟨_, _, rfl, _⟩ := h
    rfl
  · obtain ⟨z, d, rfl, e, hd, hdep, hz, q⟩ := h
    have hs := sl
    have hl := len_tl z
    rw [e] at hl
    refine ⟨_, (pss_cons (ps_if (PW.pt (pw_or (pt_not (pt_val (pe_callB call_isi (by rfl) T.b_isinstance (by decide +kernel) (pa_cons (pv 0) (pa_cons (pe_ty "str" T.b_str) pa_nil))))) (pw_or (pt_cmpR op_gt (pe_callB call_len_str (by rfl) T.b_len (by decide +kernel) (pa_cons (pv 0) pa_nil)) (pe_const T.c_MOST_LENGTH) (nomark _)) (pw_or1 (pt_not (pt_val (pcall c_is_printable hr (pa_cons (pv 0) pa_nil))))))))
        (pss_one ps_never)
        pss_nil)
      (pss_cons (ps_asg (pcall c__read hr (pa_cons (pv 0) (pa_cons pe_int (pa_cons (pe_const T.c_MOST_DEPTH) pa_nil)))) (pg_tup (by rfl) (pgs_cons (pg_name (i := 1) nd rfl (Or.inl rfl)) (pgs_cons (pg_name (i := 2) nd rfl (Or.inl rfl)) pgs_nil))))
      (pss_cons (ps_if (pt_cmpR op_ne (pv 2) (pe_callB call_len_str (by rfl) T.b_len (by decide +kernel) (pa_cons (pv 0) pa_nil)) (nomark _))
        (pss_one ps_never)
        pss_nil)
      (pss_one (ps_ret (pv 1)))))), ?_⟩
    refine ⟨_, rfl, _, _, _, _, true, rfl, .ty _, .base (.str z), kit_ty (by decide +kernel), _, rfl, iteF ?_⟩
    refine ⟨_, rfl, _, rfl, by omega, _, _, rfl, rfl, _, rfl, dF (by omega) ?_⟩
    refine ⟨_, rfl, z, rfl, ?_⟩
    rw [all_pr (by rw [e]; exact enc_pr d hd)]
    refine ⟨_, rfl, iteF ?_⟩
    refine ⟨_, rfl, z, [], [], d, 8, rfl, by rw [e, List.append_nil]; rfl, .inl rfl, hd, by omega, hdep, by omega, fun v p H' s1 r1 h1 => ?_⟩
    refine ⟨p, _, rfl, SqT.of h1, rfl, _, _, rfl, _, _, rfl, rfl, ?_⟩
    refine ⟨_, rfl, _, rfl, _, rfl, by omega, rfl, _, rfl, nF ?_ ⟨_, rfl, q v H' s1 r1⟩⟩
    rw [hl]
    congr 1
    show (0 : Int) + _ = _
    omega
end
end Mus

set_option maxRecDepth 100000
set_option maxHeartbeats 4000000
namespace Mus
open PySem L2 Txt4 TL PySem.NumText
section
variable {P : Program} {w : World} {K : PySem.W.Frag} {mg : Str → Option Value} {base : Heap}
theorem at_int {α : Type} {xs : List α} {i : Int} {v : α} (h0 : 0 ≤ i) (h : xs[i.toNat]? = some v) : atI xs i = some v := by
  have e : i = ((i.toNat : Nat) : Int) := by omega
  rw [e]
  exact atI_nat h
/-! ### the law's draws -/
def Bag (p : Addr) (c : Int) (H : Hp) : Prop := ∃ x y : Int, H p = some (.lst [.int x, .int y, .int c])
abbrev s__law_bag : Stmt := top 24
abbrev N__law_bag : List Str := ["script", "k", "cell"]
abbrev P__law_bag : List Str := ["script", "k"]
theorem sc__law_bag : FnScope N__law_bag P__law_bag (defScope s__law_bag) := ⟨rfl, rfl, rfl, by decide +kernel, rfl, by decide +kernel, by decide +kernel⟩
def sp__law_bag (K : PySem.W.Frag) : Sp := fun vs H Q _ => ∃ (a : Addr) (ns : List Int) (k : Nat), vs = [.ref a, .int k] ∧ SqL K H a (ns.map V.int) ∧ ∀ p H', H p = none → Same H H' → Bag p k H' → Q (.ref p) H'
theorem ok__law_bag {f : Addr} {fd : FuncData} (T : Tx mg) (F : Fun K "_law_bag" "_law_bag" s__law_bag f fd) : FnOk P w K mg base CX0 (1) f fd P__law_bag (sp__law_bag K) := by
  have nd := sc__law_bag.nd
  refine F.ok sc__law_bag (fun vs H Q E h => ?_) (fun cdv A outer s H vs Q E hr h => ?_)
  · obtain ⟨_, _, _, rfl, _⟩ := h
    rfl
  · obtain ⟨a, ns, k, rfl, hS, q⟩ := h
    have hs := sl
    refine ⟨_, (pss_cons (ps_set (i := 2) nd rfl (Or.inl rfl) pe_int)
      (pss_cons (ps_if (pt_cmpR op_lt (pv 1) (pe_callB call_len_seq (by rfl) T.b_len (by decide +kernel) (pa_cons (pv 0) pa_nil)) (nomark _))
        (pss_one (ps_set (i := 2) nd rfl (Or.inl rfl) (pe_callTy call_int1 (by rfl) T.b_int (by decide +kernel) (pa_cons (pe_ix ix_list (pv 0) (pv 1) (fun _ _ => rfl)) pa_nil))))
        pss_nil)
      (pss_cons (ps_if (pt_cmpR op_ge (pv 2) (pe_op op_pow pe_int pe_int) (nomark _))
        (pss_one (ps_ret (pe_lst (pa_cons (pv 2) (pa_cons (pv 2) (pa_cons (pv 1) pa_nil))))))
        pss_nil)
      (pss_one (ps_ret (pe_lst (pa_cons pe_int (pa_cons (pv 2) (pa_cons (pv 1) pa_nil))))))))), ?_⟩
    have hl : (ns.map V.int).length = ns.length := List.length_map _
    have fin : ∀ x y : Int, ∀ p, H p = none → Q (.ref p) (upd H p (.lst [.int x, .int y, .int k])) := fun x y p np => q p _ np (same_new np _) ⟨x, y, upd_same⟩
    refine ⟨_, rfl, _, rfl, a, _, rfl, .inl hS, _, _, rfl, rfl, _, rfl, ?_⟩
    by_cases hk : (k : Int) < (((ns.map V.int).length : Nat) : Int)
    · refine dT hk ?_
      have hk2 : k < ns.length := by omega
      refine ⟨_, rfl, _, rfl, a, _, _, .int ns[k], rfl, rfl, hS, atI_nat (by rw [List.getElem?_map, List.getElem?_eq_getElem hk2]; rfl), .inl ⟨_, rfl, ?_⟩⟩
      refine ⟨_, rfl, _, _, rfl, rfl, ⟨by decide, by decide, by decide⟩, _, _, rfl, rfl, _, rfl, ?_⟩
      refine ite2 (fun _ => ?_) (fun _ => ?_)
      · exact ⟨_, rfl, _, rfl, _, rfl, by show 3 ≤ sizeLine; omega, fun p np => fin _ _ p np⟩
      · exact ⟨_, rfl, _, rfl, by show 3 ≤ sizeLine; omega, fun p np => fin _ _ p np⟩
    · refine dF hk ?_
      refine ⟨_, rfl, _, _, rfl, rfl, ⟨by decide, by decide, by decide⟩, _, _, rfl, rfl, _, rfl, ?_⟩
      refine ite2 (fun _ => ?_) (fun _ => ?_)
      · exact ⟨_, rfl, _, rfl, _, rfl, by show 3 ≤ sizeLine; omega, fun p np => fin _ _ p np⟩
      · exact ⟨_, rfl, _, rfl, by show 3 ≤ sizeLine; omega, fun p np => fin _ _ p np⟩
abbrev s__law_draw : Stmt := top 25
abbrev N__law_draw : List Str := ["bag", "many", "seed", "rest"]
abbrev P__law_draw : List Str := ["bag", "many"]
theorem sc__law_draw : FnScope N__law_draw P__law_draw (defScope s__law_draw) := ⟨rfl, rfl, rfl, by decide +kernel, rfl, by decide +kernel, by decide +kernel⟩
def sp__law_draw : Sp := fun vs H Q _ => ∃ (p : Addr) (c m : Int), vs = [.ref p, .int m] ∧ Bag p c H ∧ 0 < m ∧ m.natAbs < 2 ^ 100 ∧ ∀ r H', 0 ≤ r → r < m → But p H H' → Bag p c H' → Q (.int r) H'
theorem ok__law_draw {f : Addr} {fd : FuncData} (T : Tx mg) (F : Fun K "_law_draw" "_law_draw" s__law_draw f fd) : FnOk P w K mg base CX0 (1) f fd P__law_draw (sp__law_draw) := by
  have nd := sc__law_draw.nd
  refine F.ok sc__law_draw (fun vs H Q E h => ?_) (fun cdv A outer s H vs Q E hr h => ?_)
  · obtain ⟨_, _, _, rfl, _⟩ := h
    rfl
  · obtain ⟨p, c, m, rfl, ⟨x, y, hp⟩, hm, hm2, q⟩ := h
    refine ⟨_, (pss_cons (ps_if (pt_cmpR op_eq (pe_ix ix_list (pv 0) pe_int (fun _ _ => rfl)) pe_int (nomark _))
        (pss_cons (ps_set (i := 2) nd rfl (Or.inl rfl) (pe_op op_mod (pe_callTy call_int1 (by rfl) T.b_int (by decide +kernel) (pa_cons (pe_op op_add (pe_op op_add (pe_op op_mul (pe_ix ix_list (pv 0) pe_int (fun _ _ => rfl)) pe_int) (pe_op op_mul (pe_ix ix_list (pv 0) pe_int (fun _ _ => rfl)) pe_int)) pe_int) pa_nil)) pe_int))
        (pss_cons (ps_asg (pe_op op_add (pe_op op_mul (pv 2) pe_int) (pe_op op_mod (pe_callTy call_int1 (by rfl) T.b_int (by decide +kernel) (pa_cons (pe_op op_add (pe_op op_mul (pv 2) (pv 2)) (pe_op op_mul (pe_ix ix_list (pv 0) pe_int (fun _ _ => rfl)) pe_int)) pa_nil)) pe_int)) (pg_sub (pv 0) pe_int set_list))
        (pss_one (ps_asg (pv 2) (pg_sub (pv 0) pe_int set_list)))))
        pss_nil)
      (pss_cons (ps_set (i := 3) nd rfl (Or.inl rfl) (pe_ix ix_list (pv 0) pe_int (fun _ _ => rfl)))
      (pss_cons (ps_asg (pe_op op_fdivW (pv 3) (pv 1)) (pg_sub (pv 0) pe_int set_list))
      (pss_one (ps_ret (pe_op op_mod (pe_callTy call_int1 (by rfl) T.b_int (by decide +kernel) (pa_cons (pv 3) pa_nil)) (pv 1))))))), ?_⟩
    have wd : CDivW 0 m := wide_div (i := 0) hm hm2 (by omega) (by omega)
    refine ⟨_, rfl, p, _, _, _, rfl, rfl, SqL.of hp, rfl, rfl, _, rfl, ?_⟩
    by_cases h0 : x = 0
    · subst h0
      refine dT rfl ?_
      refine ⟨_, rfl, p, _, _, _, rfl, rfl, SqL.of hp, rfl, _, _, rfl, rfl, .inr ⟨by decide, by decide⟩, ?_⟩
      refine ⟨_, rfl, p, _, _, _, rfl, rfl, SqL.of hp, rfl, _, _, rfl, rfl, .inr ⟨by decide, by decide⟩, _, _, rfl, rfl, _, _, rfl, rfl, .inl ⟨_, rfl, _, _, rfl, rfl, (by show (0 : Int) < 2147483647; decide), ?_⟩⟩
      have b0 : 0 ≤ (y * 48271 + c * 69621 + 11) % 2147483647 := Int.emod_nonneg _ (by decide)
      have b1 : (y * 48271 + c * 69621 + 11) % 2147483647 < 2147483647 := Int.emod_lt_of_pos _ (by decide)
      have bb : -(2 ^ 64) < (y * 48271 + c * 69621 + 11) % 2147483647 ∧ (y * 48271 + c * 69621 + 11) % 2147483647 < 2 ^ 64 := ⟨by omega, by omega⟩
      refine ⟨_, rfl, _, _, rfl, rfl, .inl bb, _, rfl, _, rfl, _, _, rfl, rfl, .inl bb, _, rfl, p, _, _, _, rfl, rfl, SqL.of hp, rfl, _, _, rfl, rfl, .inr ⟨by decide, by decide⟩, _, _, rfl, rfl, .inl ⟨_, rfl, _, _, rfl, rfl, (by show (0 : Int) < 2147483629; decide), _, _, rfl, rfl, ?_⟩⟩
      refine ⟨_, rfl, p, _, _, 0, rfl, rfl, hp, rfl, ?_⟩
      refine ⟨_, rfl, _, rfl, p, _, _, 1, rfl, rfl, upd_same, rfl, ?_⟩
      refine ⟨_, rfl, p, _, _, _, rfl, rfl, SqL.of upd_same, rfl, ?_⟩
      refine ⟨_, rfl, _, rfl, _, _, rfl, rfl, wd, _, rfl, p, _, _, 0, rfl, rfl, upd_same, rfl, ?_⟩
      refine ⟨_, rfl, .inl ⟨_, rfl, _, rfl, _, _, rfl, rfl, hm, ?_⟩⟩
      exact q _ _ (Int.emod_nonneg _ (by omega)) (Int.emod_lt_of_pos _ hm) ((but_upd _).trans ((but_upd _).trans (but_upd _))) ⟨_, _, upd_same⟩
    · refine dF (by intro z; cases z; exact h0 rfl) ?_
      refine ⟨_, rfl, p, _, _, _, rfl, rfl, SqL.of hp, rfl, ?_⟩
      refine ⟨_, rfl, _, rfl, _, _, rfl, rfl, wd, _, rfl, p, _, _, 0, rfl, rfl, hp, rfl, ?_⟩
      refine ⟨_, rfl, .inl ⟨_, rfl, _, rfl, _, _, rfl, rfl, hm, ?_⟩⟩
      exact q _ _ (Int.emod_nonneg _ (by omega)) (Int.emod_lt_of_pos _ hm) (but_upd _) ⟨_, _, upd_same⟩
abbrev s__law_string : Stmt := top 26
abbrev N__law_string : List Str := ["bag", "chars", "k"]
abbrev P__law_string : List Str := ["bag"]
theorem sc__law_string : FnScope N__law_string P__law_string (defScope s__law_string) := ⟨rfl, rfl, rfl, by decide +kernel, rfl, by decide +kernel, by decide +kernel⟩
def sp__law_string : Sp := fun vs H Q _ => ∃ (p : Addr) (c : Int), vs = [.ref p] ∧ Bag p c H ∧ ∀ z H', (tl z).length ≤ 5 → (∀ c ∈ tl z, Pr c) → But p H H' → Bag p c H' → Q (.str z) H'
def chars : List Nat := [97, 98, 49, 58, 59, 40, 41, 45, 48, 32, 126, 39, 34]
theorem chars_pr : ∀ c ∈ chars, Pr c := by
  intro c hc
  simp only [chars, List.mem_cons, List.not_mem_nil, or_false] at hc
  unfold Pr
  omega
theorem ok__law_string {f : Addr} {fd : FuncData} (T : Tx mg) (c__law_draw : DefOk P w K mg base CX0 "_law_draw" P__law_draw 1 (sp__law_draw))(F : Fun K "_law_string" "_law_string" s__law_string f fd) : FnOk P w K mg base CX0 (2) f fd P__law_string (sp__law_string) := by
  have nd := sc__law_string.nd
  refine F.ok sc__law_string (fun vs H Q E h => ?_) (fun cdv A outer s H vs Q E hr h => ?_)
  · obtain ⟨_, _, rfl, _⟩ := h
    rfl
  · obtain ⟨p, c, rfl, hb, q⟩ := h
    have hs := sl
    refine ⟨_, (pss_cons (ps_set (i := 1) nd rfl (Or.inr rfl) pe_str)
      (pss_one (ps_ret (pe_join pe_str (pe_lc (own := [("k", 2)]) (g := gName 2) rfl nd (pi_range1 (by rfl) T.b_range (pa_cons (pcall c__law_draw hr (pa_cons (pv 0) (pa_cons pe_int pa_nil))) pa_nil)) (blkOk_by (own := [("k", 2)]) (N := N__law_string) (sc := defScope s__law_string) (by decide +kernel)) (fun _ _ _ _ _ => pg_name (i := 2) nd rfl (Or.inl rfl)) (fun _ _ _ _ _ => pts_nil) (fun _ _ _ _ _ => (pe_ix ix_str (pv 1) (pcall c__law_draw hr (pa_cons (pv 0) (pa_cons pe_int pa_nil))) (fun _ _ => rfl)))))))), ?_⟩
    refine ⟨⟨_, rfl⟩, ?_⟩
    refine ⟨_, rfl, p, c, 6, rfl, hb, by decide, by decide, fun r H1 r0 r1 b1 g1 => ?_⟩
    refine ⟨r, rfl, by omega, by omega, fun D nD => ?_⟩
    have pD : p ≠ D := by
      obtain ⟨x, y, hp⟩ := g1
      exact ne_of_none hp nD
    refine lc_range (lo := 0) (n := r.toNat) (fun i H' => ∃ ys : List Str, H' D = some (.lst (ys.map V.str)) ∧ ys.length = i ∧ (flat ys).length = i ∧ (∀ c ∈ flat ys, Pr c) ∧ But p H H' ∧ Bag p c H') ?_ ?_ ?_
    · refine ⟨[], upd_same, rfl, rfl, fun c hc => ?_, fun b o h hn => ?_, ?_⟩
      · exact absurd hc List.not_mem_nil
      · have z := b1 b o h hn
        rw [upd_ne (ne_of_none z nD)]; exact z
      · obtain ⟨x, y, hp⟩ := g1
        exact ⟨x, y, by rw [upd_ne pD]; exact hp⟩
    · rintro i H' hi ⟨ys, hD, e1, e2, e3, b2, g2⟩
      refine ⟨rfl, ?_⟩
      refine ⟨_, rfl, _, rfl, p, c, 13, rfl, g2, by decide, by decide, fun r2 H2 s0 s1 b3 g3 => ?_⟩
      have hr2 : r2.toNat < chars.length := by show r2.toNat < 13; omega
      refine ⟨Str.ofString "ab1:;()-0 ~'\"", r2, chars[r2.toNat], rfl, rfl, by decide, ?_, ?_⟩
      · have e4 : (Str.ofString "ab1:;()-0 ~'\"").cps.toList = chars := by decide
        rw [e4]
        exact at_int s0 (List.getElem?_eq_getElem hr2)
      · have hD2 := b3 D _ hD pD.symm
        refine ⟨_, hD2, by rw [List.length_map]; omega, ys ++ [⟨#[chars[r2.toNat]]⟩], ?_, ?_, ?_, ?_, ?_, ?_⟩
        · rw [upd_same, List.map_append]; rfl
        · rw [List.length_append, e1]; rfl
        · rw [flat_append, flat_one, List.length_append, e2]; rfl
        · rw [flat_append, flat_one]
          intro c hc
          rcases List.mem_append.mp hc with hc | hc
          · exact e3 c hc
          · have : c = chars[r2.toNat] := by simpa using hc
            rw [this]
            exact chars_pr _ (List.getElem_mem hr2)
        · intro b o h hn
          have z := b2 b o h hn
          have z2 := b3 b o z hn
          by_cases hbD : b = D
          · exfalso
            subst hbD
            have n1 := b1 b o h hn
            rw [nD] at n1; cases n1
          · rw [upd_ne hbD]; exact z2
        · obtain ⟨x, y, hp⟩ := g3
          exact ⟨x, y, by rw [upd_ne pD]; exact hp⟩
    · rintro H' ⟨ys, hD, e1, e2, e3, b2, g2⟩
      have z2 := flat_len ys
      refine ⟨_, D, ys, rfl, rfl, .inl (SqL.of hD), ?_, q _ _ ?_ ?_ b2 g2⟩
      · rw [z2]
        have : (Str.ofString "").length = 0 := by decide
        rw [this]; omega
      · have e := tl_glue ys
        have e' : tl (Txt.join (Str.ofString "") ys) = flat ys := e
        rw [e', e2]; omega
      · have e' : tl (Txt.join (Str.ofString "") ys) = flat ys := tl_glue ys
        rw [e']
        exact e3
/-- the most that a text of such a depth is long -/
def siz : Nat → Nat
  | 0 => 25
  | n + 1 => 3 * (siz n + 1) + 2
theorem siz_le : ∀ n, 25 ≤ siz n
  | 0 => Nat.le_refl _
  | n + 1 => by
    have := siz_le n
    show 25 ≤ 3 * (siz n + 1) + 2
    omega
def sp__law_value (K : PySem.W.Frag) (n : Nat) : Sp := fun vs H Q _ => ∃ (p : Addr) (c : Int), vs = [.ref p, .int n] ∧ Bag p c H ∧ ∀ v d H', Rep K H' v d → Txt4.ok d → dep d ≤ n → (enc d).length ≤ siz n → But p H H' → Bag p c H' → Q v H'
/-- one depth less, if there is one -/
def spv (sp : Nat → Sp) (n : Nat) : Sp := fun vs H Q E => ∃ m, n = m + 1 ∧ sp m vs H Q E
theorem Bag.seqT {p : Addr} {c : Int} {H H' : Hp} (g : Bag p c H) (b : But p H H') {a : Addr} {xs : List V} (h : SqT K H a xs) : SqT K H' a xs := by
  obtain ⟨x, y, hp⟩ := g
  exact b.seqT hp h
theorem Bag.ne {p D : Addr} {c : Int} {H : Hp} (g : Bag p c H) (h : H D = none) : p ≠ D := by
  obtain ⟨x, y, hp⟩ := g
  exact ne_of_none hp h
theorem Bag.upd {p D : Addr} {c : Int} {H : Hp} {o : HO} (g : Bag p c H) (h : p ≠ D) : Bag p c (upd H D o) := by
  obtain ⟨x, y, hp⟩ := g
  exact ⟨x, y, by rw [upd_ne h]; exact hp⟩
/-- a new thing -/
theorem But.new {p D : Addr} {H H' : Hp} {o : HO} (b : But p H H') (h : H' D = none) : But p H (L2.upd H' D o) := fun a u e n => by
  have z := b a u e n
  rw [upd_ne (ne_of_none z h)]; exact z
/-- a change at what was not there at first -/
theorem But.later {p D : Addr} {H H' : Hp} {o : HO} (b : But p H H') (h : H D = none) : But p H (L2.upd H' D o) := fun a u e n => by
  rw [upd_ne (ne_of_none e h)]; exact b a u e n
theorem But.free {p D : Addr} {H H' : Hp} (b : But p H H') (h : H' D = none) (n : D ≠ p) : H D = none := by
  cases e : H D with
  | none => rfl
  | some o =>
    have z := b D o e n
    rw [h] at z; cases z
theorem pick_at (a b : Int) (ha : 0 ≤ a ∧ a < 10 ^ 24) (hb : 0 ≤ b ∧ b < 10 ^ 24) {k : Int} (h0 : 0 ≤ k) (h1 : k < 8) :
    ∃ x : Int, atI [V.int 0, V.int 1, V.int 9, V.int 10, V.int (10 ^ 24 - 1), V.int (10 ^ 23), V.int a, V.int b] k = some (V.int x) ∧ 0 ≤ x ∧ x < 10 ^ 24 := by
  have h : k = 0 ∨ k = 1 ∨ k = 2 ∨ k = 3 ∨ k = 4 ∨ k = 5 ∨ k = 6 ∨ k = 7 := by omega
  rcases h with rfl | rfl | rfl | rfl | rfl | rfl | rfl | rfl
  · exact ⟨0, rfl, by omega, by omega⟩
  · exact ⟨1, rfl, by omega, by omega⟩
  · exact ⟨9, rfl, by omega, by omega⟩
  · exact ⟨10, rfl, by omega, by omega⟩
  · exact ⟨10 ^ 24 - 1, rfl, by omega, by omega⟩
  · exact ⟨10 ^ 23, rfl, by omega, by omega⟩
  · exact ⟨a, rfl, ha.1, ha.2⟩
  · exact ⟨b, rfl, hb.1, hb.2⟩
abbrev s__law_value : Stmt := top 27
abbrev N__law_value : List Str := ["bag", "depth", "choice", "pick", "number", "items", "k"]
abbrev P__law_value : List Str := ["bag", "depth"]
theorem sc__law_value : FnScope N__law_value P__law_value (defScope s__law_value) := ⟨rfl, rfl, rfl, by decide +kernel, rfl, by decide +kernel, by decide +kernel⟩
theorem ok__law_value {f : Addr} {fd : FuncData} (T : Tx mg) {n : Nat} (c__law_value : DefOk P w K mg base CX0 "_law_value" P__law_value (2 + n) (spv (sp__law_value K) n)) (c__law_draw : DefOk P w K mg base CX0 "_law_draw" P__law_draw 1 (sp__law_draw)) (c__law_string : DefOk P w K mg base CX0 "_law_string" P__law_string 2 (sp__law_string))(F : Fun K "_law_value" "_law_value" s__law_value f fd) : FnOk P w K mg base CX0 (2 + n + 1) f fd P__law_value (sp__law_value K n) := by
  have nd := sc__law_value.nd
  refine F.ok sc__law_value (fun vs H Q E h => ?_) (fun cdv A outer s H vs Q E hr h => ?_)
  · obtain ⟨_, _, rfl, _⟩ := h
    rfl
  · obtain ⟨p, c, rfl, g0, q⟩ := h
    have hs := sl
    refine ⟨_, (pss_cons (ps_set (i := 2) nd rfl (Or.inl rfl) (pcall c__law_draw hr (pa_cons (pv 0) (pa_cons pe_int pa_nil))))
      (pss_cons (ps_if (pt_cmpR op_eq (pv 2) pe_int (nomark _))
        (pss_cons (ps_set (i := 3) nd rfl (Or.inl rfl) (pcall c__law_draw hr (pa_cons (pv 0) (pa_cons pe_int pa_nil))))
        (pss_cons (ps_set (i := 4) nd rfl (Or.inl rfl) (pe_ix ix_list (pe_lst (pa_cons pe_int (pa_cons pe_int (pa_cons pe_int (pa_cons pe_int (pa_cons (pe_op op_sub (pe_op op_pow pe_int pe_int) pe_int) (pa_cons (pe_op op_pow pe_int pe_int) (pa_cons (pcall c__law_draw hr (pa_cons (pv 0) (pa_cons pe_int pa_nil))) (pa_cons (pcall c__law_draw hr (pa_cons (pv 0) (pa_cons (pe_op op_pow pe_int pe_int) pa_nil))) pa_nil))))))))) (pv 3) (fun _ _ => rfl)))
        (pss_one (ps_ret (pe_op op_mul (pv 4) (pe_op op_sub pe_int (pe_op op_mul pe_int (pcall c__law_draw hr (pa_cons (pv 0) (pa_cons pe_int pa_nil))))))))))
        pss_nil)
      (pss_cons (ps_if (PW.pt (pw_or (pt_cmpR op_lt (pv 2) pe_int (nomark _)) (pw_or1 (pt_cmpR op_eq (pv 1) pe_int (nomark _)))))
        (pss_one (ps_ret (pcall c__law_string hr (pa_cons (pv 0) pa_nil))))
        pss_nil)
      (pss_cons (ps_set (i := 5) nd rfl (Or.inl rfl) (pe_lst pa_nil))
      (pss_cons (ps_for PassesOwn.never rfl (pi_range1 (by rfl) T.b_range (pa_cons (pcall c__law_draw hr (pa_cons (pv 0) (pa_cons pe_int pa_nil))) pa_nil)) (pg_name (i := 6) nd rfl (Or.inl rfl))
        (pss_one (ps_expr (pe_bm PySem.F.plainAttrs_list PySem.F.slot_list_append PySem.F.type_list_append mt_append (pv 5) (pa_cons (pcall c__law_value hr (pa_cons (pv 0) (pa_cons (pe_op op_sub (pv 1) pe_int) pa_nil))) pa_nil)))))
      (pss_one (ps_ret (pe_callTy call_tuple_of (by rfl) T.b_tuple (by decide +kernel) (pa_cons (pv 5) pa_nil))))))))), ?_⟩
    refine ⟨_, rfl, p, c, 6, rfl, g0, by decide, by decide, fun ch H1 r0 r1 b1 g1 => ?_⟩
    refine ⟨_, rfl, rfl, _, rfl, ite2 (fun _ => ?_) (fun _ => ?_)⟩
    · refine ⟨_, rfl, p, c, 8, rfl, g1, by decide, by decide, fun pk H2 p0 p1 b2 g2 => ?_⟩
      refine ⟨_, _, rfl, rfl, ⟨by decide, by decide, by decide⟩, _, _, rfl, rfl, _, _, rfl, rfl, ⟨by decide, by decide, by decide⟩, ?_⟩
      refine ⟨_, rfl, p, c, 1000, rfl, g2, by decide, by decide, fun n6 H3 a0 a1 b3 g3 => ?_⟩
      refine ⟨_, rfl, _, _, rfl, rfl, ⟨by decide, by decide, by decide⟩, p, c, 10 ^ 24, rfl, g3, by decide, by decide, fun n7 H4 c0 c1 b4 g4 => ?_⟩
      refine ⟨by show 8 ≤ sizeLine; omega, fun D nD => ?_⟩
      obtain ⟨x, hx, x0, x1⟩ := pick_at n6 n7 ⟨a0, by omega⟩ ⟨c0, c1⟩ p0 p1
      refine ⟨_, rfl, D, _, pk, .int x, rfl, rfl, SqL.of upd_same, hx, ?_⟩
      have pD := g4.ne nD
      refine ⟨_, rfl, _, rfl, p, c, 2, rfl, g4.upd pD, by decide, by decide, fun sg H5 s0 s1 b5 g5 => ?_⟩
      refine ⟨_, _, rfl, rfl, .inl ⟨by decide, by decide⟩, _, _, rfl, rfl, _, _, rfl, rfl, .inr ⟨by omega, by omega⟩, ?_⟩
      have hz : sg = 0 ∨ sg = 1 := by omega
      have hab : (x * (1 - 2 * sg)).natAbs < 10 ^ 24 := by
        rcases hz with h | h <;> rw [h] <;> omega
      refine q _ (.int (x * (1 - 2 * sg))) H5 (.int _) hab (Nat.zero_le _) ?_ (b1.trans (b2.trans (b3.trans ((b4.new nD).trans b5)))) g5
      exact Nat.le_trans (numI_len hab) (siz_le n)
    · refine ⟨_, rfl, _, _, rfl, rfl, _, rfl, ?_⟩
      have hstr : ∀ z H', (tl z).length ≤ 5 → (∀ c ∈ tl z, Pr c) → But p H1 H' → Bag p c H' → Q (.str z) H' := fun z H' hz hp b2 g2 => by
        have hn := numL_len (n := (tl z).length) (k := 1) (by omega) (by omega)
        have hsz := siz_le n
        refine q _ (.str z) H' (.str z) hp (Nat.zero_le _) ?_ (b1.trans b2) g2
        rw [enc, List.length_append, List.length_cons]; omega
      by_cases h3 : ch < 3
      · refine dT h3 (iteT ?_)
        exact ⟨_, rfl, p, c, rfl, g1, hstr⟩
      · refine dF h3 ⟨_, rfl, rfl, _, rfl, ?_⟩
        cases n with
        | zero =>
          refine dT rfl ?_
          exact ⟨_, rfl, p, c, rfl, g1, hstr⟩
        | succ m =>
          refine dF (by intro z; have := V.int.inj z; omega) ?_
          refine ⟨by decide, fun l nl => ?_⟩
          have pl := g1.ne nl
          have nl0 := b1.free nl pl.symm
          refine ⟨_, rfl, p, c, 4, rfl, g1.upd pl, by decide, by decide, fun r H2 s0 s1 b2 g2 => ?_⟩
          refine ⟨r, rfl, by omega, by omega, for_range (lo := 0) (n := r.toNat) (fun i σ H' => ∃ (xs : List V) (ds : List D) (v : Option V), σ = [some (.ref p), some (.int ((m + 1 : Nat) : Int)), some (.int ch), none, none, some (.ref l), v] ∧ H' l = some (.lst xs) ∧ Reps K H' xs ds ∧ ds.length = i ∧ oks ds ∧
            deps ds ≤ m ∧ (encs ds).length ≤ i * (siz m + 1) ∧ But p H H' ∧ Bag p c H') ?_ ?_ ?_⟩
          · refine ⟨[], [], none, rfl, b2 l _ upd_same pl.symm, .nil, rfl, trivial, Nat.zero_le _, Nat.zero_le _, (b1.new nl).trans b2, g2⟩
          · rintro i σ H' hi ⟨xs, ds, v, rfl, hl, hrs, e1, ho, hdp, hsz, b3, g3⟩
            have hxl := hrs.length
            refine ⟨_, rfl, .inl ⟨rfl, _, SqL.of hl⟩, _, rfl, _, rfl, _, _, rfl, rfl, m, rfl, p, c, ?_, g3, fun u d H4 ru hd dd dl b4 g4 => ?_⟩
            · show [V.ref p, V.int (((m + 1 : Nat) : Int) - 1)] = [V.ref p, V.int (m : Int)]
              rw [show ((m + 1 : Nat) : Int) - 1 = (m : Int) by omega]
            · have hl4 := b4 l _ hl pl.symm
              have b5 : But l H4 (upd H4 l (.lst (xs ++ [u]))) := but_upd _
              refine ⟨l, xs, u, rfl, rfl, hl4, by omega, xs ++ [u], ds ++ [d], _, rfl, upd_same, ?_, by rw [List.length_append, e1]; rfl, oks_snoc ho hd, deps_snoc hdp dd, ?_, (b3.trans b4).later nl0, g4.upd pl⟩
              · exact (hrs.mono fun b ys h => b5.seqT hl4 (g3.seqT b4 h)).snoc (ru.mono fun b ys h => b5.seqT hl4 h)
              · rw [encs_append, encs_one, List.length_append, List.length_append, List.length_singleton, Nat.succ_mul]
                omega
          · rintro σ H' ⟨xs, ds, v, rfl, hl, hrs, e1, ho, hdp, hsz, b3, g3⟩
            refine ⟨_, rfl, l, xs, rfl, .inl ⟨SqL.of hl, fun a na => ?_⟩⟩
            have pa := g3.ne na
            refine q (.ref a) (.tup ds) _ (.tup (SqT.of upd_same) (hrs.mono fun b ys h => same_seqT (same_new na _) h)) ho (Nat.succ_le_succ hdp) ?_ (b3.new na) (g3.upd pa)
            have hr3 : r.toNat ≤ 3 := by omega
            have hm : r.toNat * (siz m + 1) ≤ 3 * (siz m + 1) := Nat.mul_le_mul_right _ hr3
            rw [enc, List.length_cons, List.length_append, List.length_singleton]
            show (encs ds).length + 1 + 1 ≤ 3 * (siz m + 1) + 2
            omega
end
end Mus

set_option maxRecDepth 100000
set_option maxHeartbeats 4000000
namespace Mus
open PySem L2 Txt4 TL PySem.NumText
section
variable {P : Program} {w : World} {K : PySem.W.Frag} {mg : Str → Option Value} {base : Heap}
def mk_value (T : Tx mg) (aV : DefAt K mg "_law_value" P__law_value s__law_value) (c__law_draw : DefOk P w K mg base CX0 "_law_draw" P__law_draw 1 (sp__law_draw)) (c__law_string : DefOk P w K mg base CX0 "_law_string" P__law_string 2 (sp__law_string)) : ∀ n : Nat, DefOk P w K mg base CX0 "_law_value" P__law_value (2 + n + 1) (sp__law_value K n)
  | 0 =>
    let t : DefOk P w K mg base CX0 "_law_value" P__law_value (2 + 0) (spv (sp__law_value K) 0) := aV.ok fun _ => no_call (by
      rintro vs H Q E ⟨m, h, _⟩
      omega)
    aV.ok fun F => ok__law_value T t c__law_draw c__law_string F
  | n + 1 =>
    let r := mk_value T aV c__law_draw c__law_string n
    let t : DefOk P w K mg base CX0 "_law_value" P__law_value (2 + (n + 1)) (spv (sp__law_value K) (n + 1)) := ⟨r.f, r.fd, r.G.imp (by
      rintro vs H Q E ⟨m, h, q⟩
      have e : n = m := by omega
      subst e
      exact q), r.m, r.kp, r.b⟩
    aV.ok fun F => ok__law_value T t c__law_draw c__law_string F
abbrev s__law_nested : Stmt := top 28
abbrev N__law_nested : List Str := ["bag", "value", "k"]
abbrev P__law_nested : List Str := ["bag", "value"]
theorem sc__law_nested : FnScope N__law_nested P__law_nested (defScope s__law_nested) := ⟨rfl, rfl, rfl, by decide +kernel, rfl, by decide +kernel, by decide +kernel⟩
def sp__law_nested (K : PySem.W.Frag) : Sp := fun vs H Q _ => ∃ (p : Addr) (c : Int) (v : V) (d : D), vs = [.ref p, v] ∧ Bag p c H ∧ Rep K H v d ∧ Txt4.ok d ∧ dep d ≤ 3 ∧ (enc d).length ≤ 740 ∧ ∀ v d H', Rep K H' v d → Txt4.ok d → dep d ≤ 7 → (enc d).length ≤ 780 → But p H H' → Bag p c H' → Q v H'
theorem ok__law_nested {f : Addr} {fd : FuncData} (T : Tx mg) (c__law_draw : DefOk P w K mg base CX0 "_law_draw" P__law_draw 1 (sp__law_draw))(F : Fun K "_law_nested" "_law_nested" s__law_nested f fd) : FnOk P w K mg base CX0 (2) f fd P__law_nested (sp__law_nested K) := by
  have nd := sc__law_nested.nd
  refine F.ok sc__law_nested (fun vs H Q E h => ?_) (fun cdv A outer s H vs Q E hr h => ?_)
  · obtain ⟨_, _, _, _, rfl, _⟩ := h
    rfl
  · obtain ⟨p, c, v, d, rfl, g0, rv, hd, dd, dl, q⟩ := h
    have hs := sl
    refine ⟨_, (pss_cons (ps_if (pt_cmpR op_eq (pcall c__law_draw hr (pa_cons (pv 0) (pa_cons pe_int pa_nil))) pe_int (nomark _))
        (pss_one (ps_for PassesOwn.never rfl (pi_range1 (by rfl) T.b_range (pa_cons (pcall c__law_draw hr (pa_cons (pv 0) (pa_cons pe_int pa_nil))) pa_nil)) (pg_name (i := 2) nd rfl (Or.inl rfl))
          (pss_one (ps_if (pt_cmpR op_eq (pcall c__law_draw hr (pa_cons (pv 0) (pa_cons pe_int pa_nil))) pe_int (nomark _))
            (pss_one (ps_set (i := 1) nd rfl (Or.inl rfl) (pe_tup (pa_cons (pv 1) (pa_cons (pcall c__law_draw hr (pa_cons (pv 0) (pa_cons pe_int pa_nil))) pa_nil)))))
            (pss_one (ps_set (i := 1) nd rfl (Or.inl rfl) (pe_tup (pa_cons (pv 1) pa_nil))))))))
        pss_nil)
      (pss_one (ps_ret (pv 1)))), ?_⟩
    refine ⟨_, rfl, p, c, 3, rfl, g0, by decide, by decide, fun r0 H1 _ _ b1 g1 => ?_⟩
    have rv1 := rv.mono fun a xs h => g0.seqT b1 h
    refine ⟨rfl, _, rfl, ite2 (fun _ => ?_) (fun _ => ?_)⟩
    · refine ⟨_, rfl, p, c, 5, rfl, g1, by decide, by decide, fun r H2 s0 s1 b2 g2 => ?_⟩
      refine ⟨r, rfl, by omega, by omega, for_range (lo := 0) (n := r.toNat) (fun i σ H' => ∃ (u : V) (e : D) (x : Option V), σ = [some (.ref p), some u, x] ∧ Rep K H' u e ∧ Txt4.ok e ∧ dep e ≤ 3 + i ∧ (enc e).length ≤ 740 + 10 * i ∧ But p H H' ∧ Bag p c H') ?_ ?_ ?_⟩
      · exact ⟨v, d, none, rfl, rv1.mono fun a xs h => g1.seqT b2 h, hd, by omega, by omega, b1.trans b2, g2⟩
      · rintro i σ H' hi ⟨u, e, x, rfl, ru, he, de, le, b3, g3⟩
        refine ⟨_, rfl, p, c, 3, rfl, g3, by decide, by decide, fun r4 H4 _ _ b4 g4 => ?_⟩
        have ru4 := ru.mono fun a xs h => g3.seqT b4 h
        refine ⟨rfl, _, rfl, ite2 (fun _ => ?_) (fun _ => ?_)⟩
        · refine ⟨_, rfl, _, rfl, p, c, 12, rfl, g4, by decide, by decide, fun k H5 k0 k1 b5 g5 => ?_⟩
          refine ⟨by show 2 ≤ sizeLine; omega, fun a na => ?_⟩
          have s6 := same_new na (.tup [u, .int k])
          have hk : k.natAbs < 10 ^ 24 := by omega
          have lk : (numI k).length ≤ 2 := by
            have z := numL_len (n := k.natAbs) (k := 2) (by omega) (by omega)
            unfold numI; rw [if_neg (by omega)]; exact z
          refine ⟨.ref a, .tup [e, .int k], _, rfl, .tup (SqT.of upd_same) (.cons (ru4.mono fun b ys h => same_seqT s6 (g4.seqT b5 h)) (.cons (.int k) .nil)), ⟨he, hk, trivial⟩, ?_, ?_, (b3.trans (b4.trans b5)).new na, g5.upd (g5.ne na)⟩
          · show max (dep e) (max 0 0) + 1 ≤ 3 + (i + 1)
            omega
          · have e1 : (enc (.tup [e, .int k])).length = (enc e).length + ((numI k).length + 4) := by
              show (40 :: ((enc e ++ 59 :: (numI k ++ 59 :: [])) ++ [41])).length = _
              simp only [List.length_cons, List.length_append, List.length_nil]
              omega
            omega
        · refine ⟨_, rfl, by show 1 ≤ sizeLine; omega, fun a na => ?_⟩
          have s6 := same_new na (.tup [u])
          refine ⟨.ref a, .tup [e], _, rfl, .tup (SqT.of upd_same) (.cons (ru4.mono fun b ys h => same_seqT s6 h) .nil), ⟨he, trivial⟩, ?_, ?_, (b3.trans b4).new na, g4.upd (g4.ne na)⟩
          · show max (dep e) 0 + 1 ≤ 3 + (i + 1)
            omega
          · have e1 : (enc (.tup [e])).length = (enc e).length + 3 := by
              show (40 :: ((enc e ++ 59 :: []) ++ [41])).length = _
              simp only [List.length_cons, List.length_append, List.length_nil]
            omega
      · rintro σ H' ⟨u, e, x, rfl, ru, he, de, le, b3, g3⟩
        exact ⟨_, rfl, q u e H' ru he (by omega) (by omega) b3 g3⟩
    · exact ⟨_, rfl, q v d H1 rv1 hd (by omega) (by omega) b1 g1⟩
abbrev s__law_same : Stmt := top 29
abbrev N__law_same : List Str := ["one", "other", "k"]
abbrev P__law_same : List Str := ["one", "other"]
theorem sc__law_same : FnScope N__law_same P__law_same (defScope s__law_same) := ⟨rfl, rfl, rfl, by decide +kernel, rfl, by decide +kernel, by decide +kernel⟩
def sp__law_same (K : PySem.W.Frag) (n : Nat) : Sp := fun vs H Q _ => ∃ (v u : V) (d e : D), vs = [v, u] ∧ Rep K H v d ∧ Rep K H u e ∧ dep d ≤ n ∧ (enc d).length ≤ 100000 ∧ ∀ b : Bool, (b = true ↔ d = e) → Q (.bl b) H
theorem rep_ty {K : PySem.W.Frag} {H : Hp} {v : V} {d : D} (h : Rep K H v d) : (∃ ds, d = .tup ds ∧ TyX K H v (.type "tuple")) ∨ (∃ z, d = .str z ∧ v = .str z) ∨ (∃ i, d = .int i ∧ v = .int i) := by
  cases h with
  | int i => exact .inr (.inr ⟨i, rfl, rfl⟩)
  | str z => exact .inr (.inl ⟨z, rfl, rfl⟩)
  | tup h _ => exact .inl ⟨_, rfl, tup_ty h⟩
theorem ok__law_same {f : Addr} {fd : FuncData} (T : Tx mg) {n : Nat} (c__law_same : DefOk P w K mg base CX0 "_law_same" P__law_same (1 + n) (spv (sp__law_same K) n))(F : Fun K "_law_same" "_law_same" s__law_same f fd) : FnOk P w K mg base CX0 (1 + n + 1) f fd P__law_same (sp__law_same K n) := by
  have nd := sc__law_same.nd
  refine F.ok sc__law_same (fun vs H Q E h => ?_) (fun cdv A outer s H vs Q E hr h => ?_)
  · obtain ⟨_, _, _, _, rfl, _⟩ := h
    rfl
  · obtain ⟨v, u, d, e, rfl, rv, ru, hn, hl, q⟩ := h
    have hs := sl
    refine ⟨_, (pss_cons (ps_if (pt_val (pe_callB call_isi (by rfl) T.b_isinstance (by decide +kernel) (pa_cons (pv 0) (pa_cons (pe_ty "tuple" T.b_tuple) pa_nil))))
        (pss_cons (ps_if (PW.pt (pw_or (pt_not (pt_val (pe_callB call_isi (by rfl) T.b_isinstance (by decide +kernel) (pa_cons (pv 1) (pa_cons (pe_ty "tuple" T.b_tuple) pa_nil))))) (pw_or1 (pt_cmpR op_ne (pe_callB call_len_seq (by rfl) T.b_len (by decide +kernel) (pa_cons (pv 0) pa_nil)) (pe_callB call_len_seq (by rfl) T.b_len (by decide +kernel) (pa_cons (pv 1) pa_nil)) (nomark _)))))
          (pss_one (ps_ret pe_bl))
          pss_nil)
        (pss_cons (ps_for PassesOwn.never rfl (pi_range1 (by rfl) T.b_range (pa_cons (pe_callB call_len_seq (by rfl) T.b_len (by decide +kernel) (pa_cons (pv 0) pa_nil)) pa_nil)) (pg_name (i := 2) nd rfl (Or.inl rfl))
          (pss_one (ps_if (pt_not (pt_val (pcall c__law_same hr (pa_cons (pe_ix ix_tup (pv 0) (pv 2) (fun _ _ => rfl)) (pa_cons (pe_ix ix_tup (pv 1) (pv 2) (fun _ _ => rfl)) pa_nil)))))
            (pss_one (ps_ret pe_bl))
            pss_nil)))
        (pss_one (ps_ret pe_bl))))
        pss_nil)
      (pss_cons (ps_if (pt_val (pe_callB call_isi (by rfl) T.b_isinstance (by decide +kernel) (pa_cons (pv 0) (pa_cons (pe_ty "str" T.b_str) pa_nil))))
        (pss_one (ps_ret (pe_and (pe_callB call_isi (by rfl) T.b_isinstance (by decide +kernel) (pa_cons (pv 1) (pa_cons (pe_ty "str" T.b_str) pa_nil))) (pe_one (pe_cmpR op_eq (pv 0) (pv 1) (nomark _))))))
        pss_nil)
      (pss_one (ps_ret (pe_and (pe_callB call_isi (by rfl) T.b_isinstance (by decide +kernel) (pa_cons (pv 1) (pa_cons (pe_ty "int" T.b_int) pa_nil))) (pe_and (pe_not (pe_callB call_isi (by rfl) T.b_isinstance (by decide +kernel) (pa_cons (pv 1) (pa_cons (pe_ty "bool" T.b_bool) pa_nil)))) (pe_one (pe_cmpR op_eq (pv 0) (pv 1) (nomark _))))))))), ?_⟩
    cases rv with
    | @tup a xs ds ht hr1 =>
      refine ⟨_, rfl, _, _, _, _, true, rfl, .ty _, tup_ty ht, kit_ty (by decide +kernel), _, rfl, iteT ?_⟩
      cases ru with
      | int i =>
        refine ⟨_, rfl, _, _, _, _, false, rfl, .ty _, .base (.int i), kit_ty (by decide +kernel), _, rfl, iteT (iteT ?_)⟩
        exact q false ⟨fun h => (by cases h), fun h => (by cases h)⟩
      | str z =>
        refine ⟨_, rfl, _, _, _, _, false, rfl, .ty _, .base (.str z), kit_ty (by decide +kernel), _, rfl, iteT (iteT ?_)⟩
        exact q false ⟨fun h => (by cases h), fun h => (by cases h)⟩
      | @tup b ys es ht2 hr2 =>
        refine ⟨_, rfl, _, _, _, _, true, rfl, .ty _, tup_ty ht2, kit_ty (by decide +kernel), _, rfl, iteF ?_⟩
        have l1 := hr1.length
        have l2 := hr2.length
        refine ⟨_, rfl, a, xs, rfl, .inr ht, _, rfl, b, ys, rfl, .inr ht2, rfl, _, rfl, ?_⟩
        have hlen : (enc (.tup ds)).length = (encs ds).length + 2 := by rw [enc, List.length_cons, List.length_append, List.length_singleton]
        have hz3 := encs_len ds
        by_cases hle : xs.length = ys.length
        · refine nF (by rw [hle]) ?_
          refine ⟨_, rfl, a, xs, rfl, .inr ht, (xs.length : Int), rfl, by omega, by omega, for_range (lo := 0) (n := ((xs.length : Nat) : Int).toNat) (fun i σ H' => H' = H ∧ ∃ x, σ = [some (.ref a), some (.ref b), x] ∧ ds.take i = es.take i) ⟨rfl, none, rfl, rfl⟩ ?_ ?_⟩
          · rintro i σ H' hi ⟨rfl, x, rfl, et⟩
            have hi1 : i < xs.length := by omega
            have hx : xs[i]? = some xs[i] := List.getElem?_eq_getElem hi1
            have hy : ys[i]? = some ys[i] := List.getElem?_eq_getElem (by omega)
            obtain ⟨d1, hd1, r1⟩ := hr1.at hx
            obtain ⟨e1, he1, r2⟩ := hr2.at hy
            have dd := deps_at hd1
            have hk : dep (.tup ds) = deps ds + 1 := by rw [dep]
            have ed := encs_take hd1
            have ele := encs_take_le ds (i + 1)
            have etl : (encs (ds.take (i + 1))).length = (encs (ds.take i)).length + ((enc d1).length + 1) := by rw [ed, List.length_append, List.length_append, List.length_singleton]
            refine ⟨_, rfl, _, rfl, a, xs, _, xs[i], rfl, rfl, ht, (by rw [Int.zero_add]; exact atI_nat hx), _, rfl, _, rfl, b, ys, _, ys[i], rfl, rfl, ht2, (by rw [Int.zero_add]; exact atI_nat hy), n - 1, by omega, xs[i], ys[i], d1, e1, rfl, r1, r2, by omega, by omega, fun t ht3 => ⟨_, rfl, ?_⟩⟩
            cases t with
            | true =>
              refine iteF ⟨rfl, _, rfl, ?_⟩
              rw [take_more hd1, take_more he1, et, ht3.mp rfl]
            | false =>
              refine iteT (q false ⟨fun h => (by cases h), fun h => ?_⟩)
              have h2 : ds = es := D.tup.inj h
              rw [h2, he1] at hd1
              have := ht3.mpr (Option.some.inj hd1).symm
              cases this
          · rintro σ H' ⟨rfl, x, rfl, et⟩
            refine q true ⟨fun _ => ?_, fun _ => rfl⟩
            have z1 : ((xs.length : Nat) : Int).toNat = ds.length := by omega
            rw [z1, List.take_length, show ds.length = es.length by omega, List.take_length] at et
            rw [et]
        · refine nT (by intro z; have := V.int.inj z; omega) ?_
          refine q false ⟨fun h => (by cases h), fun h => ?_⟩
          have h2 : ds = es := D.tup.inj h
          rw [h2] at l1
          omega
    | str z =>
      refine ⟨_, rfl, _, _, _, _, false, rfl, .ty _, .base (.str z), kit_ty (by decide +kernel), _, rfl, iteF ?_⟩
      refine ⟨_, rfl, _, _, _, _, true, rfl, .ty _, .base (.str z), kit_ty (by decide +kernel), _, rfl, iteT ?_⟩
      cases ru with
      | int i =>
        refine ⟨_, rfl, _, _, _, _, false, rfl, .ty _, .base (.int i), kit_ty (by decide +kernel), _, rfl, iteF ?_⟩
        exact q false ⟨fun h => (by cases h), fun h => (by cases h)⟩
      | @tup b ys es ht2 hr2 =>
        refine ⟨_, rfl, _, _, _, _, false, rfl, .ty _, tup_ty ht2, kit_ty (by decide +kernel), _, rfl, iteF ?_⟩
        exact q false ⟨fun h => (by cases h), fun h => (by cases h)⟩
      | str y =>
        refine ⟨_, rfl, _, _, _, _, true, rfl, .ty _, .base (.str y), kit_ty (by decide +kernel), _, rfl, iteT ?_⟩
        refine ⟨_, rfl, _, rfl, rfl, q _ ⟨fun h => ?_, fun h => ?_⟩⟩
        · have h2 := of_decide_eq_true h
          rw [V.str.inj h2]
        · rw [D.str.inj h]; exact decide_eq_true rfl
    | int i =>
      refine ⟨_, rfl, _, _, _, _, false, rfl, .ty _, .base (.int i), kit_ty (by decide +kernel), _, rfl, iteF ?_⟩
      refine ⟨_, rfl, _, _, _, _, false, rfl, .ty _, .base (.int i), kit_ty (by decide +kernel), _, rfl, iteF ?_⟩
      cases ru with
      | str z =>
        refine ⟨_, rfl, _, _, _, _, false, rfl, .ty _, .base (.str z), kit_ty (by decide +kernel), _, rfl, iteF ?_⟩
        exact q false ⟨fun h => (by cases h), fun h => (by cases h)⟩
      | @tup b ys es ht2 hr2 =>
        refine ⟨_, rfl, _, _, _, _, false, rfl, .ty _, tup_ty ht2, kit_ty (by decide +kernel), _, rfl, iteF ?_⟩
        exact q false ⟨fun h => (by cases h), fun h => (by cases h)⟩
      | int j =>
        refine ⟨_, rfl, _, _, _, _, true, rfl, .ty _, .base (.int j), kit_ty (by decide +kernel), _, rfl, iteT ?_⟩
        refine ⟨_, rfl, _, _, _, _, false, rfl, .ty _, .base (.int j), kit_ty (by decide +kernel), _, rfl, _, rfl, iteT ?_⟩
        refine ⟨_, rfl, _, rfl, rfl, q _ ⟨fun h => ?_, fun h => ?_⟩⟩
        · have h2 := of_decide_eq_true h
          rw [V.int.inj h2]
        · rw [D.int.inj h]; exact decide_eq_true rfl
def mk_same (T : Tx mg) (aS : DefAt K mg "_law_same" P__law_same s__law_same) : ∀ n : Nat, DefOk P w K mg base CX0 "_law_same" P__law_same (1 + n + 1) (sp__law_same K n)
  | 0 =>
    let t : DefOk P w K mg base CX0 "_law_same" P__law_same (1 + 0) (spv (sp__law_same K) 0) := aS.ok fun _ => no_call (by
      rintro vs H Q E ⟨m, h, _⟩
      omega)
    aS.ok fun F => ok__law_same T t F
  | n + 1 =>
    let r := mk_same T aS n
    let t : DefOk P w K mg base CX0 "_law_same" P__law_same (1 + (n + 1)) (spv (sp__law_same K) (n + 1)) := ⟨r.f, r.fd, r.G.imp (by
      rintro vs H Q E ⟨m, h, q⟩
      have e : n = m := by omega
      subst e
      exact q), r.m, r.kp, r.b⟩
    aS.ok fun F => ok__law_same T t F
end
end Mus

set_option maxRecDepth 100000
set_option maxHeartbeats 4000000
namespace Mus
open PySem L2 Txt4 TL PySem.NumText
theorem starts_tl {x y : Str} (hy : tl y ≠ []) (h : Txt.startswith x y = true) : ∃ r, tl x = tl y ++ r := by
  have h1 : (0 + y.length ≤ x.length) ∧ Builtin.Str.subAt x y 0 = true := by
    unfold Txt.startswith at h
    rw [Bool.and_eq_true, decide_eq_true_eq] at h
    exact h
  have h2 := (at_iff hy 0).mp h1
  rw [List.drop_zero] at h2
  unfold pre at h2
  have h3 : (tl x).take (tl y).length = tl y := eq_of_beq h2
  refine ⟨(tl x).drop (tl y).length, ?_⟩
  rw [← h3, List.length_take]
  have hl : (tl y).length ≤ (tl x).length := by
    have := congrArg List.length h3
    rw [List.length_take] at this
    omega
  rw [Nat.min_eq_left hl, List.take_append_drop]
section
variable {P : Program} {w : World} {K : PySem.W.Frag} {mg : Str → Option Value} {base : Heap}
/-- a row of the law: a value and its text -/
inductive Row (K : PySem.W.Frag) (H : Hp) : V → D → Prop
  | mk {b : Addr} {v : V} {y : Str} {d : D} : SqT K H b [v, .str y] → Rep K H v d → Txt4.ok d → tl y = enc d → dep d ≤ 8 → (enc d).length ≤ 100000 → Row K H (.ref b) d
theorem Row.mono {H H' : Hp} {v : V} {d : D} (h : Row K H v d) (k : ∀ a xs, SqT K H a xs → SqT K H' a xs) : Row K H' v d := by
  cases h with
  | mk h1 h2 h3 h4 h5 h6 => exact .mk (k _ _ h1) (h2.mono k) h3 h4 h5 h6
def Rows (K : PySem.W.Frag) (H : Hp) (l : Addr) (n : Nat) : Prop := ∃ ts : List V, H l = some (.lst ts) ∧ (∀ t ∈ ts, ∃ d, Row K H t d) ∧ ts.length ≤ n
abbrev s_law : Stmt := top 30
abbrev N_law : List Str := ["script", "rows", "last", "k", "bag", "value", "one", "text", "other"]
abbrev P_law : List Str := ["script"]
theorem sc_law : FnScope N_law P_law (defScope s_law) := ⟨rfl, rfl, rfl, by decide +kernel, rfl, by decide +kernel, by decide +kernel⟩
def sp_law (K : PySem.W.Frag) : Sp := fun vs H Q _ => ∃ (a : Addr) (ns : List Int), vs = [.ref a] ∧ SqL K H a (ns.map V.int) ∧ ns.length ≤ 63 ∧ ∀ H', Q (.bl true) H'
theorem ok_law {f : Addr} {fd : FuncData} (T : Tx mg) (c__law_bag : DefOk P w K mg base CX0 "_law_bag" P__law_bag 1 (sp__law_bag K)) (c__law_draw : DefOk P w K mg base CX0 "_law_draw" P__law_draw 1 (sp__law_draw)) (c__law_value : DefOk P w K mg base CX0 "_law_value" P__law_value 6 (sp__law_value K 3)) (c__law_nested : DefOk P w K mg base CX0 "_law_nested" P__law_nested 2 (sp__law_nested K)) (c__law_same : DefOk P w K mg base CX0 "_law_same" P__law_same 10 (sp__law_same K 8)) (c_encode : DefOk P w K mg base CX0 "encode" P_encode 21 (sp_encode K)) (c_decode : DefOk P w K mg base CX0 "decode" P_decode 21 (sp_decode K))(F : Fun K "law" "law" s_law f fd) : FnOk P w K mg base CX0 (30) f fd P_law (sp_law K) := by
  have nd := sc_law.nd
  refine F.ok sc_law (fun vs H Q E h => ?_) (fun cdv A outer s H vs Q E hr h => ?_)
  · obtain ⟨_, _, rfl, _⟩ := h
    rfl
  · obtain ⟨a, ns, rfl, hS, h63, q⟩ := h
    have hs := sl
    refine ⟨_, (pss_cons (ps_set (i := 1) nd rfl (Or.inl rfl) (pe_lst pa_nil))
      (pss_cons (ps_set (i := 2) nd rfl (Or.inl rfl) (pe_tup pa_nil))
      (pss_cons (ps_for PassesOwn.never rfl (pi_range1 (by rfl) T.b_range (pa_cons (pe_callB (call_max2 rfl) (by rfl) T.b_max (by decide +kernel) (pa_cons pe_int (pa_cons (pe_callB (call_min2 rfl) (by rfl) T.b_min (by decide +kernel) (pa_cons pe_int (pa_cons (pe_callB call_len_seq (by rfl) T.b_len (by decide +kernel) (pa_cons (pv 0) pa_nil)) pa_nil))) pa_nil))) pa_nil)) (pg_name (i := 3) nd rfl (Or.inl rfl))
        (pss_cons (ps_set (i := 4) nd rfl (Or.inl rfl) (pcall c__law_bag hr (pa_cons (pv 0) (pa_cons (pv 3) pa_nil))))
        (pss_cons (ps_set (i := 5) nd rfl (Or.inl rfl) (pcall c__law_nested hr (pa_cons (pv 4) (pa_cons (pcall c__law_value hr (pa_cons (pv 4) (pa_cons pe_int pa_nil))) pa_nil))))
        (pss_cons (ps_for PassesOwn.never rfl (pi_list (pe_lst (pa_cons (pv 5) (pa_cons (pe_ifExp (PW.pt (pw_and (pt_cmpR op_eq (pcall c__law_draw hr (pa_cons (pv 4) (pa_cons pe_int pa_nil))) pe_int (nomark _)) (pw_and1 (pt_cmpR op_gt (pv 3) pe_int (nomark _))))) (pe_tup (pa_cons (pv 2) (pa_cons (pv 5) pa_nil))) (pe_tup (pa_cons (pv 3) pa_nil))) pa_nil)))) (pg_name (i := 6) nd rfl (Or.inl rfl))
          (pss_cons (ps_set (i := 7) nd rfl (Or.inl rfl) (pcall c_encode hr (pa_cons (pv 6) pa_nil)))
          (pss_cons (ps_if (PW.pt (pw_or (pt_not (pt_val (pe_callB call_isi (by rfl) T.b_isinstance (by decide +kernel) (pa_cons (pv 7) (pa_cons (pe_ty "str" T.b_str) pa_nil))))) (pw_or1 (pt_not (pt_val (pcall c__law_same hr (pa_cons (pv 6) (pa_cons (pcall c_decode hr (pa_cons (pv 7) pa_nil)) pa_nil))))))))
            (pss_one (ps_ret pe_bl))
            pss_nil)
          (pss_one (ps_expr (pe_bm PySem.F.plainAttrs_list PySem.F.slot_list_append PySem.F.type_list_append mt_append (pv 1) (pa_cons (pe_tup (pa_cons (pv 6) (pa_cons (pv 7) pa_nil))) pa_nil)))))))
        (pss_cons (ps_set (i := 2) nd rfl (Or.inl rfl) (pv 5))
        (pss_one (ps_if (PW.pt (pw_and (pt_cmpR op_gt (pv 3) pe_int (nomark _)) (pw_and1 (pt_cmpR op_eq (pcall c__law_draw hr (pa_cons (pv 4) (pa_cons pe_int pa_nil))) pe_int (nomark _)))))
          (pss_one (ps_set (i := 2) nd rfl (Or.inl rfl) (pv 3)))
          pss_nil)))))))
      (pss_cons (ps_for PassesOwn.never rfl (pi_list (pv 1)) (pg_name (i := 6) nd rfl (Or.inl rfl))
        (pss_one (ps_for PassesOwn.never rfl (pi_list (pv 1)) (pg_name (i := 8) nd rfl (Or.inl rfl))
          (pss_cons (ps_if (pt_cmpR op_ne (pe_cmpR op_eq (pe_ix ix_tup (pv 6) pe_int (fun _ _ => rfl)) (pe_ix ix_tup (pv 8) pe_int (fun _ _ => rfl)) (nomark _)) (pcall c__law_same hr (pa_cons (pe_ix ix_tup (pv 6) pe_int (fun _ _ => rfl)) (pa_cons (pe_ix ix_tup (pv 8) pe_int (fun _ _ => rfl)) pa_nil))) (nomark _))
            (pss_one (ps_ret pe_bl))
            pss_nil)
          (pss_one (ps_if (pt_val (pe_m1 PySem.F.slot_str_startswith PySem.F.type_str_startswith mt_startswith (pe_ix ix_tup (pv 8) pe_int (fun _ _ => rfl)) (pe_op op_add_str (pe_ix ix_tup (pv 6) pe_int (fun _ _ => rfl)) pe_str)))
            (pss_one (ps_ret pe_bl))
            pss_nil))))))
      (pss_one (ps_ret pe_bl)))))), ?_⟩
    have hl : (ns.map V.int).length = ns.length := List.length_map _
    refine ⟨by decide, fun l nl => ?_⟩
    refine ⟨by decide, fun e0 ne0 => ?_⟩
    have s0 := same_new nl (.lst [])
    have s1 := same_new ne0 (.tup [])
    have le0 : l ≠ e0 := ne_of_none upd_same ne0
    have hj : ∀ L : Int, 0 ≤ L → 0 ≤ (if (if L < 14 then L else 14) > 1 then (if L < 14 then L else 14) else 1) ∧ (if (if L < 14 then L else 14) > 1 then (if L < 14 then L else 14) else 1) ≤ 14 := by
      intro L h
      split <;> split <;> omega
    have hj' := hj (((ns.map V.int).length : Nat) : Int) (by omega)
    refine ⟨_, rfl, a, _, rfl, .inl (same_new ne0 _ |>.seq (s0.seq hS)), _, _, rfl, _, _, rfl, _, rfl, by omega, by omega, for_range (lo := 0) (fun i σ H' => ∃ (last : V) (dl : D) (x3 x4 x5 x6 x7 : Option V), σ = [some (.ref a), some (.ref l), some last, x3, x4, x5, x6, x7, none] ∧ Same H H' ∧
      Rows K H' l (2 * i) ∧ Rep K H' last dl ∧ Txt4.ok dl ∧ dep dl ≤ 7 ∧ (enc dl).length ≤ 780) ?_ ?_ ?_⟩
    · exact ⟨.ref e0, .tup [], none, none, none, none, none, rfl, s0.trans s1, ⟨[], by rw [upd_ne le0, upd_same], by simp, Nat.le_refl _⟩, .tup (SqT.of upd_same) .nil, trivial, (by decide), (by decide)⟩
    · rintro i σ H1 hi ⟨last, dl, x3, x4, x5, x6, x7, rfl, sH, ⟨ts, hts, hrow, hlen⟩, rl, ol, dpl, lnl⟩
      have hi14 : i < 14 := by omega
      refine ⟨_, rfl, _, rfl, a, ns, i, (by show [V.ref a, V.int (0 + (i : Int))] = _; rw [Int.zero_add]), sH.seq hS, fun p H2 np s2 g2 => ?_⟩
      have pl : p ≠ l := (ne_of_none hts np).symm
      refine ⟨_, rfl, _, rfl, p, (i : Int), rfl, g2, fun v d H3 rv hd dd dl3 b3 g3 => ?_⟩
      refine ⟨p, (i : Int), v, d, rfl, g3, rv, hd, dd, dl3, fun v d H4 rv hd dd dl4 b4 g4 => ?_⟩
      have k2 : ∀ a xs, SqT K H1 a xs → SqT K H4 a xs := fun a xs h => g3.seqT b4 (g2.seqT b3 (same_seqT s2 h))
      have hts4 : H4 l = some (.lst ts) := b4 l _ (b3 l _ (s2 l _ hts) pl.symm) pl.symm
      have sH4 : Same H H4 := fun b o h => by
        have z := sH b o h
        have zp := ne_of_none z np
        exact b4 b o (b3 b o (s2 b o z) zp) zp
      refine ⟨_, rfl, _, rfl, p, (i : Int), 3, rfl, g4, by decide, by decide, fun r H5 _ _ b5 g5 => ?_⟩
      have k5 : ∀ a xs, SqT K H4 a xs → SqT K H5 a xs := fun a xs h => g4.seqT b5 h
      have hts5 : H5 l = some (.lst ts) := b5 l _ hts4 pl.symm
      have sH5 : Same H H5 := fun b o h => b5 b o (sH4 b o h) (ne_of_none (sH b o h) np)
      have kk : ((i : Int)).natAbs < 10 ^ 24 := by omega
      have lk : (numI (0 + (i : Int))).length ≤ 2 := by
        have z := numL_len (n := ((0 : Int) + (i : Int)).natAbs) (k := 2) (by omega) (by omega)
        unfold numI; rw [if_neg (by omega)]; exact z
      have one : ∀ b, H5 b = none → Rep K (upd H5 b (.tup [.int (0 + (i : Int))])) (.ref b) (.tup [.int (0 + (i : Int))]) := fun b nb => .tup (SqT.of upd_same) (.cons (.int _) .nil)
      have oneOk : Txt4.ok (.tup [.int (0 + (i : Int))]) := ⟨(by show (0 + (i : Int)).natAbs < 10 ^ 24; omega), trivial⟩
      have oneLen : (enc (.tup [.int (0 + (i : Int))])).length ≤ 100000 := by
        show (40 :: ((numI (0 + (i : Int)) ++ 59 :: []) ++ [41])).length ≤ _
        simp only [List.length_cons, List.length_append, List.length_nil]
        omega
      have pairLen : (enc (.tup [dl, d])).length ≤ 100000 := by
        show (40 :: ((enc dl ++ 59 :: (enc d ++ 59 :: [])) ++ [41])).length ≤ _
        simp only [List.length_cons, List.length_append, List.length_nil]
        omega
      have pairDep : dep (.tup [dl, d]) ≤ 8 := by
        show max (dep dl) (max (dep d) 0) + 1 ≤ 8
        omega
      -- the second value: a tuple b of the data d2
      have go : ∀ (b : Addr) (xs : List V) (d2 : D), H5 b = none → Rep K (upd H5 b (.tup xs)) (.ref b) d2 → Txt4.ok d2 → dep d2 ≤ 8 → (enc d2).length ≤ 100000 →
          ∃ H6 : Hp, H6 = upd H5 b (.tup xs) ∧ Same H H6 ∧ H6 l = some (.lst ts) ∧ (∀ t ∈ ts, ∃ d, Row K H6 t d) ∧ Rep K H6 v d ∧ Rep K H6 (.ref b) d2 ∧ Txt4.ok d2 ∧ dep d2 ≤ 8 ∧ (enc d2).length ≤ 100000 ∧ Bag p i H6 := fun b xs d2 nb r2 o2 p2 l2 => by
        have s6 := same_new nb (.tup xs)
        refine ⟨_, rfl, sH5.trans s6, s6 _ _ hts5, fun t ht => ?_, (rv.mono k5).mono fun a xs h => same_seqT s6 h, r2, o2, p2, l2, g5.upd (g5.ne nb)⟩
        obtain ⟨d, hr⟩ := hrow t ht
        exact ⟨d, hr.mono fun a xs h => same_seqT s6 (k5 _ _ (k2 _ _ h))⟩
      refine ⟨rfl, _, rfl, ite2 (fun _ => ⟨_, rfl, _, _, rfl, rfl, _, rfl, ite2 (fun _ => ?_) (fun _ => ?_)⟩) (fun _ => iteF ?_)⟩
      case' refine_1 => refine ⟨_, rfl, _, rfl, by show 2 ≤ sizeLine; omega, fun b nb => ?_⟩
      case' refine_2 => refine ⟨_, rfl, by show 1 ≤ sizeLine; omega, fun b nb => ?_⟩
      case' refine_3 => refine ⟨_, rfl, by show 1 ≤ sizeLine; omega, fun b nb => ?_⟩
      case' refine_1 => obtain ⟨H6, eH6, sH6, hts6, hrow6, rv6, rb6, ob, db, lb, g6⟩ := go b _ (.tup [dl, d]) nb (.tup (SqT.of upd_same) (.cons (((rl.mono k2).mono k5).mono fun a xs h => same_seqT (same_new nb _) h) (.cons ((rv.mono k5).mono fun a xs h => same_seqT (same_new nb _) h) .nil))) ⟨ol, hd, trivial⟩ pairDep pairLen
      case' refine_2 => obtain ⟨H6, eH6, sH6, hts6, hrow6, rv6, rb6, ob, db, lb, g6⟩ := go b _ _ nb (one b nb) oneOk (by show max 0 0 + 1 ≤ 8; decide) oneLen
      case' refine_3 => obtain ⟨H6, eH6, sH6, hts6, hrow6, rv6, rb6, ob, db, lb, g6⟩ := go b _ _ nb (one b nb) oneOk (by show max 0 0 + 1 ≤ 8; decide) oneLen
      all_goals
        rw [← eH6]
        refine ⟨by show 2 ≤ sizeLine; omega, fun c nc => ?_⟩
        have cl : c ≠ l := (ne_of_none hts6 nc).symm
        have pc : p ≠ c := g6.ne nc
        have s7 := same_new nc (.lst [v, .ref b])
        refine ⟨c, rfl, ⟨_, SqL.of upd_same⟩, for_list (K := K) (a := c) (xs := [v, .ref b]) (fun j σ H' => ∃ (x6 x7 : Option V), σ = [some (.ref a), some (.ref l), some last, some (.int (0 + (i : Int))), some (.ref p), some v, x6, x7, none] ∧ Same H H' ∧ H' c = some (.lst [v, .ref b]) ∧
          Rep K H' v d ∧ (∃ d2, Rep K H' (.ref b) d2 ∧ Txt4.ok d2 ∧ dep d2 ≤ 8 ∧ (enc d2).length ≤ 100000) ∧ Rows K H' l (2 * i + j) ∧ Bag p i H') ?_ ?_ ?_ ?_⟩
        · refine ⟨_, _, rfl, sH6.trans s7, upd_same, rv6.mono fun a xs h => same_seqT s7 h, ⟨_, rb6.mono fun a xs h => same_seqT s7 h, ob, db, lb⟩, ⟨ts, s7 _ _ hts6, fun t ht => ?_, hlen⟩, g6.upd pc⟩
          obtain ⟨d, hr⟩ := hrow6 t ht
          exact ⟨d, hr.mono fun a xs h => same_seqT s7 h⟩
        · rintro j σ H' _ ⟨x6, x7, rfl, _, hc, _⟩
          exact SqL.of hc
        · rintro j x σ H' hx ⟨x6, x7, rfl, sH', hc, rv', ⟨d2, rb', ob', db', lb'⟩, ⟨us, hus, hrow', hlen'⟩, g'⟩
          have hj2 : j < 2 := (List.getElem?_eq_some_iff.mp hx).1
          obtain ⟨e, re, he, de, le⟩ : ∃ e, Rep K H' x e ∧ Txt4.ok e ∧ dep e ≤ 8 ∧ (enc e).length ≤ 100000 := by
            match j, hj2, hx with
            | 0, _, hx => rw [← Option.some.inj hx]; exact ⟨d, rv', hd, by omega, by omega⟩
            | 1, _, hx => rw [← Option.some.inj hx]; exact ⟨d2, rb', ob', db', lb'⟩
          refine ⟨_, rfl, x, e, rfl, re, he, de, le, fun y H7 hy s7 => ?_⟩
          refine ⟨_, rfl, _, _, _, _, true, rfl, .ty _, .base (.str y), kit_ty (by decide +kernel), _, rfl, iteF ?_⟩
          refine ⟨_, rfl, _, rfl, y, e, rfl, hy, he, de, le, fun u H8 s8 ru => ?_⟩
          have s78 := s7.trans s8
          refine ⟨x, u, e, e, rfl, re.mono fun a xs h => same_seqT s78 h, ru, de, le, fun t ht => ?_⟩
          have htt : t = true := ht.mpr rfl
          subst htt
          refine ⟨_, rfl, iteF ?_⟩
          have hus8 := s78 _ _ hus
          refine ⟨_, rfl, .inl ⟨rfl, _, SqL.of hus8⟩, _, rfl, _, rfl, by show 2 ≤ sizeLine; omega, fun t nt => ?_⟩
          have s9 := same_new nt (.tup [x, .str y])
          have hus9 := s9 _ _ hus8
          have lt : l ≠ t := ne_of_none hus8 nt
          have b10 : But l (upd H8 t (.tup [x, .str y])) (upd (upd H8 t (.tup [x, .str y])) l (.lst (us ++ [.ref t]))) := but_upd _
          have k10 : ∀ a xs, SqT K H' a xs → SqT K (upd (upd H8 t (.tup [x, .str y])) l (.lst (us ++ [.ref t]))) a xs := fun a xs h => b10.seqT hus9 (same_seqT s9 (same_seqT s78 h))
          refine ⟨l, us, .ref t, rfl, rfl, hus9, by omega, _, _, rfl, fun b o h => ?_, ?_, rv'.mono k10, ⟨d2, rb'.mono k10, ob', db', lb'⟩, ⟨us ++ [.ref t], upd_same, fun t' ht' => ?_, ?_⟩, ?_⟩
          · exact b10 b o (s9 b o (s78 b o (sH' b o h))) (ne_of_none h nl)
          · exact b10 c _ (s9 c _ (s78 c _ hc)) cl
          · rcases List.mem_append.mp ht' with ht' | ht'
            · obtain ⟨d3, hr3⟩ := hrow' t' ht'
              exact ⟨d3, hr3.mono k10⟩
            · rw [List.mem_singleton.mp ht']
              exact ⟨e, .mk (b10.seqT hus9 (SqT.of upd_same)) (re.mono k10) he hy de le⟩
          · rw [List.length_append, List.length_singleton]; omega
          · obtain ⟨q1, q2, hq⟩ := g'
            exact ⟨q1, q2, b10 p _ (s9 p _ (s78 p _ hq)) pl⟩
        · rintro σ H' ⟨x6, x7, rfl, sH', hc, rv', _, hR, g'⟩
          have hR2 : Rows K H' l (2 * (i + 1)) := hR
          refine ⟨_, rfl, _, rfl, _, _, rfl, rfl, _, rfl, ite2 (fun _ => ?_) (fun _ => iteF ?_)⟩
          · refine ⟨_, rfl, p, (i : Int), 2, rfl, g', by decide, by decide, fun r H9 _ _ b9 g9 => ?_⟩
            have sH9 : Same H H9 := fun b o h => b9 b o (sH' b o h) (ne_of_none (sH b o h) np)
            have hR9 : Rows K H9 l (2 * (i + 1)) := by
              obtain ⟨us, hus, hrow', hlen'⟩ := hR2
              refine ⟨us, b9 _ _ hus pl.symm, fun t ht => ?_, hlen'⟩
              obtain ⟨d3, hr3⟩ := hrow' t ht
              exact ⟨d3, hr3.mono fun a xs h => g'.seqT b9 h⟩
            refine ⟨rfl, _, rfl, ite2 (fun _ => ?_) (fun _ => ?_)⟩
            · exact ⟨_, rfl, .int (0 + (i : Int)), .int (0 + (i : Int)), _, _, _, _, _, rfl, sH9, hR9, .int _, (by show (0 + (i : Int)).natAbs < 10 ^ 24; omega), Nat.zero_le _, (by show (numI (0 + (i : Int))).length ≤ 780; omega)⟩
            · exact ⟨v, d, _, _, _, _, _, rfl, sH9, hR9, rv'.mono fun a xs h => g'.seqT b9 h, hd, dd, dl4⟩
          · exact ⟨v, d, _, _, _, _, _, rfl, sH', hR2, rv', hd, dd, dl4⟩
    · rintro σ Hs ⟨last, dl, x3, x4, x5, x6, x7, rfl, sH, ⟨ts, hts, hrow, hlen⟩, _⟩
      refine ⟨_, rfl, l, rfl, ⟨ts, SqL.of hts⟩, for_list (K := K) (a := l) (xs := ts) (fun i σ H' => H' = Hs ∧ ∃ x3 x4 x5 x6 x7 x8 : Option V, σ = [some (.ref a), some (.ref l), some last, x3, x4, x5, x6, x7, x8]) ⟨rfl, _, _, _, _, _, _, rfl⟩ ?_ ?_ ?_⟩
      · rintro i σ H' _ ⟨rfl, _⟩
        exact SqL.of hts
      · rintro i t1 σ H' ht1 ⟨rfl, x3, x4, x5, x6, x7, x8, rfl⟩
        obtain ⟨d1, hr1⟩ := hrow t1 (List.mem_of_getElem? ht1)
        cases hr1 with
        | @mk b1 v1 y1 _ h1 r1 o1 e1 p1 l1 =>
        refine ⟨_, rfl, l, rfl, ⟨ts, SqL.of hts⟩, for_list (K := K) (a := l) (xs := ts) (fun j σ H2 => H2 = H' ∧ ∃ x8 : Option V, σ = [some (.ref a), some (.ref l), some last, x3, x4, x5, some (.ref b1), x7, x8]) ⟨rfl, _, rfl⟩ ?_ ?_ ?_⟩
        · rintro j σ H2 _ ⟨rfl, _⟩
          exact SqL.of hts
        · rintro j t2 σ H2 ht2 ⟨rfl, x8, rfl⟩
          obtain ⟨d2, hr2⟩ := hrow t2 (List.mem_of_getElem? ht2)
          cases hr2 with
          | @mk b2 v2 y2 _ h2 r2 o2 e2 p2 l2 =>
          refine ⟨_, rfl, b1, _, _, _, rfl, rfl, h1, rfl, _, rfl, b2, _, _, _, rfl, rfl, h2, rfl, rfl, ?_⟩
          refine ⟨_, rfl, b1, _, _, _, rfl, rfl, h1, rfl, _, rfl, b2, _, _, _, rfl, rfl, h2, rfl, v1, v2, d1, d2, rfl, r1, r2, p1, l1, fun t ht => ?_⟩
          refine ⟨rfl, _, rfl, nF ?_ ?_⟩
          · rw [str_eq, e1, e2]
            congr 1
            rw [Bool.eq_iff_iff, decide_eq_true_eq, ht]
            exact ⟨enc_inj, fun h => by rw [h]⟩
          · refine ⟨_, rfl, b2, _, _, _, rfl, rfl, h2, rfl, ⟨_, rfl⟩, _, rfl, b1, _, _, _, rfl, rfl, h1, rfl, _, _, rfl, rfl, ?_, _, _, rfl, rfl, _, rfl, ?_⟩
            · have z1 := len_tl y1
              rw [e1] at z1
              have z2 : (Str.ofString ";").length = 1 := by decide
              omega
            · have hne : Txt.startswith y2 (y1 ++ Str.ofString ";") = false := by
                cases hh : Txt.startswith y2 (y1 ++ Str.ofString ";") with
                | false => rfl
                | true =>
                  exfalso
                  have t2 : tl (Str.ofString ";") = [59] := by decide
                  have z : tl (y1 ++ Str.ofString ";") = enc d1 ++ [59] := by rw [tl_append, e1, t2]
                  obtain ⟨r, hr⟩ := starts_tl (by rw [z]; simp) hh
                  rw [z, e2, List.append_assoc] at hr
                  exact enc_pre hr
              rw [hne]
              exact iteF ⟨rfl, _, rfl⟩
        · rintro σ H2 ⟨rfl, x8, rfl⟩
          exact ⟨rfl, _, _, _, _, _, _, rfl⟩
      · rintro σ H' ⟨rfl, x3, x4, x5, x6, x7, x8, rfl⟩
        exact q _
end
end Mus

set_option maxRecDepth 100000
set_option maxHeartbeats 4000000
namespace Mus
open PySem L2 Txt4 TL PySem.NumText
def at_mk {K : PySem.W.Frag} {h : Heap} {mg : Str → Option Value} {x : Str} {ps : List Str} {st : Stmt} {f : Addr} {oc : Value} {od an : Option Addr} {osl : Array (Option Value)} {kV dc pm cd ct : Value} (X : K.In h) (G : h.Ns mainGlobals mg) (a : PySem.W.nsIn K mainGlobals x = some (some (.ref f)))
    (l : K.lookup f = some ⟨oc, od, .func (PySem.W.fnOf x x (defArgs st) (defBody st) (defScope st) .none kV dc pm an cd ct), osl⟩) (c : PySem.W.codeIn K cd x = true) (k : PySem.W.keepIn K (.ref f) = true)
    (hb : ∀ (kV doc pm : Value) (an : Option Addr) (cdv ct : Value) (us : List Value), us.length = ps.length → bindArgs (PySem.W.fnOf x x (defArgs st) (defBody st) (defScope st) .none kV doc pm an cdv ct) ⟨us, []⟩ = pure (ps.zip us)) : DefAt K mg x ps st :=
  ⟨f, _, fun_mk (st := st) l c k, PySem.W.mg_of X G a, (fun_mk (st := st) l c k).binds hb⟩
theorem all_mk {l : PySem.W.OpenLaw} {w : World} {K : PySem.W.Frag} {h : Heap} {mg : Str → Option Value} {fa : Addr} (X : K.In h) (G : h.Ns mainGlobals mg) (hfa : mg "law" = some (.ref fa))
    {odx_is_printable anx_is_printable : Option Addr} {slx_is_printable : Array (Option Value)} {ocx_is_printable kVx_is_printable dcx_is_printable pmx_is_printable cdx_is_printable ctx_is_printable : Value} {fx_is_printable : Addr}
    {odx__is_printable_character anx__is_printable_character : Option Addr} {slx__is_printable_character : Array (Option Value)} {ocx__is_printable_character kVx__is_printable_character dcx__is_printable_character pmx__is_printable_character cdx__is_printable_character ctx__is_printable_character : Value} {fx__is_printable_character : Addr}
    {odx_is_integer anx_is_integer : Option Addr} {slx_is_integer : Array (Option Value)} {ocx_is_integer kVx_is_integer dcx_is_integer pmx_is_integer cdx_is_integer ctx_is_integer : Value} {fx_is_integer : Addr}
    {odx_encode anx_encode : Option Addr} {slx_encode : Array (Option Value)} {ocx_encode kVx_encode dcx_encode pmx_encode cdx_encode ctx_encode : Value} {fx_encode : Addr}
    {odx__write anx__write : Option Addr} {slx__write : Array (Option Value)} {ocx__write kVx__write dcx__write pmx__write cdx__write ctx__write : Value} {fx__write : Addr}
    {odx__write_tuple anx__write_tuple : Option Addr} {slx__write_tuple : Array (Option Value)} {ocx__write_tuple kVx__write_tuple dcx__write_tuple pmx__write_tuple cdx__write_tuple ctx__write_tuple : Value} {fx__write_tuple : Addr}
    {odx__put anx__put : Option Addr} {slx__put : Array (Option Value)} {ocx__put kVx__put dcx__put pmx__put cdx__put ctx__put : Value} {fx__put : Addr}
    {odx__string_text anx__string_text : Option Addr} {slx__string_text : Array (Option Value)} {ocx__string_text kVx__string_text dcx__string_text pmx__string_text cdx__string_text ctx__string_text : Value} {fx__string_text : Addr}
    {odx__integer_text anx__integer_text : Option Addr} {slx__integer_text : Array (Option Value)} {ocx__integer_text kVx__integer_text dcx__integer_text pmx__integer_text cdx__integer_text ctx__integer_text : Value} {fx__integer_text : Addr}
    {odx_decode anx_decode : Option Addr} {slx_decode : Array (Option Value)} {ocx_decode kVx_decode dcx_decode pmx_decode cdx_decode ctx_decode : Value} {fx_decode : Addr}
    {odx__read anx__read : Option Addr} {slx__read : Array (Option Value)} {ocx__read kVx__read dcx__read pmx__read cdx__read ctx__read : Value} {fx__read : Addr}
    {odx__read_tuple anx__read_tuple : Option Addr} {slx__read_tuple : Array (Option Value)} {ocx__read_tuple kVx__read_tuple dcx__read_tuple pmx__read_tuple cdx__read_tuple ctx__read_tuple : Value} {fx__read_tuple : Addr}
    {odx__read_characters anx__read_characters : Option Addr} {slx__read_characters : Array (Option Value)} {ocx__read_characters kVx__read_characters dcx__read_characters pmx__read_characters cdx__read_characters ctx__read_characters : Value} {fx__read_characters : Addr}
    {odx__read_integer anx__read_integer : Option Addr} {slx__read_integer : Array (Option Value)} {ocx__read_integer kVx__read_integer dcx__read_integer pmx__read_integer cdx__read_integer ctx__read_integer : Value} {fx__read_integer : Addr}
    {odx__digits_end anx__digits_end : Option Addr} {slx__digits_end : Array (Option Value)} {ocx__digits_end kVx__digits_end dcx__digits_end pmx__digits_end cdx__digits_end ctx__digits_end : Value} {fx__digits_end : Addr}
    {odx__law_bag anx__law_bag : Option Addr} {slx__law_bag : Array (Option Value)} {ocx__law_bag kVx__law_bag dcx__law_bag pmx__law_bag cdx__law_bag ctx__law_bag : Value} {fx__law_bag : Addr}
    {odx__law_draw anx__law_draw : Option Addr} {slx__law_draw : Array (Option Value)} {ocx__law_draw kVx__law_draw dcx__law_draw pmx__law_draw cdx__law_draw ctx__law_draw : Value} {fx__law_draw : Addr}
    {odx__law_string anx__law_string : Option Addr} {slx__law_string : Array (Option Value)} {ocx__law_string kVx__law_string dcx__law_string pmx__law_string cdx__law_string ctx__law_string : Value} {fx__law_string : Addr}
    {odx__law_value anx__law_value : Option Addr} {slx__law_value : Array (Option Value)} {ocx__law_value kVx__law_value dcx__law_value pmx__law_value cdx__law_value ctx__law_value : Value} {fx__law_value : Addr}
    {odx__law_nested anx__law_nested : Option Addr} {slx__law_nested : Array (Option Value)} {ocx__law_nested kVx__law_nested dcx__law_nested pmx__law_nested cdx__law_nested ctx__law_nested : Value} {fx__law_nested : Addr}
    {odx__law_same anx__law_same : Option Addr} {slx__law_same : Array (Option Value)} {ocx__law_same kVx__law_same dcx__law_same pmx__law_same cdx__law_same ctx__law_same : Value} {fx__law_same : Addr}
    {odx_law anx_law : Option Addr} {slx_law : Array (Option Value)} {ocx_law kVx_law dcx_law pmx_law cdx_law ctx_law : Value} {fx_law : Addr}
    {tMOST_DIGITS : Tok}
    {tMOST_DEPTH : Tok}
    {tMOST_LENGTH : Tok}
    {t_REFUSED_CODE : Tok}
    (ax_is_printable : PySem.W.nsIn K mainGlobals "is_printable" = some (some (.ref fx_is_printable))) (lx_is_printable : K.lookup fx_is_printable = some ⟨ocx_is_printable, odx_is_printable, .func (PySem.W.fnOf "is_printable" "is_printable" (defArgs s_is_printable) (defBody s_is_printable) (defScope s_is_printable) .none kVx_is_printable dcx_is_printable pmx_is_printable anx_is_printable cdx_is_printable ctx_is_printable), slx_is_printable⟩) (cx_is_printable : PySem.W.codeIn K cdx_is_printable "is_printable" = true) (kx_is_printable : PySem.W.keepIn K (.ref fx_is_printable) = true)
    (ax__is_printable_character : PySem.W.nsIn K mainGlobals "_is_printable_character" = some (some (.ref fx__is_printable_character))) (lx__is_printable_character : K.lookup fx__is_printable_character = some ⟨ocx__is_printable_character, odx__is_printable_character, .func (PySem.W.fnOf "_is_printable_character" "_is_printable_character" (defArgs s__is_printable_character) (defBody s__is_printable_character) (defScope s__is_printable_character) .none kVx__is_printable_character dcx__is_printable_character pmx__is_printable_character anx__is_printable_character cdx__is_printable_character ctx__is_printable_character), slx__is_printable_character⟩) (cx__is_printable_character : PySem.W.codeIn K cdx__is_printable_character "_is_printable_character" = true) (kx__is_printable_character : PySem.W.keepIn K (.ref fx__is_printable_character) = true)
    (ax_is_integer : PySem.W.nsIn K mainGlobals "is_integer" = some (some (.ref fx_is_integer))) (lx_is_integer : K.lookup fx_is_integer = some ⟨ocx_is_integer, odx_is_integer, .func (PySem.W.fnOf "is_integer" "is_integer" (defArgs s_is_integer) (defBody s_is_integer) (defScope s_is_integer) .none kVx_is_integer dcx_is_integer pmx_is_integer anx_is_integer cdx_is_integer ctx_is_integer), slx_is_integer⟩) (cx_is_integer : PySem.W.codeIn K cdx_is_integer "is_integer" = true) (kx_is_integer : PySem.W.keepIn K (.ref fx_is_integer) = true)
    (ax_encode : PySem.W.nsIn K mainGlobals "encode" = some (some (.ref fx_encode))) (lx_encode : K.lookup fx_encode = some ⟨ocx_encode, odx_encode, .func (PySem.W.fnOf "encode" "encode" (defArgs s_encode) (defBody s_encode) (defScope s_encode) .none kVx_encode dcx_encode pmx_encode anx_encode cdx_encode ctx_encode), slx_encode⟩) (cx_encode : PySem.W.codeIn K cdx_encode "encode" = true) (kx_encode : PySem.W.keepIn K (.ref fx_encode) = true)
    (ax__write : PySem.W.nsIn K mainGlobals "_write" = some (some (.ref fx__write))) (lx__write : K.lookup fx__write = some ⟨ocx__write, odx__write, .func (PySem.W.fnOf "_write" "_write" (defArgs s__write) (defBody s__write) (defScope s__write) .none kVx__write dcx__write pmx__write anx__write cdx__write ctx__write), slx__write⟩) (cx__write : PySem.W.codeIn K cdx__write "_write" = true) (kx__write : PySem.W.keepIn K (.ref fx__write) = true)
    (ax__write_tuple : PySem.W.nsIn K mainGlobals "_write_tuple" = some (some (.ref fx__write_tuple))) (lx__write_tuple : K.lookup fx__write_tuple = some ⟨ocx__write_tuple, odx__write_tuple, .func (PySem.W.fnOf "_write_tuple" "_write_tuple" (defArgs s__write_tuple) (defBody s__write_tuple) (defScope s__write_tuple) .none kVx__write_tuple dcx__write_tuple pmx__write_tuple anx__write_tuple cdx__write_tuple ctx__write_tuple), slx__write_tuple⟩) (cx__write_tuple : PySem.W.codeIn K cdx__write_tuple "_write_tuple" = true) (kx__write_tuple : PySem.W.keepIn K (.ref fx__write_tuple) = true)
    (ax__put : PySem.W.nsIn K mainGlobals "_put" = some (some (.ref fx__put))) (lx__put : K.lookup fx__put = some ⟨ocx__put, odx__put, .func (PySem.W.fnOf "_put" "_put" (defArgs s__put) (defBody s__put) (defScope s__put) .none kVx__put dcx__put pmx__put anx__put cdx__put ctx__put), slx__put⟩) (cx__put : PySem.W.codeIn K cdx__put "_put" = true) (kx__put : PySem.W.keepIn K (.ref fx__put) = true)
    (ax__string_text : PySem.W.nsIn K mainGlobals "_string_text" = some (some (.ref fx__string_text))) (lx__string_text : K.lookup fx__string_text = some ⟨ocx__string_text, odx__string_text, .func (PySem.W.fnOf "_string_text" "_string_text" (defArgs s__string_text) (defBody s__string_text) (defScope s__string_text) .none kVx__string_text dcx__string_text pmx__string_text anx__string_text cdx__string_text ctx__string_text), slx__string_text⟩) (cx__string_text : PySem.W.codeIn K cdx__string_text "_string_text" = true) (kx__string_text : PySem.W.keepIn K (.ref fx__string_text) = true)
    (ax__integer_text : PySem.W.nsIn K mainGlobals "_integer_text" = some (some (.ref fx__integer_text))) (lx__integer_text : K.lookup fx__integer_text = some ⟨ocx__integer_text, odx__integer_text, .func (PySem.W.fnOf "_integer_text" "_integer_text" (defArgs s__integer_text) (defBody s__integer_text) (defScope s__integer_text) .none kVx__integer_text dcx__integer_text pmx__integer_text anx__integer_text cdx__integer_text ctx__integer_text), slx__integer_text⟩) (cx__integer_text : PySem.W.codeIn K cdx__integer_text "_integer_text" = true) (kx__integer_text : PySem.W.keepIn K (.ref fx__integer_text) = true)
    (ax_decode : PySem.W.nsIn K mainGlobals "decode" = some (some (.ref fx_decode))) (lx_decode : K.lookup fx_decode = some ⟨ocx_decode, odx_decode, .func (PySem.W.fnOf "decode" "decode" (defArgs s_decode) (defBody s_decode) (defScope s_decode) .none kVx_decode dcx_decode pmx_decode anx_decode cdx_decode ctx_decode), slx_decode⟩) (cx_decode : PySem.W.codeIn K cdx_decode "decode" = true) (kx_decode : PySem.W.keepIn K (.ref fx_decode) = true)
    (ax__read : PySem.W.nsIn K mainGlobals "_read" = some (some (.ref fx__read))) (lx__read : K.lookup fx__read = some ⟨ocx__read, odx__read, .func (PySem.W.fnOf "_read" "_read" (defArgs s__read) (defBody s__read) (defScope s__read) .none kVx__read dcx__read pmx__read anx__read cdx__read ctx__read), slx__read⟩) (cx__read : PySem.W.codeIn K cdx__read "_read" = true) (kx__read : PySem.W.keepIn K (.ref fx__read) = true)
    (ax__read_tuple : PySem.W.nsIn K mainGlobals "_read_tuple" = some (some (.ref fx__read_tuple))) (lx__read_tuple : K.lookup fx__read_tuple = some ⟨ocx__read_tuple, odx__read_tuple, .func (PySem.W.fnOf "_read_tuple" "_read_tuple" (defArgs s__read_tuple) (defBody s__read_tuple) (defScope s__read_tuple) .none kVx__read_tuple dcx__read_tuple pmx__read_tuple anx__read_tuple cdx__read_tuple ctx__read_tuple), slx__read_tuple⟩) (cx__read_tuple : PySem.W.codeIn K cdx__read_tuple "_read_tuple" = true) (kx__read_tuple : PySem.W.keepIn K (.ref fx__read_tuple) = true)
    (ax__read_characters : PySem.W.nsIn K mainGlobals "_read_characters" = some (some (.ref fx__read_characters))) (lx__read_characters : K.lookup fx__read_characters = some ⟨ocx__read_characters, odx__read_characters, .func (PySem.W.fnOf "_read_characters" "_read_characters" (defArgs s__read_characters) (defBody s__read_characters) (defScope s__read_characters) .none kVx__read_characters dcx__read_characters pmx__read_characters anx__read_characters cdx__read_characters ctx__read_characters), slx__read_characters⟩) (cx__read_characters : PySem.W.codeIn K cdx__read_characters "_read_characters" = true) (kx__read_characters : PySem.W.keepIn K (.ref fx__read_characters) = true)
    (ax__read_integer : PySem.W.nsIn K mainGlobals "_read_integer" = some (some (.ref fx__read_integer))) (lx__read_integer : K.lookup fx__read_integer = some ⟨ocx__read_integer, odx__read_integer, .func (PySem.W.fnOf "_read_integer" "_read_integer" (defArgs s__read_integer) (defBody s__read_integer) (defScope s__read_integer) .none kVx__read_integer dcx__read_integer pmx__read_integer anx__read_integer cdx__read_integer ctx__read_integer), slx__read_integer⟩) (cx__read_integer : PySem.W.codeIn K cdx__read_integer "_read_integer" = true) (kx__read_integer : PySem.W.keepIn K (.ref fx__read_integer) = true)
    (ax__digits_end : PySem.W.nsIn K mainGlobals "_digits_end" = some (some (.ref fx__digits_end))) (lx__digits_end : K.lookup fx__digits_end = some ⟨ocx__digits_end, odx__digits_end, .func (PySem.W.fnOf "_digits_end" "_digits_end" (defArgs s__digits_end) (defBody s__digits_end) (defScope s__digits_end) .none kVx__digits_end dcx__digits_end pmx__digits_end anx__digits_end cdx__digits_end ctx__digits_end), slx__digits_end⟩) (cx__digits_end : PySem.W.codeIn K cdx__digits_end "_digits_end" = true) (kx__digits_end : PySem.W.keepIn K (.ref fx__digits_end) = true)
    (ax__law_bag : PySem.W.nsIn K mainGlobals "_law_bag" = some (some (.ref fx__law_bag))) (lx__law_bag : K.lookup fx__law_bag = some ⟨ocx__law_bag, odx__law_bag, .func (PySem.W.fnOf "_law_bag" "_law_bag" (defArgs s__law_bag) (defBody s__law_bag) (defScope s__law_bag) .none kVx__law_bag dcx__law_bag pmx__law_bag anx__law_bag cdx__law_bag ctx__law_bag), slx__law_bag⟩) (cx__law_bag : PySem.W.codeIn K cdx__law_bag "_law_bag" = true) (kx__law_bag : PySem.W.keepIn K (.ref fx__law_bag) = true)
    (ax__law_draw : PySem.W.nsIn K mainGlobals "_law_draw" = some (some (.ref fx__law_draw))) (lx__law_draw : K.lookup fx__law_draw = some ⟨ocx__law_draw, odx__law_draw, .func (PySem.W.fnOf "_law_draw" "_law_draw" (defArgs s__law_draw) (defBody s__law_draw) (defScope s__law_draw) .none kVx__law_draw dcx__law_draw pmx__law_draw anx__law_draw cdx__law_draw ctx__law_draw), slx__law_draw⟩) (cx__law_draw : PySem.W.codeIn K cdx__law_draw "_law_draw" = true) (kx__law_draw : PySem.W.keepIn K (.ref fx__law_draw) = true)
    (ax__law_string : PySem.W.nsIn K mainGlobals "_law_string" = some (some (.ref fx__law_string))) (lx__law_string : K.lookup fx__law_string = some ⟨ocx__law_string, odx__law_string, .func (PySem.W.fnOf "_law_string" "_law_string" (defArgs s__law_string) (defBody s__law_string) (defScope s__law_string) .none kVx__law_string dcx__law_string pmx__law_string anx__law_string cdx__law_string ctx__law_string), slx__law_string⟩) (cx__law_string : PySem.W.codeIn K cdx__law_string "_law_string" = true) (kx__law_string : PySem.W.keepIn K (.ref fx__law_string) = true)
    (ax__law_value : PySem.W.nsIn K mainGlobals "_law_value" = some (some (.ref fx__law_value))) (lx__law_value : K.lookup fx__law_value = some ⟨ocx__law_value, odx__law_value, .func (PySem.W.fnOf "_law_value" "_law_value" (defArgs s__law_value) (defBody s__law_value) (defScope s__law_value) .none kVx__law_value dcx__law_value pmx__law_value anx__law_value cdx__law_value ctx__law_value), slx__law_value⟩) (cx__law_value : PySem.W.codeIn K cdx__law_value "_law_value" = true) (kx__law_value : PySem.W.keepIn K (.ref fx__law_value) = true)
    (ax__law_nested : PySem.W.nsIn K mainGlobals "_law_nested" = some (some (.ref fx__law_nested))) (lx__law_nested : K.lookup fx__law_nested = some ⟨ocx__law_nested, odx__law_nested, .func (PySem.W.fnOf "_law_nested" "_law_nested" (defArgs s__law_nested) (defBody s__law_nested) (defScope s__law_nested) .none kVx__law_nested dcx__law_nested pmx__law_nested anx__law_nested cdx__law_nested ctx__law_nested), slx__law_nested⟩) (cx__law_nested : PySem.W.codeIn K cdx__law_nested "_law_nested" = true) (kx__law_nested : PySem.W.keepIn K (.ref fx__law_nested) = true)
    (ax__law_same : PySem.W.nsIn K mainGlobals "_law_same" = some (some (.ref fx__law_same))) (lx__law_same : K.lookup fx__law_same = some ⟨ocx__law_same, odx__law_same, .func (PySem.W.fnOf "_law_same" "_law_same" (defArgs s__law_same) (defBody s__law_same) (defScope s__law_same) .none kVx__law_same dcx__law_same pmx__law_same anx__law_same cdx__law_same ctx__law_same), slx__law_same⟩) (cx__law_same : PySem.W.codeIn K cdx__law_same "_law_same" = true) (kx__law_same : PySem.W.keepIn K (.ref fx__law_same) = true)
    (ax_law : PySem.W.nsIn K mainGlobals "law" = some (some (.ref fx_law))) (lx_law : K.lookup fx_law = some ⟨ocx_law, odx_law, .func (PySem.W.fnOf "law" "law" (defArgs s_law) (defBody s_law) (defScope s_law) .none kVx_law dcx_law pmx_law anx_law cdx_law ctx_law), slx_law⟩) (cx_law : PySem.W.codeIn K cdx_law "law" = true) (kx_law : PySem.W.keepIn K (.ref fx_law) = true)
    (vMOST_DIGITS : PySem.W.nsIn K mainGlobals "MOST_DIGITS" = some (some (.int 24 tMOST_DIGITS)))
    (vMOST_DEPTH : PySem.W.nsIn K mainGlobals "MOST_DEPTH" = some (some (.int 8 tMOST_DEPTH)))
    (vMOST_LENGTH : PySem.W.nsIn K mainGlobals "MOST_LENGTH" = some (some (.int 100000 tMOST_LENGTH)))
    (v_REFUSED_CODE : PySem.W.nsIn K mainGlobals "_REFUSED_CODE" = some (some (.int 37 t_REFUSED_CODE)))
    (zlen : PySem.W.nsIn K mainGlobals "len" = some none)
    (zisinstance : PySem.W.nsIn K mainGlobals "isinstance" = some none)
    (zord : PySem.W.nsIn K mainGlobals "ord" = some none)
    (zstr : PySem.W.nsIn K mainGlobals "str" = some none)
    (zint : PySem.W.nsIn K mainGlobals "int" = some none)
    (zbool : PySem.W.nsIn K mainGlobals "bool" = some none)
    (ztuple : PySem.W.nsIn K mainGlobals "tuple" = some none)
    (zrange : PySem.W.nsIn K mainGlobals "range" = some none)
    (zmin : PySem.W.nsIn K mainGlobals "min" = some none)
    (zmax : PySem.W.nsIn K mainGlobals "max" = some none) :
    ∃ fd : FuncData, (∀ (s : Shared) (v : Value), BindsTo s fd ⟨[v], []⟩ [("script", v)]) ∧ ∀ base : Heap, K.In base → base.Ns mainGlobals mg → FnOk l.prog w K mg base CX0 30 fa fd ["script"] (sp_law K) := by
  have e := hfa.symm.trans (PySem.W.mg_of X G ax_law)
  cases e
  have T : Tx mg := ⟨PySem.W.mg_none_of X G zlen, PySem.W.mg_none_of X G zisinstance, PySem.W.mg_none_of X G zord, PySem.W.mg_none_of X G zstr, PySem.W.mg_none_of X G zint, PySem.W.mg_none_of X G zbool, PySem.W.mg_none_of X G ztuple, PySem.W.mg_none_of X G zrange, PySem.W.mg_none_of X G zmin, PySem.W.mg_none_of X G zmax, ⟨_, PySem.W.mg_of X G vMOST_DIGITS⟩, ⟨_, PySem.W.mg_of X G vMOST_DEPTH⟩, ⟨_, PySem.W.mg_of X G vMOST_LENGTH⟩, ⟨_, PySem.W.mg_of X G v_REFUSED_CODE⟩⟩
  let a_is_printable : DefAt K mg "is_printable" P_is_printable s_is_printable := at_mk X G ax_is_printable lx_is_printable cx_is_printable kx_is_printable fun _ _ _ _ _ _ us hl => match us, hl with | [_], _ => rfl
  let a__is_printable_character : DefAt K mg "_is_printable_character" P__is_printable_character s__is_printable_character := at_mk X G ax__is_printable_character lx__is_printable_character cx__is_printable_character kx__is_printable_character fun _ _ _ _ _ _ us hl => match us, hl with | [_], _ => rfl
  let a_is_integer : DefAt K mg "is_integer" P_is_integer s_is_integer := at_mk X G ax_is_integer lx_is_integer cx_is_integer kx_is_integer fun _ _ _ _ _ _ us hl => match us, hl with | [_, _, _], _ => rfl
  let a_encode : DefAt K mg "encode" P_encode s_encode := at_mk X G ax_encode lx_encode cx_encode kx_encode fun _ _ _ _ _ _ us hl => match us, hl with | [_], _ => rfl
  let a__write : DefAt K mg "_write" P__write s__write := at_mk X G ax__write lx__write cx__write kx__write fun _ _ _ _ _ _ us hl => match us, hl with | [_, _, _, _], _ => rfl
  let a__write_tuple : DefAt K mg "_write_tuple" P__write_tuple s__write_tuple := at_mk X G ax__write_tuple lx__write_tuple cx__write_tuple kx__write_tuple fun _ _ _ _ _ _ us hl => match us, hl with | [_, _, _, _], _ => rfl
  let a__put : DefAt K mg "_put" P__put s__put := at_mk X G ax__put lx__put cx__put kx__put fun _ _ _ _ _ _ us hl => match us, hl with | [_, _, _], _ => rfl
  let a__string_text : DefAt K mg "_string_text" P__string_text s__string_text := at_mk X G ax__string_text lx__string_text cx__string_text kx__string_text fun _ _ _ _ _ _ us hl => match us, hl with | [_], _ => rfl
  let a__integer_text : DefAt K mg "_integer_text" P__integer_text s__integer_text := at_mk X G ax__integer_text lx__integer_text cx__integer_text kx__integer_text fun _ _ _ _ _ _ us hl => match us, hl with | [_], _ => rfl
  let a_decode : DefAt K mg "decode" P_decode s_decode := at_mk X G ax_decode lx_decode cx_decode kx_decode fun _ _ _ _ _ _ us hl => match us, hl with | [_], _ => rfl
  let a__read : DefAt K mg "_read" P__read s__read := at_mk X G ax__read lx__read cx__read kx__read fun _ _ _ _ _ _ us hl => match us, hl with | [_, _, _], _ => rfl
  let a__read_tuple : DefAt K mg "_read_tuple" P__read_tuple s__read_tuple := at_mk X G ax__read_tuple lx__read_tuple cx__read_tuple kx__read_tuple fun _ _ _ _ _ _ us hl => match us, hl with | [_, _, _], _ => rfl
  let a__read_characters : DefAt K mg "_read_characters" P__read_characters s__read_characters := at_mk X G ax__read_characters lx__read_characters cx__read_characters kx__read_characters fun _ _ _ _ _ _ us hl => match us, hl with | [_, _, _], _ => rfl
  let a__read_integer : DefAt K mg "_read_integer" P__read_integer s__read_integer := at_mk X G ax__read_integer lx__read_integer cx__read_integer kx__read_integer fun _ _ _ _ _ _ us hl => match us, hl with | [_, _], _ => rfl
  let a__digits_end : DefAt K mg "_digits_end" P__digits_end s__digits_end := at_mk X G ax__digits_end lx__digits_end cx__digits_end kx__digits_end fun _ _ _ _ _ _ us hl => match us, hl with | [_, _], _ => rfl
  let a__law_bag : DefAt K mg "_law_bag" P__law_bag s__law_bag := at_mk X G ax__law_bag lx__law_bag cx__law_bag kx__law_bag fun _ _ _ _ _ _ us hl => match us, hl with | [_, _], _ => rfl
  let a__law_draw : DefAt K mg "_law_draw" P__law_draw s__law_draw := at_mk X G ax__law_draw lx__law_draw cx__law_draw kx__law_draw fun _ _ _ _ _ _ us hl => match us, hl with | [_, _], _ => rfl
  let a__law_string : DefAt K mg "_law_string" P__law_string s__law_string := at_mk X G ax__law_string lx__law_string cx__law_string kx__law_string fun _ _ _ _ _ _ us hl => match us, hl with | [_], _ => rfl
  let a__law_value : DefAt K mg "_law_value" P__law_value s__law_value := at_mk X G ax__law_value lx__law_value cx__law_value kx__law_value fun _ _ _ _ _ _ us hl => match us, hl with | [_, _], _ => rfl
  let a__law_nested : DefAt K mg "_law_nested" P__law_nested s__law_nested := at_mk X G ax__law_nested lx__law_nested cx__law_nested kx__law_nested fun _ _ _ _ _ _ us hl => match us, hl with | [_, _], _ => rfl
  let a__law_same : DefAt K mg "_law_same" P__law_same s__law_same := at_mk X G ax__law_same lx__law_same cx__law_same kx__law_same fun _ _ _ _ _ _ us hl => match us, hl with | [_, _], _ => rfl
  have F_law := fun_mk (st := s_law) lx_law cx_law kx_law
  refine ⟨PySem.W.fnOf "law" "law" (defArgs s_law) (defBody s_law) (defScope s_law) .none kVx_law dcx_law pmx_law anx_law cdx_law ctx_law, fun s v => .of_eq rfl, fun base _ _ => ?_⟩
  let c__is_printable_character : DefOk l.prog w K mg base CX0 "_is_printable_character" P__is_printable_character 1 sp__is_printable_character := a__is_printable_character.ok fun F => ok__is_printable_character T F
  let c_is_printable : DefOk l.prog w K mg base CX0 "is_printable" P_is_printable 2 sp_is_printable := a_is_printable.ok fun F => ok_is_printable T c__is_printable_character F
  let c_is_integer : DefOk l.prog w K mg base CX0 "is_integer" P_is_integer 1 sp_is_integer := a_is_integer.ok fun F => ok_is_integer T F
  let c__put : DefOk l.prog w K mg base CX0 "_put" P__put 1 sp__put := a__put.ok fun F => ok__put T F
  let c__string_text : DefOk l.prog w K mg base CX0 "_string_text" P__string_text 3 sp__string_text := a__string_text.ok fun F => ok__string_text T c_is_printable F
  let c__integer_text : DefOk l.prog w K mg base CX0 "_integer_text" P__integer_text 2 sp__integer_text := a__integer_text.ok fun F => ok__integer_text T c_is_integer F
  let c__write : DefOk l.prog w K mg base CX0 "_write" P__write 20 (sp__write K 8) := (mk_write T a__write a__write_tuple c__put c__string_text c__integer_text 8).1
  let c_encode : DefOk l.prog w K mg base CX0 "encode" P_encode 21 (sp_encode K) := a_encode.ok fun F => ok_encode T c__write F
  let c__digits_end : DefOk l.prog w K mg base CX0 "_digits_end" P__digits_end 1 sp__digits_end := a__digits_end.ok fun F => ok__digits_end T F
  let c__read_integer : DefOk l.prog w K mg base CX0 "_read_integer" P__read_integer 2 sp__read_integer := a__read_integer.ok fun F => ok__read_integer T c__digits_end F
  let c__read_characters : DefOk l.prog w K mg base CX0 "_read_characters" P__read_characters 1 sp__read_characters := a__read_characters.ok fun F => ok__read_characters T F
  let c__read : DefOk l.prog w K mg base CX0 "_read" P__read 20 (sp__read K 8) := (mk_read T a__read a__read_tuple c__read_integer c__read_characters 8).1
  let c_decode : DefOk l.prog w K mg base CX0 "decode" P_decode 21 (sp_decode K) := a_decode.ok fun F => ok_decode T c_is_printable c__read F
  let c__law_bag : DefOk l.prog w K mg base CX0 "_law_bag" P__law_bag 1 (sp__law_bag K) := a__law_bag.ok fun F => ok__law_bag T F
  let c__law_draw : DefOk l.prog w K mg base CX0 "_law_draw" P__law_draw 1 sp__law_draw := a__law_draw.ok fun F => ok__law_draw T F
  let c__law_string : DefOk l.prog w K mg base CX0 "_law_string" P__law_string 2 sp__law_string := a__law_string.ok fun F => ok__law_string T c__law_draw F
  let c__law_value : DefOk l.prog w K mg base CX0 "_law_value" P__law_value 6 (sp__law_value K 3) := mk_value T a__law_value c__law_draw c__law_string 3
  let c__law_nested : DefOk l.prog w K mg base CX0 "_law_nested" P__law_nested 2 (sp__law_nested K) := a__law_nested.ok fun F => ok__law_nested T c__law_draw F
  let c__law_same : DefOk l.prog w K mg base CX0 "_law_same" P__law_same 10 (sp__law_same K 8) := mk_same T a__law_same 8
  exact ok_law T c__law_bag c__law_draw c__law_value c__law_nested c__law_same c_encode c_decode F_law
theorem walk {l : PySem.W.OpenLaw} {q : Program} {loose : List Str} {XP : (Str → Option Value) → Heap → Prop} {YP : World → Heap → Prop} {d : DefRec} {K : Params → PySem.W.Frag} (hn : l.most = some 63) (hdf : d.params.defaults = [])
    (hY : ∀ (w : World) (h : Heap), YP w h → (K w.params).In h)
    (F : ∀ (w : World) (mg : Str → Option Value) (fa : Addr) (h : Heap), (K w.params).In h → h.Ns mainGlobals mg → mg d.name = some (.ref fa) →
      ∃ fd : FuncData, (∀ (s : Shared) (u : Value), BindsTo s fd ⟨[u], []⟩ [("script", u)]) ∧ ∀ base : Heap, (K w.params).In base → base.Ns mainGlobals mg → FnOk l.prog w (K w.params) mg base CX0 30 fa fd ["script"] (sp_law (K w.params))) :
    PySem.W.WalkO q loose XP YP l.row.toRowW d [] (fun f vs => PySem.call f vs) :=
  L2.walk_of (n := 63) (k := 30) (x := "script") (CX := fun _ => CX0) (sp := fun w => sp_law (K w.params)) hn (by decide) hdf ⟨rfl, by decide, by decide⟩ hY F (fun _ _ a ns hl _ hS => ⟨a, ns, rfl, hS, hl, fun _ => rfl⟩) fun _ _ _ _ _ z => z
end Mus
open PySem PySem.W PyProof.Rows
set_option maxRecDepth 100000 in
set_option maxHeartbeats 0 in
theorem PySem.Challenge.cw_mustercall_k04_texts_read_back_holds : PySem.Challenge.rw_mustercall_k04_texts_read_back.Holds := by
  w_on; o_law; k_head; (case hw => w_witness2)
  k_fill
  refine Mus.walk (l := PySem.Challenge.rw_mustercall_k04_texts_read_back) rfl rfl (fun w h Y => PySem.W.kIn_of Y) ?F
  case F =>
    intro w mg fa h KX G hmg
    refine' Mus.all_mk KX G hmg ?ax_is_printable ?lx_is_printable ?cx_is_printable ?kx_is_printable ?ax__is_printable_character ?lx__is_printable_character ?cx__is_printable_character ?kx__is_printable_character ?ax_is_integer ?lx_is_integer ?cx_is_integer ?kx_is_integer ?ax_encode ?lx_encode ?cx_encode ?kx_encode ?ax__write ?lx__write ?cx__write ?kx__write ?ax__write_tuple ?lx__write_tuple ?cx__write_tuple ?kx__write_tuple ?ax__put ?lx__put ?cx__put ?kx__put ?ax__string_text ?lx__string_text ?cx__string_text ?kx__string_text ?ax__integer_text ?lx__integer_text ?cx__integer_text ?kx__integer_text ?ax_decode ?lx_decode ?cx_decode ?kx_decode ?ax__read ?lx__read ?cx__read ?kx__read ?ax__read_tuple ?lx__read_tuple ?cx__read_tuple ?kx__read_tuple ?ax__read_characters ?lx__read_characters ?cx__read_characters ?kx__read_characters ?ax__read_integer ?lx__read_integer ?cx__read_integer ?kx__read_integer ?ax__digits_end ?lx__digits_end ?cx__digits_end ?kx__digits_end ?ax__law_bag ?lx__law_bag ?cx__law_bag ?kx__law_bag ?ax__law_draw ?lx__law_draw ?cx__law_draw ?kx__law_draw ?ax__law_string ?lx__law_string ?cx__law_string ?kx__law_string ?ax__law_value ?lx__law_value ?cx__law_value ?kx__law_value ?ax__law_nested ?lx__law_nested ?cx__law_nested ?kx__law_nested ?ax__law_same ?lx__law_same ?cx__law_same ?kx__law_same ?ax_law ?lx_law ?cx_law ?kx_law ?vMOST_DIGITS ?vMOST_DEPTH ?vMOST_LENGTH ?v_REFUSED_CODE ?zlen ?zisinstance ?zord ?zstr ?zint ?zbool ?ztuple ?zrange ?zmin ?zmax
    (case ax_is_printable => k_is)
    (case lx_is_printable => k_is)
    (case cx_is_printable => k_is)
    (case kx_is_printable => k_is)
    (case ax__is_printable_character => k_is)
    (case lx__is_printable_character => k_is)
    (case cx__is_printable_character => k_is)
    (case kx__is_printable_character => k_is)
    (case ax_is_integer => k_is)
    (case lx_is_integer => k_is)
    (case cx_is_integer => k_is)
    (case kx_is_integer => k_is)
    (case ax_encode => k_is)
    (case lx_encode => k_is)
    (case cx_encode => k_is)
    (case kx_encode => k_is)
    (case ax__write => k_is)
    (case lx__write => k_is)
    (case cx__write => k_is)
    (case kx__write => k_is)
    (case ax__write_tuple => k_is)
    (case lx__write_tuple => k_is)
    (case cx__write_tuple => k_is)
    (case kx__write_tuple => k_is)
    (case ax__put => k_is)
    (case lx__put => k_is)
    (case cx__put => k_is)
    (case kx__put => k_is)
    (case ax__string_text => k_is)
    (case lx__string_text => k_is)
    (case cx__string_text => k_is)
    (case kx__string_text => k_is)
    (case ax__integer_text => k_is)
    (case lx__integer_text => k_is)
    (case cx__integer_text => k_is)
    (case kx__integer_text => k_is)
    (case ax_decode => k_is)
    (case lx_decode => k_is)
    (case cx_decode => k_is)
    (case kx_decode => k_is)
    (case ax__read => k_is)
    (case lx__read => k_is)
    (case cx__read => k_is)
    (case kx__read => k_is)
    (case ax__read_tuple => k_is)
    (case lx__read_tuple => k_is)
    (case cx__read_tuple => k_is)
    (case kx__read_tuple => k_is)
    (case ax__read_characters => k_is)
    (case lx__read_characters => k_is)
    (case cx__read_characters => k_is)
    (case kx__read_characters => k_is)
    (case ax__read_integer => k_is)
    (case lx__read_integer => k_is)
    (case cx__read_integer => k_is)
    (case kx__read_integer => k_is)
    (case ax__digits_end => k_is)
    (case lx__digits_end => k_is)
    (case cx__digits_end => k_is)
    (case kx__digits_end => k_is)
    (case ax__law_bag => k_is)
    (case lx__law_bag => k_is)
    (case cx__law_bag => k_is)
    (case kx__law_bag => k_is)
    (case ax__law_draw => k_is)
    (case lx__law_draw => k_is)
    (case cx__law_draw => k_is)
    (case kx__law_draw => k_is)
    (case ax__law_string => k_is)
    (case lx__law_string => k_is)
    (case cx__law_string => k_is)
    (case kx__law_string => k_is)
    (case ax__law_value => k_is)
    (case lx__law_value => k_is)
    (case cx__law_value => k_is)
    (case kx__law_value => k_is)
    (case ax__law_nested => k_is)
    (case lx__law_nested => k_is)
    (case cx__law_nested => k_is)
    (case kx__law_nested => k_is)
    (case ax__law_same => k_is)
    (case lx__law_same => k_is)
    (case cx__law_same => k_is)
    (case kx__law_same => k_is)
    (case ax_law => k_is)
    (case lx_law => k_is)
    (case cx_law => k_is)
    (case kx_law => k_is)
    (case vMOST_DIGITS => k_is)
    (case vMOST_DEPTH => k_is)
    (case vMOST_LENGTH => k_is)
    (case v_REFUSED_CODE => k_is)
    (case zlen => k_is)
    (case zisinstance => k_is)
    (case zord => k_is)
    (case zstr => k_is)
    (case zint => k_is)
    (case zbool => k_is)
    (case ztuple => k_is)
    (case zrange => k_is)
    (case zmin => k_is)
    (case zmax => k_is)

