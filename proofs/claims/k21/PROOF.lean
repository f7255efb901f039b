import PyProof.Rows.All
import Wide.All
import OpenK.AllK
import Wide.FinOn
import HandS.Base
import HandS.Call
import HandS.List
import HandS.Comp
import HandS.Ends
import HandS.Iter
import HandS.Text
import HandS.Words
import HandS.WordsList
import HandS.Wide
import HandS.IsInst
import HandS.TupAny
import HandS.Dict
import HandS.WordsDict
import HandS.Conv
import HandS.More
import KE.KeyNested
import KE.KDictKeyed
import KE.SortData
import KE.SortUse
import HandS.SortOrd
import HandS.Deep
import HandS.Codes
import HandS.SortRule
import HandS.Walk
import KE.GoesEnumKw
import HandS.SortKw
import HandS.Exc
import HandS.ExcOwn
import HandS.TryOnly
import HandS.WordsExc
import HandS.TryMany
import HandS.ExcIs
import HandS.TupLe
import PySem.Challenge.RW_mustercall_k21_whole_logs_are_prefixes
set_option Elab.async false
set_option linter.all false
set_option maxRecDepth 100000
set_option maxHeartbeats 4000000
/-! What my proofs share: a def with its promise as one thing, small rules, heaps. -/
namespace Mus
open PySem L2
/-- a def of the text that keeps a promise, and all that a call of it asks -/
structure DefOk (P : Program) (w : World) (K : PySem.W.Frag) (mg : Str → Option Value) (base : Heap) (CX : CXT) (x : Str) (ps : List Str) (k : Nat) (sp : Sp) where
  f : Addr
  fd : FuncData
  G : FnOk P w K mg base CX k f fd ps sp
  m : mg x = some (.ref f)
  kp : PySem.W.keepIn K (.ref f) = true
  b : Binds K fd ps []
def DefOk.mono {P : Program} {w : World} {K : PySem.W.Frag} {mg : Str → Option Value} {base : Heap} {CX : CXT} {x : Str} {ps : List Str} {j k : Nat} {sp : Sp} (c : DefOk P w K mg base CX x ps j sp) (h : j ≤ k) : DefOk P w K mg base CX x ps k sp :=
  ⟨c.f, c.fd, c.G.mono h, c.m, c.kp, c.b⟩
/-- a def of the text as the top left it: no promise yet -/
structure DefAt (K : PySem.W.Frag) (mg : Str → Option Value) (x : Str) (ps : List Str) (st : Stmt) where
  f : Addr
  fd : FuncData
  F : Fun K x x st f fd
  m : mg x = some (.ref f)
  b : Binds K fd ps []
def DefAt.ok {P : Program} {w : World} {K : PySem.W.Frag} {mg : Str → Option Value} {base : Heap} {CX : CXT} {x : Str} {ps : List Str} {st : Stmt} {k : Nat} {sp : Sp} (d : DefAt K mg x ps st) (h : ∀ {f : Addr} {fd : FuncData}, Fun K x x st f fd → FnOk P w K mg base CX k f fd ps sp) : DefOk P w K mg base CX x ps k sp :=
  ⟨d.f, d.fd, h d.F, d.m, d.F.kp, d.b⟩
section
variable {X : Cx}
theorem pcall {x : Str} {ps : List Str} {j k : Nat} {sp : Sp} {e : Expr} {es : List Expr} {t : TA} {p pos : Pos} (c : DefOk X.prog X.w X.K X.mg X.base CX0 x ps j sp) (hr : Room k X.A) (ha : PA X (e :: es) t) (hj : j ≤ k := by first | decide | omega) (hg : Gl X x := by rfl)
    (db0 : (x == ("__debug__" : Str)) = false := by decide) (st0 : starEach (e :: es) X.env = (false, eval e X.env) :: starEach es X.env := by rfl) (pl0 : (backTo pos (starEach es X.env)).any (·.1) = false := by rfl) :
    PE X (.Call (.Name x p) (e :: es) [] pos) (tCall sp [] E0 t) := pe_call c.G (hr.mono hj) hg c.m c.kp c.b .nil pass0 ha db0 st0 pl0
/-- a text n times -/
theorem op_mul_str : OpR X (binaryOp .Mult) (fun x y H Q => ∃ (z : Str) (n : Int), x = .str z ∧ y = .int n ∧ 2 ≤ n ∧ n ≤ 1000 ∧ 1 ≤ z.length ∧ z.length ≤ 1000 ∧ ∀ r : Str, TL.tl r = (List.replicate n.toNat (TL.tl z)).flatten → Q (.str r) H) := by
  intro pins s σ H x y v u Q I rx ry h
  obtain ⟨z, n, rfl, rfl, h2, h3, h4, h5, q⟩ := h
  obtain ⟨t, rfl⟩ := rx
  obtain ⟨t', rfl⟩ := ry
  have n1 : ¬ n < 1 := by omega
  have n2 : ¬ (n == 1 || z.length == 0) = true := by
    rw [Bool.or_eq_true, beq_iff_eq, beq_iff_eq]; omega
  have hr : (decide (n < -(2 ^ 63 : Int)) || decide (n ≥ 2 ^ 63)) = false := by
    rw [decide_eq_false (by omega), decide_eq_false (by omega)]; rfl
  have hm : z.length * n.toNat ≤ 1000 * 1000 := Nat.mul_le_mul h5 (by omega)
  have hl : Builtin.Str.tooLong (z.length * n.toNat) = false := by
    unfold Builtin.Str.tooLong
    have e : sizeLine = 16777216 := sizeLine_eq
    rw [decide_eq_false (by omega)]
  have hb : ¬ ((z.length : Int) > (2 ^ 63 - 1) / n) := by
    have : (1000 : Int) ≤ (2 ^ 63 - 1) / n := by
      rw [Int.le_ediv_iff_mul_le (by omega)]
      omega
    omega
  refine PySem.P.mul_str hr (fun _ _ => hb) (fun _ _ => hl) ?_
  rw [if_neg n1, if_neg n2]
  have hf : ∀ (k : Nat) (acc : Array Nat), ((List.replicate k z.cps).foldl (· ++ ·) acc).toList = acc.toList ++ (List.replicate k z.cps.toList).flatten := by
    intro k
    induction k with
    | zero => intro acc; simp
    | succ k ih =>
      intro acc
      rw [List.replicate_succ, List.foldl_cons, ih, List.replicate_succ, List.flatten_cons, Array.toList_append, List.append_assoc]
  have hr : TL.tl (⟨(List.replicate n.toNat z.cps).foldl (· ++ ·) #[]⟩ : Str) = (List.replicate n.toNat (TL.tl z)).flatten := by
    show ((List.replicate n.toNat z.cps).foldl (· ++ ·) #[]).toList = _
    rw [hf]; rfl
  have hlen : (⟨(List.replicate n.toNat z.cps).foldl (· ++ ·) #[]⟩ : Str).length ≤ sizeLine := by
    rw [TL.len_tl, hr]
    have e : sizeLine = 16777216 := sizeLine_eq
    have z2 : ((List.replicate n.toNat (TL.tl z)).flatten).length = z.length * n.toNat := by
      rw [TL.len_tl]
      generalize n.toNat = k
      induction k with
      | zero => rfl
      | succ k ih => rw [List.replicate_succ, List.flatten_cons, List.length_append, ih, Nat.mul_succ, Nat.add_comm]
    omega
  exact ⟨hlen, .str _, H, I.tok _, ⟨_, rfl⟩, q _ hr⟩
/-- for c in a text -/
theorem for_str {z : Str} {g : TG} {tb : TS} {D : Ends} {σ : St} {H : Hp} (Pv : Nat → St → Hp → Prop) (h0 : Pv 0 σ H)
    (hs : ∀ i c σ H, (TL.tl z)[i]? = some c → Pv i σ H → g (.str ⟨#[c]⟩) σ H fun σ2 H2 => tb { D with nx := Pv (i + 1), ct := Pv (i + 1), bk := D.nx } σ2 H2) (hd : ∀ σ H, Pv (TL.tl z).length σ H → D.nx σ H) :
    ∃ W : Nat → Nat → St → Hp → Prop, (∃ m, W 0 m σ H) ∧ ∀ i m σ H, W i m σ H →
      ((Its z).stop i H ∧ D.nx σ H) ∨ ((Its z).go i H ∧ ∃ N : St → Hp → Prop, (∀ σ' H', N σ' H' → ∃ m', m' < m ∧ W (i + 1) m' σ' H') ∧ ∀ x H', (Its z).yld i H x H' → g x σ H' fun σ2 H2 => tb { D with nx := N, ct := N, bk := D.nx } σ2 H2) := by
  have hl : (TL.tl z).length = z.cps.size := Array.length_toList
  refine ⟨fun i m σ H => m = (TL.tl z).length - i ∧ i ≤ (TL.tl z).length ∧ Pv i σ H, ⟨(TL.tl z).length, rfl, Nat.zero_le _, h0⟩, ?_⟩
  rintro i m σ H ⟨rfl, le1, pv1⟩
  by_cases lt1 : i < (TL.tl z).length
  · refine .inr ⟨(by show i < z.cps.size; omega), Pv (i + 1), fun σ' H' p' => ⟨(TL.tl z).length - (i + 1), by omega, rfl, lt1, p'⟩, fun x H' y => ?_⟩
    obtain ⟨e, c, hc, ex⟩ := y
    subst e
    subst ex
    exact hs i c σ H' (by rw [Array.getElem?_toList]; exact hc) pv1
  · have e : i = (TL.tl z).length := by omega
    subst e
    exact .inl ⟨(by show z.cps.size ≤ _; omega), hd σ H pv1⟩
end
/-! ### heaps -/
/-- all but what stands at p is as it was -/
def But (p : Addr) (H H' : Hp) : Prop := ∀ b o, H b = some o → b ≠ p → H' b = some o
theorem But.refl (p : Addr) (H : Hp) : But p H H := fun _ _ h _ => h
theorem But.trans {p : Addr} {H H1 H2 : Hp} (a : But p H H1) (b : But p H1 H2) : But p H H2 := fun c o h n => b c o (a c o h n) n
theorem But.of {p : Addr} {H H' : Hp} (a : Same H H') : But p H H' := fun c o h _ => a c o h
theorem same_new {H : Hp} {p : Addr} (h : H p = none) (o : HO) : Same H (upd H p o) := fun b u q => by rw [upd_ne (ne_of_none q h)]; exact q
theorem but_upd {H : Hp} {p : Addr} (o : HO) : But p H (upd H p o) := fun b u q n => by rw [upd_ne n]; exact q
theorem same_seqT {K : PySem.W.Frag} {H H' : Hp} {a : Addr} {xs : List V} (e : Same H H') (h : SqT K H a xs) : SqT K H' a xs := by
  rcases h with (h | ⟨o, h⟩) | h
  · exact .inl (.inl (e _ _ h))
  · exact .inl (.inr ⟨o, e _ _ h⟩)
  · exact .inr h
/-- tuples stay where only a list may change -/
theorem But.seqT {K : PySem.W.Frag} {H H' : Hp} {p a : Addr} {xs ys : List V} (e : But p H H') (hp : H p = some (.lst ys)) (h : SqT K H a xs) : SqT K H' a xs := by
  rcases h with (h | ⟨o, h⟩) | h
  · exact .inl (.inl (e _ _ h (ne_of h hp (by intro z; cases z))))
  · exact .inl (.inr ⟨o, e _ _ h (ne_of h hp (by intro z; cases z))⟩)
  · exact .inr h
theorem But.seqL {K : PySem.W.Frag} {H H' : Hp} {p a : Addr} {xs : List V} (e : But p H H') (hp : a ≠ p) (h : SqL K H a xs) : SqL K H' a xs := by
  rcases h with (h | ⟨o, h⟩) | h
  · exact .inl (.inl (e _ _ h hp))
  · exact .inl (.inr ⟨o, e _ _ h hp⟩)
  · exact .inr h
end Mus

set_option maxRecDepth 100000
set_option maxHeartbeats 4000000
/-! Plain data of any kind in the heap, beside one list (the bag, at p) that changes. -/
namespace Mus
open PySem L2
theorem sl : sizeLine = 16777216 := sizeLine_eq
theorem dT {p : Prop} [Decidable p] {A B : Prop} (h : p) (a : A) : if decide p = true then A else B := by
  rw [decide_eq_true h]; exact iteT a
theorem dF {p : Prop} [Decidable p] {A B : Prop} (h : ¬ p) (b : B) : if decide p = true then A else B := by
  rw [decide_eq_false h]; exact iteF b
theorem nT {p : Prop} [Decidable p] {A B : Prop} (h : ¬ p) (a : A) : if (!decide p) = true then A else B := by
  rw [decide_eq_false h]; exact iteT a
theorem nF {p : Prop} [Decidable p] {A B : Prop} (h : p) (b : B) : if (!decide p) = true then A else B := by
  rw [decide_eq_true h]; exact iteF b
theorem at_int {α : Type} {xs : List α} {i : Int} {v : α} (h0 : 0 ≤ i) (h : xs[i.toNat]? = some v) : atI xs i = some v := by
  have e : i = ((i.toNat : Nat) : Int) := by omega
  rw [e]
  exact atI_nat h
theorem pe_const {X : Cx} {x : Str} {i : Int} {pos : Pos} (hm : ∃ t, X.mg x = some (.int i t)) (hg : Gl X x := by rfl) (hd : (x == ("__debug__" : Str)) = false := by decide) : PE X (.Name x pos) (tC (.int i)) := by
  obtain ⟨t, h⟩ := hm
  exact pe_glob hg h ⟨t, rfl⟩ hd
theorem pe_ty {X : Cx} {x : Str} {pos : Pos} (n : String) (hm : X.mg x = none) (hv : bootBuiltins x = some (.type n) := by decide +kernel) (hg : Gl X x := by rfl) (hn : x ≠ "__name__" := by decide) (hd : (x == ("__debug__" : Str)) = false := by decide) : PE X (.Name x pos) (tC (.ty n)) := pe_bltn hg hm hv rfl hn hd
theorem pe_cls {X : Cx} {x : Str} {C : Addr} {pos : Pos} (hm : X.mg x = some (.ref C)) (hg : Gl X x := by rfl) (hd : (x == ("__debug__" : Str)) = false := by decide) : PE X (.Name x pos) (tC (.ref C)) := pe_glob (v := .ref C) hg hm rfl hd
mutual
/-- the value v stands for the data d, all of it tracked and none of it at p -/
inductive Rp (p : Addr) (H : Hp) : V → PyData → Prop
  | non : Rp p H .non .none
  | bl (b : Bool) : Rp p H (.bl b) (.bool b)
  | int (i : Int) : Rp p H (.int i) (.int i)
  | str (x : Str) : Rp p H (.str x) (.str x)
  | lst {a : Addr} {xs : List V} {ds : List PyData} : H a = some (.lst xs) → a ≠ p → Rps p H xs ds → Rp p H (.ref a) (.list ds)
  | tup {a : Addr} {xs : List V} {ds : List PyData} : H a = some (.tup xs) → a ≠ p → xs.length ≤ 100000 → Rps p H xs ds → Rp p H (.ref a) (.tuple ds)
inductive Rps (p : Addr) (H : Hp) : List V → List PyData → Prop
  | nil : Rps p H [] []
  | cons {v : V} {vs : List V} {d : PyData} {ds : List PyData} : Rp p H v d → Rps p H vs ds → Rps p H (v :: vs) (d :: ds)
end
mutual
theorem Rp.mono {p : Addr} {H H' : Hp} (k : But p H H') : ∀ {v : V} {d : PyData}, Rp p H v d → Rp p H' v d
  | _, _, .non => .non
  | _, _, .bl b => .bl b
  | _, _, .int i => .int i
  | _, _, .str x => .str x
  | _, _, .lst h n r => .lst (k _ _ h n) n (Rps.mono k r)
  | _, _, .tup h n l r => .tup (k _ _ h n) n l (Rps.mono k r)
theorem Rps.mono {p : Addr} {H H' : Hp} (k : But p H H') : ∀ {vs : List V} {ds : List PyData}, Rps p H vs ds → Rps p H' vs ds
  | _, _, .nil => .nil
  | _, _, .cons a b => .cons (Rp.mono k a) (Rps.mono k b)
end
mutual
theorem Rp.dp {p : Addr} {K : PySem.W.Frag} {H : Hp} : ∀ {v : V} {d : PyData}, Rp p H v d → Dp K H v d
  | _, _, .non => .non
  | _, _, .bl b => .bl b
  | _, _, .int i => .int i
  | _, _, .str x => .str x
  | _, _, .lst h n r => .lst (SqL.of h) (Rps.dp r)
  | _, _, .tup h n _ r => .tup (SqT.of h) (Rps.dp r)
theorem Rps.dp {p : Addr} {K : PySem.W.Frag} {H : Hp} : ∀ {vs : List V} {ds : List PyData}, Rps p H vs ds → DpAll K H vs ds
  | _, _, .nil => .nil
  | _, _, .cons a b => .cons (Rp.dp a) (Rps.dp b)
end
theorem Rp.same {p : Addr} {H H' : Hp} {v : V} {d : PyData} (k : Same H H') (h : Rp p H v d) : Rp p H' v d := h.mono (But.of k)
theorem Rps.same {p : Addr} {H H' : Hp} {vs : List V} {ds : List PyData} (k : Same H H') (h : Rps p H vs ds) : Rps p H' vs ds := h.mono (But.of k)
theorem Rps.length {p : Addr} {H : Hp} : ∀ {vs : List V} {ds : List PyData}, Rps p H vs ds → vs.length = ds.length
  | _, _, .nil => rfl
  | _, _, .cons _ r => by rw [List.length_cons, List.length_cons, Rps.length r]
theorem Rps.at {p : Addr} {H : Hp} : ∀ {vs : List V} {ds : List PyData} {i : Nat} {v : V}, Rps p H vs ds → vs[i]? = some v → ∃ d, ds[i]? = some d ∧ Rp p H v d
  | _, _, i, v, .nil, h => by simp at h
  | _, _, 0, v, .cons a _, h => by cases h; exact ⟨_, rfl, a⟩
  | _, _, i + 1, v, .cons _ r, h => Rps.at (i := i) r (by simpa using h)
theorem Rps.get {p : Addr} {H : Hp} : ∀ {vs : List V} {ds : List PyData} {i : Nat} {d : PyData}, Rps p H vs ds → ds[i]? = some d → ∃ v, vs[i]? = some v ∧ Rp p H v d
  | _, _, i, v, .nil, h => by simp at h
  | _, _, 0, v, .cons a _, h => by cases h; exact ⟨_, rfl, a⟩
  | _, _, i + 1, v, .cons _ r, h => Rps.get (i := i) r (by simpa using h)
theorem Rps.append {p : Addr} {H : Hp} : ∀ {vs ws : List V} {ds es : List PyData}, Rps p H vs ds → Rps p H ws es → Rps p H (vs ++ ws) (ds ++ es)
  | _, _, _, _, .nil, r => r
  | _, _, _, _, .cons a q, r => .cons a (Rps.append q r)
theorem Rps.take {p : Addr} {H : Hp} : ∀ {vs : List V} {ds : List PyData} (n : Nat), Rps p H vs ds → Rps p H (vs.take n) (ds.take n)
  | _, _, 0, _ => .nil
  | _, _, n + 1, .nil => .nil
  | _, _, n + 1, .cons a q => .cons a (Rps.take n q)
theorem Rps.drop {p : Addr} {H : Hp} : ∀ {vs : List V} {ds : List PyData} (n : Nat), Rps p H vs ds → Rps p H (vs.drop n) (ds.drop n)
  | _, _, 0, r => r
  | _, _, n + 1, .nil => .nil
  | _, _, n + 1, .cons a q => Rps.drop n q
/-! ### classes of data -/
def tyD : PyData → Value
  | .none => .type "NoneType" | .bool _ => .type "bool" | .int _ => .type "int" | .str _ => .type "str" | .list _ => .type "list" | .tuple _ => .type "tuple" | .dict _ => .type "dict"
theorem Rp.ty {p : Addr} {K : PySem.W.Frag} {H : Hp} {v : V} {d : PyData} (h : Rp p H v d) : TyX K H v (tyD d) := by
  cases h with
  | non => exact .base .non
  | bl b => exact .base (.bl b)
  | int i => exact .base (.int i)
  | str x => exact .base (.str x)
  | lst h _ _ => exact .base (.lst h)
  | tup h _ _ _ => exact .base (.tup h)
def dInt : PyData → Bool
  | .int _ => true | .bool _ => true | _ => false
def dBool : PyData → Bool
  | .bool _ => true | _ => false
def dStr : PyData → Bool
  | .str _ => true | _ => false
def dTup : PyData → Bool
  | .tuple _ => true | _ => false
theorem kit_int {K : PySem.W.Frag} : ∀ d : PyData, PySem.W.kitOne K (tyD d) (.type "int") = some (dInt d)
  | .none => kit_ty (r := false) (by decide +kernel)
  | .bool _ => kit_ty (r := true) (by decide +kernel)
  | .int _ => kit_ty (r := true) (by decide +kernel)
  | .str _ => kit_ty (r := false) (by decide +kernel)
  | .list _ => kit_ty (r := false) (by decide +kernel)
  | .tuple _ => kit_ty (r := false) (by decide +kernel)
  | .dict _ => kit_ty (r := false) (by decide +kernel)
theorem kit_bool {K : PySem.W.Frag} : ∀ d : PyData, PySem.W.kitOne K (tyD d) (.type "bool") = some (dBool d)
  | .none => kit_ty (r := false) (by decide +kernel)
  | .bool _ => kit_ty (r := true) (by decide +kernel)
  | .int _ => kit_ty (r := false) (by decide +kernel)
  | .str _ => kit_ty (r := false) (by decide +kernel)
  | .list _ => kit_ty (r := false) (by decide +kernel)
  | .tuple _ => kit_ty (r := false) (by decide +kernel)
  | .dict _ => kit_ty (r := false) (by decide +kernel)
theorem kit_str {K : PySem.W.Frag} : ∀ d : PyData, PySem.W.kitOne K (tyD d) (.type "str") = some (dStr d)
  | .none => kit_ty (r := false) (by decide +kernel)
  | .bool _ => kit_ty (r := false) (by decide +kernel)
  | .int _ => kit_ty (r := false) (by decide +kernel)
  | .str _ => kit_ty (r := true) (by decide +kernel)
  | .list _ => kit_ty (r := false) (by decide +kernel)
  | .tuple _ => kit_ty (r := false) (by decide +kernel)
  | .dict _ => kit_ty (r := false) (by decide +kernel)
theorem kit_tup {K : PySem.W.Frag} : ∀ d : PyData, PySem.W.kitOne K (tyD d) (.type "tuple") = some (dTup d)
  | .none => kit_ty (r := false) (by decide +kernel)
  | .bool _ => kit_ty (r := false) (by decide +kernel)
  | .int _ => kit_ty (r := false) (by decide +kernel)
  | .str _ => kit_ty (r := false) (by decide +kernel)
  | .list _ => kit_ty (r := false) (by decide +kernel)
  | .tuple _ => kit_ty (r := true) (by decide +kernel)
  | .dict _ => kit_ty (r := false) (by decide +kernel)
end Mus
namespace Mus
open PySem L2
/-! ### members and view ids, as functions of data -/
def isInt (d : PyData) (a b : Int) : Bool := match d with | .int i => decide (a ≤ i) && decide (i ≤ b) | _ => false
def isProc (c d : PyData) : Bool := match c with | .int n => (decide (1 ≤ n) && decide (n ≤ 12)) && isInt d 0 (n - 1) | _ => false
def isMem (c : PyData) : PyData → Bool
  | .tuple [x, y] => isProc c x && isInt y 1 1000000000000
  | _ => false
def isVid (c : PyData) : PyData → Bool
  | .tuple [x, y] => isInt x 0 1000000000000 && isMem c y
  | _ => false
def procOf : PyData → Int
  | .tuple (.int i :: _) => i
  | _ => 0
def memsFrom (c : PyData) : Int → List PyData → Bool
  | _, [] => true
  | l, d :: ds => isMem c d && decide (l < procOf d) && memsFrom c (procOf d) ds
def isMems (c : PyData) : PyData → Bool
  | .tuple ds => !ds.isEmpty && memsFrom c (-1) ds
  | _ => false
theorem isProc_int {c d : PyData} (h : isProc c d = true) : ∃ n i, c = .int n ∧ d = .int i ∧ 1 ≤ n ∧ n ≤ 12 ∧ 0 ≤ i ∧ i < n := by
  cases c <;> try (simp [isProc] at h; done)
  rename_i n
  cases d <;> try (simp [isProc, isInt] at h; done)
  rename_i i
  simp [isProc, isInt] at h
  exact ⟨n, i, rfl, rfl, by omega, by omega, by omega, by omega⟩
theorem isInt_int {d : PyData} {a b : Int} (h : isInt d a b = true) : ∃ i, d = .int i ∧ a ≤ i ∧ i ≤ b := by
  cases d <;> try (simp [isInt] at h; done)
  rename_i i
  simp [isInt] at h
  exact ⟨i, rfl, h.1, h.2⟩
theorem isMem_int {c d : PyData} (h : isMem c d = true) : ∃ n i l, c = .int n ∧ d = .tuple [.int i, .int l] ∧ 1 ≤ n ∧ n ≤ 12 ∧ 0 ≤ i ∧ i < n ∧ 1 ≤ l ∧ l ≤ 1000000000000 := by
  unfold isMem at h
  split at h
  · rename_i x y
    rw [Bool.and_eq_true] at h
    obtain ⟨n, i, rfl, rfl, h1, h2, h3, h4⟩ := isProc_int h.1
    obtain ⟨l, rfl, h5, h6⟩ := isInt_int h.2
    exact ⟨n, i, l, rfl, rfl, h1, h2, h3, h4, h5, h6⟩
  · cases h
/-! ### promises: a truth told of data, nothing changed -/
def spI : Sp := fun vs H Q _ => ∃ (p : Addr) (v : V) (d : PyData) (a b : Int), vs = [v, .int a, .int b] ∧ Rp p H v d ∧ Q (.bl (isInt d a b)) H
def spB1 (f : PyData → Bool) : Sp := fun vs H Q _ => ∃ (p : Addr) (v : V) (d : PyData), vs = [v] ∧ Rp p H v d ∧ Q (.bl (f d)) H
def spB2 (f : PyData → PyData → Bool) : Sp := fun vs H Q _ => ∃ (p : Addr) (u v : V) (c d : PyData), vs = [u, v] ∧ Rp p H u c ∧ Rp p H v d ∧ Q (.bl (f c d)) H
/-- the same where new things may have come -/
def spS1 (f : PyData → Bool) : Sp := fun vs H Q _ => ∃ (p : Addr) (v : V) (d : PyData), vs = [v] ∧ Rp p H v d ∧ ∀ H', Same H H' → Q (.bl (f d)) H'
def spS2 (f : PyData → PyData → Bool) : Sp := fun vs H Q _ => ∃ (p : Addr) (u v : V) (c d : PyData), vs = [u, v] ∧ Rp p H u c ∧ Rp p H v d ∧ ∀ H', Same H H' → Q (.bl (f c d)) H'
theorem ansB {Q : VK} {H : Hp} {b c : Bool} (q : Q (.bl b) H) (e : b = c) : Q (.bl c) H := e ▸ q
theorem iB {A B : Prop} {b : Bool} (h1 : b = true → A) (h2 : b = false → B) : if b = true then A else B := by
  cases b
  · exact iteF (h2 rfl)
  · exact iteT (h1 rfl)
theorem vint_ne {a b : Int} (h : a ≠ b) : ¬ V.int a = V.int b := fun e => h (V.int.inj e)
theorem drop_cons {α : Type} {xs : List α} {i : Nat} {x : α} (h : xs[i]? = some x) : xs.drop i = x :: xs.drop (i + 1) := by
  obtain ⟨hi, e⟩ := List.getElem?_eq_some_iff.mp h
  rw [List.drop_eq_getElem_cons hi, e]
section
variable {P : Program} {w : World} {K : PySem.W.Frag} {mg : Str → Option Value} {base : Heap}
theorem no_call {CX : CXT} {k : Nat} {f : Addr} {fd : FuncData} {ps : List Str} {sp : Sp} (no : ∀ vs H Q E, ¬ sp vs H Q E) : FnOk P w K mg base CX k f fd ps sp :=
  ⟨fun vs H Q E h => absurd h (no vs H Q E), fun A outer s H args us vs Q E _ _ _ _ h => absurd h (no vs H Q E)⟩
end
end Mus

set_option maxRecDepth 100000
set_option maxHeartbeats 4000000
/-! The bag of a law's draws, new things beside it, displays of data, tuples cut and joined. -/
namespace Mus
open PySem L2
def Bag (p : Addr) (c : Int) (H : Hp) : Prop := ∃ x y : Int, H p = some (.lst [.int x, .int y, .int c])
theorem Bag.seqT {K : PySem.W.Frag} {p : Addr} {c : Int} {H H' : Hp} (g : Bag p c H) (b : But p H H') {a : Addr} {xs : List V} (h : SqT K H a xs) : SqT K H' a xs := by
  obtain ⟨x, y, hp⟩ := g
  exact b.seqT hp h
theorem Bag.ne {p D : Addr} {c : Int} {H : Hp} (g : Bag p c H) (h : H D = none) : p ≠ D := by
  obtain ⟨x, y, hp⟩ := g
  exact ne_of_none hp h
theorem Bag.upd {p D : Addr} {c : Int} {H : Hp} {o : HO} (g : Bag p c H) (h : p ≠ D) : Bag p c (upd H D o) := by
  obtain ⟨x, y, hp⟩ := g
  exact ⟨x, y, by rw [upd_ne h]; exact hp⟩
theorem Bag.new {p D : Addr} {c : Int} {H : Hp} {o : HO} (g : Bag p c H) (h : H D = none) : Bag p c (L2.upd H D o) := g.upd (g.ne h)
theorem Bag.same {p : Addr} {c : Int} {H H' : Hp} (g : Bag p c H) (s : Same H H') : Bag p c H' := by
  obtain ⟨x, y, hp⟩ := g
  exact ⟨x, y, s _ _ hp⟩
/-- a new thing -/
theorem But.new {p D : Addr} {H H' : Hp} {o : HO} (b : But p H H') (h : H' D = none) : But p H (L2.upd H' D o) := fun a u e n => by
  have z := b a u e n
  rw [upd_ne (ne_of_none z h)]; exact z
/-- a change at what was not there at first -/
theorem But.later {p D : Addr} {H H' : Hp} {o : HO} (b : But p H H') (h : H D = none) : But p H (L2.upd H' D o) := fun a u e n => by
  rw [upd_ne (ne_of_none e h)]; exact b a u e n
theorem But.free {p D : Addr} {H H' : Hp} (b : But p H H') (h : H' D = none) (n : D ≠ p) : H D = none := by
  cases e : H D with
  | none => rfl
  | some o =>
    have z := b D o e n
    rw [h] at z; cases z
/-! ### displays -/
/-- the expression gives the int i, and that is all -/
def DI (te : TE) (σ : St) (i : Int) : Prop := ∀ (H : Hp) (Q : VK), Q (.int i) H → te σ H Q
/-- the expression gives the data d, new things beside what was -/
def DE (p : Addr) (te : TE) (σ : St) (d : PyData) : Prop := ∀ (c : Int) (H : Hp) (Q : VK), Bag p c H → (∀ v H', Same H H' → Bag p c H' → Rp p H' v d → Q v H') → te σ H Q
def DEs (p : Addr) (ta : TA) (σ : St) (ds : List PyData) : Prop := ∀ (c : Int) (H : Hp) (Q : List V → Hp → Prop), Bag p c H → (∀ vs H', Same H H' → Bag p c H' → Rps p H' vs ds → Q vs H') → ta σ H Q
section
variable {p : Addr} {σ : St} {te ta1 tb1 : TE} {ta : TA} {i j : Int} {d : PyData} {ds : List PyData}
theorem Same.rfl' (H : Hp) : Same H H := fun _ _ h => h
theorem di_c : DI (tC (.int i)) σ i := fun _ _ q => q
theorem di_v {n : Nat} (h : σ[n]? = some (some (.int i))) : DI (tVar n) σ i := fun _ _ q => ⟨_, h, q⟩
theorem di_op {f : Int → Int → Int} (h1 : DI ta1 σ i) (h2 : DI tb1 σ j) : DI (tOp (rI0 fun i j => .int (f i j)) ta1 tb1) σ (f i j) := fun H Q q => h1 H _ (h2 H _ ⟨i, j, rfl, rfl, q⟩)
theorem di_opC {C : Int → Int → Prop} {f : Int → Int → Int} (h1 : DI ta1 σ i) (h2 : DI tb1 σ j) (hc : C i j) : DI (tOp (rI C fun i j => .int (f i j)) ta1 tb1) σ (f i j) := fun H Q q => h1 H _ (h2 H _ ⟨i, j, rfl, rfl, hc, q⟩)
theorem di_neg (h1 : DI te σ i) : DI (tUn (rU fun i => .int (-i)) te) σ (-i) := fun H Q q => h1 H _ ⟨i, rfl, q⟩
theorem de_i (h : DI te σ i) : DE p te σ (.int i) := fun c H Q g q => h H Q (q _ H (Same.rfl' H) g (.int i))
theorem de_bl {b : Bool} : DE p (tC (.bl b)) σ (.bool b) := fun c H Q g q => q _ H (Same.rfl' H) g (.bl b)
theorem de_str {z : Str} : DE p (tC (.str z)) σ (.str z) := fun c H Q g q => q _ H (Same.rfl' H) g (.str z)
theorem de_non : DE p (tC .non) σ .none := fun c H Q g q => q _ H (Same.rfl' H) g .non
theorem des_nil : DEs p tNil σ [] := fun c H Q g q => q [] H (Same.rfl' H) g .nil
theorem des_cons (h1 : DE p te σ d) (h2 : DEs p ta σ ds) : DEs p (tCons te ta) σ (d :: ds) := fun c H Q g q =>
  h1 c H _ g fun v H1 s1 g1 r1 => h2 c H1 _ g1 fun vs H2 s2 g2 r2 => q _ H2 (s1.trans s2) g2 (.cons (r1.same s2) r2)
theorem de_tup (h : DEs p ta σ ds) (hl : ds.length ≤ 1000) : DE p (tTup ta) σ (.tuple ds) := fun c H Q g q =>
  h c H _ g fun vs H1 s1 g1 r1 => ⟨by have := r1.length; have := sl; omega, fun a na => q _ _ (s1.trans (same_new na _)) (g1.new na) (.tup upd_same (g1.ne na).symm (by have := r1.length; omega) (r1.same (same_new na _)))⟩
theorem de_lst (h : DEs p ta σ ds) (hl : ds.length ≤ 1000) : DE p (tLst ta) σ (.list ds) := fun c H Q g q =>
  h c H _ g fun vs H1 s1 g1 r1 => ⟨by have := r1.length; have := sl; omega, fun a na => q _ _ (s1.trans (same_new na _)) (g1.new na) (.lst upd_same (g1.ne na).symm (r1.same (same_new na _)))⟩
theorem de_lstN (n : Nat) (R : PyData → Prop) {c : Int} {H : Hp} {Q : VK} (h : ∃ ds, DEs p ta σ ds ∧ ds.length = n ∧ ∀ d ∈ ds, R d) (hn : n ≤ 1000) (g : Bag p c H)
    (q : ∀ ds v H', ds.length = n → (∀ d ∈ ds, R d) → Same H H' → Bag p c H' → Rp p H' v (.list ds) → Q v H') : tLst ta σ H Q := by
  obtain ⟨ds, h1, h2, h3⟩ := h
  exact de_lst h1 (by omega) c H Q g fun v H' => q ds v H' h2 h3
theorem de_cat {es : List PyData} (h1 : DE p ta1 σ (.list ds)) (h2 : DE p tb1 σ (.list es)) (hl : ds.length + es.length ≤ 1000) : DE p (tOp rCat ta1 tb1) σ (.list (ds ++ es)) := fun c H Q g q =>
  h1 c H _ g fun v H1 s1 g1 r1 => h2 c H1 _ g1 fun u H2 s2 g2 r2 => by
    obtain _ | _ | _ | _ | @⟨a, xs, _, ha, na, hr⟩ | _ := r1.same s2
    obtain _ | _ | _ | _ | @⟨b, ys, _, hb, nb, hr2⟩ | _ := r2
    refine ⟨a, b, xs, ys, rfl, rfl, ha, hb, ?_, fun t nt => q _ _ (s1.trans (s2.trans (same_new nt _))) (g2.new nt) (.lst upd_same (g2.ne nt).symm ((hr.append hr2).same (same_new nt _)))⟩
    have := hr.length; have := hr2.length; have := sl; omega
theorem de_varD {n : Nat} {v : V} (h : σ[n]? = some (some v)) (hd : ∀ H, Rp p H v d) : DE p (tVar n) σ d := fun c H Q g q => ⟨_, h, q _ H (Same.rfl' H) g (hd H)⟩
end
/-! ### tuples cut and joined -/
def cutD (ds : List PyData) (lo hi : Option Int) : List PyData := (ds.drop (HT.sIx ds.length 0 lo)).take (HT.sIx ds.length ds.length hi - HT.sIx ds.length 0 lo)
theorem Rps.cut {p : Addr} {H : Hp} {vs : List V} {ds : List PyData} (r : Rps p H vs ds) (lo hi : Option Int) : Rps p H (cutV vs lo hi) (cutD ds lo hi) := by
  unfold cutV cutD
  rw [r.length]
  exact (r.drop _).take _
theorem cutD_len (ds : List PyData) (lo hi : Option Int) : (cutD ds lo hi).length ≤ ds.length := by
  unfold cutD
  rw [List.length_take, List.length_drop]; omega
theorem cutD_mem {ds : List PyData} {lo hi : Option Int} {d : PyData} (h : d ∈ cutD ds lo hi) : d ∈ ds := List.mem_of_mem_drop (List.mem_of_mem_take h)
theorem cut_whole {xs : List V} {lo hi : Option Int} (h : HT.sIx xs.length 0 lo = 0 ∧ HT.sIx xs.length xs.length hi = xs.length) : cutV xs lo hi = xs := by
  unfold cutV
  rw [h.1, h.2, List.drop_zero, Nat.sub_zero, List.take_length]
section
variable {K : PySem.W.Frag} {p : Addr} {c : Int} {H : Hp} {Q : VK}
theorem rd_cut {a : Addr} {ds : List PyData} {lo hi : Option Int} (r : Rp p H (.ref a) (.tuple ds)) (g : Bag p c H)
    (q : ∀ b H', Same H H' → Bag p c H' → Rp p H' (.ref b) (.tuple (cutD ds lo hi)) → Q (.ref b) H') : rSlA K (.ref a) lo hi H Q := by
  obtain _ | _ | _ | _ | _ | @⟨_, xs, _, ha, na, hw, hr⟩ := r
  refine ⟨a, xs, rfl, SqT.of ha, fun w => ?_, fun w b nb => ?_⟩
  · refine q _ _ (Same.rfl' H) g (.tup ha na hw ?_)
    have z := hr.cut lo hi
    rw [cut_whole w] at z
    exact z
  · exact q _ _ (same_new nb _) (g.new nb) (.tup upd_same (g.ne nb).symm (Nat.le_trans (cutV_length _ _ _) hw) ((hr.cut lo hi).same (same_new nb _)))
theorem rd_cat {a b : Addr} {ds es : List PyData} (r1 : Rp p H (.ref a) (.tuple ds)) (r2 : Rp p H (.ref b) (.tuple es)) (g : Bag p c H) (hl : ds.length + es.length ≤ 100000)
    (q : ∀ t H', Same H H' → Bag p c H' → Rp p H' (.ref t) (.tuple (ds ++ es)) → Q (.ref t) H') : rCatA K (.ref a) (.ref b) H Q := by
  have k2 := r2
  have k1 := r1
  obtain _ | _ | _ | _ | _ | @⟨_, xs, _, ha, na, hw, hr⟩ := r1
  obtain _ | _ | _ | _ | _ | @⟨_, ys, _, hb, nb, hw2, hr2⟩ := r2
  have l1 := hr.length
  have l2 := hr2.length
  have hs := sl
  refine ⟨a, b, xs, ys, rfl, rfl, SqT.of ha, SqT.of hb, by omega, fun e => ?_, fun _ e => ?_, fun _ _ t nt => ?_⟩
  · subst e
    cases ds with
    | nil => exact q _ _ (Same.rfl' H) g k2
    | cons _ _ => cases l1
  · subst e
    cases es with
    | nil => rw [List.append_nil] at q; exact q _ _ (Same.rfl' H) g k1
    | cons _ _ => cases l2
  · exact q _ _ (same_new nt _) (g.new nt) (.tup upd_same (g.ne nt).symm (by rw [List.length_append]; omega) ((hr.append hr2).same (same_new nt _)))
end
/-! ### how deep and wide, what its texts are -/
def fit : Nat → PyData → Prop
  | 0, .tuple _ => False
  | n + 1, .tuple ds => ds.length ≤ 3000 ∧ ∀ d ∈ ds, fit n d
  | _, _ => True
inductive Her (P : Str → Prop) : PyData → Prop
  | tup {ds : List PyData} : (∀ d ∈ ds, Her P d) → Her P (.tuple ds)
  | str {z : Str} : P z → Her P (.str z)
  | non : Her P .none
  | bl (b : Bool) : Her P (.bool b)
  | int (i : Int) : Her P (.int i)
  | lst (ds : List PyData) : Her P (.list ds)
theorem Her.mem {P : Str → Prop} {ds : List PyData} (h : Her P (.tuple ds)) : ∀ d ∈ ds, Her P d := by
  cases h with
  | tup h => exact h
theorem Her.cut {P : Str → Prop} {ds : List PyData} (h : Her P (.tuple ds)) (lo hi : Option Int) : Her P (.tuple (cutD ds lo hi)) := .tup fun d m => h.mem d (cutD_mem m)
theorem Her.app {P : Str → Prop} {ds es : List PyData} (h : Her P (.tuple ds)) (k : Her P (.tuple es)) : Her P (.tuple (ds ++ es)) := .tup fun d m => by
  rcases List.mem_append.mp m with m | m
  · exact h.mem d m
  · exact k.mem d m
theorem Her.one {P : Str → Prop} {d : PyData} (h : Her P d) : Her P (.tuple [d]) := .tup fun e m => by rw [List.mem_singleton.mp m]; exact h
/-- one level less, if there is one -/
def spv (sp : Nat → Sp) (n : Nat) : Sp := fun vs H Q E => ∃ m, n = m + 1 ∧ sp m vs H Q E
/-- a thing spoilt: some data, its texts from the two -/
def sp_spoilt (n : Nat) : Sp := fun vs H Q _ => ∃ (p : Addr) (c : Int) (v o : V) (d e : PyData), vs = [.ref p, v, o] ∧ Bag p c H ∧ Rp p H v d ∧ Rp p H o e ∧ fit n d ∧
  ∀ v' d' H', Rp p H' v' d' → (∀ P, Her P d → Her P e → Her P d') → But p H H' → Bag p c H' → Q v' H'
def sp_bag (K : PySem.W.Frag) : Sp := fun vs H Q _ => ∃ (a : Addr) (ns : List Int) (k : Nat), vs = [.ref a, .int k] ∧ SqL K H a (ns.map V.int) ∧ ∀ p H', H p = none → Same H H' → Bag p k H' → Q (.ref p) H'
def sp_draw : Sp := fun vs H Q _ => ∃ (p : Addr) (c m : Int), vs = [.ref p, .int m] ∧ Bag p c H ∧ 0 < m ∧ m.natAbs < 2 ^ 100 ∧ ∀ r H', 0 ≤ r → r < m → But p H H' → Bag p c H' → Q (.int r) H'
/-- an int at least 1 and at most 10 ** 12 -/
def sp_pos : Sp := fun vs H Q _ => ∃ (p : Addr) (c : Int), vs = [.ref p] ∧ Bag p c H ∧ ∀ r H', 1 ≤ r → r ≤ 1000000000000 → But p H H' → Bag p c H' → Q (.int r) H'
end Mus
namespace Mus
open PySem L2
/-- no list in it -/
inductive NoL : PyData → Prop
  | tup {ds : List PyData} : (∀ d ∈ ds, NoL d) → NoL (.tuple ds)
  | str (z : Str) : NoL (.str z)
  | non : NoL .none
  | bl (b : Bool) : NoL (.bool b)
  | int (i : Int) : NoL (.int i)
theorem NoL.mem {ds : List PyData} (h : NoL (.tuple ds)) : ∀ d ∈ ds, NoL d := by
  cases h with
  | tup h => exact h
theorem NoL.two {a b : PyData} (h : NoL a) (k : NoL b) : NoL (.tuple [a, b]) := .tup fun d m => by
  rcases List.mem_cons.mp m with rfl | m
  · exact h
  · rw [List.mem_singleton.mp m]; exact k
theorem NoL.three {a b c : PyData} (h : NoL a) (k : NoL b) (l : NoL c) : NoL (.tuple [a, b, c]) := .tup fun d m => by
  rcases List.mem_cons.mp m with rfl | m
  · exact h
  · rcases List.mem_cons.mp m with rfl | m
    · exact k
    · rw [List.mem_singleton.mp m]; exact l
mutual
theorem Rp.upL {p D : Addr} {H H' : Hp} {ys : List V} (hD : H D = some (.lst ys)) (k : ∀ b o, H b = some o → b ≠ p → b ≠ D → H' b = some o) : ∀ {v : V} {d : PyData}, Rp p H v d → NoL d → Rp p H' v d
  | _, _, .non, _ => .non
  | _, _, .bl b, _ => .bl b
  | _, _, .int i, _ => .int i
  | _, _, .str x, _ => .str x
  | _, _, .lst h n r, z => nomatch z
  | _, _, .tup h n l r, z => .tup (k _ _ h n (ne_of h hD (by intro z; cases z))) n l (Rps.upL hD k r z.mem)
theorem Rps.upL {p D : Addr} {H H' : Hp} {ys : List V} (hD : H D = some (.lst ys)) (k : ∀ b o, H b = some o → b ≠ p → b ≠ D → H' b = some o) : ∀ {vs : List V} {ds : List PyData}, Rps p H vs ds → (∀ d ∈ ds, NoL d) → Rps p H' vs ds
  | _, _, .nil, _ => .nil
  | _, _, .cons a b, z => .cons (Rp.upL hD k a (z _ List.mem_cons_self)) (Rps.upL hD k b fun d m => z d (List.mem_cons_of_mem _ m))
end
/-- a change at the list at D -/
theorem Rps.updL {p D : Addr} {H : Hp} {ys : List V} {o : HO} (hD : H D = some (.lst ys)) {vs : List V} {ds : List PyData} (r : Rps p H vs ds) (z : ∀ d ∈ ds, NoL d) : Rps p (upd H D o) vs ds :=
  r.upL hD (fun b o h _ n => by rw [upd_ne n]; exact h) z
theorem Rp.updL {p D : Addr} {H : Hp} {ys : List V} {o : HO} (hD : H D = some (.lst ys)) {v : V} {d : PyData} (r : Rp p H v d) (z : NoL d) : Rp p (upd H D o) v d :=
  r.upL hD (fun b o h _ n => by rw [upd_ne n]; exact h) z
end Mus

set_option maxRecDepth 100000
set_option maxHeartbeats 4000000
/-! Dicts whose keys are nested tuples: {}, d[k], d[k] = v, d.get(k, x), k in d. -/
namespace Mus
open PySem PySem.Spec PyProof.Rows L2
/-! ### keys -/
mutual
inductive NK (H : Hp) : V → NestedKey → Prop
  | non : NK H .non .none
  | int (i : Int) : NK H (.int i) (.num i)
  | str (x : Str) : NK H (.str x) (.text x)
  | tup {a : Addr} {xs : List V} {ks : List NestedKey} : H a = some (.tup xs) → NKs H xs ks → NK H (.ref a) (.tup ks)
inductive NKs (H : Hp) : List V → List NestedKey → Prop
  | nil : NKs H [] []
  | cons {v : V} {vs : List V} {k : NestedKey} {ks : List NestedKey} : NK H v k → NKs H vs ks → NKs H (v :: vs) (k :: ks)
end
mutual
theorem NK.mono {H H' : Hp} (t : ∀ b xs, H b = some (.tup xs) → H' b = some (.tup xs)) : ∀ {v : V} {k : NestedKey}, NK H v k → NK H' v k
  | _, _, .non => .non
  | _, _, .int i => .int i
  | _, _, .str x => .str x
  | _, _, .tup h r => .tup (t _ _ h) (r.mono t)
theorem NKs.mono {H H' : Hp} (t : ∀ b xs, H b = some (.tup xs) → H' b = some (.tup xs)) : ∀ {vs : List V} {ks : List NestedKey}, NKs H vs ks → NKs H' vs ks
  | _, _, .nil => .nil
  | _, _, .cons a b => .cons (a.mono t) (b.mono t)
end
mutual
theorem NK.is {P : Program} {w : World} {H : Hp} {h : Heap} (ok : HOk P w H h) : ∀ {v : V} {k : NestedKey} {u : Value}, NK H v k → RelV v u → NestedIs h k u
  | _, _, _, .non, r => by cases (show _ = Value.none from r); exact .none
  | _, _, _, .int i, r => by obtain ⟨t, rfl⟩ := (show ∃ t, _ = Value.int i t from r); exact .int i t
  | _, _, _, .str x, r => by obtain ⟨t, rfl⟩ := (show ∃ t, _ = Value.str x t from r); exact .text x t
  | _, _, _, .tup (a := a) (xs := xs) e q, r => by
    cases (show _ = Value.ref a from r)
    obtain ⟨_, its, rv, o, h1, h2, n, h3⟩ := (show ObjOk P w H h a (.tup xs) from ok a _ e)
    exact .tup h1 h2 h3 (by simpa using NKs.all ok q rv)
theorem NKs.all {P : Program} {w : World} {H : Hp} {h : Heap} (ok : HOk P w H h) : ∀ {vs : List V} {ks : List NestedKey} {us : List Value}, NKs H vs ks → Vals vs us → NestedAll h ks us
  | _, _, _, .nil, r => by cases r; exact .nil
  | _, _, _, .cons a b, r => by
    cases r with
    | cons r1 r2 => exact .cons (a.is ok r1) (b.all ok r2)
end
/-! ### the dict -/
abbrev NKV := List (NestedKey × Addr × V)
abbrev KN : NKV → List (NestedKey × Addr × Value) → Prop := Paired fun p q => p.1 = q.1 ∧ p.2.1 = q.2.1 ∧ RelV p.2.2 q.2.2
def ndE (w : World) (x : NestedKey × Addr × Value) : DictEntry := ⟨x.1.hash w, .ref x.2.1, x.2.2⟩
def ndΦ (w : World) (d : Addr) (ks : NKV) : Heap → Prop := fun h => ∃ xs o es ep, KN ks xs ∧ h.get? d = some o ∧ o.ExactDict ∧ o.data = .dict es ep ∧ es.toList = xs.map (ndE w)
def ndO (w : World) (d : Addr) (ks : NKV) : HO := .ext (ndΦ w d ks)
structure Nd (w : World) (H : Hp) (d : Addr) (ks : NKV) : Prop where
  ob : H d = some (ndO w d ks)
  keys : ∀ x ∈ ks, NK H (.ref x.2.1) x.1 ∧ x.1.depth ≤ 8
  one : (ks.map (·.1)).Nodup
  sz : ks.length ≤ sizeLine
  sm : (d == sysModules) = false
def valN (ks : NKV) (k : NestedKey) : Option V := (ks.find? fun x => decide (x.1 = k)).map (·.2.2)
def putN (ks : NKV) (k : NestedKey) (b : Addr) (v : V) : NKV := if (valN ks k).isSome then ks.map (fun x => if x.1 = k then (x.1, x.2.1, v) else x) else ks ++ [(k, b, v)]
theorem KN.val {ks : NKV} {xs : List (NestedKey × Addr × Value)} (r : KN ks xs) (k : NestedKey) : RelO (valN ks k) ((atKey xs k).map (·.2)) := by
  unfold valN atKey
  induction r with
  | nil => exact trivial
  | @cons p q ps qs h t ih =>
    rw [List.find?_cons, List.find?_cons]
    by_cases e : p.1 = k
    · have e2 : q.1 = k := h.1 ▸ e
      simp only [e, e2, decide_true]
      exact h.2.2
    · have e2 : ¬ q.1 = k := h.1 ▸ e
      simp only [e, e2, decide_false]
      exact ih
theorem KN.fsts {ks : NKV} {xs : List (NestedKey × Addr × Value)} (r : KN ks xs) : ks.map (·.1) = xs.map (·.1) := by
  induction r with
  | nil => rfl
  | cons h t ih => rw [List.map_cons, List.map_cons, ih, h.1]
theorem KN.repl {ks : NKV} {xs : List (NestedKey × Addr × Value)} (r : KN ks xs) (k : NestedKey) {v : V} {u : Value} (rv : RelV v u) : KN (ks.map fun x => if x.1 = k then (x.1, x.2.1, v) else x) (xs.map (putAt k u)) := by
  induction r with
  | nil => exact .nil
  | @cons p q ps qs h t ih =>
    refine .cons ?_ ih
    unfold putAt
    dsimp only
    by_cases e : p.1 = k
    · have e2 : q.1 = k := h.1 ▸ e
      rw [if_pos e, if_pos e2]
      exact ⟨h.1, h.2.1, rv⟩
    · have e2 : ¬ q.1 = k := h.1 ▸ e
      rw [if_neg e, if_neg e2]
      exact h
theorem KN.put {ks : NKV} {xs : List (NestedKey × Addr × Value)} (r : KN ks xs) (k : NestedKey) (b : Addr) {v : V} {u : Value} (rv : RelV v u) : KN (putN ks k b v) (storedH xs k b u) := by
  have e : (valN ks k).isSome = (atKey xs k).isSome := by rw [(r.val k).isSome_eq, Option.isSome_map]
  unfold putN storedH
  rw [e]
  by_cases q : (atKey xs k).isSome = true
  · rw [if_pos q, if_pos q]; exact r.repl k rv
  · rw [if_neg q, if_neg q]; exact Paired.snoc r ⟨rfl, rfl, rv⟩
theorem KN.mem {ks : NKV} {xs : List (NestedKey × Addr × Value)} (r : KN ks xs) {F : NestedKey → Addr → Prop} (h : ∀ x ∈ ks, F x.1 x.2.1) : ∀ x ∈ xs, F x.1 x.2.1 := by
  induction r with
  | nil => intro x hx; exact nomatch hx
  | @cons p q ps qs hq t ih =>
    intro x hx
    rcases List.mem_cons.mp hx with e | hx
    · subst e
      rw [← hq.1, ← hq.2.1]
      exact h p List.mem_cons_self
    · exact ih (fun y hy => h y (List.mem_cons_of_mem _ hy)) x hx
theorem putN_len (ks : NKV) (k : NestedKey) (b : Addr) (v : V) : (putN ks k b v).length ≤ ks.length + 1 := by
  unfold putN
  split
  · rw [List.length_map]; omega
  · rw [List.length_append]; exact Nat.le_refl _
theorem putN_keys {ks : NKV} {k : NestedKey} {b : Addr} {v : V} {F : NestedKey → Addr → Prop} (h : ∀ x ∈ ks, F x.1 x.2.1) (hk : F k b) : ∀ x ∈ putN ks k b v, F x.1 x.2.1 := by
  intro x hx
  unfold putN at hx
  split at hx
  · obtain ⟨y, hy, rfl⟩ := List.mem_map.mp hx
    split
    · exact h y hy
    · exact h y hy
  · rcases List.mem_append.mp hx with hx | hx
    · exact h x hx
    · rw [List.mem_singleton.mp hx]; exact hk
theorem valN_none {ks : NKV} {k : NestedKey} (h : valN ks k = none) : k ∉ ks.map (·.1) := fun m => by
  obtain ⟨x, hx, e⟩ := List.mem_map.mp m
  unfold valN at h
  rw [Option.map_eq_none_iff, List.find?_eq_none] at h
  exact h x hx (by simpa using e)
theorem putN_one {ks : NKV} {k : NestedKey} {b : Addr} {v : V} (h : (ks.map (·.1)).Nodup) : ((putN ks k b v).map (·.1)).Nodup := by
  unfold putN
  split
  · have e : (ks.map fun x => if x.1 = k then (x.1, x.2.1, v) else x).map (·.1) = ks.map (·.1) := by
      rw [List.map_map]
      refine List.map_congr_left fun x _ => ?_
      show (if x.1 = k then (x.1, x.2.1, v) else x).1 = x.1
      split <;> rfl
    rw [e]; exact h
  · rename_i q
    have q : valN ks k = none := by cases e : valN ks k with | none => rfl | some _ => rw [e] at q; exact absurd rfl q
    rw [List.map_append, List.nodup_append]
    refine ⟨h, by simp, fun x hx y hy e => ?_⟩
    rw [List.map_singleton, List.mem_singleton] at hy
    have hy : y = k := hy
    exact valN_none q (by rw [← hy, ← e]; exact hx)
theorem Nd.mono {w : World} {H H' : Hp} {d : Addr} {ks : NKV} (n : Nd w H d ks) (ho : H' d = some (ndO w d ks)) (t : ∀ b xs, H b = some (.tup xs) → H' b = some (.tup xs)) : Nd w H' d ks :=
  ⟨ho, fun x hx => ⟨(n.keys x hx).1.mono t, (n.keys x hx).2⟩, n.one, n.sz, n.sm⟩
theorem Nd.same {w : World} {H H' : Hp} {d : Addr} {ks : NKV} (n : Nd w H d ks) (s : Same H H') : Nd w H' d ks := n.mono (s _ _ n.ob) fun _ _ h => s _ _ h
section
variable {X : Cx} {pins : List (Addr × Obj)} {σ : L2.St} {H : Hp} {s : Shared} {a b : Addr} {v : V} {u r : Value} {A : Around} {E : Value → Shared → Prop} {ks : NKV} {k : NestedKey}
theorem Nd.heap (I : Inv X pins σ H s) (n : Nd X.w H a ks) : ∃ xs, KN ks xs ∧ s.heap.DictOfH (nestedKind X.prog X.w) a xs := by
  obtain ⟨⟨xs, o, es, ep, rel, h1, h2, h3, h4⟩, _⟩ := (show ObjOk X.prog X.w H s.heap a (ndO X.w a ks) from I.hok a _ n.ob)
  exact ⟨xs, rel, o, es, ep, h1, h2, h3, h4, rel.mem (F := fun k b => (nestedKind X.prog X.w).is s.heap k b) fun x hx => ⟨(n.keys x hx).1.is I.hok rfl, (n.keys x hx).2⟩, rel.fsts ▸ n.one⟩
theorem nd_room (hu : A.units + 64 < cLine) : (nestedKind X.prog X.w).room A.in1 := by
  show A.in1.units + 8 < cLine
  have : A.in1.units = A.units + 1 := rfl
  omega
/-- what the dict at a holds at the key at b -/
def NGet (w : World) (H : Hp) (a b : Addr) (o : Option V) : Prop := ∃ ks k, Nd w H a ks ∧ NK H (.ref b) k ∧ k.depth ≤ 8 ∧ o = valN ks k
theorem n_getItem {Q : Value → Shared → Prop} (hu : A.units + 64 < cLine) (I : Inv X pins σ H s) (g : NGet X.w H a b (some v)) (h : ∀ w' s', Inv X pins σ H s' → RelV v w' → Q w' s') :
    wpAny (model X.prog X.w) A (getItem (.ref a) (.ref b)) Q E s := by
  obtain ⟨ks, k, n, nk, dk, l⟩ := g
  obtain ⟨xs, rel, dd⟩ := n.heap I
  obtain ⟨w', hw, rw'⟩ := RelO.some_of (v := v) (o := (atKey xs k).map (·.2)) (by rw [l]; exact rel.val k)
  obtain ⟨p, hp, hp2⟩ := Option.map_eq_some_iff.mp hw
  refine wpAny_getItem_heap (knd := nestedKind X.prog X.w) (nd_room hu) ⟨nk.is I.hok rfl, dk⟩ dd hp ?_
  rw [hp2]
  exact h w' _ (I.tok _) rw'
theorem n_in {o : Option V} {Q : Value → Shared → Prop} (hu : A.units + 64 < cLine) (I : Inv X pins σ H s) (g : NGet X.w H a b o) (h : ∀ s', Inv X pins σ H s' → Q (.bool o.isSome) s') :
    wpAny (model X.prog X.w) A (compareOp .In (.ref b) (.ref a)) Q E s := by
  obtain ⟨ks, k, n, nk, dk, l⟩ := g
  obtain ⟨xs, rel, dd⟩ := n.heap I
  refine wpAny_in_heap (knd := nestedKind X.prog X.w) (nd_room hu) ⟨nk.is I.hok rfl, dk⟩ n.sm dd ?_
  have q := (rel.val k).isSome_eq
  rw [Option.isSome_map] at q
  rw [← q, ← l]
  exact h _ (I.tok _)
theorem n_notIn {o : Option V} {Q : Value → Shared → Prop} (hu : A.units + 64 < cLine) (I : Inv X pins σ H s) (g : NGet X.w H a b o) (h : ∀ s', Inv X pins σ H s' → Q (.bool (!o.isSome)) s') :
    wpAny (model X.prog X.w) A (compareOp .NotIn (.ref b) (.ref a)) Q E s := by
  obtain ⟨ks, k, n, nk, dk, l⟩ := g
  obtain ⟨xs, rel, dd⟩ := n.heap I
  refine wpAny_notIn_heap (knd := nestedKind X.prog X.w) (nd_room hu) ⟨nk.is I.hok rfl, dk⟩ n.sm dd ?_
  have q := (rel.val k).isSome_eq
  rw [Option.isSome_map] at q
  rw [← q, ← l]
  exact h _ (I.tok _)
theorem n_get2 {o : Option V} {y : V} {Q : Value → Shared → Prop} (hu : A.units + 64 < cLine) (I : Inv X pins σ H s) (g : NGet X.w H a b o) (rd : RelV y r) (h : ∀ w' s', Inv X pins σ H s' → RelV (o.getD y) w' → Q w' s') :
    wpAny (model X.prog X.w) A (call (.builtin "dict.get") [.ref a, .ref b, r]) Q E s := by
  obtain ⟨ks, k, n, nk, dk, l⟩ := g
  obtain ⟨xs, rel, dd⟩ := n.heap I
  refine call_meetsIn PySem.F.slot_dict_get dd.typeIs PySem.F.entry_dict_get (PySem.F.args_dict_get_3 _ _ _) (meetsH_dict_get_default (nestedKind X.prog X.w) a b n.sm r) ⟨nd_room hu, k, xs, ⟨nk.is I.hok rfl, dk⟩, dd, h _ _ (I.tok _) ?_⟩
  rw [l]
  exact (rel.val k).getD rd
/-- the heap behind d[k] = v -/
theorem n_setItem {Q : Unit → Shared → Prop} (hu : A.units + 64 < cLine) (I : Inv X pins σ H s) (n : Nd X.w H a ks) (nk : NK H (.ref b) k) (dk : k.depth ≤ 8) (rv : RelV v r) (h : ∀ s', Inv X pins σ (upd H a (ndO X.w a (putN ks k b v))) s' → Q () s') :
    wpAny (model X.prog X.w) A (setItem (.ref a) (.ref b) r) Q E s := by
  obtain ⟨xs, rel, dd⟩ := n.heap I
  have hz : xs.length ≤ sizeLine := by rw [← Paired.length rel]; exact n.sz
  refine wpAny_setItem_heap (knd := nestedKind X.prog X.w) (hsz := hz) (nd_room hu) ⟨nk.is I.hok rfl, dk⟩ dd fun h' dd' hs => h _ ?_
  obtain ⟨q, es, ep, hq, h2, h3, h4, _, h5⟩ := dd'
  refine d_write I (by rw [n.ob]; exact True.intro) hs ⟨q, hq⟩ ⟨⟨_, q, es, ep, rel.put k b rv, hq, h2, h3, h4⟩, ⟨q, hq⟩, fun h1 h2 p st => ?_⟩
  obtain ⟨ys, o, es', ep', p1, p2, p3⟩ := p
  exact ⟨ys, o, es', ep', p1, st _ p2, p3⟩
theorem Nd.put {w : World} (n : Nd w H a ks) (nk : NK H (.ref b) k) (dk : k.depth ≤ 8) (hl : ks.length < sizeLine) : Nd w (upd H a (ndO w a (putN ks k b v))) a (putN ks k b v) := by
  have t : ∀ c xs, H c = some (.tup xs) → (upd H a (ndO w a (putN ks k b v))) c = some (.tup xs) := fun c xs hc => by
    rw [upd_ne (ne_of hc n.ob (by intro z; cases z))]; exact hc
  exact ⟨upd_same, putN_keys (F := fun k b => NK _ (.ref b) k ∧ k.depth ≤ 8) (fun x hx => ⟨(n.keys x hx).1.mono t, (n.keys x hx).2⟩) ⟨nk.mono t, dk⟩, putN_one n.one, Nat.le_trans (putN_len _ _ _ _) hl, n.sm⟩
end
/-! ### readings and rules -/
def tNNew (w : World) : TE := fun _ H Q => ∀ d, H d = none → (d == sysModules) = false → Q (.ref d) (upd H d (ndO w d []))
def tNGet (w : World) (td ty : TE) : TE := fun σ H Q => td σ H fun x H1 => ty σ H1 fun y H2 => ∃ a b v, x = .ref a ∧ y = .ref b ∧ NGet w H2 a b (some v) ∧ Q v H2
def tNIn (w : World) (ty td : TE) : TE := fun σ H Q => ty σ H fun y H1 => td σ H1 fun x H2 => ∃ a b o, x = .ref a ∧ y = .ref b ∧ NGet w H2 a b o ∧ Q (.bl o.isSome) H2
def tNNotIn (w : World) (ty td : TE) : TE := fun σ H Q => ty σ H fun y H1 => td σ H1 fun x H2 => ∃ a b o, x = .ref a ∧ y = .ref b ∧ NGet w H2 a b o ∧ Q (.bl (!o.isSome)) H2
def sNPut (w : World) (td ty tv : TE) : TS := fun D σ H => tv σ H fun v H1 => td σ H1 fun x H2 => ty σ H2 fun y H3 => ∃ a b ks k, x = .ref a ∧ y = .ref b ∧ Nd w H3 a ks ∧ NK H3 (.ref b) k ∧ k.depth ≤ 8 ∧ D.nx σ (upd H3 a (ndO w a (putN ks k b v)))
def tNGet2 (w : World) (td ty tx : TE) : TE := fun σ H Q => td σ H fun x H1 => ∃ a ks, x = .ref a ∧ Nd w H1 a ks ∧ ty σ H1 fun y H2 => tx σ H2 fun z H3 => ∃ b o, y = .ref b ∧ NGet w H3 a b o ∧ Q (o.getD z) H3
theorem nd_new {w : World} {H : Hp} {d : Addr} (h : (d == sysModules) = false) : Nd w (upd H d (ndO w d [])) d [] :=
  ⟨upd_same, fun x hx => (by cases hx), List.nodup_nil, Nat.zero_le _, h⟩
section
variable {X : Cx} {o i e f value : Expr} {pos pos' apos cpos : Pos} {td ty tv tx : TE}
theorem pe_nnew : PE X (.Dict [] [] pos) (tNNew X.w) := ⟨fun pins s σ H Q I h =>
  wpAny_Dict_empty ⟨.ref s.heap.objs.size, _, I.laid (a := s.heap.objs.size) (o := ndO X.w s.heap.objs.size []) (t' := s.toks) (fun _ _ q => Heap.get?_push_of_some _ q) (Nat.le_refl _)
    ⟨⟨[], _, #[], 0, .nil, Heap.get?_push_size _ rfl, ⟨rfl, rfl, rfl⟩, rfl, rfl⟩, ⟨_, Heap.get?_push_size _ rfl⟩, fun h1 h2 p st => by
      obtain ⟨ys, o, es', ep', p1, p2, p3⟩ := p
      exact ⟨ys, o, es', ep', p1, st _ p2, p3⟩⟩, rfl, h _ (I.hok.fresh (Nat.le_refl _)) (beq_eq_false_iff_ne.mpr (Ne.symm (Nat.ne_of_lt I.big)))⟩⟩
theorem pe_nget (hu : X.A.units + 64 < cLine) (ho : PE X o td) (hi : PE X i ty) (hs : NoSl i) : PE X (.Subscript o i pos) (tNGet X.w td ty) := by
  refine ⟨fun pins s σ H Q I h => ?_⟩
  refine subD_of PySem.F.slot_dict_getitem.lookup hs (thn (ho.run pins s σ H _ I h) fun u s1 ⟨x, H1, I1, rx, q1⟩ => thn (hi.run pins s1 σ H1 _ I1 q1) fun iv s2 ⟨y, H2, I2, ry, a, b, v, ex, ey, g, q2⟩ => ?_)
  subst ex ey
  obtain rfl : u = Value.ref a := rx
  obtain rfl : iv = Value.ref b := ry
  have t : s2.TypeIs (.ref a) "dict" := by
    obtain ⟨ks, k, n, _⟩ := g
    obtain ⟨xs, rel, dd⟩ := n.heap I2
    exact dd.typeIs
  exact ⟨t, n_getItem hu I2 g fun w' s3 I3 rw' => ⟨v, H2, I3, rw', q2⟩⟩
theorem pc_nin (hu : X.A.units + 64 < cLine) (hi : PE X i ty) (ho : PE X o td) : PC X .In i o (tNIn X.w ty td) := by
  refine ⟨fun pins s σ H Q I h => ?_⟩
  refine thn (hi.run pins s σ H _ I h) fun iv s1 ⟨y, H1, I1, ry, q1⟩ => thn (ho.run pins s1 σ H1 _ I1 q1) fun u s2 ⟨x, H2, I2, rx, a, b, ov, ex, ey, g, q2⟩ => ?_
  subst ex ey
  obtain rfl : u = Value.ref a := rx
  obtain rfl : iv = Value.ref b := ry
  exact n_in hu I2 g fun s3 I3 => ⟨.bl ov.isSome, H2, I3, rfl, q2⟩
theorem pc_nnotin (hu : X.A.units + 64 < cLine) (hi : PE X i ty) (ho : PE X o td) : PC X .NotIn i o (tNNotIn X.w ty td) := by
  refine ⟨fun pins s σ H Q I h => ?_⟩
  refine thn (hi.run pins s σ H _ I h) fun iv s1 ⟨y, H1, I1, ry, q1⟩ => thn (ho.run pins s1 σ H1 _ I1 q1) fun u s2 ⟨x, H2, I2, rx, a, b, ov, ex, ey, g, q2⟩ => ?_
  subst ex ey
  obtain rfl : u = Value.ref a := rx
  obtain rfl : iv = Value.ref b := ry
  exact n_notIn hu I2 g fun s3 I3 => ⟨.bl (!ov.isSome), H2, I3, rfl, q2⟩
theorem ps_nput (hu : X.A.units + 64 < cLine) (ho : PE X o td) (hi : PE X i ty) (hv : PE X value tv) (hs : swapsWith value (some (.Subscript o i pos')) pos.line X.env = pure false) :
    PS X (.Assign [.Subscript o i pos'] value pos) (sNPut X.w td ty tv) := by
  refine ⟨fun pins s σ H D I h => ?_⟩
  refine wpAny_Assign_Subscript (thn (hv.run pins s σ H _ I h) fun r s1 ⟨v, H1, I1, rv, q1⟩ => thn (ho.run pins s1 σ H1 _ I1 q1) fun u s2 ⟨x, H2, I2, rx, q2⟩ => thn (hi.run pins s2 σ H2 _ I2 q2) fun iv s3 ⟨y, H3, I3, ry, a, b, ks, k, ex, ey, n, nk, dk, q3⟩ => ?_) hs
  subst ex ey
  obtain rfl : u = Value.ref a := rx
  obtain rfl : iv = Value.ref b := ry
  exact n_setItem hu I3 n nk dk rv fun s4 I4 => ⟨σ, _, I4, q3⟩
theorem pe_nget2 (hu : X.A.units + 64 < cLine) (ho : PE X o td) (he : PE X e ty) (hf : PE X f tx) (m : M2 X o "get" apos e f cpos) : PE X (.Call (.Attribute o "get" apos) [e, f] [] cpos) (tNGet2 X.w td ty tx) := by
  refine ⟨fun pins s σ H Q I h => ?_⟩
  refine wpAny_Call_method m.base m.few m.line PySem.F.plainAttrs_dict PySem.F.slot_dict_get PySem.F.type_dict_get (thn (ho.run pins s σ H _ I h) fun u s1 ⟨x, H1, I1, rx, a, ks, ex, n, q1⟩ => ?_)
  subst ex
  obtain rfl : u = Value.ref a := rx
  obtain ⟨xs, rel, dd⟩ := n.heap I1
  refine ⟨dd.typeIs, fun b q => ?_, ?_⟩
  · cases q
    obtain ⟨ob, _, _, h1, h2, _⟩ := dd
    exact ⟨ob, h1, h2.2.1⟩
  rw [m.trees]
  refine Calls.callWith_builtin rfl (Calls.evalArgs_plain (Calls.spliced_cons (thn (he.run pins s1 σ H1 _ I1 q1) fun iv s2 ⟨y, H2, I2, ry, q2⟩ =>
    Calls.spliced_cons (thn (hf.run pins s2 σ H2 _ I2 q2) fun fv s3 ⟨z, H3, I3, rz, b, ov, ey, g, q3⟩ => Calls.spliced_nil ?_))))
  subst ey
  obtain rfl : iv = Value.ref b := ry
  exact n_get2 hu I3 g rz fun w' s4 I4 rw' => ⟨_, H3, I4, rw', q3⟩
end
end Mus

set_option maxRecDepth 100000
set_option maxHeartbeats 4000000
/-! sorted(x), x a list or a tuple of data of one shape. -/
namespace PySem.W
open PySem PySem.Calls PyProof.Rows
section
variable {prog : Program} {w : World} {A : Around} {E : Value → Shared → Prop} {s : Shared}
/-- the items of a tuple, in a list of their own -/
theorem mus_collect {a : Addr} {vs : List Value} {Q : List Value → Shared → Prop} (ht : s.heap.IsTuple a vs.toArray) (hz : vs.length ≤ sizeLine)
    (h : Q vs { s with heap := (s.heap.push (seqObj "list" #[] 0)).update s.heap.objs.size (Obj.mapSeq (· ++ vs.toArray)) }) : wpAny (model prog w) A (collect (.ref a)) Q E s := by
  obtain ⟨o, e1, e2, n, e3⟩ := id ht
  have f1 : (s.heap.push (seqObj "list" #[] 0)).get? a = some o := Heap.get?_push_of_some _ e1
  have f2 : (s.heap.push (seqObj "list" #[] 0)).get? s.heap.objs.size = some (seqObj "list" #[] 0) := Heap.get?_push_size _ rfl
  have k1 : (Value.type "tuple" == Value.type "list") = false := by decide +kernel
  have k2 : (Value.type "tuple" == Value.type "tuple") = true := by decide +kernel
  unfold collect
  refine wpAny_bind (wpAny_runValue (codeAny_builtin entry_proto_collect' ?_))
  refine wpAny_bind (wpAny_newList (wpAny_pure ⟨Code.quiet_builtin _ (by decide +kernel), codeAny_builtin entry_list_iadd' ?_⟩))
  show wpAny _ _ (Builtin.List.listExtendWith (.ref s.heap.objs.size) (.ref a) (.ref s.heap.objs.size)) _ _ { s with heap := s.heap.push (seqObj "list" #[] 0) }
  unfold Builtin.List.listExtendWith
  refine wpAny_bind (wpAny_typeOf (T := "tuple") ⟨o, f1, e2⟩ ?_)
  rw [if_pos (by rw [k1, k2]; simp)]
  refine wpAny_bind (listItems_at f1 e3 (wpAny_bind (listItems_at (xs := #[]) (n := 0) f2 rfl ?_)))
  rw [if_neg (by simp)]
  refine wpAny_bind (listUpdate_at (xs := #[]) (n := 0) f2 rfl (wpAny_pure ?_) (Nat.zero_le _) (by simp only [Array.size_append, List.size_toArray, List.length_nil]; omega))
  refine wpAny_bind (wpAny_load (get?_update_seq f2 _) ?_)
  have e : ((#[] : Array Value) ++ vs.toArray).toList = vs := by simp
  show wpAny _ _ (pure ((#[] : Array Value) ++ vs.toArray).toList) Q E _
  rw [e]
  exact wpAny_pure h
theorem mus_sortedT {a : Addr} {vs : List Value} {Q : Value → Shared → Prop} (ht : s.heap.IsTuple a vs.toArray) (hL : vs.length ≤ sizeLine)
    (body : ∀ E' : Value → Shared → Prop, wpAny (model prog w) A.in1.in1 (Builtin.«list.sort» ⟨[.ref (s.heap.objs.size + 1)], []⟩) (fun f s' => f = .done (.ret .none) ∧ Q (.ref (s.heap.objs.size + 1)) s') E' { s with heap := copyHeap s.heap vs }) :
    wpAny (model prog w) A (call (.builtin "sorted") [.ref a]) Q E s := by
  have z : ((s.heap.push (seqObj "list" #[] 0)).update s.heap.objs.size (Obj.mapSeq (· ++ vs.toArray))).objs.size = s.heap.objs.size + 1 := (Heap.size_update ..).trans (size_push' ..)
  refine call_function_entry_kw kind_sorted plain_sorted entry_sorted (args_sorted1 _) ?_
  unfold Builtin.«sorted»
  refine wpAny_bind (m := checkCount "sorted" 1 1 _) (wpAny_pure (wpAny_bind (mus_collect ht hL (wpAny_bind (wpAny_newList ?_ hL)))))
  show wpAny _ _ _ _ _ { s with heap := copyHeap s.heap vs }
  rw [z]
  refine wpAny_bind (wpAny_holding (wpAny_call_entry_kw slot_list_sort ⟨_, copyHeap_at s.heap vs, rfl⟩ entry_list_sort ?sorts (args_list_sort _)))
  case sorts =>
    refine wpAny_mono (body _) (fun f s' q => ?_) fun _ _ e => e
    obtain ⟨rfl, q⟩ := q
    exact ⟨_, rfl, wpAny_pure ⟨_, rfl, q⟩⟩
theorem mus_sorted {β : Type} {R : Value → β → Prop} {enc : β → PyData} {bs : List β} {a : Addr} {vs : List Value} {Q : Value → Shared → Prop} (ht : s.heap.IsTuple a vs.toArray) (e : EachIs R vs bs) (er : EachIs (fun v b => ∃ as, Reads s.heap v (enc b) as) vs bs) (hal : AllAlike (bs.map enc)) (hk : Sortable (bs.map enc)) (hL : bs.length ≤ sizeLine)
    (hu : ∀ b, b ∈ bs → A.units + 2 + (enc b).depth < cLine) (h : ∀ out, out.length = bs.length → EachIs R out (bs.mergeSort (dataLe false enc)) → Q (.ref (s.heap.objs.size + 1)) { s with heap := sortedAll s.heap vs (List.toArray out) }) :
    wpAny (model prog w) A (call (.builtin "sorted") [.ref a]) Q E s := by
  have lv : vs.length ≤ sizeLine := e.length ▸ hL
  have er' : EachIs (fun v b => ∃ as, Reads (sortingHeap (copyHeap s.heap vs) (s.heap.objs.size + 1) vs) v (enc b) as) vs bs := er.mono fun _ _ ⟨as, r⟩ => ⟨as, PyProof.Rows.Reads.keeps (fun _ _ => sorting_copy_old) r⟩
  have S := SortsAt.data (prog := prog) (w := w) (A := A.in1.in1) (s := { s with heap := sortingHeap (copyHeap s.heap vs) (s.heap.objs.size + 1) vs }) (each_map (R := fun v d => ∃ as, Reads (sortingHeap (copyHeap s.heap vs) (s.heap.objs.size + 1) vs) v d as) enc er') hal hk (bound_map hu)
  exact mus_sortedT ht lv fun _ => list_sort_vals (s := { s with heap := copyHeap s.heap vs }) (copyHeap_at s.heap vs) S lv ⟨rfl, h _ (by rw [sortVals_length false rfl]; exact e.length) (sortVals_data false e er' hal)⟩
end
end PySem.W
namespace Mus
open PySem PySem.Spec PyProof.Rows L2
def rSortedD (K : PySem.W.Frag) : List V → Hp → VK → Prop := fun vs H Q => ∃ (a : Addr) (xs : List V) (ds : List PyData), vs = [V.ref a] ∧ (SqL K H a xs ∨ SqT K H a xs) ∧ DpAll K H xs ds ∧ PySem.W.AllAlike ds ∧ PySem.W.Sortable ds ∧ (∀ d ∈ ds, d.depth ≤ 20) ∧
  ∀ (ps : List (V × PyData)) p, ps = (xs.zip ds).mergeSort (PySem.W.dataLe false (·.2)) → H p = none → Q (.ref p) (upd H p (.lst (ps.map (·.1))))
theorem each_zip {h : Heap} : ∀ {xs : List V} {ds : List PyData} {vs : List Value}, Vals xs vs → xs.length = ds.length → PySem.W.EachIs (fun v (b : V × PyData) => RelV b.1 v) vs (xs.zip ds)
  | [], [], _, .nil, _ => .nil
  | x :: xs, d :: ds, _, .cons r rs, hl => .cons r (each_zip (h := h) rs (by simpa using hl))
  | [], _ :: _, _, _, hl => by cases hl
  | _ :: _, [], _, _, hl => by cases hl
theorem each_reads {h : Heap} : ∀ {xs : List V} {ds : List PyData} {vs : List Value} {as : List Addr}, xs.length = ds.length → ReadsAll h vs ds as → vs.length = xs.length → PySem.W.EachIs (fun v (b : V × PyData) => ∃ as, Reads h v b.2 as) vs (xs.zip ds)
  | [], [], _, _, _, .nil, _ => .nil
  | x :: xs, d :: ds, _, _, hl, .cons r rs, h2 => .cons ⟨_, r⟩ (each_reads (by simpa using hl) rs (by simpa using h2))
  | [], _ :: _, _, _, hl, _, _ => by cases hl
  | _ :: _, [], _, _, hl, _, _ => by cases hl
theorem vals_of_each : ∀ {ps : List (V × PyData)} {out : List Value}, PySem.W.EachIs (fun v (b : V × PyData) => RelV b.1 v) out ps → Vals (ps.map (·.1)) out
  | _, _, .nil => .nil
  | _, _, .cons r rs => .cons r (vals_of_each rs)
theorem dpAll_len {K : PySem.W.Frag} {H : Hp} : ∀ {xs : List V} {ds : List PyData}, DpAll K H xs ds → xs.length = ds.length
  | _, _, .nil => rfl
  | _, _, .cons _ r => congrArg (· + 1) (dpAll_len r)
section
variable {X : Cx}
theorem cr_sortedD (hu : X.A.units + 64 < cLine) : CallR X (.builtin "sorted") (rSortedD X.K) := by
  intro pins s σ H vs us Q I r h
  obtain ⟨a, xs, ds, rfl, hs, hd, hal, hk, hdep, q⟩ := h
  obtain ⟨u, rfl, ru⟩ := vals1 r
  obtain rfl : u = Value.ref a := ru
  have ll := dpAll_len hd
  have lz : (xs.zip ds).length = ds.length := by rw [List.length_zip, ll, Nat.min_self]
  have em : (xs.zip ds).map (·.2) = ds := List.map_snd_zip (by omega)
  have hu' : ∀ b ∈ xs.zip ds, X.A.units + 2 + b.2.depth < cLine := fun b hb => by
    have := hdep b.2 (by rw [← em]; exact List.mem_map.mpr ⟨b, hb, rfl⟩)
    omega
  have fin : ∀ {vs : List Value}, Vals xs vs → ∀ out, out.length = (xs.zip ds).length → PySem.W.EachIs (fun v (b : V × PyData) => RelV b.1 v) out ((xs.zip ds).mergeSort (PySem.W.dataLe false (·.2))) → EP X pins σ Q (.ref (s.heap.objs.size + 1)) { s with heap := sortedAll s.heap vs (List.toArray out) } := fun {vs} rv out hl he => by
    obtain ⟨n, hn⟩ := sortedAll_at s.heap vs (List.toArray out)
    have nd : H (s.heap.objs.size + 1) = none := I.hok.fresh (Nat.le_succ _)
    have hz : ((xs.zip ds).mergeSort (PySem.W.dataLe false (·.2))).length ≤ sizeLine := by
      rw [List.length_mergeSort, lz, ← ll]
      rcases hs with hs | hs
      · obtain ⟨_, _, _, hz⟩ := I.list hs; exact hz
      · obtain ⟨_, _, _, hz⟩ := I.tuple hs; exact hz
    exact ⟨.ref (s.heap.objs.size + 1), _, I.laid (t' := s.toks) (o := .lst (((xs.zip ds).mergeSort (PySem.W.dataLe false (·.2))).map (·.1))) (fun b o e => sortedAll_old e) (Nat.le_succ _) ⟨by rw [List.length_map]; exact hz, out, n, vals_of_each he, hn⟩, rfl, q _ _ rfl nd⟩
  rcases hs with hs | hs
  · obtain ⟨its, rv, hl, hz⟩ := I.list hs
    obtain ⟨as, ra⟩ := Dp.readsAll I ds xs its hd rv
    exact PySem.W.sorted_data hl.isList (each_zip (h := s.heap) rv ll) (each_reads ll ra rv.length.symm) (by rw [em]; exact hal) (by rw [em]; exact hk) (by rw [lz, ← ll]; exact hz) hu' (fin rv)
  · obtain ⟨its, rv, hl, hz⟩ := I.tuple hs
    obtain ⟨as, ra⟩ := Dp.readsAll I ds xs its hd rv
    exact PySem.W.mus_sorted hl (each_zip (h := s.heap) rv ll) (each_reads ll ra rv.length.symm) (by rw [em]; exact hal) (by rw [em]; exact hk) (by rw [lz, ← ll]; exact hz) hu' (fin rv)
end
end Mus

set_option maxRecDepth 100000
set_option maxHeartbeats 4000000
/-! sorted(d) and d.get(k, x) of a dict whose keys are nested tuples. -/
namespace PySem.W
open PySem PySem.Calls PyProof.Rows
theorem mus_raw {prog : Program} {w : World} {d : Addr} {es : Array DictEntry} {ep : Nat} (lo : (d == sysModules) = false) : KdlSrc prog w "dict" d d es.size (fun i v => ∃ hi : i < es.size, v = es[i].key) (fun h => h.DictRaw d es ep) where
  type := fun _ hm => hm.typeIs
  there := fun _ hm => ⟨let ⟨_, ho, _⟩ := hm; Heap.lt_size ho, let ⟨_, ho, _⟩ := hm; Heap.lt_size ho⟩
  keep := fun _ _ hm hk => hm.at fun o e => hk d (.inl rfl) o e
  notList := by decide
  notTuple := by decide
  hint := fun _ _ _ _ hm hq => kdl_hint_dict hm.typeIs hq
  iter := fun _ _ hh hm => ⟨_, _, (fun _ _ hq => wpAny_pyIter_dict_raw lo hm hq), Walks.rawKeys hh _ d (Nat.ne_of_lt (let ⟨_, ho, _⟩ := hm; Heap.lt_size ho)) es ep, ⟨⟨_, Heap.get?_push_size _ rfl, rfl, rfl⟩, hm.at fun _ e => Heap.get?_push_of_some _ e⟩⟩
end PySem.W
namespace Mus
open PySem PySem.Spec PyProof.Rows L2
def rSortedN (K : PySem.W.Frag) (w : World) : List V → Hp → VK → Prop := fun vs H Q => ∃ (a : Addr) (kvs : NKV) (ds : List PyData), vs = [V.ref a] ∧ Nd w H a kvs ∧ DpAll K H (kvs.map fun x => V.ref x.2.1) ds ∧ PySem.W.AllAlike ds ∧ PySem.W.Sortable ds ∧ (∀ d ∈ ds, d.depth ≤ 20) ∧
  ∀ (ps : List (V × PyData)) p, ps = ((kvs.map fun x => V.ref x.2.1).zip ds).mergeSort (PySem.W.dataLe false (·.2)) → H p = none → Q (.ref p) (upd H p (.lst (ps.map (·.1))))
theorem vals_refs : ∀ kvs : NKV, Vals (kvs.map fun x => V.ref x.2.1) (kvs.map fun x => Value.ref x.2.1)
  | [] => .nil
  | x :: r => .cons rfl (vals_refs r)
theorem KN.ref {ks : NKV} {xs : List (NestedKey × Addr × Value)} (r : KN ks xs) : xs.map (fun x => Value.ref x.2.1) = ks.map fun x => Value.ref x.2.1 := by
  induction r with
  | nil => rfl
  | cons h t ih => rw [List.map_cons, List.map_cons, ih, h.2.1]
section
variable {X : Cx}
theorem cr_sortedN (hc : X.calm = true) (hu : X.A.units + 64 < cLine) : CallR X (.builtin "sorted") (rSortedN X.K X.w) := by
  intro pins s σ H vs us Q I r h
  obtain ⟨a, kvs, ds, rfl, n, hd, hal, hk, hdep, q⟩ := h
  obtain ⟨u, rfl, ru⟩ := vals1 r
  obtain rfl : u = Value.ref a := ru
  obtain ⟨xs, rel, dd⟩ := n.heap I
  obtain ⟨es, ep, raw, hs, hx⟩ := dd.raw
  have hl : es.size = kvs.length := by rw [hs, Paired.length rel]
  have h16 : es.size ≤ sizeLine := by rw [hl]; exact n.sz
  refine Calls.call_function_entry PyProof.Rows.kind_sorted PyProof.Rows.plain_sorted PyProof.Rows.entry_sorted (PyProof.Rows.args_sorted1 _) ?_
  unfold Builtin.«sorted»
  refine wpAny_bind (m := checkCount "sorted" 1 1 _) (wpAny_pure ?_)
  refine wpAny_bind (PySem.W.kdu_collect (A := X.A.in1) (PySem.W.mus_raw n.sm) (I.ok.hd hc) raw h16 fun h' tk acc hk' hacc => ?_)
  have e1 : acc.toList = kvs.map fun x => Value.ref x.2.1 := by
    rw [← rel.ref]
    refine List.ext_getElem? fun j => ?_
    rw [List.getElem?_map]
    cases e : acc.toList[j]? with
    | none =>
      have : acc.toList.length ≤ j := List.getElem?_eq_none_iff.mp e
      rw [Array.length_toList, hacc.1, hs] at this
      rw [List.getElem?_eq_none this]; rfl
    | some v =>
      obtain ⟨hi, rfl⟩ := hacc.2 j v (by rw [← Array.getElem?_toList]; exact e)
      obtain ⟨y, hy, ey, _⟩ := hx j hi
      rw [hy, ey]; rfl
  have rv : Vals (kvs.map fun x => V.ref x.2.1) acc.toList := by rw [e1]; exact vals_refs kvs
  have I1 : Inv X pins σ H { s with heap := h', toks := tk } := I.kept hk'
  have ll := dpAll_len hd
  have lz : ((kvs.map fun x => V.ref x.2.1).zip ds).length = ds.length := by rw [List.length_zip, ll, Nat.min_self]
  have em : ((kvs.map fun x => V.ref x.2.1).zip ds).map (·.2) = ds := List.map_snd_zip (by omega)
  have la : acc.toList.length = ds.length := by rw [← rv.length]; exact ll
  have hL : acc.toList.length ≤ sizeLine := by rw [Array.length_toList, hacc.1]; exact h16
  obtain ⟨as, ra⟩ := Dp.readsAll I1 ds _ _ hd rv
  refine wpAny_bind (wpAny_newList ?_ hL)
  have hoL : (h'.push (seqObj "list" acc.toList.toArray 0)).get? h'.objs.size = some (seqObj "list" acc.toList.toArray 0) := Heap.get?_push_size _ rfl
  show wpAny _ _ _ _ _ { s with heap := h'.push (seqObj "list" acc.toList.toArray 0), toks := tk }
  have old : ∀ b o, h'.get? b = some o → (PySem.W.sortingHeap (h'.push (seqObj "list" acc.toList.toArray 0)) h'.objs.size acc.toList).get? b = some o := fun b o e => PySem.W.sortingHeap_old (Nat.ne_of_lt (Heap.lt_size e)) (Heap.get?_push_of_some _ e)
  have er : PySem.W.EachIs (fun v (b : V × PyData) => ∃ as, Reads (PySem.W.sortingHeap (h'.push (seqObj "list" acc.toList.toArray 0)) h'.objs.size acc.toList) v b.2 as) acc.toList ((kvs.map fun x => V.ref x.2.1).zip ds) :=
    (each_reads ll ra rv.length.symm).mono fun _ _ ⟨as, r⟩ => ⟨as, PyProof.Rows.Reads.keeps old r⟩
  have hu' : ∀ b ∈ (kvs.map fun x => V.ref x.2.1).zip ds, X.A.in1.in1.units + b.2.depth < cLine := fun b hb => by
    have := hdep b.2 (by rw [← em]; exact List.mem_map.mpr ⟨b, hb, rfl⟩)
    have e : X.A.in1.in1.units = X.A.units + 2 := rfl
    omega
  have S := PySem.W.SortsAt.data (prog := X.prog) (w := X.w) (A := X.A.in1.in1) (s := { s with heap := PySem.W.sortingHeap (h'.push (seqObj "list" acc.toList.toArray 0)) h'.objs.size acc.toList, toks := tk }) (PySem.W.each_map (R := fun v d => ∃ as, Reads _ v d as) (fun b : V × PyData => b.2) er) (by rw [em]; exact hal) (by rw [em]; exact hk) (PySem.W.bound_map hu')
  have he := PySem.W.sortVals_data false (each_zip (h := h') rv ll) er (by rw [em]; exact hal)
  refine wpAny_bind (wpAny_holding (wpAny_call_entry PyProof.Rows.slot_list_sort ⟨_, hoL, rfl⟩ PyProof.Rows.entry_list_sort
    (PySem.W.list_sort_vals (s := { s with heap := h'.push (seqObj "list" acc.toList.toArray 0), toks := tk }) hoL S hL ⟨_, rfl, ?_⟩) (PyProof.Rows.args_list_sort _)))
  generalize PySem.W.sortVals _ false acc.toList acc.toList = out at he ⊢
  obtain ⟨e', he'⟩ := PyProof.Rows.sortedHeap_at (vs := acc.toList) (out := out.toArray) hoL
  refine wpAny_pure ⟨_, rfl, .ref h'.objs.size, upd H h'.objs.size (.lst ((((kvs.map fun x => V.ref x.2.1).zip ds).mergeSort (PySem.W.dataLe false (·.2))).map (·.1))), I1.laid (t' := tk) (fun b u e => ?_) (Nat.le_refl _)
    (show ObjOk X.prog X.w _ _ _ (.lst _) from ⟨?_, out, e', vals_of_each he, he'⟩), rfl, q _ _ rfl (I1.hok.fresh (Nat.le_refl _))⟩
  · have hb : b < h'.objs.size := Heap.lt_size e
    rw [PyProof.Rows.sortedHeap_old (Nat.ne_of_lt hb) (by rw [size_push']; exact Nat.lt_succ_of_lt hb)]
    exact Heap.get?_push_of_some _ e
  · rw [List.length_map, List.length_mergeSort, lz, ← la]; exact hL
end
end Mus

set_option maxRecDepth 100000
set_option maxHeartbeats 4000000
/-! Data stand where a thing that is no list and no tuple changes. -/
namespace Mus
open PySem L2
mutual
theorem Rp.upN {p D : Addr} {H : Hp} {o : HO} (h1 : ∀ xs, H D ≠ some (.lst xs)) (h2 : ∀ xs, H D ≠ some (.tup xs)) : ∀ {v : V} {d : PyData}, Rp p H v d → Rp p (upd H D o) v d
  | _, _, .non => .non
  | _, _, .bl b => .bl b
  | _, _, .int i => .int i
  | _, _, .str x => .str x
  | _, _, .lst h n r => .lst (by rw [upd_ne fun z => h1 _ (by rw [← z]; exact h)]; exact h) n (Rps.upN h1 h2 r)
  | _, _, .tup h n l r => .tup (by rw [upd_ne fun z => h2 _ (by rw [← z]; exact h)]; exact h) n l (Rps.upN h1 h2 r)
theorem Rps.upN {p D : Addr} {H : Hp} {o : HO} (h1 : ∀ xs, H D ≠ some (.lst xs)) (h2 : ∀ xs, H D ≠ some (.tup xs)) : ∀ {vs : List V} {ds : List PyData}, Rps p H vs ds → Rps p (upd H D o) vs ds
  | _, _, .nil => .nil
  | _, _, .cons a b => .cons (Rp.upN h1 h2 a) (Rps.upN h1 h2 b)
end
theorem rp_tup {p t : Addr} {c : Int} {H : Hp} {vs : List V} {ds : List PyData} (g : Bag p c H) (nt : H t = none) (r : Rps p H vs ds) (hl : vs.length ≤ 100000 := by exact Nat.le_of_ble_eq_true rfl) : Rp p (upd H t (.tup vs)) (.ref t) (.tuple ds) :=
  .tup upd_same (g.ne nt).symm hl (r.same (same_new nt _))
theorem atI_intsU {ns : List Int} {r : Int} (h0 : 0 ≤ r) (h1 : r < ns.length) : ∃ x, x ∈ ns ∧ atI (ns.map V.int) r = some (.int x) := by
  have hi : r.toNat < ns.length := by omega
  refine ⟨ns[r.toNat], List.getElem_mem _, at_int h0 ?_⟩
  rw [List.getElem?_map, List.getElem?_eq_getElem hi]; rfl
/-- one of the listed values -/
theorem atI_mem {xs : List V} {r : Int} (h0 : 0 ≤ r) (h1 : r < xs.length) : ∃ x, x ∈ xs ∧ atI xs r = some x := by
  have hi : r.toNat < xs.length := by omega
  exact ⟨xs[r.toNat], List.getElem_mem _, at_int h0 (List.getElem?_eq_getElem hi)⟩
end Mus

set_option maxRecDepth 100000
set_option maxHeartbeats 4000000
/-! View ids as data and as keys; their order; lists sorted by them. -/
namespace Mus
open PySem PySem.Spec PyProof.Rows L2
def vKey (k i l : Int) : NestedKey := .tup [.num k, .tup [.num i, .num l]]
def vD (k i l : Int) : PyData := .tuple [.int k, .tuple [.int i, .int l]]
mutual
def kD : NestedKey → PyData
  | .none => .none
  | .num i => .int i
  | .text x => .str x
  | .tup ks => .tuple (kDs ks)
def kDs : List NestedKey → List PyData
  | [] => []
  | k :: ks => kD k :: kDs ks
end
theorem kD_v (k i l : Int) : kD (vKey k i l) = vD k i l := rfl
theorem vKey_depth (k i l : Int) : (vKey k i l).depth ≤ 8 := by simp [vKey, NestedKey.depth, NestedKey.depthAll]
theorem vKey_inj {k i l k' i' l' : Int} (h : vKey k i l = vKey k' i' l') : k = k' ∧ i = i' ∧ l = l' := by
  injection h with h
  injection h with h1 h2
  injection h1 with h1
  injection h2 with h2 _
  injection h2 with h2
  injection h2 with h2 h3
  injection h2 with h2
  injection h3 with h3 _
  injection h3 with h3
  exact ⟨h1, h2, h3⟩
theorem nk_vid {p : Addr} {H : Hp} {a : Addr} {k i l : Int} (h : Rp p H (.ref a) (vD k i l)) : NK H (.ref a) (vKey k i l) := by
  obtain _ | _ | _ | _ | _ | @⟨_, xs, _, ha, _, _, hr⟩ := h
  obtain _ | ⟨h1, _ | ⟨h2, hn⟩⟩ := hr
  cases hn
  cases h1
  obtain _ | _ | _ | _ | _ | @⟨b, ys, _, hb, _, _, hr2⟩ := h2
  obtain _ | ⟨h3, _ | ⟨h4, hn⟩⟩ := hr2
  cases hn
  cases h3
  cases h4
  exact .tup ha (.cons (.int _) (.cons (.tup hb (.cons (.int _) (.cons (.int _) .nil))) .nil))
theorem v_alike (k i l k' i' l' : Int) : PySem.W.alike (vD k i l) (vD k' i' l') = true := rfl
theorem v_depth (k i l : Int) : (vD k i l).depth ≤ 20 := by simp [vD, PyData.depth, PyData.depthAll]
/-- the order of view ids -/
def vLt (k i l k' i' l' : Int) : Bool := decide (k < k' ∨ k = k' ∧ (i < i' ∨ i = i' ∧ l < l'))
theorem v_lt (k i l k' i' l' : Int) : PySem.W.dataLt (vD k i l) (vD k' i' l') = vLt k i l k' i' l' := by
  unfold vD vLt
  rw [PySem.W.dataLt_pair rfl rfl, PySem.W.dataLt_ii, PySem.W.dataLt_int]
  have e1 : PyData.eqv (.int k) (.int k') = decide (k = k') := rfl
  have e2 : PyData.eqv (.tuple [.int i, .int l]) (.tuple [.int i', .int l']) = (decide (i = i') && decide (l = l')) := by
    show (decide (i = i') && (decide (l = l') && true)) = _
    rw [Bool.and_true]
  rw [e1, e2]
  by_cases h1 : k = k'
  · subst h1
    by_cases h2 : i = i'
    · subst h2
      by_cases h3 : l = l'
      · subst h3; simp
      · simp [h3]
    · simp [h2]
  · simp [h1]
theorem valN_mem {ks : NKV} {x : NestedKey × Addr × V} (h : (ks.map (·.1)).Nodup) (hx : x ∈ ks) : valN ks x.1 = some x.2.2 := by
  induction ks with
  | nil => cases hx
  | cons y ys ih =>
    rw [List.map_cons, List.nodup_cons] at h
    unfold valN
    rw [List.find?_cons]
    rcases List.mem_cons.mp hx with rfl | hx
    · simp
    · have ne : ¬ y.1 = x.1 := fun e => h.1 (by rw [e]; exact List.mem_map.mpr ⟨x, hx, rfl⟩)
      rw [decide_eq_false ne]
      exact ih h.2 hx
theorem putN_all {ks : NKV} {k : NestedKey} {b : Addr} {v : V} {A : NestedKey → Addr → Prop} {B : V → Prop} (h : ∀ x ∈ ks, A x.1 x.2.1 ∧ B x.2.2) (hk : A k b) (hv : B v) : ∀ x ∈ putN ks k b v, A x.1 x.2.1 ∧ B x.2.2 := by
  intro x hx
  unfold putN at hx
  split at hx
  · obtain ⟨y, hy, rfl⟩ := List.mem_map.mp hx
    split
    · exact ⟨(h y hy).1, hv⟩
    · exact h y hy
  · rcases List.mem_append.mp hx with hx | hx
    · exact h x hx
    · rw [List.mem_singleton.mp hx]; exact ⟨hk, hv⟩
/-- the entries, sorted by their keys -/
theorem sort_split {kvs : NKV} {ps : List (V × PyData)} (e : ps = ((kvs.map fun x => V.ref x.2.1).zip (kvs.map fun x => kD x.1)).mergeSort (PySem.W.dataLe false (·.2))) :
    ∃ ys : NKV, ys.Perm kvs ∧ ps.map (·.1) = ys.map (fun x => V.ref x.2.1) ∧ ys = kvs.mergeSort fun a b => !(PySem.W.dataLt (kD b.1) (kD a.1)) := by
  refine ⟨_, List.mergeSort_perm _ _, ?_, rfl⟩
  have z : (kvs.map fun x => V.ref x.2.1).zip (kvs.map fun x => kD x.1) = kvs.map fun x => (V.ref x.2.1, kD x.1) := List.zip_map' ..
  rw [e, z, ← List.map_mergeSort (r := fun a b => !(PySem.W.dataLt (kD b.1) (kD a.1))) (fun _ _ _ _ => rfl), List.map_map]
  rfl
theorem v_sorted {kvs : NKV} (h : ∀ x ∈ kvs, ∃ k i l, x.1 = vKey k i l) (n : (kvs.map (·.1)).Nodup) : (kvs.mergeSort fun a b => !(PySem.W.dataLt (kD b.1) (kD a.1))).Pairwise fun a b => PySem.W.dataLt (kD a.1) (kD b.1) = true := by
  have P : (kvs.mergeSort fun a b => !(PySem.W.dataLt (kD b.1) (kD a.1))).Perm kvs := List.mergeSort_perm _ _
  have S : (kvs.mergeSort fun a b => !(PySem.W.dataLt (kD b.1) (kD a.1))).Pairwise fun a b => (!(PySem.W.dataLt (kD b.1) (kD a.1))) = true := by
    refine List.pairwise_mergeSort (fun a b c h1 h2 => ?_) (fun a b => ?_) _
    · simp only [Bool.not_eq_true'] at h1 h2 ⊢
      cases e : PySem.W.dataLt (kD c.1) (kD a.1) with
      | false => rfl
      | true =>
        by_cases h3 : PySem.W.dataLt (kD b.1) (kD c.1) = true
        · have := PyProof.Rows.lex_trans _ _ _ h3 e
          rw [show PyProof.Rows.lexLt PyProof.Rows.itemOrd _ _ = PySem.W.dataLt (kD b.1) (kD a.1) from rfl, h1] at this
          cases this
        · have h3 : PySem.W.dataLt (kD b.1) (kD c.1) = false := by simpa using h3
          have e2 := PyProof.Rows.lex_total _ _ h2 h3
          have : PySem.W.dataLt (kD c.1) (kD a.1) = PySem.W.dataLt (kD b.1) (kD a.1) := by unfold PySem.W.dataLt; rw [e2]
          rw [this, h1] at e; cases e
    · cases e : PySem.W.dataLt (kD b.1) (kD a.1) with
      | false => rfl
      | true =>
        cases e2 : PySem.W.dataLt (kD a.1) (kD b.1) with
        | false => rfl
        | true =>
          have := PyProof.Rows.lex_trans _ _ _ e e2
          rw [PyProof.Rows.lex_irrefl] at this
          cases this
  have N : (kvs.mergeSort fun a b => !(PySem.W.dataLt (kD b.1) (kD a.1))).Pairwise fun a b => a.1 ≠ b.1 := by
    have : ((kvs.mergeSort fun a b => !(PySem.W.dataLt (kD b.1) (kD a.1))).map (·.1)).Nodup := (P.map _).nodup_iff.mpr n
    exact List.pairwise_map.mp this
  refine (S.and N).imp_of_mem fun {a b} ha hb ⟨h1, h2⟩ => ?_
  obtain ⟨k, i, l, ea⟩ := h a (P.mem_iff.mp ha)
  obtain ⟨k', i', l', eb⟩ := h b (P.mem_iff.mp hb)
  rw [ea, eb] at h1 h2 ⊢
  rw [kD_v, kD_v, v_lt] at h1 ⊢
  unfold vLt at h1 ⊢
  have ne : ¬ (k = k' ∧ i = i' ∧ l = l') := fun ⟨e1, e2, e3⟩ => h2 (by rw [e1, e2, e3])
  simp only [Bool.not_eq_true', decide_eq_false_iff_not, decide_eq_true_eq] at h1 ⊢
  omega
end Mus

set_option maxRecDepth 100000
set_option maxHeartbeats 4000000
/-! in, not in: data in a list or a tuple of data. -/
namespace Mus
open PySem PySem.Spec PyProof.Rows L2
def rInDD (K : PySem.W.Frag) (f : Bool → Bool) : R2 := fun x y H Q => ∃ d ds, Dp K H x d ∧ (Dp K H y (.list ds) ∨ Dp K H y (.tuple ds)) ∧ d.canLay0 = true ∧ PyData.canLayAll0 ds = true ∧ d.depth ≤ 20 ∧ Q (.bl (f (ds.any fun z => PyData.eqv z d))) H
section
variable {X : Cx}
theorem op_inDD (hu : X.A.units + 64 < cLine) : OpR X (compareOp .In) (rInDD X.K id) := by
  intro pins s σ H x y v u Q I rx ry h
  obtain ⟨d, ds, hd, hs, cd, cs, dp, q⟩ := h
  obtain ⟨as, r1⟩ := Dp.reads I d x v hd rx
  have hr : X.A.units + 1 + min (PyData.depthAll ds) d.depth < cLine := by
    have : min (PyData.depthAll ds) d.depth ≤ d.depth := Nat.min_le_right _ _
    omega
  rcases hs with hs | hs
  · obtain ⟨bs, r2⟩ := Dp.reads I _ y u hs ry
    exact SeqAt.in_list_reads r2 r1 cs cd hr ⟨.bl _, H, I, rfl, q⟩
  · obtain ⟨bs, r2⟩ := Dp.reads I _ y u hs ry
    exact SeqAt.in_tuple_reads r2 r1 cs cd hr ⟨.bl _, H, I, rfl, q⟩
theorem op_notInDD (hu : X.A.units + 64 < cLine) : OpR X (compareOp .NotIn) (rInDD X.K not) := by
  intro pins s σ H x y v u Q I rx ry h
  obtain ⟨d, ds, hd, hs, cd, cs, dp, q⟩ := h
  obtain ⟨as, r1⟩ := Dp.reads I d x v hd rx
  have hr : X.A.units + 1 + min (PyData.depthAll ds) d.depth < cLine := by
    have : min (PyData.depthAll ds) d.depth ≤ d.depth := Nat.min_le_right _ _
    omega
  rcases hs with hs | hs
  · obtain ⟨bs, r2⟩ := Dp.reads I _ y u hs ry
    exact SeqAt.notIn_list_reads r2 r1 cs cd hr ⟨.bl _, H, I, rfl, q⟩
  · obtain ⟨bs, r2⟩ := Dp.reads I _ y u hs ry
    exact SeqAt.notIn_tuple_reads r2 r1 cs cd hr ⟨.bl _, H, I, rfl, q⟩
end
end Mus

set_option maxRecDepth 100000
set_option maxHeartbeats 4000000
/-! Data without lists, wherever it stands; frames: what a call may have changed. -/
namespace Mus
open PySem PySem.Spec PyProof.Rows L2
mutual
inductive TD (H : Hp) : V → PyData → Prop
  | non : TD H .non .none
  | bl (b : Bool) : TD H (.bl b) (.bool b)
  | int (i : Int) : TD H (.int i) (.int i)
  | str (x : Str) : TD H (.str x) (.str x)
  | tup {a : Addr} {xs : List V} {ds : List PyData} : H a = some (.tup xs) → xs.length ≤ 100000 → TDs H xs ds → TD H (.ref a) (.tuple ds)
inductive TDs (H : Hp) : List V → List PyData → Prop
  | nil : TDs H [] []
  | cons {v : V} {vs : List V} {d : PyData} {ds : List PyData} : TD H v d → TDs H vs ds → TDs H (v :: vs) (d :: ds)
end
/-- tuples stay -/
def TupK (H H' : Hp) : Prop := ∀ b xs, H b = some (.tup xs) → H' b = some (.tup xs)
theorem TupK.refl (H : Hp) : TupK H H := fun _ _ h => h
theorem TupK.trans {H H1 H2 : Hp} (a : TupK H H1) (b : TupK H1 H2) : TupK H H2 := fun c xs h => b c xs (a c xs h)
theorem TupK.of {H H' : Hp} (s : Same H H') : TupK H H' := fun b xs h => s b _ h
theorem tupK_upd {H : Hp} {D : Addr} {o : HO} (h : ∀ xs, H D ≠ some (.tup xs)) : TupK H (upd H D o) := fun b xs e => by
  rw [upd_ne fun z => h xs (by rw [← z]; exact e)]; exact e
mutual
theorem TD.mono {H H' : Hp} (k : TupK H H') : ∀ {v : V} {d : PyData}, TD H v d → TD H' v d
  | _, _, .non => .non
  | _, _, .bl b => .bl b
  | _, _, .int i => .int i
  | _, _, .str x => .str x
  | _, _, .tup h l r => .tup (k _ _ h) l (r.mono k)
theorem TDs.mono {H H' : Hp} (k : TupK H H') : ∀ {vs : List V} {ds : List PyData}, TDs H vs ds → TDs H' vs ds
  | _, _, .nil => .nil
  | _, _, .cons a r => .cons (a.mono k) (r.mono k)
end
theorem TD.same {H H' : Hp} {v : V} {d : PyData} (h : TD H v d) (s : Same H H') : TD H' v d := h.mono (TupK.of s)
theorem TDs.same {H H' : Hp} {vs : List V} {ds : List PyData} (h : TDs H vs ds) (s : Same H H') : TDs H' vs ds := h.mono (TupK.of s)
mutual
theorem TD.dp {K : PySem.W.Frag} {H : Hp} : ∀ {v : V} {d : PyData}, TD H v d → Dp K H v d
  | _, _, .non => .non
  | _, _, .bl b => .bl b
  | _, _, .int i => .int i
  | _, _, .str x => .str x
  | _, _, .tup h _ r => .tup (SqT.of h) r.dp
theorem TDs.dp {K : PySem.W.Frag} {H : Hp} : ∀ {vs : List V} {ds : List PyData}, TDs H vs ds → DpAll K H vs ds
  | _, _, .nil => .nil
  | _, _, .cons a r => .cons a.dp r.dp
end
mutual
/-- none of it at p, where no tuple stands -/
theorem TD.rp {p : Addr} {H : Hp} (hp : ∀ xs, H p ≠ some (.tup xs)) : ∀ {v : V} {d : PyData}, TD H v d → Rp p H v d
  | _, _, .non => .non
  | _, _, .bl b => .bl b
  | _, _, .int i => .int i
  | _, _, .str x => .str x
  | _, _, .tup h l r => .tup h (fun z => hp _ (z ▸ h)) l (r.rp hp)
theorem TDs.rp {p : Addr} {H : Hp} (hp : ∀ xs, H p ≠ some (.tup xs)) : ∀ {vs : List V} {ds : List PyData}, TDs H vs ds → Rps p H vs ds
  | _, _, .nil => .nil
  | _, _, .cons a r => .cons (a.rp hp) (r.rp hp)
end
theorem TDs.length {H : Hp} : ∀ {vs : List V} {ds : List PyData}, TDs H vs ds → vs.length = ds.length
  | _, _, .nil => rfl
  | _, _, .cons _ r => congrArg (· + 1) r.length
theorem TDs.append {H : Hp} : ∀ {vs : List V} {ds : List PyData} {us : List V} {es : List PyData}, TDs H vs ds → TDs H us es → TDs H (vs ++ us) (ds ++ es)
  | _, _, _, _, .nil, r => r
  | _, _, _, _, .cons a b, r => .cons a (b.append r)
theorem TDs.at {H : Hp} : ∀ {vs : List V} {ds : List PyData} {i : Nat} {y : V}, TDs H vs ds → vs[i]? = some y → ∃ d, ds[i]? = some d ∧ TD H y d
  | _, _, _, _, .nil, h => by cases h
  | _, _, 0, _, .cons a b, h => by cases h; exact ⟨_, rfl, a⟩
  | _, _, i + 1, _, .cons a b, h => b.at (i := i) h
theorem TDs.get {H : Hp} : ∀ {vs : List V} {ds : List PyData} {i : Nat} {d : PyData}, TDs H vs ds → ds[i]? = some d → ∃ y, vs[i]? = some y ∧ TD H y d
  | _, _, _, _, .nil, h => by cases h
  | _, _, 0, _, .cons a b, h => by cases h; exact ⟨_, rfl, a⟩
  | _, _, i + 1, _, .cons a b, h => b.get (i := i) h
theorem TDs.take {H : Hp} : ∀ {vs : List V} {ds : List PyData} (n : Nat), TDs H vs ds → TDs H (vs.take n) (ds.take n)
  | _, _, 0, _ => .nil
  | _, _, n + 1, .nil => .nil
  | _, _, n + 1, .cons a q => .cons a (q.take n)
theorem TDs.drop {H : Hp} : ∀ {vs : List V} {ds : List PyData} (n : Nat), TDs H vs ds → TDs H (vs.drop n) (ds.drop n)
  | _, _, 0, r => r
  | _, _, n + 1, .nil => .nil
  | _, _, n + 1, .cons a q => q.drop n
theorem TDs.cut {H : Hp} {vs : List V} {ds : List PyData} (r : TDs H vs ds) (lo hi : Option Int) : TDs H (cutV vs lo hi) (cutD ds lo hi) := by
  unfold cutV cutD
  rw [r.length]
  exact (r.drop _).take _
/-! ### frames -/
/-- of what stood in H all but what is at fp is as it was; fp' is of fp or new; tuples stay -/
structure Fr (fp fp' : List Addr) (H H' : Hp) : Prop where
  k : ∀ b o, H b = some o → b ∉ fp → H' b = some o
  n : ∀ b ∈ fp', b ∈ fp ∨ H b = none
  t : TupK H H'
  s : ∀ b, H' b = none → H b = none
theorem Fr.refl (fp : List Addr) (H : Hp) : Fr fp fp H H := ⟨fun _ _ h _ => h, fun _ h => .inl h, TupK.refl H, fun _ h => h⟩
theorem Fr.of {fp : List Addr} {H H' : Hp} (s : Same H H') : Fr fp fp H H' := ⟨fun b o h _ => s b o h, fun _ h => .inl h, TupK.of s, fun b h => by
  cases e : H b with
  | none => rfl
  | some o => rw [s b o e] at h; cases h⟩
theorem Fr.trans {fp fp1 fp2 : List Addr} {H H1 H2 : Hp} (a : Fr fp fp1 H H1) (b : Fr fp1 fp2 H1 H2) : Fr fp fp2 H H2 := by
  refine ⟨fun c o h n => b.k c o (a.k c o h n) fun m => ?_, fun c m => ?_, a.t.trans b.t, fun c h => a.s c (b.s c h)⟩
  · rcases a.n c m with z | z
    · exact n z
    · rw [h] at z; cases z
  · rcases b.n c m with z | z
    · exact a.n c z
    · by_cases q : c ∈ fp
      · exact .inl q
      · cases e : H c with
        | none => exact .inr rfl
        | some o => rw [a.k c o e q] at z; cases z
theorem Fr.same {fp : List Addr} {H H' : Hp} (f : Fr [] fp H H') : Same H H' := fun b o h => f.k b o h List.not_mem_nil
theorem fr_upd {fp : List Addr} {H : Hp} {p : Addr} {o0 o : HO} (hp : p ∈ fp) (ho : H p = some o0) (nt : ∀ xs, o0 ≠ .tup xs) : Fr fp fp H (upd H p o) :=
  ⟨fun b u e n => by rw [upd_ne (show b ≠ p from fun z => n (by rw [z]; exact hp))]; exact e, fun _ h => .inl h, tupK_upd fun xs e => nt xs (Option.some.inj (ho.symm.trans e)), fun b h => by
    by_cases z : b = p
    · rw [z, upd_same] at h; cases h
    · rwa [upd_ne z] at h⟩
theorem fr_new {fp : List Addr} {H : Hp} {p : Addr} {o : HO} (ho : H p = none) : Fr fp (p :: fp) H (upd H p o) :=
  ⟨fun b u e n => by rw [upd_ne (ne_of_none e ho)]; exact e, fun b h => by
    rcases List.mem_cons.mp h with rfl | h
    · exact .inr ho
    · exact .inl h, tupK_upd fun xs e => (by rw [ho] at e; cases e), fun b h => by
    by_cases z : b = p
    · rw [z, upd_same] at h; cases h
    · rwa [upd_ne z] at h⟩
theorem Fr.sub {fp fp1 fp2 : List Addr} {H H' : Hp} (f : Fr fp fp1 H H') (h : ∀ b ∈ fp2, b ∈ fp1) : Fr fp fp2 H H' := ⟨f.k, fun b m => f.n b (h b m), f.t, f.s⟩
theorem Fr.wide {fp fp0 fp1 : List Addr} {H H' : Hp} (f : Fr fp fp1 H H') (h : ∀ b ∈ fp, b ∈ fp0) : Fr fp0 (fp0 ++ fp1) H H' :=
  ⟨fun b o e n => f.k b o e fun m => n (h b m), fun b m => by
    rcases List.mem_append.mp m with m | m
    · exact .inl m
    · exact (f.n b m).imp (h b) id, f.t, f.s⟩
/-! ### members, ids, messages -/
abbrev Mem := Int × Int
abbrev Vid := Int × Mem
abbrev Msg := Mem × Int × Str
abbrev Cst := Int × Str
def eM (m : Mem) : PyData := .tuple [.int m.1, .int m.2]
def eV (v : Vid) : PyData := .tuple [.int v.1, eM v.2]
def eG (g : Msg) : PyData := .tuple [eM g.1, .int g.2.1, .str g.2.2]
def eC (c : Cst) : PyData := .tuple [.int c.1, .str c.2]
def eMs (ms : List Mem) : PyData := .tuple (ms.map eM)
def kM (m : Mem) : NestedKey := .tup [.num m.1, .num m.2]
theorem kM_inj {a b : Mem} (h : kM a = kM b) : a = b := by
  injection h with h
  injection h with h1 h2
  injection h1 with h1
  injection h2 with h2 _
  injection h2 with h2
  exact Prod.ext h1 h2
theorem kM_depth (m : Mem) : (kM m).depth ≤ 8 := by simp [kM, NestedKey.depth, NestedKey.depthAll]
theorem TD.mem {H : Hp} {v : V} {m : Mem} (h : TD H v (eM m)) : ∃ a, v = .ref a ∧ H a = some (.tup [.int m.1, .int m.2]) := by
  cases h with
  | tup h _ r =>
    obtain _ | ⟨h1, _ | ⟨h2, hn⟩⟩ := r
    cases hn; cases h1; cases h2
    exact ⟨_, rfl, h⟩
theorem TD.vid {H : Hp} {v : V} {m : Vid} (h : TD H v (eV m)) : ∃ a u, v = .ref a ∧ H a = some (.tup [.int m.1, u]) ∧ TD H u (eM m.2) := by
  cases h with
  | tup h _ r =>
    obtain _ | ⟨h1, _ | ⟨h2, hn⟩⟩ := r
    cases hn; cases h1
    exact ⟨_, _, rfl, h, h2⟩
theorem TD.msg {H : Hp} {v : V} {g : Msg} (h : TD H v (eG g)) : ∃ a u, v = .ref a ∧ H a = some (.tup [u, .int g.2.1, .str g.2.2]) ∧ TD H u (eM g.1) := by
  cases h with
  | tup h _ r =>
    obtain _ | ⟨h1, _ | ⟨h2, _ | ⟨h3, hn⟩⟩⟩ := r
    cases hn; cases h2; cases h3
    exact ⟨_, _, rfl, h, h1⟩
theorem TD.cst {H : Hp} {v : V} {c : Cst} (h : TD H v (eC c)) : ∃ a, v = .ref a ∧ H a = some (.tup [.int c.1, .str c.2]) := by
  cases h with
  | tup h _ r =>
    obtain _ | ⟨h1, _ | ⟨h2, hn⟩⟩ := r
    cases hn; cases h1; cases h2
    exact ⟨_, rfl, h⟩
theorem td_mem {H : Hp} {a : Addr} {m : Mem} (h : H a = some (.tup [.int m.1, .int m.2])) : TD H (.ref a) (eM m) := .tup h (by show 2 ≤ 100000; decide) (.cons (.int _) (.cons (.int _) .nil))
theorem td_msg {H : Hp} {a : Addr} {u : V} {g : Msg} (h : H a = some (.tup [u, .int g.2.1, .str g.2.2])) (hu : TD H u (eM g.1)) : TD H (.ref a) (eG g) := .tup h (by show 3 ≤ 100000; decide) (.cons hu (.cons (.int _) (.cons (.str _) .nil)))
theorem td_cst {H : Hp} {a : Addr} {c : Cst} (h : H a = some (.tup [.int c.1, .str c.2])) : TD H (.ref a) (eC c) := .tup h (by show 2 ≤ 100000; decide) (.cons (.int _) (.cons (.str _) .nil))
theorem TD.nk {H : Hp} {v : V} {m : Mem} (h : TD H v (eM m)) : ∃ a, v = .ref a ∧ NK H (.ref a) (kM m) := by
  obtain ⟨a, rfl, h2⟩ := h.mem
  exact ⟨a, rfl, .tup h2 (.cons (.int _) (.cons (.int _) .nil))⟩
theorem eM_eqv (a b : Mem) : PyData.eqv (eM a) (eM b) = decide (a = b) := by
  show (decide (a.1 = b.1) && (decide (a.2 = b.2) && true)) = _
  rw [Bool.and_true, ← Bool.decide_and]
  exact decide_eq_decide.mpr ⟨fun h => Prod.ext h.1 h.2, fun h => by rw [h]; exact ⟨rfl, rfl⟩⟩
theorem eV_eqv (a b : Vid) : PyData.eqv (eV a) (eV b) = decide (a = b) := by
  show (decide (a.1 = b.1) && (PyData.eqv (eM a.2) (eM b.2) && true)) = _
  rw [Bool.and_true, eM_eqv, ← Bool.decide_and]
  exact decide_eq_decide.mpr ⟨fun h => Prod.ext h.1 h.2, fun h => by rw [h]; exact ⟨rfl, rfl⟩⟩
theorem eM_lay (m : Mem) : (eM m).canLay0 = true ∧ (eM m).depth = 1 ∧ SeqAt.shaped (eM m) = true := by
  refine ⟨rfl, by simp [eM, PyData.depth, PyData.depthAll], ?_⟩
  simp [eM, SeqAt.shaped, PyData.canLay0, PyData.canLayAll0, PyData.depth, PyData.depthAll]
theorem eV_lay (v : Vid) : (eV v).canLay0 = true ∧ (eV v).depth = 2 ∧ SeqAt.shaped (eV v) = true := by
  refine ⟨rfl, by simp [eV, eM, PyData.depth, PyData.depthAll], ?_⟩
  simp [eV, eM, SeqAt.shaped, PyData.canLay0, PyData.canLayAll0, PyData.depth, PyData.depthAll]
theorem eMs_lay : ∀ ms : List Mem, PyData.canLayAll0 (ms.map eM) = true
  | [] => rfl
  | m :: ms => by show ((eM m).canLay0 && PyData.canLayAll0 (ms.map eM)) = true; rw [(eM_lay m).1, eMs_lay ms]; rfl
theorem eMs_any (ms : List Mem) (m : Mem) : ((ms.map eM).any fun z => PyData.eqv z (eM m)) = decide (m ∈ ms) := by
  rw [List.any_map, Bool.eq_iff_iff, List.any_eq_true, decide_eq_true_eq]
  constructor
  · rintro ⟨x, hx, h⟩
    have h : decide (x = m) = true := by rw [← eM_eqv]; exact h
    rw [← of_decide_eq_true h]; exact hx
  · intro h
    exact ⟨m, h, by show PyData.eqv (eM m) (eM m) = true; rw [eM_eqv]; simp⟩
section
variable {K : PySem.W.Frag} {H : Hp} {x y : V} {a b : Mem} {Q : VK}
theorem rd_eqM (hx : TD H x (eM a)) (hy : TD H y (eM b)) (q : Q (.bl (decide (a = b))) H) : rEqD K x y H Q :=
  ⟨_, _, hx.dp, hy.dp, (eM_lay a).2.2, (eM_lay b).2.2, by rw [eM_eqv]; exact q⟩
theorem rd_neM (hx : TD H x (eM a)) (hy : TD H y (eM b)) (q : Q (.bl (!decide (a = b))) H) : rNeD K x y H Q :=
  ⟨_, _, hx.dp, hy.dp, (eM_lay a).2.2, (eM_lay b).2.2, by rw [eM_eqv]; exact q⟩
theorem rd_neV {a b : Vid} (hx : TD H x (eV a)) (hy : TD H y (eV b)) (q : Q (.bl (!decide (a = b))) H) : rNeD K x y H Q :=
  ⟨_, _, hx.dp, hy.dp, (eV_lay a).2.2, (eV_lay b).2.2, by rw [eV_eqv]; exact q⟩
theorem rd_eqV {a b : Vid} (hx : TD H x (eV a)) (hy : TD H y (eV b)) (q : Q (.bl (decide (a = b))) H) : rEqD K x y H Q :=
  ⟨_, _, hx.dp, hy.dp, (eV_lay a).2.2, (eV_lay b).2.2, by rw [eV_eqv]; exact q⟩
theorem rd_inMs {ms : List Mem} {f : Bool → Bool} (hx : TD H x (eM a)) (hy : TD H y (eMs ms)) (q : Q (.bl (f (decide (a ∈ ms)))) H) : rInDD K f x y H Q :=
  ⟨_, _, hx.dp, .inr hy.dp, (eM_lay a).1, eMs_lay ms, by rw [(eM_lay a).2.1]; decide, by rw [eMs_any]; exact q⟩
theorem rd_inMl {ms : List Mem} {l : Addr} {vs : List V} {f : Bool → Bool} (hx : TD H x (eM a)) (hl : H l = some (.lst vs)) (hv : TDs H vs (ms.map eM)) (q : Q (.bl (f (decide (a ∈ ms)))) H) : rInDD K f x (.ref l) H Q :=
  ⟨_, _, hx.dp, .inl (.lst (SqL.of hl) hv.dp), (eM_lay a).1, eMs_lay ms, by rw [(eM_lay a).2.1]; decide, by rw [eMs_any]; exact q⟩
end
end Mus

set_option maxRecDepth 100000
set_option maxHeartbeats 4000000
/-! Methods and makers of own classes, as DefOk is for defs. -/
namespace Mus
open PySem L2
structure MethOk (P : Program) (w : World) (K : PySem.W.Frag) (mg : Str → Option Value) (base : Heap) (CX : CXT) (C : Addr) (x : Str) (ps : List Str) (k : Nat) (sp : Sp) where
  f : Addr
  fd : FuncData
  G : FnOk P w K mg base CX k f fd ps sp
  m : Meth K C x f
  b : Binds K fd ps []
structure MethAt (K : PySem.W.Frag) (C : Addr) (x qual : Str) (ps : List Str) (st : Stmt) where
  f : Addr
  fd : FuncData
  F : Fun K x qual st f fd
  m : Meth K C x f
  b : Binds K fd ps []
def MethAt.ok {P : Program} {w : World} {K : PySem.W.Frag} {mg : Str → Option Value} {base : Heap} {CX : CXT} {C : Addr} {x qual : Str} {ps : List Str} {st : Stmt} {k : Nat} {sp : Sp} (d : MethAt K C x qual ps st) (h : ∀ {f : Addr} {fd : FuncData}, Fun K x qual st f fd → FnOk P w K mg base CX k f fd ps sp) : MethOk P w K mg base CX C x ps k sp :=
  ⟨d.f, d.fd, h d.F, d.m, d.b⟩
/-- a class whose __init__ keeps the promise -/
structure MkOk (P : Program) (w : World) (K : PySem.W.Frag) (mg : Str → Option Value) (base : Heap) (C : Addr) (x : Str) (ps : List Str) (k : Nat) (sp : Sp) where
  f : Addr
  fd : FuncData
  G : FnOk P w K mg base CX0 k f fd ps sp
  M : Mk K C f
  g : mg x = some (.ref C)
  b : Binds K fd ps []
def MethAt.mk' {P : Program} {w : World} {K : PySem.W.Frag} {mg : Str → Option Value} {base : Heap} {C : Addr} {x : Str} {qual : Str} {ps : List Str} {st : Stmt} {k : Nat} {sp : Sp} (d : MethAt K C "__init__" qual ps st) (hm : PySem.W.makesIn K C = true) (hk : PySem.W.keepIn K (.ref C) = true) (g : mg x = some (.ref C))
    (h : ∀ {f : Addr} {fd : FuncData}, Fun K "__init__" qual st f fd → FnOk P w K mg base CX0 k f fd ps sp) : MkOk P w K mg base C x ps k sp :=
  ⟨d.f, d.fd, h d.F, ⟨hm, d.m.at_, d.m.fn, hk⟩, g, d.b⟩
section
variable {X : Cx} {C : Addr} {x m : Str} {ps : List Str} {j k : Nat} {sp : Sp} {o e : Expr} {es : List Expr} {to : TE} {t : TA} {p pos apos : Pos}
theorem pmeth {pl : Sem Bool} (c : MethOk X.prog X.w X.K X.mg X.base CX0 C m ps j sp) (cl : Cls X.K C) (ho : PE X o to) (hr : Room k X.A) (ha : PA X (e :: es) t) (hj : j ≤ k := by first | decide | omega)
    (st0 : starEach (e :: es) X.env = (false, eval e X.env) :: starEach es X.env := by rfl) (pl0 : (backTo pos (starEach es X.env)).any (·.1) = false := by rfl)
    (ht : eval (.Call (.Attribute o m apos) (e :: es) [] pos) X.env = (do
      let v ← eval o X.env; standAt apos.atName; let (f, one) ← holding [v] (getMethod v m pl)
      callWith pos f one (backTo pos (starEach (e :: es) X.env)) (backToKw pos (keywordEach [] X.env))) := by rfl) :
    PE X (.Call (.Attribute o m apos) (e :: es) [] pos) (tMeth C m sp [] E0 to t) := pe_meth ho cl c.m c.G (hr.mono hj) c.b .nil pass0 ha st0 pl0 ht
theorem pmeth0 {pl : Sem Bool} (c : MethOk X.prog X.w X.K X.mg X.base CX0 C m ps j sp) (cl : Cls X.K C) (ho : PE X o to) (hr : Room k X.A) (hj : j ≤ k := by first | decide | omega)
    (ht : eval (.Call (.Attribute o m apos) [] [] pos) X.env = (do
      let v ← eval o X.env; standAt apos.atName; let (f, one) ← holding [v] (getMethod v m pl)
      callWith pos f one (backTo pos (starEach [] X.env)) (backToKw pos (keywordEach [] X.env))) := by rfl) :
    PE X (.Call (.Attribute o m apos) [] [] pos) (tMeth C m sp [] E0 to tNil) := pe_meth0 ho cl c.m c.G (hr.mono hj) c.b .nil pass0 ht
theorem pmake (c : MkOk X.prog X.w X.K X.mg X.base C x ps j sp) (hr : Room k X.A) (ha : PA X (e :: es) t) (hj : j + 1 ≤ k := by first | decide | omega) (hg : Gl X x := by rfl)
    (d0 : (x == ("__debug__" : Str)) = false := by decide) (st0 : starEach (e :: es) X.env = (false, eval e X.env) :: starEach es X.env := by rfl) (pl0 : (backTo pos (starEach es X.env)).any (·.1) = false := by rfl) :
    PE X (.Call (.Name x p) (e :: es) [] pos) (tMake C sp [] E0 t) := pe_make c.M c.G (hr.mono hj) hg c.g c.b .nil pass0 ha d0 st0 pl0
theorem pmake0 (c : MkOk X.prog X.w X.K X.mg X.base C x ps j sp) (hr : Room k X.A) (hj : j + 1 ≤ k := by first | decide | omega) (hg : Gl X x := by rfl) (d0 : (x == ("__debug__" : Str)) = false := by decide) :
    PE X (.Call (.Name x p) [] [] pos) (tMake C sp [] E0 tNil) := pe_make0 c.M c.G (hr.mono hj) hg c.g c.b .nil pass0 d0
end
end Mus

set_option maxRecDepth 100000
set_option maxHeartbeats 4000000
/-! enumerate of a list from a start: for i, x in enumerate(xs, start=n). -/
namespace Mus
open PySem PySem.Spec PyProof.Rows L2
/-- the pairs (k + i, the list's item i) -/
def ItK (K : PySem.W.Frag) (a : Addr) (k : Int) : It where
  go := fun i H => ∃ (xs : List V) (x : V), SqL K H a xs ∧ xs[i]? = some x
  yld := fun i H v H' => ∃ T x, v = .ref T ∧ H T = none ∧ H' = upd H T (.tup [.int (k + (i : Int)), x]) ∧ ∀ xs, SqL K H a xs → xs[i]? = some x
  stop := fun i H => ∃ xs : List V, SqL K H a xs ∧ xs.length = i
theorem turn_enK {P : Program} {w : World} {K : PySem.W.Frag} {elts : List Expr} {kk : Nat} {tpos : Pos} (k : Int) (a e it : Addr) :
    Turn P w K (.Tuple elts kk tpos) (ItK K a k) [e, it] e (fun i h => (∃ old, IsEnum h e it (k + (i : Int)) old) ∧ h.IsListIter it a i ∧ e ≠ it ∧ a ≠ it ∧ a ≠ e) where
  mem := by simp
  obj := fun i h st b hb => by
    obtain ⟨⟨old, he⟩, ⟨o, ho, hc, hd⟩, _⟩ := st
    rcases List.mem_cons.mp hb with z | z
    · rw [z]; exact ⟨_, he, fun v q => nomatch q⟩
    · exact ⟨o, List.mem_singleton.mp z ▸ ho, fun v q => by rw [hd] at q; cases q⟩
  keep := fun i h h' st k => by
    obtain ⟨⟨old, he⟩, hi, r⟩ := st
    exact ⟨⟨old, k e List.mem_cons_self _ he⟩, hi.at fun o q => k it (by simp) o q, r⟩
  item := by
    intro X hP hw hK hc i pins s σ H E I hf st hg
    subst hP hw hK
    obtain ⟨⟨old, he⟩, hit, hne, hai, hae⟩ := st
    obtain ⟨xs, x, hq, hx⟩ := hg
    obtain ⟨its, rv, p, hz⟩ := I.list hq
    obtain ⟨u, hu, ru⟩ := rv.get hx
    have lt : i < its.toArray.size := by simpa using (List.getElem?_eq_some_iff.mp hu).1
    refine wpAny_pyNext_enum_itemC (Draws.list (A := X.A.in1) (I.ok.hd hc) it a hai its.toArray) he ⟨hit, p.isList⟩ lt hne (by simp [hne, Ne.symm hae]) fun y h1 tk hy ho st1 hT hsz hk => ?_
    have ey : y = u := by
      have hy : its.toArray[i]? = some y := hy
      rw [List.getElem?_toArray, hu] at hy
      exact (Option.some.inj hy).symm
    subst ey
    refine ⟨_, rfl, wpAny_letOwnedTupleGo_enum (s := { s with heap := h1, toks := tk + 1 }) ho fun h2 he2 sb => ?_⟩
    have hel := Heap.lt_size he
    have hT2 := (sb.2 s.heap.objs.size (Nat.ne_of_gt hel)).trans hT
    have new : ObjOk X.prog X.w (upd H s.heap.objs.size (.tup [.int (k + (i : Int)), x])) h2 s.heap.objs.size (.tup [.int (k + (i : Int)), x]) := ⟨by show 2 ≤ sizeLine; decide, [.int (k + (i : Int)) tk, y], .cons ⟨_, rfl⟩ (.cons ru .nil), ⟨_, hT2, rfl, _, rfl⟩⟩
    have I1 : Inv X pins σ (upd H s.heap.objs.size (.tup [.int (k + (i : Int)), x])) { s with heap := h2, toks := tk + 1 } :=
      I.turnedNew (ch := [e, it]) (fun b ob hb q => by
        have n1 : b ≠ e := fun z => hb (by simp [z])
        have n2 : b ≠ it := fun z => hb (by simp [z])
        exact (sb.2 b n1).trans (hk b ob n1 n2 q)) hf (Nat.le_refl _) new
    have hfr : H s.heap.objs.size = none := I.hok.fresh (Nat.le_refl _)
    have ei : k + (i : Int) + 1 = k + ((i + 1 : Nat) : Int) := by omega
    rw [ei] at he2
    refine ⟨.ref s.heap.objs.size, _, I1, rfl, ⟨_, x, rfl, hfr, rfl, fun ys hy => by rw [I.list_inj hy hq]; exact hx⟩, ⟨⟨y, he2⟩, st1.1.at fun o q => (sb.2 it (Ne.symm hne)).trans q, hne, hai, hae⟩, fun b hb => ?_⟩
    have hb0 := (hf b hb).1
    rw [upd_ne]
    · exact hb0
    · intro z
      have hl : b < s.heap.objs.size := by
        rcases List.mem_cons.mp hb with z | z
        · rw [z]; exact hel
        · obtain ⟨o, q, _⟩ := hit
          rw [List.mem_singleton.mp z]; exact Heap.lt_size q
      exact Nat.ne_of_lt hl z
  done := by
    intro X hP hw hK hc i pins s σ H E I hf st hg
    subst hP hw hK
    obtain ⟨⟨old, he⟩, hit, hne, hai, hae⟩ := st
    obtain ⟨xs, hq, hx⟩ := hg
    obtain ⟨its, rv, p, hz⟩ := I.list hq
    have hl := rv.length
    have ei : i = its.toArray.size := by rw [← hx, hl]; rfl
    subst ei
    obtain ⟨f0, f1, f2, f3, f4, f5⟩ := hf it (by simp)
    exact wpAny_pyNext_enum_endD (Draws.list (A := X.A.in1) (I.ok.hd hc) it a hai its.toArray) he ⟨hit, p.isList⟩ fun h1 eb => ⟨rfl, I.turned (t' := s.toks) (fun b o hb q => eb b o hb q) f0 f1 f3 f4 f5⟩
  self := fun A i s Q E st h => by
    obtain ⟨⟨_, he⟩, _⟩ := st
    exact wpAny_pyIter_enum he h
theorem callWith_typeK {M : Model} {env : Env} {A : Around} {E : Value → Shared → Prop} {s : Shared} {pos : Pos} {T : String} {e : Expr} {rest : List Expr} {kws : List Keyword} {Q : Value → Shared → Prop}
    (h : wpAny M A (spliced (backTo pos (starEach (e :: rest) env))) (fun vs s₁ => wpAny M A (evalAll ((backToKw pos (keywordEach kws env)).map (·.2)))
      (fun kvs s₂ => wpAny M A (call (.type T) vs (((backToKw pos (keywordEach kws env)).filterMap (·.1)).zip kvs)) Q E s₂) E s₁) E s)
    (he : backTo pos (starEach (e :: rest) env) = (false, eval e env) :: backTo pos (starEach rest env) := by rfl)
    (hplain : (backTo pos (starEach (e :: rest) env)).any (·.1) = false := by rfl)
    (hall : (backToKw pos (keywordEach kws env)).all (·.1.isSome) = true := by rfl)
    (hkw : (backToKw pos (keywordEach kws env)).any (·.1.isNone) = false := by rfl) :
    wpAny M A (callWith pos (.type T) [] (backTo pos (starEach (e :: rest) env)) (backToKw pos (keywordEach kws env))) Q E s := by
  have g : wpAny M A (evalArgs (.type T) true (backTo pos (starEach (e :: rest) env)) (backToKw pos (keywordEach kws env))) (fun a s₁ => wpAny M A (call (.type T) ([] ++ a.pos) a.kw) Q E s₁) E s := by
    rw [he] at h ⊢
    exact evalArgs_kwB hall h
  unfold callWith
  refine wpAny_bind (wpAny_holding (wpAny_mono g (fun a s₁ h₁ => wpAny_bind (wpAny_standAt ?_)) fun _ _ x => x))
  simp only [hplain, hkw, Bool.or_false]
  refine wpAny_bind (wpAny_pure ?_)
  exact wpAny_bind (wpAny_mono h₁ (fun r s₂ hr => wpAny_bind (wpAny_holding (wpAny_point (wpAny_pure hr)))) fun _ _ x => x)
def iEnK (K : PySem.W.Frag) (ta tk : TA) : TI := fun σ H R => ta σ H fun vs H1 => tk σ H1 fun zs H2 => ∃ a xs k, vs = [.ref a] ∧ zs = [.int k] ∧ SqL K H2 a xs ∧ 0 ≤ k ∧ k < 2 ^ 62 ∧ R (ItK K a k) H2
theorem pi_enK {X : Cx} {e : Expr} {kws : List Keyword} {ta tk : TA} {p pos tpos : Pos} {elts : List Expr} {kk : Nat} (hg : Gl X "enumerate") (hm : X.mg "enumerate" = none) (ha : PA X [e] ta) (hk : PK X kws tk)
    (he : backTo pos (starEach [e] X.env) = (false, eval e X.env) :: backTo pos (starEach [] X.env) := by rfl) (hpl : (backTo pos (starEach [e] X.env)).any (·.1) = false := by rfl)
    (hall : (backToKw pos (keywordEach kws X.env)).all (·.1.isSome) = true := by rfl) (hnone : (backToKw pos (keywordEach kws X.env)).any (·.1.isNone) = false := by rfl) (hks : (backToKw pos (keywordEach kws X.env)).filterMap (·.1) = [Str.ofString "start"] := by rfl) :
    PI X (.Tuple elts kk tpos) (.Call (.Name "enumerate" p) [e] kws pos) (iEnK X.K ta tk) := by
  refine ⟨fun pins s σ H R I h => ?_⟩
  refine wpAny_Call_Name_kw (ld_blt I hg hm boot_enumerate (callWith_typeK (thn (ha.run pos pins s σ H _ I h) fun us s1 ⟨vs, H1, I1, r1, q1⟩ => thn (hk.run pos pins s1 σ H1 _ I1 q1) fun ws s2 ⟨zs, H2, I2, r2, q2⟩ => ?_) he hpl hall hnone))
  rw [hks]
  obtain ⟨a, xs, k, rfl, rfl, hq, k0, k1, q⟩ := q2
  obtain _ | ⟨r, _ | _⟩ := r1
  cases r
  obtain _ | ⟨r, _ | _⟩ := r2
  obtain ⟨t, rfl⟩ := (show ∃ t, _ = Value.int k t from r)
  obtain ⟨its, rv, p', hz⟩ := I2.list hq
  have p'' : s2.heap.IsList a its.toArray := p'.isList
  have la : a < s2.heap.objs.size := by
    obtain ⟨o, y, _⟩ := p''
    exact Heap.lt_size y
  refine enum_begins_start (begins_list a its.toArray) p'' (by omega) (by omega) fun h1 he' ho _ hk' => wpAny_pyIter_enum he' ?_
  have I3 : Inv X pins σ H2 { s2 with heap := h1 } := I2.kept (t' := s2.toks) hk'
  have e0 : k + ((0 : Nat) : Int) = k := by omega
  refine ⟨s2.heap.objs.size + 1, [s2.heap.objs.size + 1, s2.heap.objs.size], _, _, H2, rfl, I3, turn_enK k a (s2.heap.objs.size + 1) s2.heap.objs.size, ⟨⟨.none, by rw [e0]; exact he'⟩, ⟨_, ho, rfl, rfl⟩, Nat.succ_ne_self _, Nat.ne_of_lt la, Nat.ne_of_lt (Nat.lt_succ_of_lt la)⟩, fun b hb => ?_, q⟩
  have hle : s2.heap.objs.size ≤ b := by
    rcases List.mem_cons.mp hb with z | z
    · rw [z]; exact Nat.le_succ _
    · rw [List.mem_singleton.mp z]; exact Nat.le_refl _
  exact I2.fpOk hle (I2.hok.fresh hle)
theorem walk_enK {K : PySem.W.Frag} {a : Addr} {k : Int} {xs : List V} : Walk (ItK K a k) xs.length (fun H => SqL K H a xs) (YPair (fun i => some (.int (k + (i : Int)))) (fun i => xs[i]?)) where
  goes := fun i H hi h => ⟨xs, _, h, List.getElem?_eq_getElem hi⟩
  stops := fun H h => ⟨xs, h, rfl⟩
  yields := fun i H v H' hi h y => by
    obtain ⟨T, x, e1, e2, e3, e4⟩ := y
    exact ⟨T, _, x, e1, e2, e3, rfl, e4 xs h⟩
end Mus

set_option maxRecDepth 100000
set_option maxHeartbeats 4000000
namespace Mus
open PySem PySem.Spec PyProof.Rows L2
theorem valN_put {ks : NKV} {k k' : NestedKey} {b : Addr} {v : V} : valN (putN ks k b v) k' = if k' = k then some v else valN ks k' := by
  have rep : ∀ ks : NKV, (valN ks k).isSome → valN (ks.map fun x => if x.1 = k then (x.1, x.2.1, v) else x) k' = if k' = k then some v else valN ks k' := by
    intro ks
    induction ks with
    | nil => intro h; cases h
    | cons y ys ih =>
      intro h
      unfold valN at h ih ⊢
      rw [List.map_cons, List.find?_cons, List.find?_cons]
      rw [List.find?_cons] at h
      by_cases e : y.1 = k
      · simp only [e, if_true]
        by_cases e2 : k = k'
        · simp [e2]
        · have e3 : ¬ k' = k := fun z => e2 z.symm
          simp only [decide_eq_false e2, if_neg e3]
          have nomem : ∀ zs : NKV, (zs.map fun x => if x.1 = k then (x.1, x.2.1, v) else x).find? (fun x => decide (x.1 = k')) = zs.find? (fun x => decide (x.1 = k')) := by
            intro zs
            induction zs with
            | nil => rfl
            | cons z zs ih2 =>
              rw [List.map_cons, List.find?_cons, List.find?_cons]
              by_cases e4 : z.1 = k
              · simp [e4, e2, ih2]
              · simp [e4, ih2]
          rw [nomem]
      · simp only [e, if_false]
        simp only [e, decide_false] at h
        by_cases e2 : y.1 = k'
        · have e3 : ¬ k' = k := fun z => e (e2.trans z)
          simp [e2, e3]
        · simp only [decide_eq_false e2]
          exact ih h
  have app : ∀ ks : NKV, valN ks k = none → valN (ks ++ [(k, b, v)]) k' = if k' = k then some v else valN ks k' := by
    intro ks
    induction ks with
    | nil =>
      intro _
      unfold valN
      by_cases e : k' = k
      · simp [e]
      · have e3 : ¬ k = k' := fun z => e z.symm
        simp [e, e3]
    | cons y ys ih =>
      intro h
      unfold valN at h ih ⊢
      rw [List.find?_cons] at h
      rw [List.cons_append, List.find?_cons, List.find?_cons]
      by_cases e : y.1 = k
      · simp [e] at h
      · simp only [e, decide_false] at h
        by_cases e2 : y.1 = k'
        · have e3 : ¬ k' = k := fun z => e (e2.trans z)
          simp [e2, e3]
        · simp only [decide_eq_false e2]
          exact ih h
  unfold putN
  cases h : valN ks k with
  | none => simp only [Option.isSome_none]; exact app ks h
  | some x => simp only [Option.isSome_some, if_true]; exact rep ks (by rw [h]; rfl)
theorem putN_len' (ks : NKV) (k : NestedKey) (b : Addr) (v : V) : (putN ks k b v).length = if (valN ks k).isSome then ks.length else ks.length + 1 := by
  unfold putN
  split
  · rw [List.length_map]
  · rw [List.length_append]; rfl
end Mus

set_option maxRecDepth 100000
set_option maxHeartbeats 4000000
namespace Mus
open PySem PySem.Spec PyProof.Rows L2
/-! ### the order of a view, as a state -/
inductive Ltr
  | here (m : Mem) (v : Vid) (n : Int) (p : Vid)
  | cast (m : Mem) (v : Vid) (ix : Int) (z : Str)
  | order (m : Mem) (v : Vid) (place : Int) (g : Msg)
  | propose (m : Mem) (v : Vid) (ms : List Mem)
  | state (m : Mem) (v : Vid) (old : Vid) (log : List Msg) (pend : List Cst)
  | install (m : Mem) (v : Vid) (ms : List Mem) (fins : List (Vid × List Msg))
  | higher (m : Mem) (v : Vid) (p : Vid)
def eGs (gs : List Msg) : PyData := .tuple (gs.map eG)
def eCs (cs : List Cst) : PyData := .tuple (cs.map eC)
def eL : Ltr → PyData
  | .here m v n p => .tuple [.str "here", eM m, eV v, .int n, eV p]
  | .cast m v i z => .tuple [.str "cast", eM m, eV v, .int i, .str z]
  | .order m v i g => .tuple [.str "order", eM m, eV v, .int i, eG g]
  | .propose m v ms => .tuple [.str "propose", eM m, eV v, eMs ms]
  | .state m v o l c => .tuple [.str "state", eM m, eV v, eV o, eGs l, eCs c]
  | .install m v ms fs => .tuple [.str "install", eM m, eV v, eMs ms, .tuple (fs.map fun f => .tuple [eV f.1, eGs f.2])]
  | .higher m v p => .tuple [.str "higher", eM m, eV v, eV p]
abbrev Pkt := Int × Ltr
def ePk (k : Pkt) : PyData := .tuple [.int k.1, eL k.2]
structure OS where
  me : Mem
  vid : Vid
  mems : List Mem
  fd : Mem
  log : List Msg
  last : Mem → Option Int
  casts : Int
  pend : List Cst
  kept : Int → Option Msg
  kn : Nat
  told : Mem → Option Int
  tn : Nat
namespace OS
def new (me : Mem) (vid : Vid) (mems : List Mem) (fd : Mem) : OS := ⟨me, vid, mems, fd, [], fun _ => none, 0, [], fun _ => none, 0, fun _ => none, 0⟩
def others (s : OS) : List Mem := s.mems.filter fun m => !decide (m = s.me)
def deliver (s : OS) (g : Msg) : OS :=
  { s with log := s.log ++ [g], last := fun m => if m = g.1 then some g.2.1 else s.last m, pend := if g.1 = s.me then s.pend.filter (fun c => !decide (c.1 = g.2.1)) else s.pend }
/-- the letters that tell the message at the place -/
def ords (s : OS) (place : Int) (g : Msg) : List Pkt := s.others.map fun m => (m.1, .order s.me s.vid place g)
def decide (s : OS) (g : Msg) : OS × List Msg × List Pkt := (s.deliver g, [g], s.ords ((s.log.length : Int) + 1) g)
def castL (s : OS) (c : Cst) : Pkt := (s.fd.1, .cast s.me s.vid c.1 c.2)
def cast (s : OS) (z : Str) : OS × Int × List Msg × List Pkt :=
  let n := s.casts + 1
  if s.me = s.fd then
    let r := ({ s with casts := n }).decide (s.me, n, z)
    (r.1, n, r.2.1, r.2.2)
  else ({ s with casts := n, pend := s.pend ++ [(n, z)] }, n, [], [s.castL (n, z)])
def takeCast (s : OS) (m : Mem) (v : Vid) (i : Int) (z : Str) : OS × List Msg × List Pkt :=
  if s.me ≠ s.fd ∨ v ≠ s.vid ∨ m ∉ s.others then (s, [], [])
  else if i ≠ (s.last m).getD 0 + 1 then (s, [], [])
  else s.decide (m, i, z)
def drop (s : OS) (i : Int) : OS := { s with kept := fun j => if j = i then none else s.kept j, kn := s.kn - 1 }
/-- deliver what is next, as long as it is there; at most n times -/
def flush : Nat → OS → OS × List Msg
  | 0, s => (s, [])
  | n + 1, s => match s.kept ((s.log.length : Int) + 1) with
    | none => (s, [])
    | some g => let r := flush n ((s.drop ((s.log.length : Int) + 1)).deliver g); (r.1, g :: r.2)
def keep (s : OS) (i : Int) (g : Msg) : OS := if i > (s.log.length : Int) ∧ s.kept i = none then { s with kept := fun j => if j = i then some g else s.kept j, kn := s.kn + 1 } else s
def takeOrder (s : OS) (m : Mem) (v : Vid) (i : Int) (g : Msg) : OS × List Msg :=
  if s.me = s.fd ∨ m ≠ s.fd ∨ v ≠ s.vid then (s, []) else flush (s.keep i g).kn (s.keep i g)
def heard (s : OS) (m : Mem) (n : Int) : OS :=
  if m ∈ s.mems then { s with told := fun x => if x = m then some (if (s.told m).getD 0 > n then (s.told m).getD 0 else n) else s.told x, tn := if (s.told m).isSome then s.tn else s.tn + 1 } else s
def behind (s : OS) (m : Mem) : List Pkt :=
  let t := ((s.told m).getD 0).toNat
  ((s.log.drop t).take 16).mapIdx fun j g => (m.1, .order s.me s.vid (((s.told m).getD 0) + 1 + (j : Int)) g)
def again (s : OS) : List Pkt := if s.me ≠ s.fd then (s.pend.take 16).map s.castL else (s.others.map s.behind).flatten
end OS
/-! ### how it stands in the heap -/
def oF (vme vvid vms vfd : V) (lg li : Addr) (c : Int) (pn kp tl : Addr) : List (Str × V) :=
  [("_me", vme), ("_view_id", vvid), ("_members", vms), ("_founder", vfd), ("_log", .ref lg), ("_last_indexes", .ref li), ("_casts", .int c), ("_pending", .ref pn), ("_kept", .ref kp), ("_told", .ref tl)]
structure OA where
  dx : Addr
  vme : V
  vvid : V
  vms : V
  vfd : V
  lg : Addr
  li : Addr
  pn : Addr
  kp : Addr
  tl : Addr
def OA.fp (a : OA) (p : Addr) : List Addr := [p, a.lg, a.li, a.pn, a.kp, a.tl]
def KpAt (H : Hp) : Option V → Option Msg → Prop
  | none, none => True
  | some v, some g => TD H v (eG g)
  | _, _ => False
theorem KpAt.mono {H H' : Hp} {v : Option V} {g : Option Msg} (h : KpAt H v g) (t : TupK H H') : KpAt H' v g := by
  cases v <;> cases g <;> first | exact h | exact TD.mono t h
/-- a list of data at l -/
def LstAt (H : Hp) (l : Addr) (ds : List PyData) : Prop := ∃ vs, H l = some (.lst vs) ∧ TDs H vs ds
theorem LstAt.mono {H H' : Hp} {l : Addr} {ds : List PyData} (h : LstAt H l ds) (e : ∀ o, H l = some o → H' l = some o) (t : TupK H H') : LstAt H' l ds := by
  obtain ⟨vs, h1, h2⟩ := h
  exact ⟨vs, e _ h1, h2.mono t⟩
/-- a dict of ints by members at d -/
def DctAt (w : World) (H : Hp) (d : Addr) (f : Mem → Option Int) (n : Nat) : Prop := ∃ kvs, Nd w H d kvs ∧ (∀ m, valN kvs (kM m) = (f m).map V.int) ∧ kvs.length ≤ n
theorem nd_putK {κ : Type} [DecidableEq κ] {kvs : List (κ × V)} {k : κ} {v : V} (h : (kvs.map (·.1)).Nodup) : ((putK kvs k v).map (·.1)).Nodup := by
  unfold putK
  split
  · have e : (kvs.map fun kv => if kv.1 = k then (kv.1, v) else kv).map (·.1) = kvs.map (·.1) := by
      rw [List.map_map]
      refine List.map_congr_left fun x _ => ?_
      show (if x.1 = k then (x.1, v) else x).1 = x.1
      split <;> rfl
    rw [e]; exact h
  · rename_i q
    rw [List.map_append, List.nodup_append]
    refine ⟨h, by simp, fun x hx y hy e => ?_⟩
    rw [List.map_singleton, List.mem_singleton] at hy
    have hy : y = k := hy
    obtain ⟨z, hz, ez⟩ := List.mem_map.mp hx
    exact q (List.any_eq_true.mpr ⟨z, hz, by rw [ez, e, hy]; simp⟩)
theorem DctAt.mono {w : World} {H H' : Hp} {d : Addr} {f : Mem → Option Int} {n : Nat} (h : DctAt w H d f n) (e : ∀ o, H d = some o → H' d = some o) (t : TupK H H') : DctAt w H' d f n := by
  obtain ⟨kvs, h1, h2⟩ := h
  exact ⟨kvs, h1.mono (e _ h1.ob) t, h2⟩
structure OAt (w : World) (CO : Addr) (H : Hp) (p : Addr) (a : OA) (s : OS) : Prop where
  ob : H p = some (.ins CO a.dx (oF a.vme a.vvid a.vms a.vfd a.lg a.li s.casts a.pn a.kp a.tl))
  me : TD H a.vme (eM s.me)
  vid : TD H a.vvid (eV s.vid)
  ms : TD H a.vms (eMs s.mems)
  fd : TD H a.vfd (eM s.fd)
  lg : LstAt H a.lg (s.log.map eG)
  li : DctAt w H a.li s.last s.log.length
  pn : LstAt H a.pn (s.pend.map eC)
  kp : ∃ kvs, H a.kp = some (.dK kvs) ∧ (∀ i, KpAt H (valV kvs (.inl i)) (s.kept i)) ∧ kvs.length = s.kn ∧ (kvs.map (·.1)).Nodup
  tl : DctAt w H a.tl s.told s.tn
  ap : a.lg ≠ a.pn ∧ a.li ≠ a.tl
theorem OAt.mono {w : World} {CO : Addr} {H H' : Hp} {p : Addr} {a : OA} {s : OS} (h : OAt w CO H p a s) (e : ∀ b ∈ a.fp p, ∀ o, H b = some o → H' b = some o) (t : TupK H H') : OAt w CO H' p a s := by
  refine ⟨e p (by simp [OA.fp]) _ h.ob, h.me.mono t, h.vid.mono t, h.ms.mono t, h.fd.mono t, h.lg.mono (e _ (by simp [OA.fp])) t, h.li.mono (e _ (by simp [OA.fp])) t, h.pn.mono (e _ (by simp [OA.fp])) t, ?_, h.tl.mono (e _ (by simp [OA.fp])) t, h.ap⟩
  obtain ⟨kvs, h1, h2, h3⟩ := h.kp
  exact ⟨kvs, e _ (by simp [OA.fp]) _ h1, fun i => (h2 i).mono t, h3⟩
theorem OAt.same {w : World} {CO : Addr} {H H' : Hp} {p : Addr} {a : OA} {s : OS} (h : OAt w CO H p a s) (e : Same H H') : OAt w CO H' p a s := h.mono (fun b _ o x => e b o x) (TupK.of e)
/-- the places are all taken, by no tuples -/
theorem OAt.taken {w : World} {CO : Addr} {H : Hp} {p : Addr} {a : OA} {s : OS} (h : OAt w CO H p a s) : ∀ b ∈ a.fp p, ∃ o, H b = some o ∧ ∀ xs, o ≠ .tup xs := by
  obtain ⟨v1, l1, _⟩ := h.lg
  obtain ⟨v2, l2, _⟩ := h.li
  obtain ⟨v3, l3, _⟩ := h.pn
  obtain ⟨v4, l4, _⟩ := h.kp
  obtain ⟨v5, l5, _⟩ := h.tl
  intro b hb
  simp only [OA.fp, List.mem_cons, List.not_mem_nil, or_false] at hb
  rcases hb with rfl | rfl | rfl | rfl | rfl | rfl
  · exact ⟨_, h.ob, fun _ z => by cases z⟩
  · exact ⟨_, l1, fun _ z => by cases z⟩
  · exact ⟨_, l2.ob, fun _ z => by cases z⟩
  · exact ⟨_, l3, fun _ z => by cases z⟩
  · exact ⟨_, l4, fun _ z => by cases z⟩
  · exact ⟨_, l5.ob, fun _ z => by cases z⟩
/-- a change elsewhere -/
theorem OAt.upd {w : World} {CO : Addr} {H : Hp} {p q : Addr} {a : OA} {s : OS} {o : HO} (h : OAt w CO H p a s) (hq : q ∉ a.fp p) (nt : ∀ xs, H q ≠ some (.tup xs)) : OAt w CO (L2.upd H q o) p a s :=
  h.mono (fun b hb u e => by rw [upd_ne (show b ≠ q from fun z => hq (z ▸ hb))]; exact e) (tupK_upd nt)
theorem OAt.fresh {w : World} {CO : Addr} {H : Hp} {p q : Addr} {a : OA} {s : OS} (h : OAt w CO H p a s) (hq : H q = none) : q ∉ a.fp p := fun m => by
  obtain ⟨o, e, _⟩ := h.taken q m
  rw [hq] at e; cases e
/-- a new list of data -/
structure NewL (H0 : Hp) (fp : List Addr) (H : Hp) (l : Addr) (ds : List PyData) : Prop where
  at_ : LstAt H l ds
  new : H0 l = none
  out : l ∉ fp
theorem NewL.mono {H0 : Hp} {fp : List Addr} {H H' : Hp} {l : Addr} {ds : List PyData} (h : NewL H0 fp H l ds) (e : ∀ o, H l = some o → H' l = some o) (t : TupK H H') : NewL H0 fp H' l ds := ⟨h.at_.mono e t, h.new, h.out⟩
end Mus

set_option maxRecDepth 100000
set_option maxHeartbeats 4000000
/-! Errors of the program's own: made without arguments, let out by methods. -/
namespace Mus
open PySem PySem.Spec PyProof.Rows L2
section
variable {X : Cx} {C : Addr} {bmB : List Value} {B newId initId : String}
theorem pmk_own0 {x : Str} {p pos : Pos} (F : ExcBaseFacts B newId initId bmB) (q : PySem.W.excIn X.K C bmB newId = true) (gC : X.mg x = some (.ref C)) (kC : PySem.W.keepIn X.K (.ref C) = true) (r : Raises X (.ref C)) (hg : Gl X x := by rfl)
    (hdb : (x == ("__debug__" : Str)) = false := by decide) : PMk X (.Call (.Name x p) [] [] pos) (fun _ H Q => Q (.ref C) none H) := by
  intro pins s σ H Q I h
  refine wpAny_Call_Name_kw (ld_glob I hg gC ?_ hdb)
  refine PySem.W.callWith_K0 I.kIn kC ?_
  show wpAny _ _ (call (.ref C) []) _ _ _
  obtain ⟨mem, g, dw, tn, io⟩ := s
  obtain ⟨chain, N, nm0, qn, bs, hdct, sn, sub, ab, col, dd, k0, k1, k2, k3, k5, mN, cC, hN, hni, T⟩ := exc_obj I.kIn q
  exact wpAny_call_exc_subT F T cC hN hni (fun h' a hm => mk_of I hm r h (I.hok.gone hm.new)) (by show 0 ≤ sizeLine; rw [sizeLine_eq]; omega)
end
section
variable {X : Cx} {C : Addr} {x m : Str} {ps : List Str} {j k : Nat} {sp : Sp} {o e : Expr} {es : List Expr} {to : TE} {t : TA} {p pos apos : Pos} {W : WX} {E : XK}
/-- o.m(e, ..), what it lets out leaves this def, too -/
theorem pmethE {pl : Sem Bool} (c : MethOk X.prog X.w X.K X.mg X.base (L2.CX X.prog X.w) C m ps j sp) (cl : Cls X.K C) (tk : Takes X W) (hW : ∀ cls d σ H, E cls d H → W cls d σ H) (ho : PE X o to) (hr : Room k X.A) (ha : PA X (e :: es) t) (hj : j ≤ k := by first | decide | omega)
    (st0 : starEach (e :: es) X.env = (false, eval e X.env) :: starEach es X.env := by rfl) (pl0 : (backTo pos (starEach es X.env)).any (·.1) = false := by rfl)
    (ht : eval (.Call (.Attribute o m apos) (e :: es) [] pos) X.env = (do
      let v ← eval o X.env; standAt apos.atName; let (f, one) ← holding [v] (getMethod v m pl)
      callWith pos f one (backTo pos (starEach (e :: es) X.env)) (backToKw pos (keywordEach [] X.env))) := by rfl) :
    PE X (.Call (.Attribute o m apos) (e :: es) [] pos) (tMeth C m sp [] E to t) := pe_meth ho cl c.m c.G (hr.mono hj) c.b .nil (passes_call tk hW) ha st0 pl0 ht
theorem pmethE0 {pl : Sem Bool} (c : MethOk X.prog X.w X.K X.mg X.base (L2.CX X.prog X.w) C m ps j sp) (cl : Cls X.K C) (tk : Takes X W) (hW : ∀ cls d σ H, E cls d H → W cls d σ H) (ho : PE X o to) (hr : Room k X.A) (hj : j ≤ k := by first | decide | omega)
    (ht : eval (.Call (.Attribute o m apos) [] [] pos) X.env = (do
      let v ← eval o X.env; standAt apos.atName; let (f, one) ← holding [v] (getMethod v m pl)
      callWith pos f one (backTo pos (starEach [] X.env)) (backToKw pos (keywordEach [] X.env))) := by rfl) :
    PE X (.Call (.Attribute o m apos) [] [] pos) (tMeth C m sp [] E to tNil) := pe_meth0 ho cl c.m c.G (hr.mono hj) c.b .nil (passes_call tk hW) ht
/-- f(e, ..), the same of a def -/
theorem pcallE (c : DefOk X.prog X.w X.K X.mg X.base (L2.CX X.prog X.w) x ps j sp) (tk : Takes X W) (hW : ∀ cls d σ H, E cls d H → W cls d σ H) (hr : Room k X.A) (ha : PA X (e :: es) t) (hj : j ≤ k := by first | decide | omega) (hg : Gl X x := by rfl)
    (db0 : (x == ("__debug__" : Str)) = false := by decide) (st0 : starEach (e :: es) X.env = (false, eval e X.env) :: starEach es X.env := by rfl) (pl0 : (backTo pos (starEach es X.env)).any (·.1) = false := by rfl) :
    PE X (.Call (.Name x p) (e :: es) [] pos) (tCall sp [] E t) := pe_call c.G (hr.mono hj) hg c.m c.kp c.b .nil (passes_call tk hW) ha db0 st0 pl0
end
end Mus

set_option maxRecDepth 100000
set_option maxHeartbeats 4000000
/-! Calls whose errors are caught where the slots stand. -/
namespace Mus
open PySem PySem.Spec PyProof.Rows L2
/-! ### calls in a try's body -/
def tMethA (C : Addr) (m : Str) (sp : Sp) (E : L2.St → XK) (ta : TE) (t : TA) : TE := fun σ H Q => ta σ H fun x H1 => ∃ a dx fs, x = .ref a ∧ H1 a = some (.ins C dx fs) ∧ fs.lookup m = none ∧ t σ H1 fun vs H2 => sp (x :: vs) H2 Q (E σ)
section
variable {X : Cx} {C : Addr} {x m : Str} {ps : List Str} {j k : Nat} {sp : Sp} {o e : Expr} {es : List Expr} {to : TE} {t : TA} {p pos apos : Pos} {W : WX}
theorem pmethA {pl : Sem Bool} (c : MethOk X.prog X.w X.K X.mg X.base (L2.CX X.prog X.w) C m ps j sp) (cl : Cls X.K C) (tk : Takes X W) (ho : PE X o to) (hr : Room k X.A) (ha : PA X (e :: es) t) (hj : j ≤ k := by first | decide | omega)
    (st0 : starEach (e :: es) X.env = (false, eval e X.env) :: starEach es X.env := by rfl) (pl0 : (backTo pos (starEach es X.env)).any (·.1) = false := by rfl)
    (ht : eval (.Call (.Attribute o m apos) (e :: es) [] pos) X.env = (do
      let v ← eval o X.env; standAt apos.atName; let (f, one) ← holding [v] (getMethod v m pl)
      callWith pos f one (backTo pos (starEach (e :: es) X.env)) (backToKw pos (keywordEach [] X.env))) := by rfl) :
    PE X (.Call (.Attribute o m apos) (e :: es) [] pos) (tMethA C m sp (WE W) to t) := by
  refine ⟨fun pins s σ H Q I h => ?_⟩
  refine PySem.W.methodCall_KW (pl := pl) (thn (ho.run pins s σ H _ I h) fun u s1 ⟨x, H1, I1, rx, a, dx, fs, ex, ea, l, q⟩ => ?_) ht
  subst ex
  obtain rfl : u = Value.ref a := rx
  refine getmeth_ok I1 ea cl c.m l ?_
  refine PySem.W.callWith_K (first := [.ref a]) (h₀ := X.base) I.ok.mod.kin c.m.kp (thn (ha.run pos pins s1 σ H1 _ I1 q) fun us s2 ⟨vs, H2, I2, r, q2⟩ => ⟨I2.kIn, ?_⟩) st0 pl0
  exact run_fnS (us := .ref a :: us) (vs := .ref a :: vs) c.G (hr.mono hj) c.b (passAt tk σ) I2 (.cons rfl r) q2
theorem pmethA0 {pl : Sem Bool} (c : MethOk X.prog X.w X.K X.mg X.base (L2.CX X.prog X.w) C m ps j sp) (cl : Cls X.K C) (tk : Takes X W) (ho : PE X o to) (hr : Room k X.A) (hj : j ≤ k := by first | decide | omega)
    (ht : eval (.Call (.Attribute o m apos) [] [] pos) X.env = (do
      let v ← eval o X.env; standAt apos.atName; let (f, one) ← holding [v] (getMethod v m pl)
      callWith pos f one (backTo pos (starEach [] X.env)) (backToKw pos (keywordEach [] X.env))) := by rfl) :
    PE X (.Call (.Attribute o m apos) [] [] pos) (tMethA C m sp (WE W) to tNil) := by
  refine ⟨fun pins s σ H Q I h => ?_⟩
  refine PySem.W.methodCall_KW (pl := pl) (thn (ho.run pins s σ H _ I h) fun u s1 ⟨x, H1, I1, rx, a, dx, fs, ex, ea, l, q⟩ => ?_) ht
  subst ex
  obtain rfl : u = Value.ref a := rx
  refine getmeth_ok I1 ea cl c.m l ?_
  refine PySem.W.callWith_K0 (first := [.ref a]) I1.kIn c.m.kp ?_
  exact run_fnS (us := [.ref a]) (vs := [.ref a]) c.G (hr.mono hj) c.b (passAt tk σ) I1 (.cons rfl .nil) q
theorem pcallA (c : DefOk X.prog X.w X.K X.mg X.base (L2.CX X.prog X.w) x ps j sp) (tk : Takes X W) (hr : Room k X.A) (ha : PA X (e :: es) t) (hj : j ≤ k := by first | decide | omega) (hg : Gl X x := by rfl)
    (db0 : (x == ("__debug__" : Str)) = false := by decide) (st0 : starEach (e :: es) X.env = (false, eval e X.env) :: starEach es X.env := by rfl) (pl0 : (backTo pos (starEach es X.env)).any (·.1) = false := by rfl) :
    PE X (.Call (.Name x p) (e :: es) [] pos) (tCallS sp (WE W) t) := pe_callS c.G (hr.mono hj) hg c.m c.kp c.b (fun σ => passAt tk σ) ha db0 st0 pl0
end
end Mus

set_option maxRecDepth 100000
set_option maxHeartbeats 4000000
/-! The same rules, so that Lean finds the inner readings: they may name what they don't depend on. -/
namespace Mus
open PySem PySem.Spec PyProof.Rows L2
def s00 : Shared := {}
def h00 : Hp := fun _ => none
def o00 : Obj := default
def x00 : Value → Shared → Prop := fun _ _ => False
section
variable {X : Cx} {x n : Str} {c : Value} {i : Nat} {body suite : List Stmt} {b₀ : Stmt} {np pos pos' : Pos} {tb : WX → List (Addr × Obj) → (Value → Shared → Prop) → TS} {ts : Addr → Obj → Value → Option Addr → List (Addr × Obj) → TS} {Wout : WX}
theorem ps_tryAs (hs : X.stack = X.env :: X.outer) (hf : X.env.frame = some X.env.locals) (hN : X.N.Nodup) (hi : X.N[i]? = some n) (hln : X.env.kindOf n = some .local) (hc : Names X x c) (tk : Takes X Wout)
    (hb : ∀ W pn xe, Takes (X.tr pn xe) W → PassesOwn (model X.prog X.w) X.A X.env xe → PSs (X.tr pn xe) body (tb W pn xe)) (hsu : ∀ a oe cls d pn, Zc cls d oe → (∃ vs, oe.data = .fields vs) → PSs (X.suite a ((a, oe) :: pn)) (b₀ :: suite) (ts a oe cls d pn))
    (i1 : ∀ W pn xe, tb W pn xe = tb W [] x00 := by intros; rfl) (i2 : ∀ a oe cls d pn, ts a oe cls d pn = ts a o00 cls d [] := by intros; rfl) :
    PS X (.Try body [.ExceptHandler (some (.Name x np)) (some n) (b₀ :: suite) pos'] [] [] pos) (fun D σ H => tb (wAs X.K c i (fun a cls d => ts a o00 cls d []) Wout D) [] x00 D σ H) :=
  ps_try_as (tb := fun W => tb W [] x00) hs hf hN hi hln hc tk (fun W pn xe t p => i1 W pn xe ▸ hb W pn xe t p) fun a oe cls d pn z f => i2 a oe cls d pn ▸ hsu a oe cls d pn z f
end
section
variable {X : Cx} {body : List Stmt} {h₀ : ExceptHandler} {hds : List ExceptHandler} {l : List (Value × (Addr → Value → Option Addr → TS))} {pos : Pos} {tb : WX → List (Addr × Obj) → (Value → Shared → Prop) → TS} {Wout : WX}
theorem ps_tryX (hs : X.stack = X.env :: X.outer) (hf : X.env.frame = some X.env.locals) (tk : Takes X Wout)
    (hb : ∀ W pn xe, Takes (X.tr pn xe) W → PassesOwn (model X.prog X.w) X.A X.env xe → PSs (X.tr pn xe) body (tb W pn xe)) (hh : HdsOk X (h₀ :: hds) l) (i1 : ∀ W pn xe, tb W pn xe = tb W [] x00 := by intros; rfl) :
    PS X (.Try body (h₀ :: hds) [] [] pos) (fun D σ H => tb (wMany X.K Wout D l) [] x00 D σ H) :=
  ps_try_many (tb := fun W => tb W [] x00) hs hf tk (fun W pn xe t p => i1 W pn xe ▸ hb W pn xe t p) hh
theorem hd_one {x : Str} {c : Value} {ts : Addr → Obj → Value → Option Addr → List (Addr × Obj) → TS} {b₀ : Stmt} {suite : List Stmt} {np pos' : Pos} (hc : Names X x c)
    (hsu : ∀ a oe cls d pn, Zc cls d oe → (∃ vs, oe.data = .fields vs) → PSs (X.suite a ((a, oe) :: pn)) (b₀ :: suite) (ts a oe cls d pn)) (r : HdsOk X hds l) (i2 : ∀ a oe cls d pn, ts a oe cls d pn = ts a o00 cls d [] := by intros; rfl) :
    HdsOk X (.ExceptHandler (some (.Name x np)) none (b₀ :: suite) pos' :: hds) ((c, fun a cls d => ts a o00 cls d []) :: l) :=
  .cons hc (fun a oe cls d pn z f => i2 a oe cls d pn ▸ hsu a oe cls d pn z f) r
end
section
variable {X : Cx} {elt tg iter : Expr} {ifs : List Expr} {scope : Scope} {own : List (Str × Nat)} {pos : Pos} {wi : TI} {g : Shared → Hp → Addr → List (Str × Addr) → List Addr → TG} {tt : Shared → Hp → Addr → List (Str × Addr) → List Addr → TT} {te : Shared → Hp → Addr → List (Str × Addr) → List Addr → TE}
theorem pe_lcX (hc : X.calm = true) (hN : X.N.Nodup) (hi : PI X tg iter wi) (ok : BlkOk X.N X.env.scope scope own)
    (hg : ∀ (s : Shared) (H : Hp) (C : Addr) (cl : List (Str × Addr)) (fp : List Addr), PG (X.blk s H scope (compEnvC scope cl C X.env) fp) tg (g s H C cl fp)) (ht : ∀ (s : Shared) (H : Hp) (C : Addr) (cl : List (Str × Addr)) (fp : List Addr), PTs (X.blk s H scope (compEnvC scope cl C X.env) fp) ifs (tt s H C cl fp))
    (he : ∀ (s : Shared) (H : Hp) (C : Addr) (cl : List (Str × Addr)) (fp : List Addr), PE (X.blk s H scope (compEnvC scope cl C X.env) fp) elt (te s H C cl fp)) (hs : ∀ x, foldedSetIterable iter X.env x = pure x := by intro _; rfl)
    (i1 : ∀ s H C cl fp, g s H C cl fp = g s00 h00 0 [] [] := by intros; rfl) (i2 : ∀ s H C cl fp, tt s H C cl fp = tt s00 h00 0 [] [] := by intros; rfl) (i3 : ∀ s H C cl fp, te s H C cl fp = te s00 h00 0 [] [] := by intros; rfl) :
    PE X (.ListComp elt [⟨tg, iter, ifs, 0⟩] scope pos) (tLc wi (g s00 h00 0 [] []) (tt s00 h00 0 [] []) (te s00 h00 0 [] []) (own.map (·.2))) :=
  pe_lc hc hN hi ok (fun s H C cl fp => i1 s H C cl fp ▸ hg s H C cl fp) (fun s H C cl fp => i2 s H C cl fp ▸ ht s H C cl fp) (fun s H C cl fp => i3 s H C cl fp ▸ he s H C cl fp) hs
theorem ps_setLcX {i : Nat} {y : Str} {py : Pos} {spos : Pos} (hc : X.calm = true) (hN : X.N.Nodup) (hy : X.N[i]? = some y) (hyl : X.env.scope.names.lookup y = some .local)
    (hsw : swapsWith (.ListComp elt [⟨tg, iter, ifs, 0⟩] scope pos) (some (.Name y py)) spos.line X.env = pure true) (hi : PI X tg iter wi) (ok : BlkOk X.N X.env.scope scope own)
    (hg : ∀ (s : Shared) (H : Hp) (C : Addr) (cl : List (Str × Addr)) (fp : List Addr), PG (X.blk s H scope (compEnvC scope cl C X.env) fp) tg (g s H C cl fp)) (ht : ∀ (s : Shared) (H : Hp) (C : Addr) (cl : List (Str × Addr)) (fp : List Addr), PTs (X.blk s H scope (compEnvC scope cl C X.env) fp) ifs (tt s H C cl fp))
    (he : ∀ (s : Shared) (H : Hp) (C : Addr) (cl : List (Str × Addr)) (fp : List Addr), PE (X.blk s H scope (compEnvC scope cl C X.env) fp) elt (te s H C cl fp)) (hs : ∀ x, foldedSetIterable iter X.env x = pure x := by intro _; rfl)
    (i1 : ∀ s H C cl fp, g s H C cl fp = g s00 h00 0 [] [] := by intros; rfl) (i2 : ∀ s H C cl fp, tt s H C cl fp = tt s00 h00 0 [] [] := by intros; rfl) (i3 : ∀ s H C cl fp, te s H C cl fp = te s00 h00 0 [] [] := by intros; rfl) :
    PS X (.Assign [.Name y py] (.ListComp elt [⟨tg, iter, ifs, 0⟩] scope pos) spos) (tAsg (tLc wi (g s00 h00 0 [] []) (tt s00 h00 0 [] []) (te s00 h00 0 [] []) (own.map (·.2))) (gName i)) :=
  ps_setLc hc hN hy hyl hsw hi ok (fun s H C cl fp => i1 s H C cl fp ▸ hg s H C cl fp) (fun s H C cl fp => i2 s H C cl fp ▸ ht s H C cl fp) (fun s H C cl fp => i3 s H C cl fp ▸ he s H C cl fp) hs
end
end Mus

set_option maxRecDepth 100000
set_option maxHeartbeats 4000000
namespace Mus
open PySem L2
local macro_rules | `(tactic| walk_at "rd") => `(tactic| first
  | refine ⟨_, rfl, ?_⟩ | refine ⟨(True.intro : True), ?_⟩
  | refine ⟨_, _, rfl, rfl, (⟨by decide, by decide, by decide⟩ : CPow _ _), ?_⟩
  | refine ⟨_, _, rfl, rfl, (⟨by decide, by decide⟩ : CDiv _ _), ?_⟩
  | refine ⟨_, _, rfl, rfl, (by show (0 : Int) < _; decide), ?_⟩
  | refine ⟨_, _, rfl, rfl, ?_⟩ | refine ⟨rfl, ?_⟩ | refine iteT ?_ | refine iteF ?_ | refine ⟨_, _, rfl, ?_⟩ | refine .inl ⟨_, rfl, ?_⟩
  | refine ⟨_, _, _, _, _, rfl, (by assumption), (by assumption), (by assumption), rfl, ?_⟩ | refine ⟨_, _, _, _, rfl, rfl, SqT.of (by assumption), rfl, ?_⟩ | refine ⟨_, _, rfl, SqT.of (by assumption), rfl, ?_⟩
  | refine ⟨_, _, _, _, _, rfl, .ty _, Rp.ty (by assumption), kit_int _, ?_⟩ | refine ⟨_, _, _, _, _, rfl, .ty _, Rp.ty (by assumption), kit_bool _, ?_⟩
  | refine ⟨_, _, _, _, _, rfl, .ty _, Rp.ty (by assumption), kit_str _, ?_⟩ | refine ⟨_, _, _, _, _, rfl, .ty _, Rp.ty (by assumption), kit_tup _, ?_⟩)
local macro_rules | `(tactic| walk_at "cal") => `(tactic| first
  | refine ⟨_, _, _, _, _, rfl, (by assumption), ?_⟩ | refine ⟨_, _, _, _, _, rfl, (by assumption), (by assumption), ?_⟩)
local macro_rules | `(tactic| walk_at "sq") => `(tactic| first
  | refine ⟨_, _, rfl, Or.inr (SqT.of (by assumption)), ?_⟩ | refine ⟨_, _, _, _, rfl, rfl, SqT.of (by assumption), rfl, ?_⟩)
local macro_rules | `(tactic| walk_at "rds") => `(tactic| repeat first | walk_at "rd" | walk_at "cal" | walk_at "sq")
local macro_rules | `(tactic| walk_at "ze") => `(tactic| repeat first
  | exact zes_nil | exact ze_bl | exact ze_str | exact ze_non | apply zes_cons | apply ze_tup | apply ze_lst | apply ze_cat | exact di_c | exact di_v rfl | apply di_opC | apply di_op | apply di_neg | apply ze_i | (refine (⟨?_, ?_, ?_⟩ : CPow _ _) <;> decide) | exact Nat.le_of_ble_eq_true rfl | exact ze_varD rfl (by assumption))
local macro_rules | `(tactic| walk_at "rdz") => `(tactic| repeat (fail_if_success (first | show tLst _ _ _ _ | show tAsg (tLst _) _ _ _ _ | show tSeq (tAsg (tLst _) _) _ _ _ _)); first | walk_at "rd" | walk_at "cal" | walk_at "sq")
def top (i : Nat) : Stmt := PySem.Challenge.pw_mustercall_k21_whole_logs_are_prefixes.main.body.getD i (.Pass ⟨0, 0, 0, 0⟩)
structure Tx (K : PySem.W.Frag) (mg : Str → Option Value) (CO CV : Addr) : Prop where
  b_len : mg "len" = none
  b_isinstance : mg "isinstance" = none
  b_int : mg "int" = none
  b_list : mg "list" = none
  b_tuple : mg "tuple" = none
  b_range : mg "range" = none
  b_min : mg "min" = none
  b_max : mg "max" = none
  b_abs : mg "abs" = none
  b_enumerate : mg "enumerate" = none
  b_sum : mg "sum" = none
  c_WINDOW : ∃ t, mg "WINDOW" = some (.int 16 t)
  g_Order : mg "Order" = some (.ref CO)
  cl_Order : L2.Cls K CO
  n_Order__me : NoAttr K CO "_me"
  n_Order__view_id : NoAttr K CO "_view_id"
  n_Order__members : NoAttr K CO "_members"
  n_Order__founder : NoAttr K CO "_founder"
  n_Order__log : NoAttr K CO "_log"
  n_Order__last_indexes : NoAttr K CO "_last_indexes"
  n_Order__casts : NoAttr K CO "_casts"
  n_Order__pending : NoAttr K CO "_pending"
  n_Order__kept : NoAttr K CO "_kept"
  n_Order__told : NoAttr K CO "_told"
  g_BadView : mg "BadView" = some (.ref CV)
  x_BadView : PySem.W.excIn K CV [.type "ValueError", .type "Exception", .type "BaseException", .type "object"] "ValueError.__new__" = true
  k_BadView : PySem.W.keepIn K (.ref CV) = true
  b_BadView : PySem.W.subIn K (.ref CV) (.type "BaseException") = some true
  t_BadView : PySem.W.typeIn K (.ref CV) = some (.type "type")
  m_VV : PySem.W.exmOne K (.ref CV) (.ref CV) = some true
section
variable {P : Program} {w : World} {K : PySem.W.Frag} {mg : Str → Option Value} {base : Heap} {CO CV : Addr}
/-! ### Order -/
abbrev s_Order__order_letter : Stmt := inClass (top 6) 15
abbrev N_Order__order_letter : List Str := ["self", "member", "place", "message"]
abbrev P_Order__order_letter : List Str := ["self", "member", "place", "message"]
theorem sc_Order__order_letter : FnScope N_Order__order_letter P_Order__order_letter (defScope s_Order__order_letter) := ⟨rfl, rfl, rfl, by decide +kernel, rfl, by decide +kernel, by decide +kernel⟩
def sp_ordl (CO : Addr) : Sp := fun vs H Q _ => ∃ (w : World) (p : Addr) (a : OA) (s : OS) (v u : V) (m : Mem) (i : Int) (g : Msg), vs = [.ref p, v, .int i, u] ∧ OAt w CO H p a s ∧ TD H v (eM m) ∧ TD H u (eG g) ∧ ∀ r H', Same H H' → TD H' (.ref r) (ePk (m.1, .order s.me s.vid i g)) → Q (.ref r) H'
theorem ok_ordl {f : Addr} {fd : FuncData} (T : Tx K mg CO CV) (F : Fun K "_order_letter" "Order._order_letter" s_Order__order_letter f fd) : FnOk P w K mg base CX0 1 f fd P_Order__order_letter (sp_ordl CO) := by
  have nd := sc_Order__order_letter.nd
  refine F.ok sc_Order__order_letter (fun vs H Q E h => ?_) (fun cdv A outer s H vs Q E hr h => ?_)
  · obtain ⟨_, _, _, _, _, _, _, _, _, rfl, _⟩ := h
    rfl
  · obtain ⟨w0, p, a, s, v, u, m, i, g, rfl, O, hv, hu, q⟩ := h
    have hs := sl
    have ob := O.ob
    obtain ⟨c1, n1, n2⟩ : L2.Cls K CO ∧ NoAttr K CO "_me" ∧ NoAttr K CO "_view_id" := ⟨T.cl_Order, T.n_Order__me, T.n_Order__view_id⟩
    obtain ⟨b, rfl, hb⟩ := hv.mem
    refine ⟨_, (pss_one (ps_ret (pe_tup (pa_cons (pe_ix ix_tup (pv 1) pe_int (fun _ _ => rfl)) (pa_cons (pe_tup (pa_cons pe_str (pa_cons (pe_fld (pv 0) (by rfl)) (pa_cons (pe_fld (pv 0) (by rfl)) (pa_cons (pv 2) (pa_cons (pv 3) pa_nil)))))) pa_nil))))), ?_⟩
    walk_at "rds"
    refine ⟨by show 5 ≤ sizeLine; omega, fun t1 nt1 => ?_⟩
    have s1 := same_new nt1 (.tup [V.str "order", a.vme, a.vvid, V.int i, u])
    have d1 : TD (upd H t1 (.tup [V.str "order", a.vme, a.vvid, V.int i, u])) (.ref t1) (eL (.order s.me s.vid i g)) := .tup upd_same (by show 5 ≤ 100000; decide) (.cons (.str _) (.cons (O.me.same s1) (.cons (O.vid.same s1) (.cons (.int _) (.cons (hu.same s1) .nil)))))
    refine ⟨by show 2 ≤ sizeLine; omega, fun t2 nt2 => ?_⟩
    have s2 := same_new nt2 (.tup [V.int m.1, V.ref t1])
    exact q t2 _ (s1.trans s2) (.tup upd_same (by show 2 ≤ 100000; decide) (.cons (.int _) (.cons (d1.same s2) .nil)))
abbrev s_Order__cast_letter : Stmt := inClass (top 6) 14
abbrev N_Order__cast_letter : List Str := ["self", "index", "payload"]
abbrev P_Order__cast_letter : List Str := ["self", "index", "payload"]
theorem sc_Order__cast_letter : FnScope N_Order__cast_letter P_Order__cast_letter (defScope s_Order__cast_letter) := ⟨rfl, rfl, rfl, by decide +kernel, rfl, by decide +kernel, by decide +kernel⟩
def sp_casl (CO : Addr) : Sp := fun vs H Q _ => ∃ (w : World) (p : Addr) (a : OA) (s : OS) (c : Cst), vs = [.ref p, .int c.1, .str c.2] ∧ OAt w CO H p a s ∧ ∀ r H', Same H H' → TD H' (.ref r) (ePk (s.castL c)) → Q (.ref r) H'
theorem ok_casl {f : Addr} {fd : FuncData} (T : Tx K mg CO CV) (F : Fun K "_cast_letter" "Order._cast_letter" s_Order__cast_letter f fd) : FnOk P w K mg base CX0 1 f fd P_Order__cast_letter (sp_casl CO) := by
  have nd := sc_Order__cast_letter.nd
  refine F.ok sc_Order__cast_letter (fun vs H Q E h => ?_) (fun cdv A outer s H vs Q E hr h => ?_)
  · obtain ⟨_, _, _, _, _, rfl, _⟩ := h
    rfl
  · obtain ⟨w0, p, a, s, c, rfl, O, q⟩ := h
    have hs := sl
    have ob := O.ob
    obtain ⟨c1, n1, n2, n3⟩ : L2.Cls K CO ∧ NoAttr K CO "_me" ∧ NoAttr K CO "_view_id" ∧ NoAttr K CO "_founder" := ⟨T.cl_Order, T.n_Order__me, T.n_Order__view_id, T.n_Order__founder⟩
    obtain ⟨b, eb, hb⟩ := O.fd.mem
    rw [eb] at ob
    refine ⟨_, (pss_one (ps_ret (pe_tup (pa_cons (pe_ix ix_tup (pe_fld (pv 0) (by rfl)) pe_int (fun _ _ => rfl)) (pa_cons (pe_tup (pa_cons pe_str (pa_cons (pe_fld (pv 0) (by rfl)) (pa_cons (pe_fld (pv 0) (by rfl)) (pa_cons (pv 1) (pa_cons (pv 2) pa_nil)))))) pa_nil))))), ?_⟩
    walk_at "rds"
    refine ⟨by show 5 ≤ sizeLine; omega, fun t1 nt1 => ?_⟩
    have s1 := same_new nt1 (.tup [V.str "cast", a.vme, a.vvid, V.int c.1, V.str c.2])
    have d1 : TD (upd H t1 (.tup [V.str "cast", a.vme, a.vvid, V.int c.1, V.str c.2])) (.ref t1) (eL (.cast s.me s.vid c.1 c.2)) := .tup upd_same (by show 5 ≤ 100000; decide) (.cons (.str _) (.cons (O.me.same s1) (.cons (O.vid.same s1) (.cons (.int _) (.cons (.str _) .nil)))))
    refine ⟨by show 2 ≤ sizeLine; omega, fun t2 nt2 => ?_⟩
    have s2 := same_new nt2 (.tup [V.int s.fd.1, V.ref t1])
    exact q t2 _ (s1.trans s2) (.tup upd_same (by show 2 ≤ 100000; decide) (.cons (.int _) (.cons (d1.same s2) .nil)))
abbrev s_Order__others : Stmt := inClass (top 6) 12
abbrev N_Order__others : List Str := ["self", "member"]
abbrev P_Order__others : List Str := ["self"]
theorem sc_Order__others : FnScope N_Order__others P_Order__others (defScope s_Order__others) := ⟨rfl, rfl, rfl, by decide +kernel, rfl, by decide +kernel, by decide +kernel⟩
def sp_oth (CO : Addr) : Sp := fun vs H Q _ => ∃ (w : World) (p : Addr) (a : OA) (s : OS), vs = [.ref p] ∧ OAt w CO H p a s ∧ ∀ r H', Same H H' → H r = none → LstAt H' r (s.others.map eM) → Q (.ref r) H'
theorem ok_oth {f : Addr} {fd : FuncData} (T : Tx K mg CO CV) (F : Fun K "_others" "Order._others" s_Order__others f fd) : FnOk P w K mg base CX0 1 f fd P_Order__others (sp_oth CO) := by
  have nd := sc_Order__others.nd
  refine F.ok sc_Order__others (fun vs H Q E h => ?_) (fun cdv A outer s H vs Q E hr h => ?_)
  · obtain ⟨_, _, _, _, rfl, _⟩ := h
    rfl
  · obtain ⟨w0, p, a, s, rfl, O, q⟩ := h
    have hs := sl
    have ob := O.ob
    obtain ⟨c1, n1, n2⟩ : L2.Cls K CO ∧ NoAttr K CO "_me" ∧ NoAttr K CO "_members" := ⟨T.cl_Order, T.n_Order__me, T.n_Order__members⟩
    obtain ⟨am, xs, em, ham, lx, hx⟩ : ∃ am xs, a.vms = .ref am ∧ H am = some (.tup xs) ∧ xs.length ≤ 100000 ∧ TDs H xs (s.mems.map eM) := by
      have := O.ms
      cases e : a.vms with
      | ref b => rw [e] at this; cases this with | tup h l r => exact ⟨_, _, rfl, h, l, r⟩
      | _ => rw [e] at this; cases this
    rw [em] at ob
    refine ⟨_, (pss_one (ps_ret (pe_lcX (own := [("member", 1)]) rfl nd (pi_tup (pe_fld (pv 0) (by rfl))) (blkOk_by (own := [("member", 1)]) (N := N_Order__others) (sc := defScope s_Order__others) (by decide +kernel)) (fun _ _ _ _ _ => (pg_name (i := 1) nd rfl (Or.inl rfl))) (fun _ _ _ _ _ => (pts_one (pt_cmpR (op_neD hr.units) (pv 1) (pe_fld (pv 0) (by rfl)) (nomark _)))) (fun _ _ _ _ _ => (pv 1))))), ?_⟩
    walk_at "rds"
    refine ⟨⟨_, SqT.of ham⟩, fun D nD => ?_⟩
    have lm := hx.length
    rw [List.length_map] at lm
    refine lc_tup (K := K) (a := am) (xs := xs) (fun i H' => LstAt H' D (((s.mems.take i).filter fun m => !decide (m = s.me)).map eM) ∧ Same H H') ?_ ?_ ?_ ?_
    · exact ⟨⟨[], upd_same, .nil⟩, same_new nD _⟩
    · rintro i H' _ ⟨_, s1⟩
      exact SqT.of (s1 _ _ ham)
    · rintro i x H' hi ⟨⟨ws, hD, hw⟩, s1⟩
      obtain ⟨d, hd, rd⟩ := hx.at hi
      rw [List.getElem?_map] at hd
      obtain ⟨m, hm, rfl⟩ := Option.map_eq_some_iff.mp hd
      have ht : s.mems.take (i + 1) = s.mems.take i ++ [m] := by rw [List.take_succ, hm]; rfl
      have ob1 := s1 _ _ ob
      refine ⟨rfl, ?_⟩
      walk_at "rds"
      refine rd_neM (rd.same s1) (O.me.same s1) ?_
      walk_at "rds"
      have lw := hw.length
      rw [List.length_map] at lw
      have := List.length_filter_le (fun m => !decide (m = s.me)) (s.mems.take i)
      rw [List.length_take] at this
      have sD : ∀ o, Same H (upd H' D o) := fun o b u e => by rw [upd_ne (ne_of_none e nD)]; exact s1 b u e
      refine iB (fun h => ?_) (fun h => ?_)
      · walk_at "rds"
        refine ⟨ws, hD, by omega, ⟨ws ++ [x], upd_same, ?_⟩, sD _⟩
        rw [ht, List.filter_append, List.map_append, show [m].filter (fun m => !decide (m = s.me)) = [m] by rw [List.filter_cons, if_pos h]; rfl]
        exact (hw.mono (tupK_upd fun xs e => by rw [hD] at e; cases e)).append (.cons (rd.mono (TupK.of (sD _))) .nil)
      · refine ⟨⟨ws, hD, ?_⟩, s1⟩
        rw [ht, List.filter_append, show [m].filter (fun m => !decide (m = s.me)) = [] by rw [List.filter_cons, if_neg (by rw [h]; decide)]; rfl, List.append_nil]
        exact hw
    · rintro H' ⟨hD, s1⟩
      rw [lm, List.take_length] at hD
      exact q D H' s1 nD hD
end
end Mus

set_option maxRecDepth 100000
set_option maxHeartbeats 4000000
namespace Mus
open PySem L2
local macro_rules | `(tactic| walk_at "rd") => `(tactic| first
  | refine ⟨_, rfl, ?_⟩ | refine ⟨(True.intro : True), ?_⟩
  | refine ⟨_, _, rfl, rfl, (⟨by decide, by decide, by decide⟩ : CPow _ _), ?_⟩
  | refine ⟨_, _, rfl, rfl, (⟨by decide, by decide⟩ : CDiv _ _), ?_⟩
  | refine ⟨_, _, rfl, rfl, (by show (0 : Int) < _; decide), ?_⟩
  | refine ⟨_, _, rfl, rfl, ?_⟩ | refine ⟨rfl, ?_⟩ | refine iteT ?_ | refine iteF ?_ | refine ⟨_, _, rfl, ?_⟩ | refine .inl ⟨_, rfl, ?_⟩
  | refine ⟨_, _, _, _, _, rfl, (by assumption), (by assumption), (by assumption), rfl, ?_⟩ | refine ⟨_, _, _, _, rfl, rfl, SqT.of (by assumption), rfl, ?_⟩ | refine ⟨_, _, rfl, SqT.of (by assumption), rfl, ?_⟩
  | refine ⟨_, _, _, _, _, rfl, .ty _, Rp.ty (by assumption), kit_int _, ?_⟩ | refine ⟨_, _, _, _, _, rfl, .ty _, Rp.ty (by assumption), kit_bool _, ?_⟩
  | refine ⟨_, _, _, _, _, rfl, .ty _, Rp.ty (by assumption), kit_str _, ?_⟩ | refine ⟨_, _, _, _, _, rfl, .ty _, Rp.ty (by assumption), kit_tup _, ?_⟩)
local macro_rules | `(tactic| walk_at "cal") => `(tactic| first
  | refine ⟨_, _, _, _, _, rfl, (by assumption), ?_⟩ | refine ⟨_, _, _, _, _, rfl, (by assumption), (by assumption), ?_⟩)
local macro_rules | `(tactic| walk_at "sq") => `(tactic| first
  | refine ⟨_, _, rfl, Or.inr (SqT.of (by assumption)), ?_⟩ | refine ⟨_, _, _, _, rfl, rfl, SqT.of (by assumption), rfl, ?_⟩)
local macro_rules | `(tactic| walk_at "rds") => `(tactic| repeat first | walk_at "rd" | walk_at "cal" | walk_at "sq")
local macro_rules | `(tactic| walk_at "ze") => `(tactic| repeat first
  | exact zes_nil | exact ze_bl | exact ze_str | exact ze_non | apply zes_cons | apply ze_tup | apply ze_lst | apply ze_cat | exact di_c | exact di_v rfl | apply di_opC | apply di_op | apply di_neg | apply ze_i | (refine (⟨?_, ?_, ?_⟩ : CPow _ _) <;> decide) | exact Nat.le_of_ble_eq_true rfl | exact ze_varD rfl (by assumption))
local macro_rules | `(tactic| walk_at "rdz") => `(tactic| repeat (fail_if_success (first | show tLst _ _ _ _ | show tAsg (tLst _) _ _ _ _ | show tSeq (tAsg (tLst _) _) _ _ _ _)); first | walk_at "rd" | walk_at "cal" | walk_at "sq")
section
variable {P : Program} {w : World} {K : PySem.W.Frag} {mg : Str → Option Value} {base : Heap} {CO CV : Addr}
abbrev s_Order__deliver : Stmt := inClass (top 6) 11
abbrev N_Order__deliver : List Str := ["self", "message", "sender", "index", "_", "pair"]
abbrev P_Order__deliver : List Str := ["self", "message"]
theorem sc_Order__deliver : FnScope N_Order__deliver P_Order__deliver (defScope s_Order__deliver) := ⟨rfl, rfl, rfl, by decide +kernel, rfl, by decide +kernel, by decide +kernel⟩
def sp_del (w : World) (CO : Addr) : Sp := fun vs H Q _ => ∃ (p : Addr) (a : OA) (s : OS) (v : V) (g : Msg), vs = [.ref p, v] ∧ OAt w CO H p a s ∧ TD H v (eG g) ∧ s.log.length ≤ 90000 ∧ s.pend.length ≤ 90000 ∧ ∀ H' a', OAt w CO H' p a' (s.deliver g) → Fr (a.fp p) (a'.fp p) H H' → Q .non H'
theorem ok_del {f : Addr} {fd : FuncData} (T : Tx K mg CO CV) (F : Fun K "_deliver" "Order._deliver" s_Order__deliver f fd) : FnOk P w K mg base CX0 1 f fd P_Order__deliver (sp_del w CO) := by
  have nd := sc_Order__deliver.nd
  refine F.ok sc_Order__deliver (fun vs H Q E h => ?_) (fun cdv A outer s H vs Q E hr h => ?_)
  · obtain ⟨_, _, _, _, _, rfl, _⟩ := h
    rfl
  · obtain ⟨p, a, s, v, g, rfl, O, hv, hl, hp, q⟩ := h
    have hs := sl
    have ob := O.ob
    obtain ⟨c1, n1, n2, n3, n4⟩ : L2.Cls K CO ∧ NoAttr K CO "_me" ∧ NoAttr K CO "_log" ∧ NoAttr K CO "_last_indexes" ∧ NoAttr K CO "_pending" := ⟨T.cl_Order, T.n_Order__me, T.n_Order__log, T.n_Order__last_indexes, T.n_Order__pending⟩
    obtain ⟨b, u, rfl, hb, hu⟩ := hv.msg
    obtain ⟨bm, rfl, nk⟩ := hu.nk
    obtain ⟨vl, hlg, tl⟩ := O.lg
    obtain ⟨kvs, N, hN, lN⟩ := O.li
    have ll := tl.length
    rw [List.length_map] at ll
    have lgli : a.lg ≠ a.li := ne_of hlg N.ob (by intro z; cases z)
    have lgp : a.lg ≠ p := ne_of hlg ob (by intro z; cases z)
    have lip : a.li ≠ p := ne_of N.ob ob (by intro z; cases z)
    refine ⟨_, (pss_cons (ps_asg (pv 1) (pg_tup (by rfl) (pgs_cons (pg_name (i := 2) nd rfl (Or.inl rfl)) (pgs_cons (pg_name (i := 3) nd rfl (Or.inr rfl)) (pgs_cons (pg_name (i := 4) nd rfl (Or.inl rfl)) pgs_nil)))))
      (pss_cons (ps_expr (pe_bm PySem.F.plainAttrs_list PySem.F.slot_list_append PySem.F.type_list_append mt_append (pe_fld (pv 0) (by rfl)) (pa_cons (pv 1) pa_nil)))
      (pss_cons (ps_nput hr.units (pe_fld (pv 0) (by rfl)) (pv 2) (pv 3) rfl)
      (pss_one (ps_if (pt_cmpR (op_eqD hr.units) (pv 2) (pe_fld (pv 0) (by rfl)) (nomark _))
        (pss_one (ps_fld (pv 0) (pe_lcX (own := [("pair", 5)]) rfl nd (pi_list (pe_fld (pv 0) (by rfl))) (blkOk_by (own := [("pair", 5)]) (N := N_Order__deliver) (sc := defScope s_Order__deliver) (by decide +kernel)) (fun _ _ _ _ _ => (pg_name (i := 5) nd rfl (Or.inl rfl))) (fun _ _ _ _ _ => (pts_one (pt_cmpR op_ne (pe_ix ix_tup (pv 5) pe_int (fun _ _ => rfl)) (pv 3) (nomark _)))) (fun _ _ _ _ _ => (pv 5))) rfl))
        pss_nil))))), ?_⟩
    walk_at "rds"
    refine ⟨.inl ⟨rfl, _, SqL.of hlg⟩, ?_⟩
    walk_at "rds"
    refine ⟨a.lg, _, _, rfl, rfl, hlg, by omega, ?_⟩
    generalize hh2 : upd H a.lg (HO.lst (vl ++ [V.ref b])) = H2
    have k2 : TupK H H2 := by subst hh2; exact tupK_upd fun xs e => by rw [hlg] at e; cases e
    have at2 : ∀ c, c ≠ a.lg → ∀ o, H c = some o → H2 c = some o := fun c h o e => by subst hh2; rw [upd_ne h]; exact e
    have lg2 : H2 a.lg = some (.lst (vl ++ [V.ref b])) := by subst hh2; exact upd_same
    have ob2 := at2 _ lgp.symm _ ob
    have N2 : Nd w H2 a.li kvs := N.mono (at2 _ lgli.symm _ N.ob) k2
    have nk2 := nk.mono k2
    have F2 : Fr (a.fp p) (a.fp p) H H2 := by subst hh2; exact fr_upd (by simp [OA.fp]) hlg (fun _ z => by cases z)
    walk_at "rds"
    refine ⟨a.li, bm, kvs, kM g.1, rfl, rfl, N2, nk2, kM_depth _, ?_⟩
    generalize hh3 : upd H2 a.li _ = H3
    have N3 : Nd w H3 a.li (putN kvs (kM g.1) bm (.int g.2.1)) := by subst hh3; exact N2.put (v := .int g.2.1) nk2 (kM_depth _) (by omega)
    have k23 : TupK H2 H3 := by subst hh3; exact tupK_upd fun xs e => by rw [N2.ob] at e; cases e
    have k3 := k2.trans k23
    have at3 : ∀ c, c ≠ a.li → ∀ o, H2 c = some o → H3 c = some o := fun c h o e => by subst hh3; rw [upd_ne h]; exact e
    have ob3 := at3 _ lip.symm _ ob2
    have F3 : Fr (a.fp p) (a.fp p) H H3 := by subst hh3; exact F2.trans (fr_upd (by simp [OA.fp]) N2.ob (fun _ z => by cases z))
    have O3 : OAt w CO H3 p a { s with log := s.log ++ [g], last := fun m => if m = g.1 then some g.2.1 else s.last m } := by
      have at_ : ∀ c, c ≠ a.lg → c ≠ a.li → ∀ o, H c = some o → H3 c = some o := fun c h1 h2 o e => at3 c h2 o (at2 c h1 o e)
      refine ⟨ob3, O.me.mono k3, O.vid.mono k3, O.ms.mono k3, O.fd.mono k3, ?_, ?_, O.pn.mono (at_ _ O.ap.1.symm ?_) k3, ?_, O.tl.mono (at_ _ ?_ O.ap.2.symm) k3, O.ap⟩
      · refine ⟨vl ++ [.ref b], at3 _ lgli _ lg2, ?_⟩
        rw [List.map_append]
        exact (tl.mono k3).append (.cons (hv.mono k3) .nil)
      · refine ⟨_, N3, fun m => ?_, by rw [List.length_append]; exact Nat.le_trans (putN_len _ _ _ _) (by show _ + 1 ≤ _ + 1; omega)⟩
        show _ = Option.map V.int (if m = g.1 then some g.2.1 else s.last m)
        rw [valN_put]
        by_cases e : m = g.1
        · rw [if_pos (by rw [e]), if_pos e]; rfl
        · rw [if_neg fun z => e (kM_inj z), if_neg e]; exact hN m
      · obtain ⟨v3, h3, _⟩ := O.pn
        exact ne_of h3 N.ob (by intro z; cases z)
      · obtain ⟨v4, h4, e4, l4⟩ := O.kp
        exact ⟨v4, at_ _ (ne_of h4 hlg (by intro z; cases z)) (ne_of h4 N.ob (by intro z; cases z)) _ h4, fun i => (e4 i).mono k3, l4⟩
      · obtain ⟨v5, h5, _⟩ := O.tl
        exact ne_of h5.ob hlg (by intro z; cases z)
    clear ob ob2
    have hu3 := hu.mono k3
    walk_at "rds"
    refine rd_eqM hu3 O3.me ?_
    walk_at "rds"
    refine iB (fun h => ?_) (fun h => ?_)
    · have h : g.1 = s.me := of_decide_eq_true h
      obtain ⟨vp, hpn, tp⟩ := O3.pn
      have tp : TDs H3 vp (s.pend.map eC) := tp
      have lp := tp.length
      rw [List.length_map] at lp
      walk_at "rds"
      refine ⟨⟨_, SqL.of hpn⟩, fun D nD => ?_⟩
      have Dn : D ∉ a.fp p := O3.fresh nD
      have sD : ∀ o, Same H3 (upd H3 D o) := same_new nD
      refine lc_list (K := K) (a := a.pn) (xs := vp) (fun i H' => LstAt H' D (((s.pend.take i).filter fun c => !decide (c.1 = g.2.1)).map eC) ∧ Same H3 H') ?_ ?_ ?_ ?_
      · exact ⟨⟨[], upd_same, .nil⟩, sD _⟩
      · rintro i H' _ ⟨_, s1⟩
        exact SqL.of (s1 _ _ hpn)
      · rintro i x H' hi ⟨⟨ws, hD, hw⟩, s1⟩
        obtain ⟨d, hd, rd⟩ := tp.at hi
        rw [List.getElem?_map] at hd
        obtain ⟨c, hc, rfl⟩ := Option.map_eq_some_iff.mp hd
        obtain ⟨bc, rfl, hbc⟩ := rd.cst
        have hbc1 := s1 _ _ hbc
        have ht : s.pend.take (i + 1) = s.pend.take i ++ [c] := by rw [List.take_succ, hc]; rfl
        have lw := hw.length
        rw [List.length_map] at lw
        have := List.length_filter_le (fun c : Cst => !decide (c.1 = g.2.1)) (s.pend.take i)
        rw [List.length_take] at this
        have sD1 : ∀ o, Same H3 (upd H' D o) := fun o b u e => by rw [upd_ne (ne_of_none e nD)]; exact s1 b u e
        refine ⟨rfl, ?_⟩
        walk_at "rds"
        have dt : (!decide (V.int c.1 = V.int g.2.1)) = !decide (c.1 = g.2.1) := by
          congr 1
          exact decide_eq_decide.mpr ⟨fun h => V.int.inj h, fun h => by rw [h]⟩
        rw [dt]
        refine iB (fun h => ?_) (fun h => ?_)
        · walk_at "rds"
          refine ⟨ws, hD, by omega, ⟨ws ++ [.ref bc], upd_same, ?_⟩, sD1 _⟩
          rw [ht, List.filter_append, List.map_append, show [c].filter (fun c => !decide (c.1 = g.2.1)) = [c] by rw [List.filter_cons, if_pos h]; rfl]
          exact (hw.mono (tupK_upd fun xs e => by rw [hD] at e; cases e)).append (.cons (rd.mono (TupK.of (sD1 _))) .nil)
        · refine ⟨⟨ws, hD, ?_⟩, s1⟩
          rw [ht, List.filter_append, show [c].filter (fun c => !decide (c.1 = g.2.1)) = [] by rw [List.filter_cons, if_neg (by rw [h]; decide)]; rfl, List.append_nil]
          exact hw
      · rintro H' ⟨hD, s1⟩
        rw [lp, List.take_length] at hD
        have O4 := O3.same s1
        have ob4 := O4.ob
        have Dp : D ≠ p := fun z => Dn (by rw [z]; simp [OA.fp])
        walk_at "rds"
        refine ⟨p, CO, a.dx, _, rfl, ob4, c1, n4, (by show 10 < 1000; decide), ?_⟩
        have pd : p ≠ D := Dp.symm
        have kt : TupK H' (upd H' p (.ins CO a.dx (oF a.vme a.vvid a.vms a.vfd a.lg a.li s.casts D a.kp a.tl))) := tupK_upd fun xs e => by rw [ob4] at e; cases e
        have at_ : ∀ c, c ≠ p → ∀ o, H' c = some o → (upd H' p (.ins CO a.dx (oF a.vme a.vvid a.vms a.vfd a.lg a.li s.casts D a.kp a.tl))) c = some o := fun c h1 o e => by rw [upd_ne h1]; exact e
        obtain ⟨w1, x1, x2⟩ := O4.lg
        obtain ⟨w2, x3, x4⟩ := O4.li
        obtain ⟨w4, x5, x6, x7⟩ := O4.kp
        obtain ⟨w5, x8, x9⟩ := O4.tl
        refine q _ { a with pn := D } ⟨upd_same, O4.me.mono kt, O4.vid.mono kt, O4.ms.mono kt, O4.fd.mono kt, ⟨w1, at_ _ (ne_of x1 ob4 (by intro z; cases z)) _ x1, x2.mono kt⟩, ⟨w2, x3.mono (at_ _ (ne_of x3.ob ob4 (by intro z; cases z)) _ x3.ob) kt, x4⟩, ?_, ⟨w4, at_ _ (ne_of x5 ob4 (by intro z; cases z)) _ x5, fun i => (x6 i).mono kt, x7⟩, ⟨w5, x8.mono (at_ _ (ne_of x8.ob ob4 (by intro z; cases z)) _ x8.ob) kt, x9⟩, ⟨fun z => Dn (by have z : a.lg = D := z; rw [← z]; simp [OA.fp]), O4.ap.2⟩⟩ ?_
        · have e : (s.deliver g).pend = s.pend.filter fun c => !decide (c.1 = g.2.1) := by show (if g.1 = s.me then _ else _) = _; rw [if_pos h]
          rw [e]
          obtain ⟨ws, h1, h2⟩ := hD
          exact ⟨ws, (upd_ne Dp).trans h1, h2.mono kt⟩
        · have F4 : Fr (a.fp p) (a.fp p) H H' := F3.trans (Fr.of s1)
          have hD0 : H D = none := by
            cases e : H D with
            | none => rfl
            | some o => rw [F3.k D o e Dn] at nD; cases nD
          refine ⟨fun b o e n => by rw [upd_ne (show b ≠ p from fun z => n (by rw [z]; simp [OA.fp]))]; exact F4.k b o e n, fun b hb => ?_, F4.t.trans kt, fun b e => F4.s b (by
            by_cases z : b = p
            · rw [z, upd_same] at e; cases e
            · rwa [upd_ne z] at e)⟩
          simp only [OA.fp, List.mem_cons, List.not_mem_nil, or_false] at hb ⊢
          rcases hb with hb | hb | hb | hb | hb | hb
          · exact .inl (.inl hb)
          · exact .inl (.inr (.inl hb))
          · exact .inl (.inr (.inr (.inl hb)))
          · rw [hb]; exact .inr hD0
          · exact .inl (.inr (.inr (.inr (.inr (.inl hb)))))
          · exact .inl (.inr (.inr (.inr (.inr (.inr hb)))))
    · have h : ¬ g.1 = s.me := of_decide_eq_false h
      have e : s.deliver g = { s with log := s.log ++ [g], last := fun m => if m = g.1 then some g.2.1 else s.last m } := by
        show ({ s with log := _, last := _, pend := if g.1 = s.me then _ else _ } : OS) = _
        rw [if_neg h]
      exact q _ a (by rw [e]; exact O3) F3
end
end Mus

set_option maxRecDepth 100000
set_option maxHeartbeats 4000000
namespace Mus
open PySem L2
local macro_rules | `(tactic| walk_at "rd") => `(tactic| first
  | refine ⟨_, rfl, ?_⟩ | refine ⟨(True.intro : True), ?_⟩
  | refine ⟨_, _, rfl, rfl, (⟨by decide, by decide, by decide⟩ : CPow _ _), ?_⟩
  | refine ⟨_, _, rfl, rfl, (⟨by decide, by decide⟩ : CDiv _ _), ?_⟩
  | refine ⟨_, _, rfl, rfl, (by show (0 : Int) < _; decide), ?_⟩
  | refine ⟨_, _, rfl, rfl, ?_⟩ | refine ⟨rfl, ?_⟩ | refine iteT ?_ | refine iteF ?_ | refine ⟨_, _, rfl, ?_⟩ | refine .inl ⟨_, rfl, ?_⟩
  | refine ⟨_, _, _, _, _, rfl, (by assumption), (by assumption), (by assumption), rfl, ?_⟩ | refine ⟨_, _, _, _, rfl, rfl, SqT.of (by assumption), rfl, ?_⟩ | refine ⟨_, _, rfl, SqT.of (by assumption), rfl, ?_⟩
  | refine ⟨_, _, _, _, _, rfl, .ty _, Rp.ty (by assumption), kit_int _, ?_⟩ | refine ⟨_, _, _, _, _, rfl, .ty _, Rp.ty (by assumption), kit_bool _, ?_⟩
  | refine ⟨_, _, _, _, _, rfl, .ty _, Rp.ty (by assumption), kit_str _, ?_⟩ | refine ⟨_, _, _, _, _, rfl, .ty _, Rp.ty (by assumption), kit_tup _, ?_⟩)
local macro_rules | `(tactic| walk_at "cal") => `(tactic| first
  | refine ⟨_, _, _, _, _, rfl, (by assumption), ?_⟩ | refine ⟨_, _, _, _, _, rfl, (by assumption), (by assumption), ?_⟩)
local macro_rules | `(tactic| walk_at "sq") => `(tactic| first
  | refine ⟨_, _, rfl, Or.inr (SqT.of (by assumption)), ?_⟩ | refine ⟨_, _, _, _, rfl, rfl, SqT.of (by assumption), rfl, ?_⟩)
local macro_rules | `(tactic| walk_at "rds") => `(tactic| repeat first | walk_at "rd" | walk_at "cal" | walk_at "sq")
local macro_rules | `(tactic| walk_at "ze") => `(tactic| repeat first
  | exact zes_nil | exact ze_bl | exact ze_str | exact ze_non | apply zes_cons | apply ze_tup | apply ze_lst | apply ze_cat | exact di_c | exact di_v rfl | apply di_opC | apply di_op | apply di_neg | apply ze_i | (refine (⟨?_, ?_, ?_⟩ : CPow _ _) <;> decide) | exact Nat.le_of_ble_eq_true rfl | exact ze_varD rfl (by assumption))
local macro_rules | `(tactic| walk_at "rdz") => `(tactic| repeat (fail_if_success (first | show tLst _ _ _ _ | show tAsg (tLst _) _ _ _ _ | show tSeq (tAsg (tLst _) _) _ _ _ _)); first | walk_at "rd" | walk_at "cal" | walk_at "sq")
section
variable {P : Program} {w : World} {K : PySem.W.Frag} {mg : Str → Option Value} {base : Heap} {CO CV : Addr}
abbrev s_Order__decide : Stmt := inClass (top 6) 8
abbrev N_Order__decide : List Str := ["self", "message", "place", "member"]
abbrev P_Order__decide : List Str := ["self", "message"]
theorem sc_Order__decide : FnScope N_Order__decide P_Order__decide (defScope s_Order__decide) := ⟨rfl, rfl, rfl, by decide +kernel, rfl, by decide +kernel, by decide +kernel⟩
def sp_dec (w : World) (CO : Addr) : Sp := fun vs H Q _ => ∃ (p : Addr) (a : OA) (s : OS) (v : V) (g : Msg), vs = [.ref p, v] ∧ OAt w CO H p a s ∧ TD H v (eG g) ∧ s.log.length ≤ 90000 ∧ s.pend.length ≤ 90000 ∧ s.mems.length ≤ 1000 ∧
  ∀ t H' a' l1 l2, OAt w CO H' p a' (s.deliver g) → Fr (a.fp p) (a'.fp p) H H' → H' t = some (.tup [.ref l1, .ref l2]) → NewL H (a'.fp p) H' l1 [eG g] → NewL H (a'.fp p) H' l2 ((s.ords ((s.log.length : Int) + 1) g).map ePk) → l1 ≠ l2 → Q (.ref t) H'
theorem ok_dec {f : Addr} {fd : FuncData} (T : Tx K mg CO CV) (m_Order__deliver : MethOk P w K mg base CX0 CO "_deliver" P_Order__deliver 1 (sp_del w CO)) (m_Order__others : MethOk P w K mg base CX0 CO "_others" P_Order__others 1 (sp_oth CO)) (m_Order__order_letter : MethOk P w K mg base CX0 CO "_order_letter" P_Order__order_letter 1 (sp_ordl CO))
    (F : Fun K "_decide" "Order._decide" s_Order__decide f fd) : FnOk P w K mg base CX0 2 f fd P_Order__decide (sp_dec w CO) := by
  have nd := sc_Order__decide.nd
  refine F.ok sc_Order__decide (fun vs H Q E h => ?_) (fun cdv A outer s H vs Q E hr h => ?_)
  · obtain ⟨_, _, _, _, _, rfl, _⟩ := h
    rfl
  · obtain ⟨p, a, s, v, g, rfl, O, hv, hl, hp, hm, q⟩ := h
    have hs := sl
    obtain ⟨c1, n2⟩ : L2.Cls K CO ∧ NoAttr K CO "_log" := ⟨T.cl_Order, T.n_Order__log⟩
    refine ⟨_, (pss_cons (ps_expr (pmeth m_Order__deliver T.cl_Order (pv 0) hr (pa_cons (pv 1) pa_nil)))
      (pss_cons (ps_set (i := 2) nd rfl (Or.inr rfl) (pe_callB call_len_seq (by rfl) T.b_len (by decide +kernel) (pa_cons (pe_fld (pv 0) (by rfl)) pa_nil)))
      (pss_one (ps_ret (pe_tup (pa_cons (pe_lst (pa_cons (pv 1) pa_nil)) (pa_cons (pe_lcX (own := [("member", 3)]) rfl nd (pi_list (pmeth0 m_Order__others T.cl_Order (pv 0) hr)) (blkOk_by (own := [("member", 3)]) (N := N_Order__decide) (sc := defScope s_Order__decide) (by decide +kernel)) (fun _ _ _ _ _ => (pg_name (i := 3) nd rfl (Or.inl rfl))) (fun _ _ _ _ _ => pts_nil) (fun _ _ _ _ _ => (pmeth m_Order__order_letter T.cl_Order (pv 0) hr (pa_cons (pv 3) (pa_cons (pv 2) (pa_cons (pv 1) pa_nil)))))) pa_nil))))))), ?_⟩
    refine ⟨_, rfl, p, a.dx, _, rfl, O.ob, rfl, _, rfl, p, a, s, v, g, rfl, O, hv, hl, hp, fun H1 a1 O1 F1 => ?_⟩
    have ob := O1.ob
    have hv1 := hv.mono F1.t
    obtain ⟨vl, hlg, tl⟩ := O1.lg
    have ll : vl.length = s.log.length + 1 := by
      have := tl.length
      rw [List.length_map] at this
      show vl.length = _
      rw [this]
      show (s.log ++ [g]).length = _
      rw [List.length_append]; rfl
    walk_at "rds"
    refine ⟨a1.lg, _, rfl, .inl (SqL.of hlg), ?_⟩
    refine ⟨_, rfl, by show 1 ≤ sizeLine; omega, fun l1 nl1 => ?_⟩
    have s1 := same_new nl1 (.lst [v])
    have h1 : (upd H1 l1 (.lst [v])) l1 = some (.lst [v]) := upd_same
    generalize upd H1 l1 (.lst [v]) = H2 at *
    have O2 := O1.same s1
    refine ⟨_, rfl, p, a1.dx, _, rfl, O2.ob, rfl, w, p, a1, _, rfl, O2, fun r H3 s3 nr hr3 => ?_⟩
    have O3 := O2.same s3
    obtain ⟨vo, hvo, to⟩ := hr3
    have lo := to.length
    rw [List.length_map] at lo
    have lo2 : (s.deliver g).others.length ≤ 1000 := Nat.le_trans (List.length_filter_le _ _) hm
    refine ⟨r, rfl, ⟨_, SqL.of hvo⟩, fun D nD => ?_⟩
    have s13 := s1.trans s3
    have hv3 := hv1.same s13
    refine lc_list (K := K) (a := r) (xs := vo) (fun i H' => LstAt H' D ((((s.deliver g).others.take i).map fun m => ((m.1, Ltr.order s.me s.vid ((s.log.length : Int) + 1) g) : Pkt)).map ePk) ∧ Same H3 H') ?_ ?_ ?_ ?_
    · exact ⟨⟨[], upd_same, .nil⟩, same_new nD _⟩
    · rintro i H' _ ⟨_, s4⟩
      exact SqL.of (s4 _ _ hvo)
    · rintro i x H' hi ⟨⟨ws, hD, hw⟩, s4⟩
      obtain ⟨d, hd, rd⟩ := to.at hi
      rw [List.getElem?_map] at hd
      obtain ⟨m, hm, rfl⟩ := Option.map_eq_some_iff.mp hd
      have ht : (s.deliver g).others.take (i + 1) = (s.deliver g).others.take i ++ [m] := by rw [List.take_succ, hm]; rfl
      have O4 := O3.same s4
      have lw := hw.length
      rw [List.length_map, List.length_map, List.length_take] at lw
      refine ⟨rfl, ?_⟩
      refine ⟨_, rfl, p, a1.dx, _, rfl, O4.ob, rfl, ?_⟩
      walk_at "rds"
      have el : (vl.length : Int) = (s.log.length : Int) + 1 := by omega
      refine ⟨w, p, a1, s.deliver g, x, v, m, (s.log.length : Int) + 1, g, by rw [← el]; rfl, O4, rd.same s4, hv3.same s4, fun r5 H5 s5 d5 => ?_⟩
      refine ⟨ws, s5 _ _ hD, by omega, ⟨ws ++ [.ref r5], upd_same, ?_⟩, fun b o e => by rw [upd_ne (ne_of_none e nD)]; exact s5 _ _ (s4 _ _ e)⟩
      rw [ht, List.map_append, List.map_append]
      have kt : TupK H5 (upd H5 D (.lst (ws ++ [.ref r5]))) := tupK_upd fun xs e => by rw [s5 _ _ hD] at e; cases e
      exact ((hw.same s5).mono kt).append (.cons (d5.mono kt) .nil)
    · rintro H' ⟨hD, s4⟩
      rw [lo, List.take_length] at hD
      refine ⟨by show 2 ≤ sizeLine; omega, fun t nt => ?_⟩
      have st := same_new nt (.tup [.ref l1, .ref D])
      have hn2 := F1.s
      have O5 := ((O3.same s4).same st)
      refine q t _ a1 l1 D O5 (F1.trans (Fr.of (s13.trans (s4.trans st)))) upd_same ⟨⟨[v], st _ _ (s4 _ _ (s3 _ _ h1)), .cons ((hv3.same s4).same st) .nil⟩, hn2 _ nl1, O1.fresh nl1⟩ ⟨hD.mono (fun o e => st _ _ e) (TupK.of st), hn2 _ ?_, O3.fresh nD⟩ ?_
      · cases e : H1 D with
        | none => rfl
        | some o => rw [s3 _ _ (s1 _ _ e)] at nD; cases nD
      · exact ne_of_none (s3 _ _ h1) nD
end
end Mus

set_option maxRecDepth 100000
set_option maxHeartbeats 4000000
namespace Mus
open PySem L2
local macro_rules | `(tactic| walk_at "rd") => `(tactic| first
  | refine ⟨_, rfl, ?_⟩ | refine ⟨(True.intro : True), ?_⟩
  | refine ⟨_, _, rfl, rfl, (⟨by decide, by decide, by decide⟩ : CPow _ _), ?_⟩
  | refine ⟨_, _, rfl, rfl, (⟨by decide, by decide⟩ : CDiv _ _), ?_⟩
  | refine ⟨_, _, rfl, rfl, (by show (0 : Int) < _; decide), ?_⟩
  | refine ⟨_, _, rfl, rfl, ?_⟩ | refine ⟨rfl, ?_⟩ | refine iteT ?_ | refine iteF ?_ | refine ⟨_, _, rfl, ?_⟩ | refine .inl ⟨_, rfl, ?_⟩
  | refine ⟨_, _, _, _, _, rfl, (by assumption), (by assumption), (by assumption), rfl, ?_⟩ | refine ⟨_, _, _, _, rfl, rfl, SqT.of (by assumption), rfl, ?_⟩ | refine ⟨_, _, rfl, SqT.of (by assumption), rfl, ?_⟩
  | refine ⟨_, _, _, _, _, rfl, .ty _, Rp.ty (by assumption), kit_int _, ?_⟩ | refine ⟨_, _, _, _, _, rfl, .ty _, Rp.ty (by assumption), kit_bool _, ?_⟩
  | refine ⟨_, _, _, _, _, rfl, .ty _, Rp.ty (by assumption), kit_str _, ?_⟩ | refine ⟨_, _, _, _, _, rfl, .ty _, Rp.ty (by assumption), kit_tup _, ?_⟩)
local macro_rules | `(tactic| walk_at "cal") => `(tactic| first
  | refine ⟨_, _, _, _, _, rfl, (by assumption), ?_⟩ | refine ⟨_, _, _, _, _, rfl, (by assumption), (by assumption), ?_⟩)
local macro_rules | `(tactic| walk_at "sq") => `(tactic| first
  | refine ⟨_, _, rfl, Or.inr (SqT.of (by assumption)), ?_⟩ | refine ⟨_, _, _, _, rfl, rfl, SqT.of (by assumption), rfl, ?_⟩)
local macro_rules | `(tactic| walk_at "rds") => `(tactic| repeat first | walk_at "rd" | walk_at "cal" | walk_at "sq")
local macro_rules | `(tactic| walk_at "ze") => `(tactic| repeat first
  | exact zes_nil | exact ze_bl | exact ze_str | exact ze_non | apply zes_cons | apply ze_tup | apply ze_lst | apply ze_cat | exact di_c | exact di_v rfl | apply di_opC | apply di_op | apply di_neg | apply ze_i | (refine (⟨?_, ?_, ?_⟩ : CPow _ _) <;> decide) | exact Nat.le_of_ble_eq_true rfl | exact ze_varD rfl (by assumption))
local macro_rules | `(tactic| walk_at "rdz") => `(tactic| repeat (fail_if_success (first | show tLst _ _ _ _ | show tAsg (tLst _) _ _ _ _ | show tSeq (tAsg (tLst _) _) _ _ _ _)); first | walk_at "rd" | walk_at "cal" | walk_at "sq")
theorem cut16 {α : Type} (xs : List α) (t : Nat) : ∀ lo hi : Option Int, lo = some (t : Int) → hi = some ((t : Int) + 16) → (xs.drop (HT.sIx xs.length 0 lo)).take (HT.sIx xs.length xs.length hi - HT.sIx xs.length 0 lo) = (xs.drop t).take 16 := by
  rintro _ _ rfl rfl
  have e : (t : Int) + 16 = ((t + 16 : Nat) : Int) := by omega
  rw [e, HT.sIx_nat, HT.sIx_nat]
  by_cases h : t ≤ xs.length
  · rw [Nat.min_eq_left h]
    by_cases h2 : t + 16 ≤ xs.length
    · rw [Nat.min_eq_left h2, show t + 16 - t = 16 by omega]
    · rw [Nat.min_eq_right (by omega)]
      rw [List.take_of_length_le (by rw [List.length_drop]; exact Nat.le_refl _), List.take_of_length_le (by rw [List.length_drop]; omega)]
  · rw [Nat.min_eq_right (show xs.length ≤ t by omega), Nat.min_eq_right (show xs.length ≤ t + 16 by omega), List.drop_length, List.drop_eq_nil_of_le (show xs.length ≤ t by omega), List.take_nil, List.take_nil]
section
variable {P : Program} {w : World} {K : PySem.W.Frag} {mg : Str → Option Value} {base : Heap} {CO CV : Addr}
abbrev s_Order__letters_behind : Stmt := inClass (top 6) 13
abbrev N_Order__letters_behind : List Str := ["self", "member", "told", "behind", "place", "message"]
abbrev P_Order__letters_behind : List Str := ["self", "member"]
theorem sc_Order__letters_behind : FnScope N_Order__letters_behind P_Order__letters_behind (defScope s_Order__letters_behind) := ⟨rfl, rfl, rfl, by decide +kernel, rfl, by decide +kernel, by decide +kernel⟩
def sp_beh (w : World) (CO : Addr) : Sp := fun vs H Q _ => ∃ (p : Addr) (a : OA) (s : OS) (v : V) (m : Mem), vs = [.ref p, v] ∧ OAt w CO H p a s ∧ TD H v (eM m) ∧ 0 ≤ (s.told m).getD 0 ∧ (s.told m).getD 0 ≤ 2 ^ 61 ∧ s.log.length ≤ 100000 ∧
  ∀ r H', Same H H' → H r = none → LstAt H' r ((s.behind m).map ePk) → Q (.ref r) H'
theorem ok_beh {f : Addr} {fd : FuncData} (T : Tx K mg CO CV) (m_Order__order_letter : MethOk P w K mg base CX0 CO "_order_letter" P_Order__order_letter 1 (sp_ordl CO)) (F : Fun K "_letters_behind" "Order._letters_behind" s_Order__letters_behind f fd) : FnOk P w K mg base CX0 2 f fd P_Order__letters_behind (sp_beh w CO) := by
  have nd := sc_Order__letters_behind.nd
  refine F.ok sc_Order__letters_behind (fun vs H Q E h => ?_) (fun cdv A outer s H vs Q E hr h => ?_)
  · obtain ⟨_, _, _, _, _, rfl, _⟩ := h
    rfl
  · obtain ⟨p, a, s, v, m, rfl, O, hv, t0, t1, hl, q⟩ := h
    have hs := sl
    have ob := O.ob
    obtain ⟨c1, n1, n2⟩ : L2.Cls K CO ∧ NoAttr K CO "_log" ∧ NoAttr K CO "_told" := ⟨T.cl_Order, T.n_Order__log, T.n_Order__told⟩
    obtain ⟨vl, hlg, tl⟩ := O.lg
    obtain ⟨kvs, N, hN, lN⟩ := O.tl
    obtain ⟨bm, rfl, nk⟩ := hv.nk
    have ll := tl.length
    rw [List.length_map] at ll
    refine ⟨_, (pss_cons (ps_set (i := 2) nd rfl (Or.inl rfl) (pe_nget2 hr.units (pe_fld (pv 0) (by rfl)) (pv 1) pe_int ⟨rfl, rfl, rfl, rfl⟩))
      (pss_cons (ps_set (i := 3) nd rfl (Or.inl rfl) (pe_slice sl_list (pe_fld (pv 0) (by rfl)) (po_some (pv 2)) (po_some (pe_op op_add (pv 2) (pe_const T.c_WINDOW)))))
      (pss_one (ps_ret (pe_lcX (own := [("place", 4), ("message", 5)]) rfl nd (pi_enK (by rfl) T.b_enumerate (pa_cons (pv 3) pa_nil) (pk_cons (pe_op op_add (pv 2) pe_int) pk_nil)) (blkOk_by (own := [("place", 4), ("message", 5)]) (N := N_Order__letters_behind) (sc := defScope s_Order__letters_behind) (by decide +kernel)) (fun _ _ _ _ _ => (pg_tup (by rfl) (pgs_cons (pg_name (i := 4) nd rfl (Or.inl rfl)) (pgs_cons (pg_name (i := 5) nd rfl (Or.inl rfl)) pgs_nil)))) (fun _ _ _ _ _ => pts_nil) (fun _ _ _ _ _ => (pmeth m_Order__order_letter T.cl_Order (pv 0) hr (pa_cons (pv 1) (pa_cons (pv 4) (pa_cons (pv 5) pa_nil)))))))))), ?_⟩
    walk_at "rds"
    refine ⟨a.tl, kvs, rfl, N, ?_⟩
    walk_at "rds"
    refine ⟨bm, (s.told m).map V.int, rfl, ⟨kvs, kM m, N, nk, kM_depth _, (hN m).symm⟩, ?_⟩
    have eg : ((s.told m).map V.int).getD (V.int 0) = V.int ((s.told m).getD 0) := by cases s.told m <;> rfl
    rw [eg]
    generalize ht : (s.told m).getD 0 = t at *
    walk_at "rds"
    refine ⟨a.lg, _, rfl, SqL.of hlg, fun b nb => ?_⟩
    obtain ⟨n, rfl⟩ : ∃ n : Nat, t = (n : Int) := ⟨t.toNat, by omega⟩
    have ec : cutV vl (some (n : Int)) (some ((n : Int) + 16)) = (vl.drop n).take 16 := cut16 vl n _ _ rfl rfl
    rw [ec]
    have sb := same_new nb (.lst ((vl.drop n).take 16))
    have hb : (upd H b (.lst ((vl.drop n).take 16))) b = some (.lst ((vl.drop n).take 16)) := upd_same
    generalize upd H b (.lst ((vl.drop n).take 16)) = H2 at *
    have tc : TDs H2 ((vl.drop n).take 16) (((s.log.drop n).take 16).map eG) := by
      rw [List.map_take, List.map_drop]
      exact ((tl.same sb).drop n).take 16
    have lc := tc.length
    rw [List.length_map] at lc
    have l16 : ((s.log.drop n).take 16).length ≤ 16 := by rw [List.length_take]; omega
    walk_at "rds"
    refine ⟨b, _, (n : Int) + 1, rfl, rfl, SqL.of hb, by omega, by omega, fun D nD => ?_⟩
    have O2 := O.same sb
    have hv2 := hv.same sb
    refine lc_it (walk_enK (K := K) (a := b) (k := (n : Int) + 1) (xs := (vl.drop n).take 16)) (fun i H' => LstAt H' D (((((s.log.drop n).take 16).take i).mapIdx fun j g => ((m.1, Ltr.order s.me s.vid (((s.told m).getD 0) + 1 + (j : Int)) g) : Pkt)).map ePk) ∧ Same H2 H') ?_ ?_ ?_ ?_
    · exact ⟨⟨[], upd_same, .nil⟩, same_new nD _⟩
    · rintro i H' _ ⟨_, s1⟩
      exact SqL.of (s1 _ _ hb)
    · rintro i x H' H'' hi ⟨⟨ws, hD, hw⟩, s1⟩ ⟨tt, y0, y, rfl, nt, rfl, e0, ey⟩
      cases e0
      obtain ⟨d, hd, rd⟩ := tc.at ey
      rw [List.getElem?_map] at hd
      obtain ⟨g, hg, rfl⟩ := Option.map_eq_some_iff.mp hd
      have st := same_new nt (.tup [V.int ((n : Int) + 1 + (i : Int)), y])
      have s2 := s1.trans st
      have hg' : ((s.log.drop n).take 16).take (i + 1) = ((s.log.drop n).take 16).take i ++ [g] := by rw [List.take_succ, hg]; rfl
      have lw := hw.length
      rw [List.length_map, List.length_mapIdx, List.length_take] at lw
      have O3 := O2.same s2
      refine ⟨tt, _, rfl, SqT.of upd_same, rfl, ?_⟩
      refine ⟨_, _, rfl, _, _, rfl, rfl, rfl, ?_⟩
      refine ⟨_, rfl, p, a.dx, _, rfl, O3.ob, rfl, ?_⟩
      walk_at "rds"
      refine ⟨w, p, a, s, .ref bm, y, m, _, g, rfl, O3, hv2.same s2, rd.same s2, fun r5 H5 s5 d5 => ?_⟩
      have hD5 := s5 _ _ (st _ _ hD)
      refine ⟨ws, hD5, by omega, ⟨ws ++ [.ref r5], upd_same, ?_⟩, fun c o e => by rw [upd_ne (ne_of_none e nD)]; exact s5 _ _ (s2 _ _ e)⟩
      have kt : TupK H5 (upd H5 D (.lst (ws ++ [.ref r5]))) := tupK_upd fun xs e => by rw [hD5] at e; cases e
      rw [hg', List.mapIdx_append, List.map_append]
      have ei : (((s.log.drop n).take 16).take i).length = i := by rw [List.length_take]; omega
      refine (((hw.same st).same s5).mono kt).append ?_
      rw [ei]
      refine .cons ?_ .nil
      have d6 := d5.mono kt
      have e2 : (0 + i : Nat) = i := Nat.zero_add i
      show TD _ _ (ePk (m.1, Ltr.order s.me s.vid (((s.told m).getD 0) + 1 + ((0 + i : Nat) : Int)) g))
      rw [e2, ht]
      exact d6
    · rintro H' ⟨hD, s1⟩
      rw [lc, List.take_length] at hD
      have eb : s.behind m = ((s.log.drop n).take 16).mapIdx fun j g => ((m.1, Ltr.order s.me s.vid (((s.told m).getD 0) + 1 + (j : Int)) g) : Pkt) := by
        show (((s.log.drop (((s.told m).getD 0).toNat)).take 16).mapIdx _) = _
        rw [ht]; rfl
      refine q D H' (sb.trans s1) ?_ (by rw [eb]; exact hD)
      cases e : H D with
      | none => rfl
      | some o => rw [sb _ _ e] at nD; cases nD
end
end Mus

set_option maxRecDepth 100000
set_option maxHeartbeats 4000000
namespace Mus
open PySem L2
local macro_rules | `(tactic| walk_at "rd") => `(tactic| first
  | refine ⟨_, rfl, ?_⟩ | refine ⟨(True.intro : True), ?_⟩
  | refine ⟨_, _, rfl, rfl, (⟨by decide, by decide, by decide⟩ : CPow _ _), ?_⟩
  | refine ⟨_, _, rfl, rfl, (⟨by decide, by decide⟩ : CDiv _ _), ?_⟩
  | refine ⟨_, _, rfl, rfl, (by show (0 : Int) < _; decide), ?_⟩
  | refine ⟨_, _, rfl, rfl, ?_⟩ | refine ⟨rfl, ?_⟩ | refine iteT ?_ | refine iteF ?_ | refine ⟨_, _, rfl, ?_⟩ | refine .inl ⟨_, rfl, ?_⟩
  | refine ⟨_, _, _, _, _, rfl, (by assumption), (by assumption), (by assumption), rfl, ?_⟩ | refine ⟨_, _, _, _, rfl, rfl, SqT.of (by assumption), rfl, ?_⟩ | refine ⟨_, _, rfl, SqT.of (by assumption), rfl, ?_⟩
  | refine ⟨_, _, _, _, _, rfl, .ty _, Rp.ty (by assumption), kit_int _, ?_⟩ | refine ⟨_, _, _, _, _, rfl, .ty _, Rp.ty (by assumption), kit_bool _, ?_⟩
  | refine ⟨_, _, _, _, _, rfl, .ty _, Rp.ty (by assumption), kit_str _, ?_⟩ | refine ⟨_, _, _, _, _, rfl, .ty _, Rp.ty (by assumption), kit_tup _, ?_⟩)
local macro_rules | `(tactic| walk_at "cal") => `(tactic| first
  | refine ⟨_, _, _, _, _, rfl, (by assumption), ?_⟩ | refine ⟨_, _, _, _, _, rfl, (by assumption), (by assumption), ?_⟩)
local macro_rules | `(tactic| walk_at "sq") => `(tactic| first
  | refine ⟨_, _, rfl, Or.inr (SqT.of (by assumption)), ?_⟩ | refine ⟨_, _, _, _, rfl, rfl, SqT.of (by assumption), rfl, ?_⟩)
local macro_rules | `(tactic| walk_at "rds") => `(tactic| repeat first | walk_at "rd" | walk_at "cal" | walk_at "sq")
local macro_rules | `(tactic| walk_at "ze") => `(tactic| repeat first
  | exact zes_nil | exact ze_bl | exact ze_str | exact ze_non | apply zes_cons | apply ze_tup | apply ze_lst | apply ze_cat | exact di_c | exact di_v rfl | apply di_opC | apply di_op | apply di_neg | apply ze_i | (refine (⟨?_, ?_, ?_⟩ : CPow _ _) <;> decide) | exact Nat.le_of_ble_eq_true rfl | exact ze_varD rfl (by assumption))
local macro_rules | `(tactic| walk_at "rdz") => `(tactic| repeat (fail_if_success (first | show tLst _ _ _ _ | show tAsg (tLst _) _ _ _ _ | show tSeq (tAsg (tLst _) _) _ _ _ _)); first | walk_at "rd" | walk_at "cal" | walk_at "sq")
theorem valV_drop {κ : Type} [DecidableEq κ] (kvs : List (κ × V)) (k j : κ) : valV (dropK kvs k) j = if j = k then none else valV kvs j := by
  induction kvs with
  | nil => unfold dropK; simp [valV_nil]
  | cons p r ih =>
    by_cases e : p.1 = k
    · rw [dropK_pos e, ih]
      by_cases e2 : j = k
      · rw [if_pos e2, if_pos e2]
      · rw [if_neg e2, if_neg e2, valV_neg (fun z => e2 (z.symm.trans e))]
    · rw [dropK_neg e]
      by_cases e2 : p.1 = j
      · rw [valV_pos e2, valV_pos e2, if_neg (fun z => e (e2.trans z))]
      · rw [valV_neg e2, valV_neg e2, ih]
theorem valV_memk {κ : Type} [DecidableEq κ] {kvs : List (κ × V)} {k : κ} {v : V} (h : valV kvs k = some v) : k ∈ kvs.map (·.1) := by
  induction kvs with
  | nil => cases h
  | cons p r ih =>
    by_cases e : p.1 = k
    · exact List.mem_cons.mpr (.inl e.symm)
    · rw [valV_neg e] at h
      exact List.mem_cons_of_mem _ (ih h)
theorem flush_none {s : OS} (n : Nat) (h : s.kept ((s.log.length : Int) + 1) = none) : OS.flush n s = (s, []) := by
  cases n with
  | zero => rfl
  | succ n => show (match s.kept ((s.log.length : Int) + 1) with | none => (s, []) | some g => _) = _; rw [h]
theorem flush_some {s : OS} {n : Nat} {g : Msg} (h : s.kept ((s.log.length : Int) + 1) = some g) : OS.flush (n + 1) s = ((OS.flush n ((s.drop ((s.log.length : Int) + 1)).deliver g)).1, g :: (OS.flush n ((s.drop ((s.log.length : Int) + 1)).deliver g)).2) := by
  show (match s.kept ((s.log.length : Int) + 1) with | none => (s, []) | some g => _) = _
  rw [h]
section
variable {P : Program} {w : World} {K : PySem.W.Frag} {mg : Str → Option Value} {base : Heap} {CO CV : Addr}
abbrev s_Order__deliver_kept : Stmt := inClass (top 6) 10
abbrev N_Order__deliver_kept : List Str := ["self", "delivered", "message"]
abbrev P_Order__deliver_kept : List Str := ["self"]
theorem sc_Order__deliver_kept : FnScope N_Order__deliver_kept P_Order__deliver_kept (defScope s_Order__deliver_kept) := ⟨rfl, rfl, rfl, by decide +kernel, rfl, by decide +kernel, by decide +kernel⟩
def sp_dk (w : World) (CO : Addr) : Sp := fun vs H Q _ => ∃ (p : Addr) (a : OA) (s : OS), vs = [.ref p] ∧ OAt w CO H p a s ∧ s.log.length + s.kn ≤ 90000 ∧ s.pend.length ≤ 90000 ∧
  ∀ r H' a', OAt w CO H' p a' (OS.flush s.kn s).1 → Fr (a.fp p) (a'.fp p) H H' → NewL H (a'.fp p) H' r ((OS.flush s.kn s).2.map eG) → Q (.ref r) H'
theorem ok_dk {f : Addr} {fd : FuncData} (T : Tx K mg CO CV) (m_Order__deliver : MethOk P w K mg base CX0 CO "_deliver" P_Order__deliver 1 (sp_del w CO)) (F : Fun K "_deliver_kept" "Order._deliver_kept" s_Order__deliver_kept f fd) : FnOk P w K mg base CX0 2 f fd P_Order__deliver_kept (sp_dk w CO) := by
  have nd := sc_Order__deliver_kept.nd
  refine F.ok sc_Order__deliver_kept (fun vs H Q E h => ?_) (fun cdv A outer s H vs Q E hr h => ?_)
  · obtain ⟨_, _, _, rfl, _⟩ := h
    rfl
  · obtain ⟨p, a, s, rfl, O, hl, hp, q⟩ := h
    have hs := sl
    have hu := hu_of hr
    obtain ⟨c1, n1, n2⟩ : L2.Cls K CO ∧ NoAttr K CO "_log" ∧ NoAttr K CO "_kept" := ⟨T.cl_Order, T.n_Order__log, T.n_Order__kept⟩
    refine ⟨_, (pss_cons (ps_set (i := 1) nd rfl (Or.inl rfl) (pe_lst pa_nil))
      (pss_cons (ps_while PassesOwn.never (pt_cmp (pc_din hu (pe_op op_add (pe_callB call_len_seq (by rfl) T.b_len (by decide +kernel) (pa_cons (pe_fld (pv 0) (by rfl)) pa_nil)) pe_int) (pe_fld (pv 0) (by rfl))))
        (pss_cons (ps_set (i := 2) nd rfl (Or.inl rfl) (pe_dpop1 (pe_fld (pv 0) (by rfl)) (pe_op op_add (pe_callB call_len_seq (by rfl) T.b_len (by decide +kernel) (pa_cons (pe_fld (pv 0) (by rfl)) pa_nil)) pe_int) ⟨rfl, rfl, rfl, rfl⟩))
        (pss_cons (ps_expr (pmeth m_Order__deliver T.cl_Order (pv 0) hr (pa_cons (pv 2) pa_nil)))
        (pss_one (ps_expr (pe_bm PySem.F.plainAttrs_list PySem.F.slot_list_append PySem.F.type_list_append mt_append (pv 1) (pa_cons (pv 2) pa_nil)))))))
      (pss_one (ps_ret (pv 1))))), ?_⟩
    refine ⟨by show 0 ≤ sizeLine; omega, fun D nD => ?_⟩
    have s0 := same_new nD (.lst [])
    have Dn := O.fresh nD
    refine ⟨fun m σ H' => ∃ (a1 : OA) (s1 : OS) (gs : List Msg) (vs : List V) (x2 : Option V), m = s1.kn ∧ σ = [some (.ref p), some (.ref D), x2] ∧ OAt w CO H' p a1 s1 ∧ Fr (a.fp p) (a1.fp p) H H' ∧ H' D = some (.lst vs) ∧ TDs H' vs (gs.map eG) ∧ D ∉ a1.fp p ∧
      OS.flush s.kn s = ((OS.flush s1.kn s1).1, gs ++ (OS.flush s1.kn s1).2) ∧ s1.log.length + s1.kn ≤ s.log.length + s.kn ∧ gs.length + s1.kn ≤ s.kn ∧ s1.pend.length ≤ s.pend.length, ⟨s.kn, a, s, [], [], none, rfl, rfl, O.same s0, Fr.of s0, upd_same, .nil, Dn, rfl, Nat.le_refl _, by simp, Nat.le_refl _⟩, ?_⟩
    rintro m σ H1 ⟨a1, s1, gs, vs, x2, rfl, rfl, O1, F1, hD, tD, D1, ef, b1, b2, b3⟩
    have ob := O1.ob
    obtain ⟨vl, hlg, tl⟩ := O1.lg
    obtain ⟨kvs, hk, ek, lk, ndk⟩ := O1.kp
    have ll := tl.length
    rw [List.length_map] at ll
    walk_at "rds"
    refine ⟨a1.lg, _, rfl, .inl (SqL.of hlg), ?_⟩
    walk_at "rds"
    have ei : (vl.length : Int) + 1 = (s1.log.length : Int) + 1 := by omega
    have dg : DGet H1 a1.kp (V.int ((vl.length : Int) + 1)) (valV kvs (Sum.inl ((s1.log.length : Int) + 1))) := by rw [ei]; exact DGet.k (k := Sum.inl ((s1.log.length : Int) + 1)) hk
    refine ⟨a1.kp, _, rfl, dg, ?_⟩
    refine ⟨_, rfl, ?_⟩
    have ekk := ek ((s1.log.length : Int) + 1)
    cases hkg : s1.kept ((s1.log.length : Int) + 1) with
    | none =>
      rw [hkg] at ekk
      have e0 : valV kvs (Sum.inl ((s1.log.length : Int) + 1)) = none := by
        cases e : valV kvs (Sum.inl ((s1.log.length : Int) + 1)) with
        | none => rfl
        | some v => rw [e] at ekk; cases ekk
      rw [e0]
      refine iteF ?_
      rw [flush_none _ hkg, List.append_nil] at ef
      refine ⟨_, rfl, ?_⟩
      refine q D H1 a1 (by rw [ef]; exact O1) F1 ⟨⟨vs, hD, by rw [ef]; exact tD⟩, nD, D1⟩
    | some g =>
      rw [hkg] at ekk
      obtain ⟨v, e0, hv⟩ : ∃ v, valV kvs (Sum.inl ((s1.log.length : Int) + 1)) = some v ∧ TD H1 v (eG g) := by
        cases e : valV kvs (Sum.inl ((s1.log.length : Int) + 1)) with
        | none => rw [e] at ekk; cases ekk
        | some v => rw [e] at ekk; exact ⟨v, rfl, ekk⟩
      have hdl := dropK_len (kvs := kvs) (k := Sum.inl ((s1.log.length : Int) + 1)) ndk (valV_memk e0)
      obtain ⟨n, hn⟩ : ∃ n, s1.kn = n + 1 := ⟨s1.kn - 1, by omega⟩
      rw [hn, flush_some hkg] at ef
      rw [e0]
      refine iteT ?_
      refine ⟨fun σ' H' => ∃ (a2 : OA) (gs' : List Msg) (vs : List V) (x2 : Option V), σ' = [some (.ref p), some (.ref D), x2] ∧ OAt w CO H' p a2 ((s1.drop ((s1.log.length : Int) + 1)).deliver g) ∧ Fr (a.fp p) (a2.fp p) H H' ∧ H' D = some (.lst vs) ∧ TDs H' vs (gs'.map eG) ∧ D ∉ a2.fp p ∧ gs' = gs ++ [g], fun σ' H' h => ?_, ?_⟩
      · obtain ⟨a2, gs', vs2, x2', rfl, O2, F2, hD2, tD2, D2, rfl⟩ := h
        have hkn : ((s1.drop ((s1.log.length : Int) + 1)).deliver g).kn = n := by show s1.kn - 1 = n; omega
        refine ⟨n, by omega, a2, _, _, vs2, _, hkn.symm, rfl, O2, F2, hD2, tD2, D2, ?_, ?_, ?_, ?_⟩
        · rw [ef, hkn, List.append_assoc]; rfl
        · rw [hkn]
          show (s1.log ++ [g]).length + n ≤ _
          rw [List.length_append]
          show s1.log.length + 1 + n ≤ _
          omega
        · rw [hkn, List.length_append]
          show gs.length + 1 + n ≤ _
          omega
        · refine Nat.le_trans ?_ b3
          show (if g.1 = s1.me then s1.pend.filter _ else s1.pend).length ≤ _
          split
          · exact List.length_filter_le _ _
          · exact Nat.le_refl _
      · walk_at "rds"
        refine ⟨.inl ⟨kvs, .inl hk⟩, ?_⟩
        walk_at "rds"
        refine ⟨a1.lg, _, rfl, .inl (SqL.of hlg), ?_⟩
        walk_at "rds"
        refine ⟨kvs, Sum.inl ((s1.log.length : Int) + 1), v, hk, congrArg V.int ei, e0, ?_⟩
        generalize hh2 : upd H1 a1.kp _ = H2
        have k2 : TupK H1 H2 := by subst hh2; exact tupK_upd fun xs e => by rw [hk] at e; cases e
        have at2 : ∀ c, c ≠ a1.kp → ∀ o, H1 c = some o → H2 c = some o := fun c h o e => by subst hh2; rw [upd_ne h]; exact e
        have kp2 : H2 a1.kp = some (.dK (dropK kvs (Sum.inl ((s1.log.length : Int) + 1)))) := by subst hh2; exact upd_same
        have F2 : Fr (a1.fp p) (a1.fp p) H1 H2 := by subst hh2; exact fr_upd (by simp [OA.fp]) hk (fun _ z => by cases z)
        have Dk : D ≠ a1.kp := fun z => D1 (by rw [z]; simp [OA.fp])
        have O2 : OAt w CO H2 p a1 (s1.drop ((s1.log.length : Int) + 1)) := by
          obtain ⟨w3, x3, y3⟩ := O1.pn
          obtain ⟨w4, x4, y4⟩ := O1.li
          obtain ⟨w5, x5, y5⟩ := O1.tl
          refine ⟨at2 _ (ne_of ob hk (by intro z; cases z)) _ ob, O1.me.mono k2, O1.vid.mono k2, O1.ms.mono k2, O1.fd.mono k2, ⟨vl, at2 _ (ne_of hlg hk (by intro z; cases z)) _ hlg, tl.mono k2⟩, ⟨w4, x4.mono (at2 _ (ne_of x4.ob hk (by intro z; cases z)) _ x4.ob) k2, y4⟩, ⟨w3, at2 _ (ne_of x3 hk (by intro z; cases z)) _ x3, y3.mono k2⟩, ⟨_, kp2, fun i => ?_, ?_, nd_dropK ndk⟩, ⟨w5, x5.mono (at2 _ (ne_of x5.ob hk (by intro z; cases z)) _ x5.ob) k2, y5⟩, O1.ap⟩
          · show KpAt H2 (valV (dropK kvs (Sum.inl ((s1.log.length : Int) + 1))) (Sum.inl i)) (if i = (s1.log.length : Int) + 1 then none else s1.kept i)
            rw [valV_drop]
            by_cases e : i = (s1.log.length : Int) + 1
            · rw [if_pos (by rw [e]), if_pos e]; trivial
            · rw [if_neg (fun z => e (Sum.inl.inj z)), if_neg e]; exact (ek i).mono k2
          · show _ = s1.kn - 1
            omega
        refine ⟨_, rfl, p, a1.dx, _, rfl, O2.ob, rfl, _, rfl, p, a1, _, v, g, rfl, O2, hv.mono k2, by show s1.log.length ≤ 90000; omega, by show s1.pend.length ≤ 90000; omega, fun H3 a3 O3 F3 => ?_⟩
        have F13 := F2.trans F3
        have hD3 := F13.k D _ hD D1
        have D3 : D ∉ a3.fp p := fun m => by
          rcases F13.n D m with z | z
          · exact D1 z
          · rw [hD] at z; cases z
        have ltD := tD.length
        rw [List.length_map] at ltD
        walk_at "rds"
        refine ⟨.inl ⟨rfl, _, SqL.of hD3⟩, ?_⟩
        refine ⟨_, rfl, D, _, _, rfl, rfl, hD3, by omega, ?_⟩
        have k4 : TupK H3 (upd H3 D (.lst (vs ++ [v]))) := tupK_upd fun xs e => by rw [hD3] at e; cases e
        refine ⟨a3, gs ++ [g], vs ++ [v], _, rfl, O3.upd D3 fun xs e => (by rw [hD3] at e; cases e), ?_, upd_same, ?_, D3, rfl⟩
        · have F := F1.trans F13
          refine ⟨fun b o e n => by rw [upd_ne (ne_of_none e nD)]; exact F.k b o e n, F.n, F.t.trans k4, fun b e => F.s b (by
            by_cases z : b = D
            · rw [z, upd_same] at e; cases e
            · rwa [upd_ne z] at e)⟩
        · rw [List.map_append]
          exact ((tD.mono F13.t).mono k4).append (.cons (((hv.mono F13.t)).mono k4) .nil)
end
end Mus

set_option maxRecDepth 100000
set_option maxHeartbeats 4000000
namespace Mus
open PySem L2
local macro_rules | `(tactic| walk_at "rd") => `(tactic| first
  | refine ⟨_, rfl, ?_⟩ | refine ⟨(True.intro : True), ?_⟩
  | refine ⟨_, _, rfl, rfl, (⟨by decide, by decide, by decide⟩ : CPow _ _), ?_⟩
  | refine ⟨_, _, rfl, rfl, (⟨by decide, by decide⟩ : CDiv _ _), ?_⟩
  | refine ⟨_, _, rfl, rfl, (by show (0 : Int) < _; decide), ?_⟩
  | refine ⟨_, _, rfl, rfl, ?_⟩ | refine ⟨rfl, ?_⟩ | refine iteT ?_ | refine iteF ?_ | refine ⟨_, _, rfl, ?_⟩ | refine .inl ⟨_, rfl, ?_⟩
  | refine ⟨_, _, _, _, _, rfl, (by assumption), (by assumption), (by assumption), rfl, ?_⟩ | refine ⟨_, _, _, _, rfl, rfl, SqT.of (by assumption), rfl, ?_⟩ | refine ⟨_, _, rfl, SqT.of (by assumption), rfl, ?_⟩
  | refine ⟨_, _, _, _, _, rfl, .ty _, Rp.ty (by assumption), kit_int _, ?_⟩ | refine ⟨_, _, _, _, _, rfl, .ty _, Rp.ty (by assumption), kit_bool _, ?_⟩
  | refine ⟨_, _, _, _, _, rfl, .ty _, Rp.ty (by assumption), kit_str _, ?_⟩ | refine ⟨_, _, _, _, _, rfl, .ty _, Rp.ty (by assumption), kit_tup _, ?_⟩)
local macro_rules | `(tactic| walk_at "cal") => `(tactic| first
  | refine ⟨_, _, _, _, _, rfl, (by assumption), ?_⟩ | refine ⟨_, _, _, _, _, rfl, (by assumption), (by assumption), ?_⟩)
local macro_rules | `(tactic| walk_at "sq") => `(tactic| first
  | refine ⟨_, _, rfl, Or.inr (SqT.of (by assumption)), ?_⟩ | refine ⟨_, _, _, _, rfl, rfl, SqT.of (by assumption), rfl, ?_⟩)
local macro_rules | `(tactic| walk_at "rds") => `(tactic| repeat first | walk_at "rd" | walk_at "cal" | walk_at "sq")
local macro_rules | `(tactic| walk_at "ze") => `(tactic| repeat first
  | exact zes_nil | exact ze_bl | exact ze_str | exact ze_non | apply zes_cons | apply ze_tup | apply ze_lst | apply ze_cat | exact di_c | exact di_v rfl | apply di_opC | apply di_op | apply di_neg | apply ze_i | (refine (⟨?_, ?_, ?_⟩ : CPow _ _) <;> decide) | exact Nat.le_of_ble_eq_true rfl | exact ze_varD rfl (by assumption))
local macro_rules | `(tactic| walk_at "rdz") => `(tactic| repeat (fail_if_success (first | show tLst _ _ _ _ | show tAsg (tLst _) _ _ _ _ | show tSeq (tAsg (tLst _) _) _ _ _ _)); first | walk_at "rd" | walk_at "cal" | walk_at "sq")
theorem TD.castL {H : Hp} {v : V} {m : Mem} {d : Vid} {i : Int} {z : Str} (h : TD H v (eL (.cast m d i z))) : ∃ b u x, v = .ref b ∧ H b = some (.tup [.str "cast", u, x, .int i, .str z]) ∧ TD H u (eM m) ∧ TD H x (eV d) := by
  cases h with
  | tup h _ r =>
    obtain _ | ⟨h1, _ | ⟨h2, _ | ⟨h3, _ | ⟨h4, _ | ⟨h5, hn⟩⟩⟩⟩⟩ := r
    cases hn; cases h1; cases h4; cases h5
    exact ⟨_, _, _, rfl, h, h2, h3⟩
theorem TD.ordL {H : Hp} {v : V} {m : Mem} {d : Vid} {i : Int} {g : Msg} (h : TD H v (eL (.order m d i g))) : ∃ b u x y, v = .ref b ∧ H b = some (.tup [.str "order", u, x, .int i, y]) ∧ TD H u (eM m) ∧ TD H x (eV d) ∧ TD H y (eG g) := by
  cases h with
  | tup h _ r =>
    obtain _ | ⟨h1, _ | ⟨h2, _ | ⟨h3, _ | ⟨h4, _ | ⟨h5, hn⟩⟩⟩⟩⟩ := r
    cases hn; cases h1; cases h4
    exact ⟨_, _, _, _, rfl, h, h2, h3, h5⟩
section
variable {P : Program} {w : World} {K : PySem.W.Frag} {mg : Str → Option Value} {base : Heap} {CO CV : Addr}
/-- two new lists in a tuple -/
def Two (H0 : Hp) (fp : List Addr) (H : Hp) (t : Addr) (d1 d2 : List PyData) : Prop := ∃ l1 l2, H t = some (.tup [.ref l1, .ref l2]) ∧ NewL H0 fp H l1 d1 ∧ NewL H0 fp H l2 d2 ∧ l1 ≠ l2
theorem two_nil {H : Hp} {p : Addr} {a : OA} {s : OS} {Q : VK} (O : OAt w CO H p a s) (q : ∀ t H', OAt w CO H' p a s → Fr (a.fp p) (a.fp p) H H' → Two H (a.fp p) H' t [] [] → Q (.ref t) H') : tTup (tCons (tLst tNil) (tCons (tLst tNil) tNil)) ([] : L2.St) H Q := by
  have hs := sl
  refine ⟨by show 0 ≤ sizeLine; omega, fun l1 n1 => ⟨by show 0 ≤ sizeLine; omega, fun l2 n2 => ⟨by show 2 ≤ sizeLine; omega, fun t nt => ?_⟩⟩⟩
  have s1 := same_new n1 (.lst [])
  have s2 := same_new n2 (.lst [])
  have st := same_new nt (.tup [.ref l1, .ref l2])
  have h1 : (upd H l1 (.lst [])) l1 = some (.lst []) := upd_same
  have h2 : (upd (upd H l1 (.lst [])) l2 (.lst [])) l2 = some (.lst []) := upd_same
  have n2' : H l2 = none := by
    cases e : H l2 with
    | none => rfl
    | some o => rw [s1 _ _ e] at n2; cases n2
  exact q t _ (((O.same s1).same s2).same st) (Fr.of (s1.trans (s2.trans st))) ⟨l1, l2, upd_same, ⟨⟨[], st _ _ (s2 _ _ h1), .nil⟩, n1, O.fresh n1⟩, ⟨⟨[], st _ _ h2, .nil⟩, n2', O.fresh n2'⟩, ne_of_none h1 n2⟩
abbrev s_Order__take_cast : Stmt := inClass (top 6) 7
abbrev N_Order__take_cast : List Str := ["self", "letter", "_", "sender", "view_id", "index", "payload"]
abbrev P_Order__take_cast : List Str := ["self", "letter"]
theorem sc_Order__take_cast : FnScope N_Order__take_cast P_Order__take_cast (defScope s_Order__take_cast) := ⟨rfl, rfl, rfl, by decide +kernel, rfl, by decide +kernel, by decide +kernel⟩
def sp_tc (w : World) (CO : Addr) : Sp := fun vs H Q _ => ∃ (p : Addr) (a : OA) (s : OS) (v : V) (m : Mem) (d : Vid) (i : Int) (z : Str), vs = [.ref p, v] ∧ OAt w CO H p a s ∧ TD H v (eL (.cast m d i z)) ∧ s.log.length ≤ 90000 ∧ s.pend.length ≤ 90000 ∧ s.mems.length ≤ 1000 ∧
  ∀ t H' a', OAt w CO H' p a' (s.takeCast m d i z).1 → Fr (a.fp p) (a'.fp p) H H' → Two H (a'.fp p) H' t ((s.takeCast m d i z).2.1.map eG) ((s.takeCast m d i z).2.2.map ePk) → Q (.ref t) H'
theorem ok_tc {f : Addr} {fd : FuncData} (T : Tx K mg CO CV) (m_Order__others : MethOk P w K mg base CX0 CO "_others" P_Order__others 1 (sp_oth CO)) (m_Order__decide : MethOk P w K mg base CX0 CO "_decide" P_Order__decide 2 (sp_dec w CO))
    (F : Fun K "_take_cast" "Order._take_cast" s_Order__take_cast f fd) : FnOk P w K mg base CX0 3 f fd P_Order__take_cast (sp_tc w CO) := by
  have nd := sc_Order__take_cast.nd
  refine F.ok sc_Order__take_cast (fun vs H Q E h => ?_) (fun cdv A outer s H vs Q E hr h => ?_)
  · obtain ⟨_, _, _, _, _, _, _, _, rfl, _⟩ := h
    rfl
  · obtain ⟨p, a, s, v, m, d, i, z, rfl, O, hv, hl, hp, hm, q⟩ := h
    have hs := sl
    have ob := O.ob
    obtain ⟨c1, n1, n2, n3, n4⟩ : L2.Cls K CO ∧ NoAttr K CO "_me" ∧ NoAttr K CO "_founder" ∧ NoAttr K CO "_view_id" ∧ NoAttr K CO "_last_indexes" := ⟨T.cl_Order, T.n_Order__me, T.n_Order__founder, T.n_Order__view_id, T.n_Order__last_indexes⟩
    obtain ⟨b, u, x, rfl, hb, tu, tx⟩ := hv.castL
    refine ⟨_, (pss_cons (ps_asg (pv 1) (pg_tup (by rfl) (pgs_cons (pg_name (i := 2) nd rfl (Or.inl rfl)) (pgs_cons (pg_name (i := 3) nd rfl (Or.inl rfl)) (pgs_cons (pg_name (i := 4) nd rfl (Or.inl rfl)) (pgs_cons (pg_name (i := 5) nd rfl (Or.inl rfl)) (pgs_cons (pg_name (i := 6) nd rfl (Or.inl rfl)) pgs_nil)))))))
      (pss_cons (ps_if (PW.pt (pw_or (pt_cmpR (op_neD hr.units) (pe_fld (pv 0) (by rfl)) (pe_fld (pv 0) (by rfl)) (nomark _)) (pw_or (pt_cmpR (op_neD hr.units) (pv 4) (pe_fld (pv 0) (by rfl)) (nomark _)) (pw_or1 (pt_cmpR (op_notInDD hr.units) (pv 3) (pmeth0 m_Order__others T.cl_Order (pv 0) hr) (by rfl))))))
        (pss_one (ps_ret (pe_tup (pa_cons (pe_lst pa_nil) (pa_cons (pe_lst pa_nil) pa_nil)))))
        pss_nil)
      (pss_cons (ps_if (pt_cmpR op_ne (pv 5) (pe_op op_add (pe_nget2 hr.units (pe_fld (pv 0) (by rfl)) (pv 3) pe_int ⟨rfl, rfl, rfl, rfl⟩) pe_int) (nomark _))
        (pss_one (ps_ret (pe_tup (pa_cons (pe_lst pa_nil) (pa_cons (pe_lst pa_nil) pa_nil)))))
        pss_nil)
      (pss_one (ps_ret (pmeth m_Order__decide T.cl_Order (pv 0) hr (pa_cons (pe_tup (pa_cons (pv 3) (pa_cons (pv 5) (pa_cons (pv 6) pa_nil)))) pa_nil))))))), ?_⟩
    have no : ∀ H', Same H H' → (s.me ≠ s.fd ∨ d ≠ s.vid ∨ m ∉ s.others) ∨ i ≠ (s.last m).getD 0 + 1 → tTup (tCons (tLst tNil) (tCons (tLst tNil) tNil)) ([] : L2.St) H' Q := fun H' s' hno => by
      refine two_nil (w := w) (O.same s') fun t H'' O2 F2 T2 => ?_
      have e : s.takeCast m d i z = (s, [], []) := by
        unfold OS.takeCast
        by_cases h : s.me ≠ s.fd ∨ d ≠ s.vid ∨ m ∉ s.others
        · rw [if_pos h]
        · rw [if_neg h, if_pos (hno.resolve_left h)]
      obtain ⟨l1, l2, t1, ⟨x1, x2, x3⟩, ⟨y1, y2, y3⟩, t4⟩ := T2
      have hn2 := (Fr.of (fp := []) s').s
      refine q t H'' a (by rw [e]; exact O2) ((Fr.of s').trans F2) (by rw [e]; exact ⟨l1, l2, t1, ⟨x1, hn2 _ x2, x3⟩, ⟨y1, hn2 _ y2, y3⟩, t4⟩)
    walk_at "rds"
    refine rd_neM O.me O.fd ?_
    walk_at "rds"
    refine iB (fun h => ?_) (fun h => ?_)
    · have h : ¬ s.me = s.fd := by simpa using h
      walk_at "rds"
      exact no H (Same.rfl' H) (.inl (.inl h))
    · have h : s.me = s.fd := by simpa using h
      walk_at "rds"
      refine rd_neV tx O.vid ?_
      walk_at "rds"
      refine iB (fun h2 => ?_) (fun h2 => ?_)
      · have h2 : ¬ d = s.vid := by simpa using h2
        walk_at "rds"
        exact no H (Same.rfl' H) (.inl (.inr (.inl h2)))
      · have h2 : d = s.vid := by simpa using h2
        refine ⟨_, rfl, _, rfl, p, a.dx, _, rfl, ob, rfl, w, p, a, s, rfl, O, fun r H1 s1 nr hr1 => ?_⟩
        obtain ⟨vo, hvo, to⟩ := hr1
        refine rd_inMl (tu.same s1) hvo to ?_
        have O1 := O.same s1
        have ob1 := O1.ob
        walk_at "rds"
        refine iB (fun h3 => ?_) (fun h3 => ?_)
        · have h3 : ¬ m ∈ s.others := by simpa using h3
          walk_at "rds"
          exact no H1 s1 (.inl (.inr (.inr h3)))
        · have h3 : m ∈ s.others := by simpa using h3
          obtain ⟨kvs, N, hN, lN⟩ := O1.li
          obtain ⟨bm, rfl, nk⟩ := (tu.same s1).nk
          walk_at "rds"
          refine ⟨a.li, kvs, rfl, N, ?_⟩
          walk_at "rds"
          refine ⟨bm, (s.last m).map V.int, rfl, ⟨kvs, kM m, N, nk, kM_depth _, (hN m).symm⟩, ?_⟩
          have eg : ((s.last m).map V.int).getD (V.int 0) = V.int ((s.last m).getD 0) := by cases s.last m <;> rfl
          rw [eg]
          walk_at "rds"
          have dt : (!decide (V.int i = V.int ((s.last m).getD 0 + 1))) = !decide (i = (s.last m).getD 0 + 1) := by
            congr 1
            exact decide_eq_decide.mpr ⟨fun h => V.int.inj h, fun h => by rw [h]⟩
          rw [dt]
          refine iB (fun h4 => ?_) (fun h4 => ?_)
          · have h4 : ¬ i = (s.last m).getD 0 + 1 := by simpa using h4
            walk_at "rds"
            exact no H1 s1 (.inr h4)
          · have h4 : i = (s.last m).getD 0 + 1 := by simpa using h4
            have e : s.takeCast m d i z = s.decide (m, i, z) := by
              unfold OS.takeCast
              rw [if_neg (by simp only [not_or, Classical.not_not]; exact ⟨h, h2, h3⟩), if_neg (by simp only [Classical.not_not]; exact h4)]
            rw [e] at q
            refine ⟨_, rfl, p, a.dx, _, rfl, ob1, rfl, ?_⟩
            refine ⟨_, rfl, _, rfl, _, rfl, by show 3 ≤ sizeLine; omega, fun t nt => ?_⟩
            have st := same_new nt (.tup [V.ref bm, V.int i, V.str z])
            refine ⟨p, a, s, .ref t, (m, i, z), rfl, O1.same st, td_msg upd_same (((tu.same s1)).same st), hl, hp, hm, fun t2 H2 a2 l1 l2 O2 F2 ht2 L1 L2' hne => ?_⟩
            have F := (Fr.of (fp := a.fp p) (s1.trans st)).trans F2
            have hn2 := (Fr.of (fp := []) (s1.trans st)).s
            exact q t2 H2 a2 O2 F ⟨l1, l2, ht2, ⟨L1.at_, hn2 _ L1.new, L1.out⟩, ⟨L2'.at_, hn2 _ L2'.new, L2'.out⟩, hne⟩
abbrev s_Order__take_order : Stmt := inClass (top 6) 9
abbrev N_Order__take_order : List Str := ["self", "letter", "_", "sender", "view_id", "place", "message"]
abbrev P_Order__take_order : List Str := ["self", "letter"]
theorem sc_Order__take_order : FnScope N_Order__take_order P_Order__take_order (defScope s_Order__take_order) := ⟨rfl, rfl, rfl, by decide +kernel, rfl, by decide +kernel, by decide +kernel⟩
def sp_to (w : World) (CO : Addr) : Sp := fun vs H Q _ => ∃ (p : Addr) (a : OA) (s : OS) (v : V) (m : Mem) (d : Vid) (i : Int) (g : Msg), vs = [.ref p, v] ∧ OAt w CO H p a s ∧ TD H v (eL (.order m d i g)) ∧ s.log.length + s.kn ≤ 80000 ∧ s.pend.length ≤ 90000 ∧
  ∀ r H' a', OAt w CO H' p a' (s.takeOrder m d i g).1 → Fr (a.fp p) (a'.fp p) H H' → NewL H (a'.fp p) H' r ((s.takeOrder m d i g).2.map eG) → Q (.ref r) H'
theorem ok_to {f : Addr} {fd : FuncData} (T : Tx K mg CO CV) (m_Order__deliver_kept : MethOk P w K mg base CX0 CO "_deliver_kept" P_Order__deliver_kept 2 (sp_dk w CO)) (F : Fun K "_take_order" "Order._take_order" s_Order__take_order f fd) : FnOk P w K mg base CX0 3 f fd P_Order__take_order (sp_to w CO) := by
  have nd := sc_Order__take_order.nd
  refine F.ok sc_Order__take_order (fun vs H Q E h => ?_) (fun cdv A outer s H vs Q E hr h => ?_)
  · obtain ⟨_, _, _, _, _, _, _, _, rfl, _⟩ := h
    rfl
  · obtain ⟨p, a, s, v, m, d, i, g, rfl, O, hv, hl, hp, q⟩ := h
    have hs := sl
    have hu := hu_of hr
    have ob := O.ob
    obtain ⟨c1, n1, n2, n3, n4, n5⟩ : L2.Cls K CO ∧ NoAttr K CO "_me" ∧ NoAttr K CO "_founder" ∧ NoAttr K CO "_view_id" ∧ NoAttr K CO "_log" ∧ NoAttr K CO "_kept" := ⟨T.cl_Order, T.n_Order__me, T.n_Order__founder, T.n_Order__view_id, T.n_Order__log, T.n_Order__kept⟩
    obtain ⟨b, u, x, y, rfl, hb, tu, tx, ty⟩ := hv.ordL
    obtain ⟨vl, hlg, tl⟩ := O.lg
    have ll := tl.length
    rw [List.length_map] at ll
    obtain ⟨kvs, hk, ek, lk, ndk⟩ := O.kp
    refine ⟨_, (pss_cons (ps_asg (pv 1) (pg_tup (by rfl) (pgs_cons (pg_name (i := 2) nd rfl (Or.inl rfl)) (pgs_cons (pg_name (i := 3) nd rfl (Or.inl rfl)) (pgs_cons (pg_name (i := 4) nd rfl (Or.inl rfl)) (pgs_cons (pg_name (i := 5) nd rfl (Or.inl rfl)) (pgs_cons (pg_name (i := 6) nd rfl (Or.inl rfl)) pgs_nil)))))))
      (pss_cons (ps_if (PW.pt (pw_or (pt_cmpR (op_eqD hr.units) (pe_fld (pv 0) (by rfl)) (pe_fld (pv 0) (by rfl)) (nomark _)) (pw_or (pt_cmpR (op_neD hr.units) (pv 3) (pe_fld (pv 0) (by rfl)) (nomark _)) (pw_or1 (pt_cmpR (op_neD hr.units) (pv 4) (pe_fld (pv 0) (by rfl)) (nomark _))))))
        (pss_one (ps_ret (pe_lst pa_nil)))
        pss_nil)
      (pss_cons (ps_if (PW.pt (pw_and (pt_cmpR op_gt (pv 5) (pe_callB call_len_seq (by rfl) T.b_len (by decide +kernel) (pa_cons (pe_fld (pv 0) (by rfl)) pa_nil)) (nomark _)) (pw_and1 (pt_cmp (pc_dnotin hu (pv 5) (pe_fld (pv 0) (by rfl)))))))
        (pss_one (ps_dput hu (pe_fld (pv 0) (by rfl)) (pv 5) (pv 6) rfl))
        pss_nil)
      (pss_one (ps_ret (pmeth0 m_Order__deliver_kept T.cl_Order (pv 0) hr)))))), ?_⟩
    have no : (s.me = s.fd ∨ m ≠ s.fd ∨ d ≠ s.vid) → tLst tNil ([] : L2.St) H Q := fun hno => by
      have e : s.takeOrder m d i g = (s, []) := if_pos hno
      refine ⟨by show 0 ≤ sizeLine; omega, fun l nl => ?_⟩
      have s1 := same_new nl (.lst [])
      exact q l _ a (by rw [e]; exact O.same s1) (Fr.of s1) (by rw [e]; exact ⟨⟨[], upd_same, .nil⟩, nl, O.fresh nl⟩)
    walk_at "rds"
    refine rd_eqM O.me O.fd ?_
    walk_at "rds"
    refine iB (fun h => ?_) (fun h => ?_)
    · have h : s.me = s.fd := of_decide_eq_true h
      walk_at "rds"
      exact no (.inl h)
    · have h : ¬ s.me = s.fd := of_decide_eq_false h
      walk_at "rds"
      refine rd_neM tu O.fd ?_
      walk_at "rds"
      refine iB (fun h2 => ?_) (fun h2 => ?_)
      · have h2 : ¬ m = s.fd := by simpa using h2
        walk_at "rds"
        exact no (.inr (.inl h2))
      · have h2 : m = s.fd := by simpa using h2
        walk_at "rds"
        refine rd_neV tx O.vid ?_
        walk_at "rds"
        refine iB (fun h3 => ?_) (fun h3 => ?_)
        · have h3 : ¬ d = s.vid := by simpa using h3
          walk_at "rds"
          exact no (.inr (.inr h3))
        · have h3 : d = s.vid := by simpa using h3
          have e : s.takeOrder m d i g = OS.flush (s.keep i g).kn (s.keep i g) := if_neg (by simp only [not_or, Classical.not_not]; exact ⟨h, h2, h3⟩)
          rw [e] at q
          have fin : ∀ H', Fr (a.fp p) (a.fp p) H H' → OAt w CO H' p a (s.keep i g) → ∀ (σ : L2.St), σ[0]? = some (some (.ref p)) → tMeth CO "_deliver_kept" (sp_dk w CO) [] E0 (tVar 0) tNil σ H' Q := fun H' F' O' σ hσ => by
            refine ⟨_, hσ, p, a.dx, _, rfl, O'.ob, rfl, p, a, s.keep i g, rfl, O', ?_, ?_, fun r H'' a' O2 F2 L2' => ?_⟩
            · unfold OS.keep; split
              · show s.log.length + (s.kn + 1) ≤ _; omega
              · omega
            · unfold OS.keep; split <;> exact hp
            · exact q r H'' a' O2 (F'.trans F2) ⟨L2'.at_, F'.s _ L2'.new, L2'.out⟩
          walk_at "rds"
          refine ⟨a.lg, _, rfl, .inl (SqL.of hlg), ?_⟩
          walk_at "rds"
          refine iB (fun h4 => ?_) (fun h4 => ?_)
          · have h4 : i > (s.log.length : Int) := by have := of_decide_eq_true h4; omega
            walk_at "rds"
            refine ⟨a.kp, _, rfl, DGet.k (k := Sum.inl i) hk, ?_⟩
            refine ⟨_, rfl, ?_⟩
            have eki := ek i
            cases hkg : s.kept i with
            | none =>
              rw [hkg] at eki
              have e0 : valV kvs (Sum.inl i) = none := by
                cases e : valV kvs (Sum.inl i) with
                | none => rfl
                | some v => rw [e] at eki; cases eki
              rw [e0]
              refine iteT ?_
              walk_at "rds"
              refine ⟨a.kp, _, rfl, DPut.k (k := Sum.inl i) hk (by omega), ?_⟩
              generalize hh2 : upd H a.kp _ = H2
              have k2 : TupK H H2 := by subst hh2; exact tupK_upd fun xs e => by rw [hk] at e; cases e
              have at2 : ∀ c, c ≠ a.kp → ∀ o, H c = some o → H2 c = some o := fun c h o e => by subst hh2; rw [upd_ne h]; exact e
              have kp2 : H2 a.kp = some (.dK (putK kvs (Sum.inl i) y)) := by subst hh2; exact upd_same
              have F2 : Fr (a.fp p) (a.fp p) H H2 := by subst hh2; exact fr_upd (by simp [OA.fp]) hk (fun _ z => by cases z)
              have ke : s.keep i g = { s with kept := fun j => if j = i then some g else s.kept j, kn := s.kn + 1 } := if_pos ⟨h4, hkg⟩
              refine fin H2 F2 ?_ _ rfl
              rw [ke]
              obtain ⟨w3, x3, y3⟩ := O.pn
              obtain ⟨w4, x4, y4⟩ := O.li
              obtain ⟨w5, x5, y5⟩ := O.tl
              refine ⟨at2 _ (ne_of ob hk (by intro z; cases z)) _ ob, O.me.mono k2, O.vid.mono k2, O.ms.mono k2, O.fd.mono k2, ⟨vl, at2 _ (ne_of hlg hk (by intro z; cases z)) _ hlg, tl.mono k2⟩, ⟨w4, x4.mono (at2 _ (ne_of x4.ob hk (by intro z; cases z)) _ x4.ob) k2, y4⟩, ⟨w3, at2 _ (ne_of x3 hk (by intro z; cases z)) _ x3, y3.mono k2⟩, ⟨_, kp2, fun j => ?_, ?_, nd_putK ndk⟩, ⟨w5, x5.mono (at2 _ (ne_of x5.ob hk (by intro z; cases z)) _ x5.ob) k2, y5⟩, O.ap⟩
              · show KpAt H2 (valV (putK kvs (Sum.inl i) y) (Sum.inl j)) (if j = i then some g else s.kept j)
                rw [valV_put]
                by_cases e : j = i
                · rw [if_pos (by rw [e]), if_pos e]; exact ty.mono k2
                · rw [if_neg (fun z => e (Sum.inl.inj z)), if_neg e]; exact (ek j).mono k2
              · show _ = s.kn + 1
                unfold putK
                rw [valV_any, e0]
                show (kvs ++ [(Sum.inl i, y)]).length = _
                rw [List.length_append, lk]; rfl
            | some g0 =>
              rw [hkg] at eki
              obtain ⟨v, e0⟩ : ∃ v, valV kvs (Sum.inl i) = some v := by
                cases e : valV kvs (Sum.inl i) with
                | none => rw [e] at eki; cases eki
                | some v => exact ⟨v, rfl⟩
              rw [e0]
              refine iteF ?_
              have ke : s.keep i g = s := if_neg (by rw [hkg]; intro z; cases z.2)
              exact fin H (Fr.refl _ _) (by rw [ke]; exact O) _ rfl
          · have h4 : ¬ i > (s.log.length : Int) := by have := of_decide_eq_false h4; omega
            have ke : s.keep i g = s := if_neg fun z => h4 z.1
            exact fin H (Fr.refl _ _) (by rw [ke]; exact O) _ rfl
end
end Mus

set_option maxRecDepth 100000
set_option maxHeartbeats 4000000
namespace Mus
open PySem L2
local macro_rules | `(tactic| walk_at "rd") => `(tactic| first
  | refine ⟨_, rfl, ?_⟩ | refine ⟨(True.intro : True), ?_⟩
  | refine ⟨_, _, rfl, rfl, (⟨by decide, by decide, by decide⟩ : CPow _ _), ?_⟩
  | refine ⟨_, _, rfl, rfl, (⟨by decide, by decide⟩ : CDiv _ _), ?_⟩
  | refine ⟨_, _, rfl, rfl, (by show (0 : Int) < _; decide), ?_⟩
  | refine ⟨_, _, rfl, rfl, ?_⟩ | refine ⟨rfl, ?_⟩ | refine iteT ?_ | refine iteF ?_ | refine ⟨_, _, rfl, ?_⟩ | refine .inl ⟨_, rfl, ?_⟩
  | refine ⟨_, _, _, _, _, rfl, (by assumption), (by assumption), (by assumption), rfl, ?_⟩ | refine ⟨_, _, _, _, rfl, rfl, SqT.of (by assumption), rfl, ?_⟩ | refine ⟨_, _, rfl, SqT.of (by assumption), rfl, ?_⟩
  | refine ⟨_, _, _, _, _, rfl, .ty _, Rp.ty (by assumption), kit_int _, ?_⟩ | refine ⟨_, _, _, _, _, rfl, .ty _, Rp.ty (by assumption), kit_bool _, ?_⟩
  | refine ⟨_, _, _, _, _, rfl, .ty _, Rp.ty (by assumption), kit_str _, ?_⟩ | refine ⟨_, _, _, _, _, rfl, .ty _, Rp.ty (by assumption), kit_tup _, ?_⟩)
local macro_rules | `(tactic| walk_at "cal") => `(tactic| first
  | refine ⟨_, _, _, _, _, rfl, (by assumption), ?_⟩ | refine ⟨_, _, _, _, _, rfl, (by assumption), (by assumption), ?_⟩)
local macro_rules | `(tactic| walk_at "sq") => `(tactic| first
  | refine ⟨_, _, rfl, Or.inr (SqT.of (by assumption)), ?_⟩ | refine ⟨_, _, _, _, rfl, rfl, SqT.of (by assumption), rfl, ?_⟩)
local macro_rules | `(tactic| walk_at "rds") => `(tactic| repeat first | walk_at "rd" | walk_at "cal" | walk_at "sq")
local macro_rules | `(tactic| walk_at "ze") => `(tactic| repeat first
  | exact zes_nil | exact ze_bl | exact ze_str | exact ze_non | apply zes_cons | apply ze_tup | apply ze_lst | apply ze_cat | exact di_c | exact di_v rfl | apply di_opC | apply di_op | apply di_neg | apply ze_i | (refine (⟨?_, ?_, ?_⟩ : CPow _ _) <;> decide) | exact Nat.le_of_ble_eq_true rfl | exact ze_varD rfl (by assumption))
local macro_rules | `(tactic| walk_at "rdz") => `(tactic| repeat (fail_if_success (first | show tLst _ _ _ _ | show tAsg (tLst _) _ _ _ _ | show tSeq (tAsg (tLst _) _) _ _ _ _)); first | walk_at "rd" | walk_at "cal" | walk_at "sq")
section
variable {P : Program} {w : World} {K : PySem.W.Frag} {mg : Str → Option Value} {base : Heap} {CO CV : Addr}
abbrev s_Order_log : Stmt := inClass (top 6) 5
abbrev N_Order_log : List Str := ["self"]
abbrev P_Order_log : List Str := ["self"]
theorem sc_Order_log : FnScope N_Order_log P_Order_log (defScope s_Order_log) := ⟨rfl, rfl, rfl, by decide +kernel, rfl, by decide +kernel, by decide +kernel⟩
def sp_olog (w : World) (CO : Addr) : Sp := fun vs H Q _ => ∃ (p : Addr) (a : OA) (s : OS), vs = [.ref p] ∧ OAt w CO H p a s ∧ s.log.length ≤ 100000 ∧ ∀ r H', Same H H' → TD H' (.ref r) (eGs s.log) → Q (.ref r) H'
theorem ok_olog {f : Addr} {fd : FuncData} (T : Tx K mg CO CV) (F : Fun K "log" "Order.log" s_Order_log f fd) : FnOk P w K mg base CX0 1 f fd P_Order_log (sp_olog w CO) := by
  have nd := sc_Order_log.nd
  refine F.ok sc_Order_log (fun vs H Q E h => ?_) (fun cdv A outer s H vs Q E hr h => ?_)
  · obtain ⟨_, _, _, rfl, _⟩ := h
    rfl
  · obtain ⟨p, a, s, rfl, O, hl, q⟩ := h
    have ob := O.ob
    obtain ⟨c1, n1⟩ : L2.Cls K CO ∧ NoAttr K CO "_log" := ⟨T.cl_Order, T.n_Order__log⟩
    obtain ⟨vl, hlg, tl⟩ := O.lg
    have ll := tl.length
    rw [List.length_map] at ll
    refine ⟨_, (pss_one (ps_ret (pe_callTy call_tuple_of (by rfl) T.b_tuple (by decide +kernel) (pa_cons (pe_fld (pv 0) (by rfl)) pa_nil)))), ?_⟩
    walk_at "rds"
    refine ⟨a.lg, _, rfl, .inl ⟨SqL.of hlg, fun t nt => ?_⟩⟩
    exact q t _ (same_new nt _) (.tup upd_same (by omega) (tl.same (same_new nt _)))
abbrev s_Order_take : Stmt := inClass (top 6) 2
abbrev N_Order_take : List Str := ["self", "letter"]
abbrev P_Order_take : List Str := ["self", "letter"]
theorem sc_Order_take : FnScope N_Order_take P_Order_take (defScope s_Order_take) := ⟨rfl, rfl, rfl, by decide +kernel, rfl, by decide +kernel, by decide +kernel⟩
/-- the letters that an order takes -/
def OS.take (s : OS) : Ltr → OS × List Msg × List Pkt
  | .cast m d i z => s.takeCast m d i z
  | .order m d i g => ((s.takeOrder m d i g).1, (s.takeOrder m d i g).2, [])
  | _ => (s, [], [])
def Ltr.flows : Ltr → Prop
  | .cast _ _ _ _ => True
  | .order _ _ _ _ => True
  | _ => False
def sp_otk (w : World) (CO : Addr) : Sp := fun vs H Q _ => ∃ (p : Addr) (a : OA) (s : OS) (v : V) (l : Ltr), vs = [.ref p, v] ∧ OAt w CO H p a s ∧ TD H v (eL l) ∧ l.flows ∧ s.log.length + s.kn ≤ 80000 ∧ s.pend.length ≤ 90000 ∧ s.mems.length ≤ 1000 ∧
  ∀ t H' a', OAt w CO H' p a' (s.take l).1 → Fr (a.fp p) (a'.fp p) H H' → Two H (a'.fp p) H' t ((s.take l).2.1.map eG) ((s.take l).2.2.map ePk) → Q (.ref t) H'
theorem ok_otk {f : Addr} {fd : FuncData} (T : Tx K mg CO CV) (m_Order__take_cast : MethOk P w K mg base CX0 CO "_take_cast" P_Order__take_cast 3 (sp_tc w CO)) (m_Order__take_order : MethOk P w K mg base CX0 CO "_take_order" P_Order__take_order 3 (sp_to w CO))
    (F : Fun K "take" "Order.take" s_Order_take f fd) : FnOk P w K mg base CX0 4 f fd P_Order_take (sp_otk w CO) := by
  have nd := sc_Order_take.nd
  refine F.ok sc_Order_take (fun vs H Q E h => ?_) (fun cdv A outer s H vs Q E hr h => ?_)
  · obtain ⟨_, _, _, _, _, rfl, _⟩ := h
    rfl
  · obtain ⟨p, a, s, v, l, rfl, O, hv, hf, hl, hp, hm, q⟩ := h
    have hs := sl
    refine ⟨_, (pss_cons (ps_if (pt_cmpR op_eq (pe_ix ix_tup (pv 1) pe_int (fun _ _ => rfl)) pe_str (nomark _))
        (pss_one (ps_ret (pmeth m_Order__take_cast T.cl_Order (pv 0) hr (pa_cons (pv 1) pa_nil))))
        pss_nil)
      (pss_one (ps_ret (pe_tup (pa_cons (pmeth m_Order__take_order T.cl_Order (pv 0) hr (pa_cons (pv 1) pa_nil)) (pa_cons (pe_lst pa_nil) pa_nil)))))), ?_⟩
    cases l <;> try (exact hf.elim)
    case cast m d i z =>
      obtain ⟨b, u, x, rfl, hb, tu, tx⟩ := id hv.castL
      walk_at "rds"
      refine ⟨p, a.dx, _, rfl, O.ob, rfl, _, rfl, p, a, s, .ref b, m, d, i, z, rfl, O, hv, by omega, hp, hm, fun t H' a' O' F' T' => q t H' a' O' F' T'⟩
    case order m d i g =>
      obtain ⟨b, u, x, y, rfl, hb, tu, tx, ty⟩ := id hv.ordL
      walk_at "rds"
      refine ⟨p, a.dx, _, rfl, O.ob, rfl, _, rfl, p, a, s, .ref b, m, d, i, g, rfl, O, hv, hl, hp, fun r H1 a1 O1 F1 L1 => ?_⟩
      refine ⟨by show 0 ≤ sizeLine; omega, fun l2 n2 => ⟨by show 2 ≤ sizeLine; omega, fun t nt => ?_⟩⟩
      have s2 := same_new n2 (.lst [])
      have st := same_new nt (.tup [.ref r, .ref l2])
      have h2 : (upd H1 l2 (.lst [])) l2 = some (.lst []) := upd_same
      obtain ⟨ws, hw, tw⟩ := L1.at_
      refine q t _ a1 ((O1.same s2).same st) (F1.trans (Fr.of (s2.trans st))) ⟨r, l2, upd_same, ⟨⟨ws, st _ _ (s2 _ _ hw), (tw.same s2).same st⟩, L1.new, L1.out⟩, ⟨⟨[], st _ _ h2, .nil⟩, F1.s _ n2, O1.fresh n2⟩, ne_of_none hw n2⟩
abbrev s_Order_cast : Stmt := inClass (top 6) 1
abbrev N_Order_cast : List Str := ["self", "payload", "index", "delivered", "letters"]
abbrev P_Order_cast : List Str := ["self", "payload"]
theorem sc_Order_cast : FnScope N_Order_cast P_Order_cast (defScope s_Order_cast) := ⟨rfl, rfl, rfl, by decide +kernel, rfl, by decide +kernel, by decide +kernel⟩
def sp_ocast (w : World) (CO : Addr) : Sp := fun vs H Q _ => ∃ (p : Addr) (a : OA) (s : OS) (z : Str), vs = [.ref p, .str z] ∧ OAt w CO H p a s ∧ s.log.length ≤ 90000 ∧ s.pend.length ≤ 90000 ∧ s.mems.length ≤ 1000 ∧
  ∀ t H' a' l1 l2, OAt w CO H' p a' (s.cast z).1 → Fr (a.fp p) (a'.fp p) H H' → H' t = some (.tup [.int (s.cast z).2.1, .ref l1, .ref l2]) → NewL H (a'.fp p) H' l1 ((s.cast z).2.2.1.map eG) → NewL H (a'.fp p) H' l2 ((s.cast z).2.2.2.map ePk) → l1 ≠ l2 → Q (.ref t) H'
theorem ok_ocast {f : Addr} {fd : FuncData} (T : Tx K mg CO CV) (m_Order__decide : MethOk P w K mg base CX0 CO "_decide" P_Order__decide 2 (sp_dec w CO)) (m_Order__cast_letter : MethOk P w K mg base CX0 CO "_cast_letter" P_Order__cast_letter 1 (sp_casl CO))
    (F : Fun K "cast" "Order.cast" s_Order_cast f fd) : FnOk P w K mg base CX0 3 f fd P_Order_cast (sp_ocast w CO) := by
  have nd := sc_Order_cast.nd
  refine F.ok sc_Order_cast (fun vs H Q E h => ?_) (fun cdv A outer s H vs Q E hr h => ?_)
  · obtain ⟨_, _, _, _, rfl, _⟩ := h
    rfl
  · obtain ⟨p, a, s, z, rfl, O, hl, hp, hm, q⟩ := h
    have hs := sl
    have ob := O.ob
    obtain ⟨c1, n1, n2, n3, n4⟩ : L2.Cls K CO ∧ NoAttr K CO "_me" ∧ NoAttr K CO "_founder" ∧ NoAttr K CO "_casts" ∧ NoAttr K CO "_pending" := ⟨T.cl_Order, T.n_Order__me, T.n_Order__founder, T.n_Order__casts, T.n_Order__pending⟩
    refine ⟨_, (pss_cons (ps_fldaug (pv 0) pe_int in_add)
      (pss_cons (ps_set (i := 2) nd rfl (Or.inl rfl) (pe_fld (pv 0) (by rfl)))
      (pss_cons (ps_if (pt_cmpR (op_eqD hr.units) (pe_fld (pv 0) (by rfl)) (pe_fld (pv 0) (by rfl)) (nomark _))
        (pss_cons (ps_asg (pmeth m_Order__decide T.cl_Order (pv 0) hr (pa_cons (pe_tup (pa_cons (pe_fld (pv 0) (by rfl)) (pa_cons (pv 2) (pa_cons (pv 1) pa_nil)))) pa_nil)) (pg_tup (by rfl) (pgs_cons (pg_name (i := 3) nd rfl (Or.inl rfl)) (pgs_cons (pg_name (i := 4) nd rfl (Or.inl rfl)) pgs_nil))))
        (pss_one (ps_ret (pe_tup (pa_cons (pv 2) (pa_cons (pv 3) (pa_cons (pv 4) pa_nil)))))))
        pss_nil)
      (pss_cons (ps_expr (pe_bm PySem.F.plainAttrs_list PySem.F.slot_list_append PySem.F.type_list_append mt_append (pe_fld (pv 0) (by rfl)) (pa_cons (pe_tup (pa_cons (pv 2) (pa_cons (pv 1) pa_nil))) pa_nil)))
      (pss_one (ps_ret (pe_tup (pa_cons (pv 2) (pa_cons (pe_lst pa_nil) (pa_cons (pe_lst (pa_cons (pmeth m_Order__cast_letter T.cl_Order (pv 0) hr (pa_cons (pv 2) (pa_cons (pv 1) pa_nil))) pa_nil)) pa_nil)))))))))), ?_⟩
    refine ⟨_, rfl, p, CO, a.dx, _, .int s.casts, rfl, ob, c1, n3, rfl, s.casts, 1, rfl, rfl, a.dx, _, ob, by show 10 < 1000; decide, ?_⟩
    generalize hh2 : upd H p _ = H2
    have ob2 : H2 p = some (.ins CO a.dx (oF a.vme a.vvid a.vms a.vfd a.lg a.li (s.casts + 1) a.pn a.kp a.tl)) := by subst hh2; exact upd_same
    have k2 : TupK H H2 := by subst hh2; exact tupK_upd fun xs e => by rw [ob] at e; cases e
    have at2 : ∀ c, c ≠ p → ∀ o, H c = some o → H2 c = some o := fun c h o e => by subst hh2; rw [upd_ne h]; exact e
    have F2 : Fr (a.fp p) (a.fp p) H H2 := by subst hh2; exact fr_upd (by simp [OA.fp]) ob (fun _ z => by cases z)
    have O2 : OAt w CO H2 p a { s with casts := s.casts + 1 } := by
      obtain ⟨w1, x1, x2⟩ := O.lg
      obtain ⟨w2, x3, x4⟩ := O.li
      obtain ⟨w3, y1, y2⟩ := O.pn
      obtain ⟨w4, x5, x6, x7⟩ := O.kp
      obtain ⟨w5, x8, x9⟩ := O.tl
      exact ⟨ob2, O.me.mono k2, O.vid.mono k2, O.ms.mono k2, O.fd.mono k2, ⟨w1, at2 _ (ne_of x1 ob (by intro z; cases z)) _ x1, x2.mono k2⟩, ⟨w2, x3.mono (at2 _ (ne_of x3.ob ob (by intro z; cases z)) _ x3.ob) k2, x4⟩, ⟨w3, at2 _ (ne_of y1 ob (by intro z; cases z)) _ y1, y2.mono k2⟩,
        ⟨w4, at2 _ (ne_of x5 ob (by intro z; cases z)) _ x5, fun i => (x6 i).mono k2, x7⟩, ⟨w5, x8.mono (at2 _ (ne_of x8.ob ob (by intro z; cases z)) _ x8.ob) k2, x9⟩, O.ap⟩
    walk_at "rds"
    refine rd_eqM O2.me O2.fd ?_
    walk_at "rds"
    refine iB (fun h => ?_) (fun h => ?_)
    · have h : s.me = s.fd := of_decide_eq_true h
      have e : s.cast z = (let r := ({ s with casts := s.casts + 1 } : OS).decide (s.me, s.casts + 1, z); (r.1, s.casts + 1, r.2.1, r.2.2)) := if_pos h
      rw [e] at q
      refine ⟨_, rfl, p, a.dx, _, rfl, ob2, rfl, ?_⟩
      walk_at "rds"
      refine ⟨by show 3 ≤ sizeLine; omega, fun t nt => ?_⟩
      have st := same_new nt (.tup [a.vme, V.int (s.casts + 1), V.str z])
      refine ⟨p, a, _, .ref t, (s.me, s.casts + 1, z), rfl, O2.same st, td_msg upd_same (O2.me.same st), hl, hp, hm, fun t2 H3 a3 l1 l2 O3 F3 ht2 L1 L2' hne => ?_⟩
      have F := (F2.trans (Fr.of st)).trans F3
      have hn2 := (F2.trans (Fr.of (fp := a.fp p) st)).s
      walk_at "rds"
      refine ⟨by show 3 ≤ sizeLine; omega, fun t4 n4 => ?_⟩
      have s4 := same_new n4 (.tup [V.int (s.casts + 1), V.ref l1, V.ref l2])
      obtain ⟨v1, b1, b2⟩ := L1.at_
      obtain ⟨v2, b3, b4⟩ := L2'.at_
      exact q t4 _ a3 l1 l2 (O3.same s4) (F.trans (Fr.of s4)) upd_same ⟨⟨v1, s4 _ _ b1, b2.same s4⟩, hn2 _ L1.new, L1.out⟩ ⟨⟨v2, s4 _ _ b3, b4.same s4⟩, hn2 _ L2'.new, L2'.out⟩ hne
    · have h : ¬ s.me = s.fd := of_decide_eq_false h
      have e : s.cast z = ({ s with casts := s.casts + 1, pend := s.pend ++ [(s.casts + 1, z)] }, s.casts + 1, [], [s.castL (s.casts + 1, z)]) := if_neg h
      rw [e] at q
      obtain ⟨vp, hpn, tp⟩ := O2.pn
      have tp : TDs H2 vp (s.pend.map eC) := tp
      have lp := tp.length
      rw [List.length_map] at lp
      walk_at "rds"
      refine ⟨.inl ⟨rfl, _, SqL.of hpn⟩, ?_⟩
      walk_at "rds"
      refine ⟨by show 2 ≤ sizeLine; omega, fun t nt => ?_⟩
      have st := same_new nt (.tup [V.int (s.casts + 1), V.str z])
      have ht : (upd H2 t (.tup [V.int (s.casts + 1), V.str z])) t = some (.tup [V.int (s.casts + 1), V.str z]) := upd_same
      have O3 := O2.same st
      have hpn3 := st _ _ hpn
      generalize upd H2 t (.tup [V.int (s.casts + 1), V.str z]) = H3 at *
      refine ⟨a.pn, _, _, rfl, rfl, hpn3, by omega, ?_⟩
      generalize hh4 : upd H3 a.pn (HO.lst (vp ++ [V.ref t])) = H4
      have pn4 : H4 a.pn = some (.lst (vp ++ [V.ref t])) := by subst hh4; exact upd_same
      have k4 : TupK H3 H4 := by subst hh4; exact tupK_upd fun xs e => by rw [hpn3] at e; cases e
      have at4 : ∀ c, c ≠ a.pn → ∀ o, H3 c = some o → H4 c = some o := fun c h o e => by subst hh4; rw [upd_ne h]; exact e
      have F4 : Fr (a.fp p) (a.fp p) H3 H4 := by subst hh4; exact fr_upd (by simp [OA.fp]) hpn3 (fun _ z => by cases z)
      have O4 : OAt w CO H4 p a { s with casts := s.casts + 1, pend := s.pend ++ [(s.casts + 1, z)] } := by
        obtain ⟨w1, x1, x2⟩ := O3.lg
        obtain ⟨w2, x3, x4⟩ := O3.li
        obtain ⟨w4, x5, x6, x7⟩ := O3.kp
        obtain ⟨w5, x8, x9⟩ := O3.tl
        refine ⟨at4 _ (ne_of O3.ob hpn3 (by intro z; cases z)) _ O3.ob, O3.me.mono k4, O3.vid.mono k4, O3.ms.mono k4, O3.fd.mono k4, ⟨w1, at4 _ O3.ap.1 _ x1, x2.mono k4⟩, ⟨w2, x3.mono (at4 _ (ne_of x3.ob hpn3 (by intro z; cases z)) _ x3.ob) k4, x4⟩, ⟨_, pn4, ?_⟩,
          ⟨w4, at4 _ (ne_of x5 hpn3 (by intro z; cases z)) _ x5, fun i => (x6 i).mono k4, x7⟩, ⟨w5, x8.mono (at4 _ (ne_of x8.ob hpn3 (by intro z; cases z)) _ x8.ob) k4, x9⟩, O3.ap⟩
        show TDs H4 _ ((s.pend ++ [(s.casts + 1, z)]).map eC)
        rw [List.map_append]
        exact ((tp.same st).mono k4).append (.cons (td_cst (c := (s.casts + 1, z)) (k4 _ _ ht)) .nil)
      have ob4 := O4.ob
      have F := (F2.trans (Fr.of (fp := a.fp p) st)).trans F4
      refine ⟨_, rfl, by show 0 ≤ sizeLine; omega, fun l1 n1' => ?_⟩
      have s5 := same_new n1' (.lst [])
      have h1 : (upd H4 l1 (.lst [])) l1 = some (.lst []) := upd_same
      have O5 := O4.same s5
      generalize upd H4 l1 (.lst []) = H5 at *
      refine ⟨_, rfl, p, a.dx, _, rfl, O5.ob, rfl, _, rfl, _, rfl, w, p, a, _, (s.casts + 1, z), rfl, O5, fun r6 H6 s6 d6 => ?_⟩
      refine ⟨by show 1 ≤ sizeLine; omega, fun l2 n2' => ?_⟩
      have s7 := same_new n2' (.lst [V.ref r6])
      have h2 : (upd H6 l2 (.lst [V.ref r6])) l2 = some (.lst [V.ref r6]) := upd_same
      refine ⟨by show 3 ≤ sizeLine; omega, fun t8 n8 => ?_⟩
      have s8 := same_new n8 (.tup [V.int (s.casts + 1), V.ref l1, V.ref l2])
      have h16 := s7 _ _ (s6 _ _ h1)
      have nl2 : H4 l2 = none := (Fr.of (fp := []) (s5.trans s6)).s _ n2'
      exact q t8 _ a l1 l2 (((O5.same s6).same s7).same s8) (F.trans (Fr.of (s5.trans (s6.trans (s7.trans s8))))) upd_same ⟨⟨[], s8 _ _ h16, .nil⟩, F.s _ n1', O4.fresh n1'⟩ ⟨⟨_, s8 _ _ h2, .cons ((d6.same s7).same s8) .nil⟩, F.s _ nl2, O4.fresh nl2⟩ (ne_of_none (s6 _ _ h1) n2')
end
end Mus

set_option maxRecDepth 100000
set_option maxHeartbeats 4000000
/-! Objects whose __init__ may raise: made in a try's body, and where the error leaves the def. -/
namespace Mus
open PySem PySem.Spec PyProof.Rows L2
structure MkOkX (P : Program) (w : World) (K : PySem.W.Frag) (mg : Str → Option Value) (base : Heap) (C : Addr) (x : Str) (ps : List Str) (k : Nat) (sp : Sp) where
  f : Addr
  fd : FuncData
  G : FnOk P w K mg base (L2.CX P w) k f fd ps sp
  M : Mk K C f
  g : mg x = some (.ref C)
  b : Binds K fd ps []
def MethAt.mkX {P : Program} {w : World} {K : PySem.W.Frag} {mg : Str → Option Value} {base : Heap} {C : Addr} {x : Str} {qual : Str} {ps : List Str} {st : Stmt} {k : Nat} {sp : Sp} (d : MethAt K C "__init__" qual ps st) (hm : PySem.W.makesIn K C = true) (hk : PySem.W.keepIn K (.ref C) = true) (g : mg x = some (.ref C))
    (h : ∀ {f : Addr} {fd : FuncData}, Fun K "__init__" qual st f fd → FnOk P w K mg base (L2.CX P w) k f fd ps sp) : MkOkX P w K mg base C x ps k sp :=
  ⟨d.f, d.fd, h d.F, ⟨hm, d.m.at_, d.m.fn, hk⟩, g, d.b⟩
def tMakeA (C : Addr) (sp : Sp) (E : L2.St → XK) (t : TA) : TE := fun σ H Q => t σ H fun vs H1 => ∀ x dx, H1 x = none → H1 dx = none → dx ≠ x →
  sp (.ref x :: vs) (upd (upd H1 dx (.own x)) x (.ins C dx [])) (fun v H2 => v = .non ∧ Q (.ref x) H2) (E σ)
section
variable {X : Cx} {C : Addr} {x : Str} {ps : List Str} {j k : Nat} {sp : Sp} {e : Expr} {es : List Expr} {t : TA} {p pos : Pos} {W : WX} {E : XK}
theorem run_makeA {pins : List (Addr × Obj)} {σ : L2.St} {H : Hp} {s : Shared} {Q : VK} {us : List Value} {vs : List V} {f : Addr} {fd : FuncData} {E : XK} (M : Mk X.K C f) (F : FnOk X.prog X.w X.K X.mg X.base (L2.CX X.prog X.w) k f fd ps sp) (hr : Room (k + 1) X.A) (hb : Binds X.K fd ps [])
    (hx : PassesAt (L2.CX X.prog X.w) X σ E) (I : Inv X pins σ H s) (r : Vals vs us)
    (h : ∀ x dx, H x = none → H dx = none → dx ≠ x → sp (.ref x :: vs) (upd (upd H dx (.own x)) x (.ins C dx [])) (fun v H2 => v = .non ∧ Q (.ref x) H2) E) :
    wpAny (model X.prog X.w) X.A (call (.ref C) us) (EP X pins σ Q) X.xe s := by
  have hq := h (s.heap.objs.size + 1) s.heap.objs.size (I.hok.fresh (Nat.le_succ _)) (I.hok.fresh (Nat.le_refl _)) (Nat.ne_of_lt (Nat.lt_succ_self _))
  have I2 := Inv.made (C := C) I
  have r2 : Vals (V.ref (s.heap.objs.size + 1) :: vs) (Value.ref (s.heap.objs.size + 1) :: us) := .cons rfl r
  have hl : (Value.ref (s.heap.objs.size + 1) :: us).length = ps.length := by
    have e := r2.length
    rw [F.len _ _ _ _ hq] at e
    exact e.symm
  have hl' : (Value.ref (s.heap.objs.size + 1) :: us ++ ([] : List Value)).length = ps.length := by rw [List.append_nil]; exact hl
  have bd := hb _ (Value.ref (s.heap.objs.size + 1) :: us) I2.kIn hl'
  rw [List.append_nil] at bd
  refine wpAny_call (make_map (f := f) I.kIn M.makes M.init (beq_iff_eq.mp M.fn) (codeAny_mono (F.run _ X.stack _ _ ⟨Value.ref (s.heap.objs.size + 1) :: us, []⟩ (Value.ref (s.heap.objs.size + 1) :: us) _ _ E (hr.make C us [])
    (I2.env0.make C us []) bd r2 hq) fun r s' hq' => ?_))
  cases r with
  | error e => exact hx pins _ _ e s' I2 hq'
  | ok fl =>
    cases fl with
    | ret u =>
      obtain ⟨v, H', I3, rv, ev, q3⟩ := I2.after hq'
      subst ev
      exact ⟨rv, ⟨V.ref (s.heap.objs.size + 1), H', I3, rfl, q3⟩⟩
    | next => exact False.elim hq'
    | brk => exact False.elim hq'
    | cont => exact False.elim hq'
/-- C(e, ..) in a try's body -/
theorem pmakeA (c : MkOkX X.prog X.w X.K X.mg X.base C x ps j sp) (tk : Takes X W) (hr : Room k X.A) (ha : PA X (e :: es) t) (hj : j + 1 ≤ k := by first | decide | omega) (hg : Gl X x := by rfl)
    (d0 : (x == ("__debug__" : Str)) = false := by decide) (st0 : starEach (e :: es) X.env = (false, eval e X.env) :: starEach es X.env := by rfl) (pl0 : (backTo pos (starEach es X.env)).any (·.1) = false := by rfl) :
    PE X (.Call (.Name x p) (e :: es) [] pos) (tMakeA C sp (WE W) t) := by
  refine ⟨fun pins s σ H Q I h => ?_⟩
  refine wpAny_Call_Name_kw (ld_glob I hg c.g ?_ d0)
  refine PySem.W.callWith_K (h₀ := X.base) I.ok.mod.kin c.M.kp (thn (ha.run pos pins s σ H _ I h) fun us s1 ⟨vs, H1, I1, r, q⟩ => ⟨I1.kIn, ?_⟩) st0 pl0
  exact run_makeA c.M c.G (hr.mono hj) c.b (passAt tk σ) I1 r q
/-- where it raises nothing -/
theorem pmakeN (c : MkOkX X.prog X.w X.K X.mg X.base C x ps j sp) (tk : Takes X (fun _ _ _ _ => False)) (hr : Room k X.A) (ha : PA X (e :: es) t) (hj : j + 1 ≤ k := by first | decide | omega) (hg : Gl X x := by rfl)
    (d0 : (x == ("__debug__" : Str)) = false := by decide) (st0 : starEach (e :: es) X.env = (false, eval e X.env) :: starEach es X.env := by rfl) (pl0 : (backTo pos (starEach es X.env)).any (·.1) = false := by rfl) :
    PE X (.Call (.Name x p) (e :: es) [] pos) (tMakeA C sp (fun _ _ _ _ => False) t) := pmakeA c tk hr ha hj hg d0 st0 pl0
end
end Mus

set_option maxRecDepth 100000
set_option maxHeartbeats 4000000
/-! An object whose fields are stored one after another, beside new things. -/
namespace Mus
open PySem L2
structure Bld (H : Hp) (p dx CO : Addr) (fs : List (Str × V)) (X : Hp) : Prop where
  ob : X p = some (.ins CO dx fs)
  k : ∀ b o, H b = some o → b ≠ p → X b = some o
  s : ∀ b, X b = none → H b = none
variable {H X : Hp} {p dx CO q : Addr} {fs fs' : List (Str × V)} {o : HO}
theorem Bld.start (h : H p = some (.ins CO dx fs)) : Bld H p dx CO fs H := ⟨h, fun _ _ e _ => e, fun _ e => e⟩
theorem Bld.put (B : Bld H p dx CO fs X) : Bld H p dx CO fs' (upd X p (.ins CO dx fs')) :=
  ⟨upd_same, fun b u e n => by rw [upd_ne n]; exact B.k b u e n, fun b e => B.s b (by
    by_cases z : b = p
    · rw [z, upd_same] at e; cases e
    · rwa [upd_ne z] at e)⟩
theorem Bld.new (B : Bld H p dx CO fs X) (hq : X q = none) : Bld H p dx CO fs (upd X q o) :=
  ⟨by rw [upd_ne (ne_of_none B.ob hq)]; exact B.ob, fun b u e n => by rw [upd_ne (ne_of_none (B.k b u e n) hq)]; exact B.k b u e n, fun b e => B.s b (by
    by_cases z : b = q
    · rw [z, upd_same] at e; cases e
    · rwa [upd_ne z] at e)⟩
theorem Bld.tup (B : Bld H p dx CO fs X) (hp : ∀ xs, H p ≠ some (.tup xs)) : TupK H X := fun b xs e => B.k b _ e fun z => hp xs (z ▸ e)
end Mus

set_option maxRecDepth 100000
set_option maxHeartbeats 4000000
namespace Mus
open PySem L2
local macro_rules | `(tactic| walk_at "rd") => `(tactic| first
  | refine ⟨_, rfl, ?_⟩ | refine ⟨(True.intro : True), ?_⟩
  | refine ⟨_, _, rfl, rfl, (⟨by decide, by decide, by decide⟩ : CPow _ _), ?_⟩
  | refine ⟨_, _, rfl, rfl, (⟨by decide, by decide⟩ : CDiv _ _), ?_⟩
  | refine ⟨_, _, rfl, rfl, (by show (0 : Int) < _; decide), ?_⟩
  | refine ⟨_, _, rfl, rfl, ?_⟩ | refine ⟨rfl, ?_⟩ | refine iteT ?_ | refine iteF ?_ | refine ⟨_, _, rfl, ?_⟩ | refine .inl ⟨_, rfl, ?_⟩
  | refine ⟨_, _, _, _, _, rfl, (by assumption), (by assumption), (by assumption), rfl, ?_⟩ | refine ⟨_, _, _, _, rfl, rfl, SqT.of (by assumption), rfl, ?_⟩ | refine ⟨_, _, rfl, SqT.of (by assumption), rfl, ?_⟩
  | refine ⟨_, _, _, _, _, rfl, .ty _, Rp.ty (by assumption), kit_int _, ?_⟩ | refine ⟨_, _, _, _, _, rfl, .ty _, Rp.ty (by assumption), kit_bool _, ?_⟩
  | refine ⟨_, _, _, _, _, rfl, .ty _, Rp.ty (by assumption), kit_str _, ?_⟩ | refine ⟨_, _, _, _, _, rfl, .ty _, Rp.ty (by assumption), kit_tup _, ?_⟩)
local macro_rules | `(tactic| walk_at "cal") => `(tactic| first
  | refine ⟨_, _, _, _, _, rfl, (by assumption), ?_⟩ | refine ⟨_, _, _, _, _, rfl, (by assumption), (by assumption), ?_⟩)
local macro_rules | `(tactic| walk_at "sq") => `(tactic| first
  | refine ⟨_, _, rfl, Or.inr (SqT.of (by assumption)), ?_⟩ | refine ⟨_, _, _, _, rfl, rfl, SqT.of (by assumption), rfl, ?_⟩)
local macro_rules | `(tactic| walk_at "rds") => `(tactic| repeat first | walk_at "rd" | walk_at "cal" | walk_at "sq")
local macro_rules | `(tactic| walk_at "ze") => `(tactic| repeat first
  | exact zes_nil | exact ze_bl | exact ze_str | exact ze_non | apply zes_cons | apply ze_tup | apply ze_lst | apply ze_cat | exact di_c | exact di_v rfl | apply di_opC | apply di_op | apply di_neg | apply ze_i | (refine (⟨?_, ?_, ?_⟩ : CPow _ _) <;> decide) | exact Nat.le_of_ble_eq_true rfl | exact ze_varD rfl (by assumption))
local macro_rules | `(tactic| walk_at "rdz") => `(tactic| repeat (fail_if_success (first | show tLst _ _ _ _ | show tAsg (tLst _) _ _ _ _ | show tSeq (tAsg (tLst _) _) _ _ _ _)); first | walk_at "rd" | walk_at "cal" | walk_at "sq")
theorem again_len (s : OS) (h1 : s.mems.length ≤ 1000) : s.again.length ≤ 16000 := by
  unfold OS.again
  split
  · rw [List.length_map, List.length_take]; omega
  · have hb : ∀ m, (s.behind m).length ≤ 16 := fun m => by
      show (List.mapIdx _ _).length ≤ 16
      rw [List.length_mapIdx, List.length_take]; omega
    have : ∀ ms : List Mem, (ms.map s.behind).flatten.length ≤ 16 * ms.length := by
      intro ms
      induction ms with
      | nil => simp
      | cons m ms ih => rw [List.map_cons, List.flatten_cons, List.length_append, List.length_cons]; have := hb m; omega
    have h2 := this s.others
    have h3 : s.others.length ≤ s.mems.length := List.length_filter_le _ _
    omega
section
variable {P : Program} {w : World} {K : PySem.W.Frag} {mg : Str → Option Value} {base : Heap} {CO CV : Addr}
abbrev s_Order_heard : Stmt := inClass (top 6) 3
abbrev N_Order_heard : List Str := ["self", "member", "count"]
abbrev P_Order_heard : List Str := ["self", "member", "count"]
theorem sc_Order_heard : FnScope N_Order_heard P_Order_heard (defScope s_Order_heard) := ⟨rfl, rfl, rfl, by decide +kernel, rfl, by decide +kernel, by decide +kernel⟩
def sp_ohr (w : World) (CO : Addr) : Sp := fun vs H Q _ => ∃ (p : Addr) (a : OA) (s : OS) (v : V) (m : Mem) (n : Int), vs = [.ref p, v, .int n] ∧ OAt w CO H p a s ∧ TD H v (eM m) ∧ s.tn ≤ 90000 ∧ ∀ H', OAt w CO H' p a (s.heard m n) → Fr (a.fp p) (a.fp p) H H' → Q .non H'
theorem ok_ohr {f : Addr} {fd : FuncData} (T : Tx K mg CO CV) (F : Fun K "heard" "Order.heard" s_Order_heard f fd) : FnOk P w K mg base CX0 1 f fd P_Order_heard (sp_ohr w CO) := by
  have nd := sc_Order_heard.nd
  refine F.ok sc_Order_heard (fun vs H Q E h => ?_) (fun cdv A outer s H vs Q E hr h => ?_)
  · obtain ⟨_, _, _, _, _, _, rfl, _⟩ := h
    rfl
  · obtain ⟨p, a, s, v, m, n, rfl, O, hv, htn, q⟩ := h
    have hs := sl
    have ob := O.ob
    obtain ⟨c1, n1, n2⟩ : L2.Cls K CO ∧ NoAttr K CO "_members" ∧ NoAttr K CO "_told" := ⟨T.cl_Order, T.n_Order__members, T.n_Order__told⟩
    refine ⟨_, (pss_one (ps_if (pt_cmpR (op_inDD hr.units) (pv 1) (pe_fld (pv 0) (by rfl)) (by rfl))
        (pss_one (ps_nput hr.units (pe_fld (pv 0) (by rfl)) (pv 1) (pe_callB (call_max2 rfl) (by rfl) T.b_max (by decide +kernel) (pa_cons (pv 2) (pa_cons (pe_nget2 hr.units (pe_fld (pv 0) (by rfl)) (pv 1) pe_int ⟨rfl, rfl, rfl, rfl⟩) pa_nil))) rfl))
        pss_nil)), ?_⟩
    walk_at "rds"
    refine rd_inMs hv O.ms ?_
    walk_at "rds"
    refine iB (fun h => ?_) (fun h => ?_)
    · have h : m ∈ s.mems := of_decide_eq_true h
      obtain ⟨kvs, N, hN, lN⟩ := O.tl
      obtain ⟨bm, rfl, nk⟩ := hv.nk
      walk_at "rds"
      refine ⟨a.tl, kvs, rfl, N, ?_⟩
      walk_at "rds"
      refine ⟨bm, (s.told m).map V.int, rfl, ⟨kvs, kM m, N, nk, kM_depth _, (hN m).symm⟩, ?_⟩
      have eg : ((s.told m).map V.int).getD (V.int 0) = V.int ((s.told m).getD 0) := by cases s.told m <;> rfl
      rw [eg]
      refine ⟨n, (s.told m).getD 0, rfl, ?_⟩
      walk_at "rds"
      refine ⟨a.tl, bm, kvs, kM m, rfl, rfl, N, nk, kM_depth _, ?_⟩
      have e : s.heard m n = { s with told := fun x => if x = m then some (if (s.told m).getD 0 > n then (s.told m).getD 0 else n) else s.told x, tn := if (s.told m).isSome then s.tn else s.tn + 1 } := if_pos h
      generalize hx : (if (s.told m).getD 0 > n then (s.told m).getD 0 else n) = x at *
      generalize hh2 : upd H a.tl _ = H2
      have N2 : Nd w H2 a.tl (putN kvs (kM m) bm (.int x)) := by subst hh2; exact N.put (v := .int x) nk (kM_depth _) (by omega)
      have k2 : TupK H H2 := by subst hh2; exact tupK_upd fun xs e => by rw [N.ob] at e; cases e
      have at2 : ∀ c, c ≠ a.tl → ∀ o, H c = some o → H2 c = some o := fun c h o e => by subst hh2; rw [upd_ne h]; exact e
      have F2 : Fr (a.fp p) (a.fp p) H H2 := by subst hh2; exact fr_upd (by simp [OA.fp]) N.ob (fun _ z => by cases z)
      refine q H2 ?_ F2
      rw [e]
      obtain ⟨w1, x1, x2⟩ := O.lg
      obtain ⟨w2, x3, x4⟩ := O.li
      obtain ⟨w3, y1, y2⟩ := O.pn
      obtain ⟨w4, x5, x6, x7⟩ := O.kp
      refine ⟨at2 _ (ne_of ob N.ob (by intro z; cases z)) _ ob, O.me.mono k2, O.vid.mono k2, O.ms.mono k2, O.fd.mono k2, ⟨w1, at2 _ (ne_of x1 N.ob (by intro z; cases z)) _ x1, x2.mono k2⟩, ⟨w2, x3.mono (at2 _ O.ap.2 _ x3.ob) k2, x4⟩, ⟨w3, at2 _ (ne_of y1 N.ob (by intro z; cases z)) _ y1, y2.mono k2⟩,
        ⟨w4, at2 _ (ne_of x5 N.ob (by intro z; cases z)) _ x5, fun i => (x6 i).mono k2, x7⟩, ⟨_, N2, fun m' => ?_, ?_⟩, O.ap⟩
      · show _ = Option.map V.int (if m' = m then some x else s.told m')
        rw [valN_put]
        by_cases e : m' = m
        · rw [if_pos (by rw [e]), if_pos e]; rfl
        · rw [if_neg fun z => e (kM_inj z), if_neg e]; exact hN m'
      · show _ ≤ (if (s.told m).isSome then s.tn else s.tn + 1)
        rw [putN_len', hN m, Option.isSome_map]
        split <;> omega
    · have h : ¬ m ∈ s.mems := of_decide_eq_false h
      have e : s.heard m n = s := if_neg h
      exact q H (by rw [e]; exact O) (Fr.refl _ _)
abbrev s_Order_again : Stmt := inClass (top 6) 4
abbrev N_Order_again : List Str := ["self", "letters", "member", "index", "payload"]
abbrev P_Order_again : List Str := ["self"]
theorem sc_Order_again : FnScope N_Order_again P_Order_again (defScope s_Order_again) := ⟨rfl, rfl, rfl, by decide +kernel, rfl, by decide +kernel, by decide +kernel⟩
def sp_oag (w : World) (CO : Addr) : Sp := fun vs H Q _ => ∃ (p : Addr) (a : OA) (s : OS), vs = [.ref p] ∧ OAt w CO H p a s ∧ s.log.length ≤ 100000 ∧ s.pend.length ≤ 100000 ∧ s.mems.length ≤ 1000 ∧ (∀ m, 0 ≤ (s.told m).getD 0 ∧ (s.told m).getD 0 ≤ 2 ^ 61) ∧
  ∀ r H', Same H H' → H r = none → LstAt H' r (s.again.map ePk) → Q (.ref r) H'
theorem ok_oag {f : Addr} {fd : FuncData} (T : Tx K mg CO CV) (m_Order__others : MethOk P w K mg base CX0 CO "_others" P_Order__others 1 (sp_oth CO)) (m_Order__cast_letter : MethOk P w K mg base CX0 CO "_cast_letter" P_Order__cast_letter 1 (sp_casl CO)) (m_Order__letters_behind : MethOk P w K mg base CX0 CO "_letters_behind" P_Order__letters_behind 2 (sp_beh w CO))
    (F : Fun K "again" "Order.again" s_Order_again f fd) : FnOk P w K mg base CX0 3 f fd P_Order_again (sp_oag w CO) := by
  have nd := sc_Order_again.nd
  refine F.ok sc_Order_again (fun vs H Q E h => ?_) (fun cdv A outer s H vs Q E hr h => ?_)
  · obtain ⟨_, _, _, rfl, _⟩ := h
    rfl
  · obtain ⟨p, a, s, rfl, O, hl, hp, hm, hT, q⟩ := h
    have hs := sl
    have ob := O.ob
    obtain ⟨c1, n1, n2, n3⟩ : L2.Cls K CO ∧ NoAttr K CO "_me" ∧ NoAttr K CO "_founder" ∧ NoAttr K CO "_pending" := ⟨T.cl_Order, T.n_Order__me, T.n_Order__founder, T.n_Order__pending⟩
    have al := again_len s hm
    refine ⟨_, (pss_cons (ps_if (pt_cmpR (op_neD hr.units) (pe_fld (pv 0) (by rfl)) (pe_fld (pv 0) (by rfl)) (nomark _))
        (pss_one (ps_ret (pe_lcX (own := [("index", 3), ("payload", 4)]) rfl nd (pi_list (pe_slice sl_list (pe_fld (pv 0) (by rfl)) po_none (po_some (pe_const T.c_WINDOW)))) (blkOk_by (own := [("index", 3), ("payload", 4)]) (N := N_Order_again) (sc := defScope s_Order_again) (by decide +kernel)) (fun _ _ _ _ _ => (pg_tup (by rfl) (pgs_cons (pg_name (i := 3) nd rfl (Or.inl rfl)) (pgs_cons (pg_name (i := 4) nd rfl (Or.inl rfl)) pgs_nil)))) (fun _ _ _ _ _ => pts_nil) (fun _ _ _ _ _ => (pmeth m_Order__cast_letter T.cl_Order (pv 0) hr (pa_cons (pv 3) (pa_cons (pv 4) pa_nil)))))))
        pss_nil)
      (pss_cons (ps_set (i := 1) nd rfl (Or.inl rfl) (pe_lst pa_nil))
      (pss_cons (ps_for PassesOwn.never rfl (pi_list (pmeth0 m_Order__others T.cl_Order (pv 0) hr)) (pg_name (i := 2) nd rfl (Or.inl rfl))
        (pss_one (ps_expr (pe_bm PySem.F.plainAttrs_list PySem.F.slot_list_extend PySem.F.type_list_extend mt_extend (pv 1) (pa_cons (pmeth m_Order__letters_behind T.cl_Order (pv 0) hr (pa_cons (pv 2) pa_nil)) pa_nil)))))
      (pss_one (ps_ret (pv 1)))))), ?_⟩
    walk_at "rds"
    refine rd_neM O.me O.fd ?_
    walk_at "rds"
    refine iB (fun h => ?_) (fun h => ?_)
    · have h : ¬ s.me = s.fd := by simpa using h
      have e : s.again = (s.pend.take 16).map s.castL := if_pos h
      obtain ⟨vp, hpn, tp⟩ := O.pn
      walk_at "rds"
      (try unfold tNoPart)
      refine ⟨a.pn, _, rfl, SqL.of hpn, fun b nb => ?_⟩
      have ec : cutV vp none (some 16) = vp.take 16 := cut16 vp 0 (some 0) (some 16) rfl rfl
      rw [ec]
      have sb := same_new nb (.lst (vp.take 16))
      have hb : (upd H b (.lst (vp.take 16))) b = some (.lst (vp.take 16)) := upd_same
      generalize upd H b (.lst (vp.take 16)) = H2 at *
      have tc : TDs H2 (vp.take 16) ((s.pend.take 16).map eC) := by
        rw [List.map_take]
        exact (tp.same sb).take 16
      have lc := tc.length
      rw [List.length_map] at lc
      have l16 : (s.pend.take 16).length ≤ 16 := by rw [List.length_take]; omega
      refine ⟨b, rfl, ⟨_, SqL.of hb⟩, fun D nD => ?_⟩
      have O2 := O.same sb
      refine lc_list (K := K) (a := b) (xs := vp.take 16) (fun i H' => LstAt H' D ((((s.pend.take 16).take i).map s.castL).map ePk) ∧ Same H2 H') ?_ ?_ ?_ ?_
      · exact ⟨⟨[], upd_same, .nil⟩, same_new nD _⟩
      · rintro i H' _ ⟨_, s1⟩
        exact SqL.of (s1 _ _ hb)
      · rintro i x H' hi ⟨⟨ws, hD, hw⟩, s1⟩
        obtain ⟨d, hd, rd⟩ := tc.at hi
        rw [List.getElem?_map] at hd
        obtain ⟨c, hc, rfl⟩ := Option.map_eq_some_iff.mp hd
        obtain ⟨bc, rfl, hbc⟩ := rd.cst
        have ht : (s.pend.take 16).take (i + 1) = (s.pend.take 16).take i ++ [c] := by rw [List.take_succ, hc]; rfl
        have lw := hw.length
        rw [List.length_map, List.length_map, List.length_take] at lw
        have O3 := O2.same s1
        refine ⟨bc, _, rfl, SqT.of (s1 _ _ hbc), rfl, ?_⟩
        refine ⟨_, _, rfl, _, _, rfl, rfl, rfl, ?_⟩
        refine ⟨_, rfl, p, a.dx, _, rfl, O3.ob, rfl, _, rfl, _, rfl, w, p, a, s, c, rfl, O3, fun r5 H5 s5 d5 => ?_⟩
        have hD5 := s5 _ _ hD
        refine ⟨ws, hD5, by omega, ⟨ws ++ [.ref r5], upd_same, ?_⟩, fun c o e => by rw [upd_ne (ne_of_none e nD)]; exact s5 _ _ (s1 _ _ e)⟩
        have kt : TupK H5 (upd H5 D (.lst (ws ++ [.ref r5]))) := tupK_upd fun xs e => by rw [hD5] at e; cases e
        rw [ht, List.map_append, List.map_append]
        exact ((hw.same s5).mono kt).append (.cons (d5.mono kt) .nil)
      · rintro H' ⟨hD, s1⟩
        rw [lc, List.take_length] at hD
        refine q D H' (sb.trans s1) ?_ (by rw [e]; exact hD)
        exact (Fr.of (fp := []) sb).s _ nD
    · have h : s.me = s.fd := by simpa using h
      have e : s.again = (s.others.map s.behind).flatten := if_neg fun z => z h
      rw [e] at q al
      refine ⟨by show 0 ≤ sizeLine; omega, fun D nD => ?_⟩
      have s1 := same_new nD (.lst [])
      have hD : (upd H D (.lst [])) D = some (.lst []) := upd_same
      have O1 := O.same s1
      generalize upd H D (.lst []) = H1 at *
      refine ⟨_, rfl, p, a.dx, _, rfl, O1.ob, rfl, w, p, a, s, rfl, O1, fun r H2 s2 nr hr2 => ?_⟩
      obtain ⟨vo, hvo, to⟩ := hr2
      have lo := to.length
      rw [List.length_map] at lo
      have hD2 := s2 _ _ hD
      have Dr : r ≠ D := fun z => by rw [z, hD] at nr; cases nr
      refine ⟨r, rfl, ⟨_, SqL.of hvo⟩, for_list (K := K) (a := r) (xs := vo) (fun i σ H' => ∃ x2 : Option V, σ = [some (.ref p), some (.ref D), x2, none, none] ∧ LstAt H' D (((s.others.take i).map s.behind).flatten.map ePk) ∧ (∀ b o, H2 b = some o → b ≠ D → H' b = some o)) ?_ ?_ ?_ ?_⟩
      · exact ⟨_, rfl, ⟨[], hD2, .nil⟩, fun b o e _ => e⟩
      · rintro i σ H' _ ⟨_, _, _, k⟩
        exact SqL.of (k _ _ hvo Dr)
      · rintro i x σ H' hi ⟨x2, rfl, ⟨ws, hDw, hw⟩, k⟩
        obtain ⟨d, hd, rd⟩ := to.at hi
        rw [List.getElem?_map] at hd
        obtain ⟨m, hm', rfl⟩ := Option.map_eq_some_iff.mp hd
        have ht : s.others.take (i + 1) = s.others.take i ++ [m] := by rw [List.take_succ, hm']; rfl
        have kt : TupK H2 H' := fun b xs e => k _ _ e (fun z => by rw [z, hD2] at e; cases e)
        have O2 : OAt w CO H' p a s := (O1.same s2).mono (fun b hb o e => k _ _ e (fun z => O.fresh nD (by rw [← z]; exact hb))) kt
        have lw := hw.length
        rw [List.length_map] at lw
        walk_at "rds"
        refine ⟨.inl ⟨rfl, _, SqL.of hDw⟩, ?_⟩
        refine ⟨_, rfl, p, a.dx, _, rfl, O2.ob, rfl, _, rfl, p, a, s, x, m, rfl, O2, rd.mono kt, (hT m).1, (hT m).2, hl, fun r5 H5 s5 n5 h5 => ?_⟩
        obtain ⟨zs, hz, tz⟩ := h5
        have lz := tz.length
        rw [List.length_map] at lz
        have hD5 := s5 _ _ hDw
        have tot : (((s.others.take (i + 1)).map s.behind).flatten).length ≤ 16000 := by
          refine Nat.le_trans ?_ al
          have hsub : ((s.others.take (i + 1)).map s.behind).flatten.length + ((s.others.drop (i + 1)).map s.behind).flatten.length = (s.others.map s.behind).flatten.length := by
            rw [← List.length_append, ← List.flatten_append, ← List.map_append, List.take_append_drop]
          omega
        rw [ht, List.map_append, List.flatten_append, List.length_append] at tot
        have e1 : ([m].map s.behind).flatten = s.behind m := by simp
        rw [e1] at tot
        refine ⟨D, r5, ws, zs, rfl, rfl, hD5, hz, by omega, ?_⟩
        have kt6 : TupK H5 (upd H5 D (.lst (ws ++ zs))) := tupK_upd fun xs e => by rw [hD5] at e; cases e
        refine ⟨_, rfl, ⟨ws ++ zs, upd_same, ?_⟩, fun b o e n => by rw [upd_ne n]; exact s5 _ _ (k _ _ e n)⟩
        rw [ht, List.map_append, List.flatten_append, List.map_append, e1]
        exact ((hw.same s5).mono kt6).append (tz.mono kt6)
      · rintro σ H' ⟨x2, rfl, hDw, k⟩
        rw [lo, List.take_length] at hDw
        refine ⟨_, rfl, ?_⟩
        refine q D H' (fun b o e => k _ _ (s2 _ _ (s1 _ _ e)) (ne_of_none e nD)) nD hDw
abbrev s_Order___init__ : Stmt := inClass (top 6) 0
abbrev N_Order___init__ : List Str := ["self", "me", "view_id", "members"]
abbrev P_Order___init__ : List Str := ["self", "me", "view_id", "members"]
theorem sc_Order___init__ : FnScope N_Order___init__ P_Order___init__ (defScope s_Order___init__) := ⟨rfl, rfl, rfl, by decide +kernel, rfl, by decide +kernel, by decide +kernel⟩
def sp_oini (w : World) (CO CV : Addr) : Sp := fun vs H Q E => ∃ (p dx : Addr) (vme vvid vms : V) (me : Mem) (vid : Vid) (mems : List Mem), vs = [.ref p, vme, vvid, vms] ∧ H p = some (.ins CO dx []) ∧ TD H vme (eM me) ∧ TD H vvid (eV vid) ∧ TD H vms (eMs mems) ∧
  (me ∉ mems → E (.ref CV) none H) ∧ (me ∈ mems → ∀ H' a fd r, mems = fd :: r → OAt w CO H' p a (OS.new me vid mems fd) → Fr [p] (a.fp p) H H' → Q .non H')
theorem ok_oini {f : Addr} {fd : FuncData} (T : Tx K mg CO CV) (F : Fun K "__init__" "Order.__init__" s_Order___init__ f fd) : FnOk P w K mg base (L2.CX P w) 1 f fd P_Order___init__ (sp_oini w CO CV) := by
  have nd := sc_Order___init__.nd
  refine F.okX sc_Order___init__ (fun vs H Q E h => ?_) (fun cdv A outer s H vs Q E hr h => ?_)
  · obtain ⟨_, _, _, _, _, _, _, _, rfl, _⟩ := h
    rfl
  · obtain ⟨p, dx, vme, vvid, vms, me, vid, mems, rfl, hp, tme, tvid, tms, q1, q2⟩ := h
    have hs := sl
    refine ⟨_, (pss_cons (ps_if (pt_cmpR (op_notInDD hr.units) (pv 1) (pv 3) (by rfl))
        (pss_one (ps_raise rfl (takes_of rfl rfl rfl rfl) (pmk_own0 PySem.F.excBase_ValueError T.x_BadView T.g_BadView T.k_BadView (raises_own T.b_BadView T.t_BadView))))
        pss_nil)
      (pss_cons (ps_fld (pv 0) (pv 1) rfl)
      (pss_cons (ps_fld (pv 0) (pv 2) rfl)
      (pss_cons (ps_fld (pv 0) (pv 3) rfl)
      (pss_cons (ps_fld (pv 0) (pe_ix ix_tup (pv 3) pe_int (fun _ _ => rfl)) rfl)
      (pss_cons (ps_fld (pv 0) (pe_lst pa_nil) rfl)
      (pss_cons (ps_fld (pv 0) pe_nnew rfl)
      (pss_cons (ps_fld (pv 0) pe_int rfl)
      (pss_cons (ps_fld (pv 0) (pe_lst pa_nil) rfl)
      (pss_cons (ps_fld (pv 0) pe_dnewK rfl)
      (pss_one (ps_fld (pv 0) pe_nnew rfl)))))))))))), ?_⟩
    walk_at "rds"
    refine rd_inMs tme tms ?_
    walk_at "rds"
    refine iB (fun h => ?_) (fun h => ?_)
    · have h : ¬ me ∈ mems := by simpa using h
      exact q1 h
    · have h : me ∈ mems := by simpa using h
      obtain ⟨fd0, rest, em⟩ : ∃ fd0 rest, mems = fd0 :: rest := by
        cases mems with
        | nil => cases h
        | cons x y => exact ⟨x, y, rfl⟩
      have q := fun H' a => q2 h H' a fd0 rest em
      subst em
      obtain ⟨am, vf, xs, rfl, ham, tf⟩ : ∃ am vf xs, vms = .ref am ∧ H am = some (.tup (vf :: xs)) ∧ TD H vf (eM fd0) := by
        cases tms with
        | tup h l r => cases r with | cons a b => exact ⟨_, _, _, rfl, h, a⟩
      have pam : am ≠ p := ne_of ham hp (by intro z; cases z)
      have a0 : ∀ (x : V) (l : List V), atI (x :: l) 0 = some x := fun x l => at_int (by decide) rfl
      have c1 := T.cl_Order
      have B := Bld.start hp
      have put : ∀ {fs : List (Str × V)} {X : Hp} {x : Str} {v : V} {R : Prop}, True := fun {_ _ _ _ _} => trivial
      refine ⟨_, rfl, _, rfl, p, CO, dx, _, rfl, B.ob, c1, T.n_Order__me, (by decide), ?_⟩
      have B := B.put (fs' := putF "_me" vme [])
      generalize upd H p _ = X1 at *
      refine ⟨_, rfl, _, rfl, p, CO, dx, _, rfl, B.ob, c1, T.n_Order__view_id, (by show 1 < 1000; decide), ?_⟩
      have B := B.put (fs' := putF "_view_id" vvid (putF "_me" vme []))
      generalize upd X1 p _ = X2 at *
      refine ⟨_, rfl, _, rfl, p, CO, dx, _, rfl, B.ob, c1, T.n_Order__members, (by show 2 < 1000; decide), ?_⟩
      have B := B.put (fs' := putF "_members" (.ref am) (putF "_view_id" vvid (putF "_me" vme [])))
      generalize upd X2 p _ = X3 at *
      refine ⟨_, rfl, am, _, _, _, rfl, rfl, SqT.of (B.k _ _ ham pam), a0 _ _, _, rfl, p, CO, dx, _, rfl, B.ob, c1, T.n_Order__founder, (by show 3 < 1000; decide), ?_⟩
      have B := B.put (fs' := putF "_founder" vf (putF "_members" (.ref am) (putF "_view_id" vvid (putF "_me" vme []))))
      generalize upd X3 p _ = X4 at *
      refine ⟨by show 0 ≤ sizeLine; omega, fun lg nl => ?_⟩
      have lgp : lg ≠ p := fun z => by rw [z, B.ob] at nl; cases nl
      have hl0 := B.s _ nl
      have B := B.new (o := .lst []) nl
      have hlg : (upd X4 lg (.lst [])) lg = some (.lst []) := upd_same
      generalize upd X4 lg (.lst []) = X5 at *
      refine ⟨_, rfl, p, CO, dx, _, rfl, B.ob, c1, T.n_Order__log, (by show 4 < 1000; decide), ?_⟩
      have B := B.put (fs' := putF "_log" (.ref lg) (putF "_founder" vf (putF "_members" (.ref am) (putF "_view_id" vvid (putF "_me" vme [])))))
      have kl : ∀ {X : Hp} {o : HO}, X lg = some (.lst []) → (upd X p o) lg = some (.lst []) := fun h => (upd_ne lgp).trans h
      have hlg := kl (o := .ins CO dx (putF "_log" (.ref lg) (putF "_founder" vf (putF "_members" (.ref am) (putF "_view_id" vvid (putF "_me" vme [])))))) hlg
      generalize upd X5 p _ = X6 at *
      intro li nli loli
      have lip : li ≠ p := fun z => by rw [z, B.ob] at nli; cases nli
      have hli0 := B.s _ nli
      have lgli : lg ≠ li := ne_of_none hlg nli
      generalize hh7 : upd X6 li _ = X7
      have B : Bld H p dx CO (putF "_log" (.ref lg) (putF "_founder" vf (putF "_members" (.ref am) (putF "_view_id" vvid (putF "_me" vme []))))) X7 := by subst hh7; exact B.new nli
      have hlg : X7 lg = some (.lst []) := by subst hh7; rw [upd_ne lgli]; exact hlg
      have Nli : Nd w X7 li [] := by subst hh7; exact nd_new loli
      refine ⟨_, rfl, p, CO, dx, _, rfl, B.ob, c1, T.n_Order__last_indexes, (by show 5 < 1000; decide), ?_⟩
      generalize hh8 : upd X7 p _ = X8
      have B : Bld H p dx CO (putF "_last_indexes" (.ref li) (putF "_log" (.ref lg) (putF "_founder" vf (putF "_members" (.ref am) (putF "_view_id" vvid (putF "_me" vme [])))))) X8 := by subst hh8; exact B.put
      have hlg : X8 lg = some (.lst []) := by subst hh8; exact kl hlg
      have hli : X8 li = some (ndO w li []) := by subst hh8; rw [upd_ne lip]; exact Nli.ob
      refine ⟨_, rfl, p, CO, dx, _, rfl, B.ob, c1, T.n_Order__casts, (by show 6 < 1000; decide), ?_⟩
      generalize hh9 : upd X8 p _ = X9
      have B : Bld H p dx CO (putF "_casts" (.int 0) (putF "_last_indexes" (.ref li) (putF "_log" (.ref lg) (putF "_founder" vf (putF "_members" (.ref am) (putF "_view_id" vvid (putF "_me" vme []))))))) X9 := by subst hh9; exact B.put
      have hlg : X9 lg = some (.lst []) := by subst hh9; exact kl hlg
      have hli : X9 li = some (ndO w li []) := by subst hh9; rw [upd_ne lip]; exact hli
      refine ⟨by show 0 ≤ sizeLine; omega, fun pn npn => ?_⟩
      have pnp : pn ≠ p := fun z => by rw [z, B.ob] at npn; cases npn
      have hpn0 := B.s _ npn
      have lgpn : lg ≠ pn := ne_of_none hlg npn
      have lipn : li ≠ pn := ne_of_none hli npn
      have B := B.new (o := .lst []) npn
      have hlg := (upd_ne lgpn (H := X9) (o := .lst [])).trans hlg
      have hli := (upd_ne lipn (H := X9) (o := .lst [])).trans hli
      have hpn : (upd X9 pn (.lst [])) pn = some (.lst []) := upd_same
      generalize upd X9 pn (.lst []) = X10 at *
      refine ⟨_, rfl, p, CO, dx, _, rfl, B.ob, c1, T.n_Order__pending, (by show 7 < 1000; decide), ?_⟩
      generalize hh11 : upd X10 p _ = X11
      have B : Bld H p dx CO (putF "_pending" (.ref pn) (putF "_casts" (.int 0) (putF "_last_indexes" (.ref li) (putF "_log" (.ref lg) (putF "_founder" vf (putF "_members" (.ref am) (putF "_view_id" vvid (putF "_me" vme [])))))))) X11 := by subst hh11; exact B.put
      have hlg : X11 lg = some (.lst []) := by subst hh11; exact kl hlg
      have hli : X11 li = some (ndO w li []) := by subst hh11; rw [upd_ne lip]; exact hli
      have hpn : X11 pn = some (.lst []) := by subst hh11; rw [upd_ne pnp]; exact hpn
      intro kp nkp
      have kpp : kp ≠ p := fun z => by rw [z, B.ob] at nkp; cases nkp
      have hkp0 := B.s _ nkp
      have lgkp : lg ≠ kp := ne_of_none hlg nkp
      have likp : li ≠ kp := ne_of_none hli nkp
      have pnkp : pn ≠ kp := ne_of_none hpn nkp
      have B := B.new (o := .dK []) nkp
      have hlg := (upd_ne lgkp (H := X11) (o := .dK [])).trans hlg
      have hli := (upd_ne likp (H := X11) (o := .dK [])).trans hli
      have hpn := (upd_ne pnkp (H := X11) (o := .dK [])).trans hpn
      have hkp : (upd X11 kp (.dK [])) kp = some (.dK []) := upd_same
      generalize upd X11 kp (.dK []) = X12 at *
      refine ⟨_, rfl, p, CO, dx, _, rfl, B.ob, c1, T.n_Order__kept, (by show 8 < 1000; decide), ?_⟩
      generalize hh13 : upd X12 p _ = X13
      have B : Bld H p dx CO (putF "_kept" (.ref kp) (putF "_pending" (.ref pn) (putF "_casts" (.int 0) (putF "_last_indexes" (.ref li) (putF "_log" (.ref lg) (putF "_founder" vf (putF "_members" (.ref am) (putF "_view_id" vvid (putF "_me" vme []))))))))) X13 := by subst hh13; exact B.put
      have hlg : X13 lg = some (.lst []) := by subst hh13; exact kl hlg
      have hli : X13 li = some (ndO w li []) := by subst hh13; rw [upd_ne lip]; exact hli
      have hpn : X13 pn = some (.lst []) := by subst hh13; rw [upd_ne pnp]; exact hpn
      have hkp : X13 kp = some (.dK []) := by subst hh13; rw [upd_ne kpp]; exact hkp
      intro tl ntl lotl
      have tlp : tl ≠ p := fun z => by rw [z, B.ob] at ntl; cases ntl
      have htl0 := B.s _ ntl
      generalize hh14 : upd X13 tl _ = X14
      have B : Bld H p dx CO (putF "_kept" (.ref kp) (putF "_pending" (.ref pn) (putF "_casts" (.int 0) (putF "_last_indexes" (.ref li) (putF "_log" (.ref lg) (putF "_founder" vf (putF "_members" (.ref am) (putF "_view_id" vvid (putF "_me" vme []))))))))) X14 := by subst hh14; exact B.new ntl
      have litl : li ≠ tl := ne_of_none hli ntl
      have hlg : X14 lg = some (.lst []) := by subst hh14; rw [upd_ne (ne_of_none hlg ntl)]; exact hlg
      have hli : X14 li = some (ndO w li []) := by subst hh14; rw [upd_ne litl]; exact hli
      have hpn : X14 pn = some (.lst []) := by subst hh14; rw [upd_ne (ne_of_none hpn ntl)]; exact hpn
      have hkp : X14 kp = some (.dK []) := by subst hh14; rw [upd_ne (ne_of_none hkp ntl)]; exact hkp
      have Ntl : Nd w X14 tl [] := by subst hh14; exact nd_new lotl
      refine ⟨_, rfl, p, CO, dx, _, rfl, B.ob, c1, T.n_Order__told, (by show 9 < 1000; decide), ?_⟩
      generalize hh15 : upd X14 p _ = X15
      have B : Bld H p dx CO (putF "_told" (.ref tl) (putF "_kept" (.ref kp) (putF "_pending" (.ref pn) (putF "_casts" (.int 0) (putF "_last_indexes" (.ref li) (putF "_log" (.ref lg) (putF "_founder" vf (putF "_members" (.ref am) (putF "_view_id" vvid (putF "_me" vme [])))))))))) X15 := by subst hh15; exact B.put
      have hlg : X15 lg = some (.lst []) := by subst hh15; exact kl hlg
      have hli : X15 li = some (ndO w li []) := by subst hh15; rw [upd_ne lip]; exact hli
      have hpn : X15 pn = some (.lst []) := by subst hh15; rw [upd_ne pnp]; exact hpn
      have hkp : X15 kp = some (.dK []) := by subst hh15; rw [upd_ne kpp]; exact hkp
      have htl : X15 tl = some (ndO w tl []) := by subst hh15; rw [upd_ne tlp]; exact Ntl.ob
      have kt : TupK H X15 := B.tup fun xs e => by rw [hp] at e; cases e
      refine q X15 ⟨dx, vme, vvid, .ref am, vf, lg, li, pn, kp, tl⟩ ⟨B.ob, tme.mono kt, tvid.mono kt, tms.mono kt, tf.mono kt, ⟨[], hlg, .nil⟩, ⟨[], ⟨hli, (fun x h => by cases h), List.nodup_nil, Nat.zero_le _, loli⟩, fun _ => rfl, Nat.le_refl _⟩, ⟨[], hpn, .nil⟩, ⟨[], hkp, fun _ => trivial, rfl, List.nodup_nil⟩, ⟨[], ⟨htl, (fun x h => by cases h), List.nodup_nil, Nat.zero_le _, lotl⟩, fun _ => rfl, Nat.le_refl _⟩, lgpn, litl⟩ ?_
      refine ⟨fun b o e n => B.k b o e fun z => n (by rw [z]; simp), fun b hb => ?_, kt, B.s⟩
      simp only [OA.fp, List.mem_cons, List.not_mem_nil, or_false] at hb ⊢
      rcases hb with hb | hb | hb | hb | hb | hb
      · exact .inl hb
      · rw [hb]; exact .inr hl0
      · rw [hb]; exact .inr hli0
      · rw [hb]; exact .inr hpn0
      · rw [hb]; exact .inr hkp0
      · rw [hb]; exact .inr htl0
end
end Mus

set_option maxRecDepth 100000
set_option maxHeartbeats 4000000
namespace Mus
open PySem PySem.Spec PyProof.Rows L2
/-! ### the law's own model: pure part -/
def lastI (log : List Msg) (m : Mem) : Int := log.foldl (fun l g => if g.1 = m then g.2.1 else l) 0
def toldI (log : List Msg) (m : Mem) : List Int := (log.filter fun g => decide (g.1 = m)).map (·.2.1)
def pnd : Int → List Str → List Int → List Cst
  | _, [], _ => []
  | i, z :: zs, t => if i ∈ t then pnd (i + 1) zs t else (i, z) :: pnd (i + 1) zs t
theorem pnd_snoc : ∀ (i : Int) (zs : List Str) (z : Str) (t : List Int), pnd i (zs ++ [z]) t = pnd i zs t ++ (if i + (zs.length : Int) ∈ t then [] else [(i + (zs.length : Int), z)])
  | i, [], z, t => by
    have e : i + (([] : List Str).length : Int) = i := by simp
    rw [e]; show pnd i [z] t = _
    unfold pnd; split <;> rfl
  | i, y :: zs, z, t => by
    have e : i + ((y :: zs).length : Int) = i + 1 + (zs.length : Int) := by rw [List.length_cons]; omega
    rw [e]
    show pnd i (y :: (zs ++ [z])) t = _
    unfold pnd
    split
    · exact pnd_snoc (i + 1) zs z t
    · rw [List.cons_append, pnd_snoc (i + 1) zs z t]
theorem pnd_told : ∀ (i : Int) (zs : List Str) (t : List Int) (x : Int), pnd i zs (t ++ [x]) = (pnd i zs t).filter fun c => !decide (c.1 = x)
  | _, [], _, _ => rfl
  | i, z :: zs, t, x => by
    have ih := pnd_told (i + 1) zs t x
    unfold pnd
    by_cases h : i ∈ t
    · rw [if_pos (List.mem_append_left _ h), if_pos h, ih]
    · rw [if_neg h]
      by_cases e : i = x
      · rw [if_pos (by simp [e]), ih, List.filter_cons, if_neg (by simp [e])]
      · rw [if_neg (by simp [h, e]), ih, List.filter_cons, if_pos (by simp [e])]
theorem pnd_mem : ∀ {i : Int} {zs : List Str} {t : List Int} {c : Cst}, c ∈ pnd i zs t → i ≤ c.1 ∧ c.1 < i + (zs.length : Int)
  | _, [], _, _, h => by cases h
  | i, z :: zs, t, c, h => by
    rw [List.length_cons]
    unfold pnd at h
    split at h
    · have := pnd_mem h; omega
    · rcases List.mem_cons.mp h with rfl | h
      · show i ≤ i ∧ i < _; omega
      · have := pnd_mem h; omega
theorem pnd_len : ∀ (i : Int) (zs : List Str) (t : List Int), (pnd i zs t).length ≤ zs.length
  | _, [], _ => Nat.le_refl _
  | i, z :: zs, t => by
    have := pnd_len (i + 1) zs t
    unfold pnd
    split <;> simp only [List.length_cons] <;> omega
theorem lastI_snoc (log : List Msg) (g : Msg) (m : Mem) : lastI (log ++ [g]) m = if g.1 = m then g.2.1 else lastI log m := by
  unfold lastI; rw [List.foldl_append]; rfl
theorem toldI_snoc (log : List Msg) (g : Msg) (m : Mem) : toldI (log ++ [g]) m = if g.1 = m then toldI log m ++ [g.2.1] else toldI log m := by
  unfold toldI
  rw [List.filter_append, List.map_append]
  by_cases h : g.1 = m
  · rw [if_pos h]; simp [h]
  · rw [if_neg h]; simp [h]
structure MS where
  own : List Str
  e : Int → Option Msg
  en : Nat
  c : Mem → Option Int
  cn : Nat
/-- the places that are kept are counted -/
def Cnt (s : OS) : Prop := ∃ ks : List Int, (∀ j g, s.kept j = some g → j ∈ ks) ∧ ks.length ≤ s.kn
theorem Cnt.pos {s : OS} (h : Cnt s) {j : Int} {g : Msg} (e : s.kept j = some g) : 1 ≤ s.kn := by
  obtain ⟨ks, h1, h2⟩ := h
  have := List.length_pos_of_mem (h1 j g e)
  omega
theorem Cnt.drop {s : OS} (h : Cnt s) {i : Int} {g : Msg} (e : s.kept i = some g) : Cnt (s.drop i) := by
  obtain ⟨ks, h1, h2⟩ := h
  refine ⟨ks.erase i, fun j x hj => ?_, ?_⟩
  · have hj : (if j = i then none else s.kept j) = some x := hj
    by_cases q : j = i
    · rw [if_pos q] at hj; cases hj
    · rw [if_neg q] at hj
      exact (List.mem_erase_of_ne q).mpr (h1 j x hj)
  · have := List.length_erase_of_mem (h1 i g e)
    have := List.length_pos_of_mem (h1 i g e)
    show (ks.erase i).length ≤ s.kn - 1
    omega
theorem Cnt.keep {s : OS} (h : Cnt s) (i : Int) (g : Msg) : Cnt (s.keep i g) := by
  unfold OS.keep
  split
  · obtain ⟨ks, h1, h2⟩ := h
    refine ⟨i :: ks, fun j x hj => ?_, by rw [List.length_cons]; show ks.length + 1 ≤ s.kn + 1; omega⟩
    have hj : (if j = i then some g else s.kept j) = some x := hj
    by_cases q : j = i
    · rw [q]; exact List.mem_cons_self
    · rw [if_neg q] at hj
      exact List.mem_cons_of_mem _ (h1 j x hj)
  · exact h
/-- what is kept, as the model's early ones beyond the log -/
structure KR (s : OS) (e : Int → Option Msg) : Prop where
  gt : ∀ j, (s.log.length : Int) < j → s.kept j = e j
  le : ∀ j, j ≤ (s.log.length : Int) → s.kept j = none
/-- what holds of an order and of the model beside it -/
structure RR (s : OS) (m : MS) : Prop where
  hd : ∃ l, s.mems = s.fd :: l
  nd : s.mems.Nodup
  len : s.mems.length ≤ 7
  mein : s.me ∈ s.mems
  own : (m.own.length : Int) = s.casts
  pend : s.pend = pnd 1 m.own (toldI s.log s.me)
  last : ∀ x, (s.last x).getD 0 = lastI s.log x
  kr : KR s m.e
  nx : s.kept ((s.log.length : Int) + 1) = none
  cnt : Cnt s
  tl : ∀ x ∈ s.mems, (s.told x).getD 0 = (m.c x).getD 0
  tb : ∀ x, 0 ≤ (s.told x).getD 0 ∧ (s.told x).getD 0 ≤ (s.log.length : Int)
  cb : ∀ x, 0 ≤ (m.c x).getD 0 ∧ (m.c x).getD 0 ≤ (s.log.length : Int)
  al : ∀ g ∈ s.log, g.1 = s.me → g.2.1 ≤ s.casts
  ak : ∀ j g, s.kept j = some g → g.1 = s.me → g.2.1 ≤ s.casts
  c0 : 0 ≤ s.casts
  kf : s.me = s.fd → ∀ j, s.kept j = none
/-- how much there is -/
structure BB (k : Nat) (s : OS) (m : MS) : Prop where
  l : s.log.length + s.kn ≤ k
  o : m.own.length ≤ k
  e : m.en ≤ k
  c : m.cn ≤ k
  t : s.tn ≤ k
theorem RR.pl {s : OS} {m : MS} (r : RR s m) : s.pend.length ≤ m.own.length := by rw [r.pend]; exact pnd_len _ _ _
theorem RR.told {s : OS} {m : MS} (r : RR s m) : ∀ i ∈ toldI s.log s.me, i ≤ s.casts := fun i h => by
  unfold toldI at h
  obtain ⟨g, hg, rfl⟩ := List.mem_map.mp h
  rw [List.mem_filter] at hg
  exact r.al g hg.1 (of_decide_eq_true hg.2)
theorem OS.others_tail {s : OS} {l : List Mem} (h : s.mems = s.fd :: l) (n : s.mems.Nodup) (e : s.me = s.fd) : s.others = l := by
  unfold OS.others
  rw [h] at n ⊢
  rw [List.nodup_cons] at n
  rw [List.filter_cons, if_neg (by simp [e])]
  exact List.filter_eq_self.mpr fun x hx => by
    have : x ≠ s.me := fun z => n.1 (by rw [← e, ← z]; exact hx)
    simp [this]
/-- the pending of a delivery, of a cast -/
theorem pend_deliver {s : OS} {own : List Str} (h : s.pend = pnd 1 own (toldI s.log s.me)) (g : Msg) : (s.deliver g).pend = pnd 1 own (toldI (s.deliver g).log s.me) := by
  show (if g.1 = s.me then s.pend.filter (fun c => !decide (c.1 = g.2.1)) else s.pend) = pnd 1 own (toldI (s.log ++ [g]) s.me)
  rw [toldI_snoc]
  by_cases q : g.1 = s.me
  · rw [if_pos q, if_pos q, pnd_told, h]
  · rw [if_neg q, if_neg q, h]
theorem last_deliver {s : OS} (h : ∀ x, (s.last x).getD 0 = lastI s.log x) (g : Msg) : ∀ x, ((s.deliver g).last x).getD 0 = lastI (s.deliver g).log x := fun x => by
  show ((if x = g.1 then some g.2.1 else s.last x)).getD 0 = lastI (s.log ++ [g]) x
  rw [lastI_snoc]
  by_cases q : x = g.1
  · rw [if_pos q, if_pos q.symm]; rfl
  · rw [if_neg q, if_neg (Ne.symm q)]; exact h x
/-- a cast -/
theorem RR.cast {s : OS} {m : MS} (r : RR s m) (z : Str) : RR (s.cast z).1 { m with own := m.own ++ [z] } := by
  have hn : ¬ (1 + (m.own.length : Int)) ∈ toldI s.log s.me := fun h => by have := r.told _ h; have := r.own; omega
  have e1 : (1 + (m.own.length : Int)) = s.casts + 1 := by have := r.own; omega
  have p1 : pnd 1 (m.own ++ [z]) (toldI s.log s.me) = s.pend ++ [(s.casts + 1, z)] := by
    rw [pnd_snoc, if_neg hn, ← r.pend, e1]
  have lo : (((m.own ++ [z]).length : Nat) : Int) = s.casts + 1 := by rw [List.length_append, List.length_singleton]; have := r.own; omega
  have c0 := r.c0
  by_cases h : s.me = s.fd
  · have e : (s.cast z).1 = ({ s with casts := s.casts + 1 } : OS).deliver (s.me, s.casts + 1, z) := by
      unfold OS.cast; rw [if_pos h]; rfl
    rw [e]
    have pp : (({ s with casts := s.casts + 1 } : OS).deliver (s.me, s.casts + 1, z)).pend = pnd 1 (m.own ++ [z]) (toldI (s.log ++ [(s.me, s.casts + 1, z)]) s.me) := by
      show (if s.me = s.me then s.pend.filter (fun c => !decide (c.1 = s.casts + 1)) else s.pend) = _
      rw [if_pos rfl, toldI_snoc, if_pos rfl, pnd_told, p1, List.filter_append]
      simp
    have ll : ((s.log ++ [(s.me, s.casts + 1, z)]).length : Int) = (s.log.length : Int) + 1 := by rw [List.length_append, List.length_singleton]; omega
    refine ⟨r.hd, r.nd, r.len, r.mein, lo, pp, last_deliver (s := { s with casts := s.casts + 1 }) r.last _, ⟨fun j hj => r.kr.gt j ?_, fun j hj => ?_⟩, ?_, r.cnt, r.tl, fun x => ?_, fun x => ?_, fun g hg e => ?_, fun j g hk e => ?_, ?_, ?_⟩
    · have hj : ((s.log ++ [(s.me, s.casts + 1, z)]).length : Int) < j := hj
      omega
    · have hj : j ≤ ((s.log ++ [(s.me, s.casts + 1, z)]).length : Int) := hj
      show s.kept j = none
      by_cases q : j = (s.log.length : Int) + 1
      · rw [q]; exact r.nx
      · exact r.kr.le j (by omega)
    · show s.kept (((s.log ++ [(s.me, s.casts + 1, z)]).length : Int) + 1) = none
      exact r.kf h _
    · have := r.tb x
      show _ ∧ _ ≤ ((s.log ++ [(s.me, s.casts + 1, z)]).length : Int)
      exact ⟨this.1, by have := this.2; show (s.told x).getD 0 ≤ _; omega⟩
    · have := r.cb x
      show _ ∧ _ ≤ ((s.log ++ [(s.me, s.casts + 1, z)]).length : Int)
      exact ⟨this.1, by have := this.2; show (m.c x).getD 0 ≤ _; omega⟩
    · have hg : g ∈ s.log ++ [(s.me, s.casts + 1, z)] := hg
      show g.2.1 ≤ s.casts + 1
      rcases List.mem_append.mp hg with hg | hg
      · have := r.al g hg e; omega
      · rw [List.mem_singleton.mp hg]; show s.casts + 1 ≤ _; omega
    · show g.2.1 ≤ s.casts + 1
      have := r.ak j g hk e; omega
    · show 0 ≤ s.casts + 1; omega
    · exact fun _ => r.kf h
  · have e : (s.cast z).1 = { s with casts := s.casts + 1, pend := s.pend ++ [(s.casts + 1, z)] } := by
      unfold OS.cast; rw [if_neg h]
    rw [e]
    refine ⟨r.hd, r.nd, r.len, r.mein, lo, p1.symm, r.last, ⟨r.kr.gt, r.kr.le⟩, r.nx, r.cnt, r.tl, r.tb, r.cb, fun g hg e => ?_, fun j g hk e => ?_, ?_, ?_⟩
    · have := r.al g hg e; show g.2.1 ≤ s.casts + 1; omega
    · have := r.ak j g hk e; show g.2.1 ≤ s.casts + 1; omega
    · show 0 ≤ s.casts + 1; omega
    · exact fun q => absurd q h
/-- a message that the founder gives a place -/
theorem RR.decide {s : OS} {m : MS} (r : RR s m) (g : Msg) (h : s.me = s.fd) (hg : g.1 ≠ s.me) : RR (s.deliver g) m := by
  have ll : ((s.log ++ [g]).length : Int) = (s.log.length : Int) + 1 := by rw [List.length_append, List.length_singleton]; omega
  refine ⟨r.hd, r.nd, r.len, r.mein, r.own, pend_deliver r.pend g, last_deliver r.last g, ⟨fun j hj => r.kr.gt j ?_, fun j hj => r.kf h j⟩, r.kf h _, r.cnt, r.tl, fun x => ?_, fun x => ?_, fun g' hg' e => ?_, fun j g' hk e => r.ak j g' hk e, r.c0, fun _ => r.kf h⟩
  · have hj : ((s.log ++ [g]).length : Int) < j := hj
    omega
  · have := r.tb x
    show _ ∧ _ ≤ ((s.log ++ [g]).length : Int)
    exact ⟨this.1, by have := this.2; show (s.told x).getD 0 ≤ _; omega⟩
  · have := r.cb x
    show _ ∧ _ ≤ ((s.log ++ [g]).length : Int)
    exact ⟨this.1, by have := this.2; omega⟩
  · have hg' : g' ∈ s.log ++ [g] := hg'
    show g'.2.1 ≤ s.casts
    rcases List.mem_append.mp hg' with hg' | hg'
    · exact r.al g' hg' e
    · rw [List.mem_singleton.mp hg'] at e; exact absurd e hg
theorem RR.takeCast {s : OS} {m : MS} (r : RR s m) (x : Mem) (v : Vid) (i : Int) (z : Str) : RR (s.takeCast x v i z).1 m := by
  unfold OS.takeCast
  split
  · exact r
  · rename_i h
    split
    · exact r
    · simp only [not_or, Classical.not_not] at h
      refine r.decide (x, i, z) h.1 fun q => ?_
      have := h.2.2
      unfold OS.others at this
      rw [List.mem_filter] at this
      have q : x = s.me := q
      simp [q] at this
/-- what may be between two steps of the delivery of what was kept: all of RR but that nothing is next -/
structure RF (s : OS) (m : MS) : Prop where
  hd : ∃ l, s.mems = s.fd :: l
  nd : s.mems.Nodup
  len : s.mems.length ≤ 7
  mein : s.me ∈ s.mems
  own : (m.own.length : Int) = s.casts
  pend : s.pend = pnd 1 m.own (toldI s.log s.me)
  last : ∀ x, (s.last x).getD 0 = lastI s.log x
  kr : KR s m.e
  cnt : Cnt s
  tl : ∀ x ∈ s.mems, (s.told x).getD 0 = (m.c x).getD 0
  tb : ∀ x, 0 ≤ (s.told x).getD 0 ∧ (s.told x).getD 0 ≤ (s.log.length : Int)
  cb : ∀ x, 0 ≤ (m.c x).getD 0 ∧ (m.c x).getD 0 ≤ (s.log.length : Int)
  al : ∀ g ∈ s.log, g.1 = s.me → g.2.1 ≤ s.casts
  ak : ∀ j g, s.kept j = some g → g.1 = s.me → g.2.1 ≤ s.casts
  c0 : 0 ≤ s.casts
  nf : s.me ≠ s.fd
theorem RR.rf {s : OS} {m : MS} (r : RR s m) (h : s.me ≠ s.fd) : RF s m := ⟨r.hd, r.nd, r.len, r.mein, r.own, r.pend, r.last, r.kr, r.cnt, r.tl, r.tb, r.cb, r.al, r.ak, r.c0, h⟩
theorem RF.rr {s : OS} {m : MS} (r : RF s m) (h : s.kept ((s.log.length : Int) + 1) = none) : RR s m := ⟨r.hd, r.nd, r.len, r.mein, r.own, r.pend, r.last, r.kr, h, r.cnt, r.tl, r.tb, r.cb, r.al, r.ak, r.c0, fun q => absurd q r.nf⟩
theorem RF.step {s : OS} {m : MS} (r : RF s m) {g : Msg} (h : s.kept ((s.log.length : Int) + 1) = some g) : RF ((s.drop ((s.log.length : Int) + 1)).deliver g) m := by
  have ll : ((s.log ++ [g]).length : Int) = (s.log.length : Int) + 1 := by rw [List.length_append, List.length_singleton]; omega
  refine ⟨r.hd, r.nd, r.len, r.mein, r.own, pend_deliver (s := s.drop ((s.log.length : Int) + 1)) r.pend g, last_deliver (s := s.drop ((s.log.length : Int) + 1)) r.last g, ⟨fun j hj => ?_, fun j hj => ?_⟩, r.cnt.drop h, r.tl, fun x => ?_, fun x => ?_, fun g' hg' e => ?_, fun j g' hk e => ?_, r.c0, r.nf⟩
  · have hj : ((s.log ++ [g]).length : Int) < j := hj
    show (if j = (s.log.length : Int) + 1 then none else s.kept j) = m.e j
    rw [if_neg (by omega)]
    exact r.kr.gt j (by omega)
  · have hj : j ≤ ((s.log ++ [g]).length : Int) := hj
    show (if j = (s.log.length : Int) + 1 then none else s.kept j) = none
    split
    · rfl
    · exact r.kr.le j (by omega)
  · have := r.tb x
    show _ ∧ _ ≤ ((s.log ++ [g]).length : Int)
    exact ⟨this.1, by have := this.2; show (s.told x).getD 0 ≤ _; omega⟩
  · have := r.cb x
    show _ ∧ _ ≤ ((s.log ++ [g]).length : Int)
    exact ⟨this.1, by have := this.2; omega⟩
  · have hg' : g' ∈ s.log ++ [g] := hg'
    show g'.2.1 ≤ s.casts
    rcases List.mem_append.mp hg' with hg' | hg'
    · exact r.al g' hg' e
    · rw [List.mem_singleton.mp hg'] at e ⊢; exact r.ak _ _ h e
  · have hk : (if j = (s.log.length : Int) + 1 then none else s.kept j) = some g' := hk
    show g'.2.1 ≤ s.casts
    split at hk
    · cases hk
    · exact r.ak j g' hk e
/-- one message is kept, unless its place is past or taken -/
def MS.keep (m : MS) (i : Int) (g : Msg) : MS := if m.e i = none then { m with e := fun j => if j = i then some g else m.e j, en := m.en + 1 } else m
theorem RF.keep {s : OS} {m : MS} (r : RF s m) {i : Int} {g : Msg} (hi : (s.log.length : Int) < i) (hg : g.1 = s.me → g.2.1 ≤ s.casts) : RF (s.keep i g) (m.keep i g) := by
  have e0 := r.kr.gt i hi
  by_cases q : s.kept i = none
  · have k1 : s.keep i g = { s with kept := fun j => if j = i then some g else s.kept j, kn := s.kn + 1 } := if_pos ⟨hi, q⟩
    have k2 : m.keep i g = { m with e := fun j => if j = i then some g else m.e j, en := m.en + 1 } := if_pos (by rw [← e0]; exact q)
    have c := r.cnt.keep i g
    rw [k1] at c
    rw [k1, k2]
    refine ⟨r.hd, r.nd, r.len, r.mein, r.own, r.pend, r.last, ⟨fun j hj => ?_, fun j hj => ?_⟩, c, r.tl, r.tb, r.cb, r.al, fun j g' hk e => ?_, r.c0, r.nf⟩
    · show (if j = i then some g else s.kept j) = (if j = i then some g else m.e j)
      split
      · rfl
      · exact r.kr.gt j hj
    · have hj : j ≤ (s.log.length : Int) := hj
      show (if j = i then some g else s.kept j) = none
      rw [if_neg (by omega)]; exact r.kr.le j hj
    · have hk : (if j = i then some g else s.kept j) = some g' := hk
      split at hk
      · cases hk; exact hg e
      · exact r.ak j g' hk e
  · have k1 : s.keep i g = s := if_neg fun z => q z.2
    have k2 : m.keep i g = m := if_neg (by rw [← e0]; exact q)
    rw [k1, k2]; exact r
/-- the delivery ends: nothing is next -/
theorem flush_end {s : OS} (h : s.kept ((s.log.length : Int) + 1) = none) : ∀ n, OS.flush n s = (s, [])
  | 0 => rfl
  | n + 1 => by unfold OS.flush; rw [h]
theorem flush_step {s : OS} {g : Msg} (h : s.kept ((s.log.length : Int) + 1) = some g) (c : Cnt s) : OS.flush s.kn s = ((OS.flush ((s.drop ((s.log.length : Int) + 1)).deliver g).kn ((s.drop ((s.log.length : Int) + 1)).deliver g)).1, g :: (OS.flush ((s.drop ((s.log.length : Int) + 1)).deliver g).kn ((s.drop ((s.log.length : Int) + 1)).deliver g)).2) := by
  have := c.pos h
  obtain ⟨k, hk⟩ : ∃ k, s.kn = k + 1 := ⟨s.kn - 1, by omega⟩
  have e : ((s.drop ((s.log.length : Int) + 1)).deliver g).kn = k := by show s.kn - 1 = k; omega
  rw [e, hk]
  show OS.flush (k + 1) s = _
  conv => lhs; unfold OS.flush
  rw [h]
theorem RR.takeOrder_no {s : OS} {m : MS} (r : RR s m) {x : Mem} {v : Vid} {i : Int} {g : Msg} (h : s.me = s.fd ∨ x ≠ s.fd ∨ v ≠ s.vid ∨ i ≤ (s.log.length : Int)) : s.takeOrder x v i g = (s, []) := by
  unfold OS.takeOrder
  split
  · rfl
  · rename_i q
    have hi : i ≤ (s.log.length : Int) := by
      rcases h with h | h | h | h
      · exact absurd (.inl h) q
      · exact absurd (.inr (.inl h)) q
      · exact absurd (.inr (.inr h)) q
      · exact h
    have k1 : s.keep i g = s := if_neg fun z => by have := z.1; omega
    rw [k1]; exact flush_end r.nx _
theorem takeOrder_yes {s : OS} {x : Mem} {v : Vid} {i : Int} {g : Msg} (h1 : s.me ≠ s.fd) (h2 : x = s.fd) (h3 : v = s.vid) : s.takeOrder x v i g = OS.flush (s.keep i g).kn (s.keep i g) := if_neg (by simp only [not_or, Classical.not_not]; exact ⟨h1, h2, h3⟩)
/-- a count -/
def MS.heard (m : MS) (x : Mem) (n : Int) : MS := { m with c := fun y => if y = x then some (if (m.c x).getD 0 > n then (m.c x).getD 0 else n) else m.c y, cn := m.cn + 1 }
theorem RR.heard {s : OS} {m : MS} (r : RR s m) {x : Mem} {n : Int} (h0 : 0 ≤ n) (h1 : n ≤ (s.log.length : Int)) : RR (s.heard x n) (m.heard x n) := by
  have mx : ∀ t : Int, 0 ≤ t → t ≤ (s.log.length : Int) → 0 ≤ (if t > n then t else n) ∧ (if t > n then t else n) ≤ (s.log.length : Int) := fun t a b => by split <;> omega
  have cb : ∀ y, 0 ≤ ((m.heard x n).c y).getD 0 ∧ ((m.heard x n).c y).getD 0 ≤ (s.log.length : Int) := fun y => by
    show 0 ≤ (if y = x then some _ else m.c y).getD 0 ∧ (if y = x then some _ else m.c y).getD 0 ≤ _
    split
    · exact mx _ (r.cb x).1 (r.cb x).2
    · exact r.cb y
  by_cases q : x ∈ s.mems
  · have e : s.heard x n = { s with told := fun y => if y = x then some (if (s.told x).getD 0 > n then (s.told x).getD 0 else n) else s.told y, tn := if (s.told x).isSome then s.tn else s.tn + 1 } := if_pos q
    rw [e]
    refine ⟨r.hd, r.nd, r.len, r.mein, r.own, r.pend, r.last, ⟨r.kr.gt, r.kr.le⟩, r.nx, r.cnt, fun y hy => ?_, fun y => ?_, cb, r.al, r.ak, r.c0, r.kf⟩
    · show (if y = x then some _ else s.told y).getD 0 = (if y = x then some _ else m.c y).getD 0
      split
      · rw [r.tl x q]
      · exact r.tl y hy
    · show 0 ≤ (if y = x then some _ else s.told y).getD 0 ∧ (if y = x then some _ else s.told y).getD 0 ≤ _
      split
      · exact mx _ (r.tb x).1 (r.tb x).2
      · exact r.tb y
  · have e : s.heard x n = s := if_neg q
    rw [e]
    refine ⟨r.hd, r.nd, r.len, r.mein, r.own, r.pend, r.last, ⟨r.kr.gt, r.kr.le⟩, r.nx, r.cnt, fun y hy => ?_, r.tb, cb, r.al, r.ak, r.c0, r.kf⟩
    show _ = (if y = x then some _ else m.c y).getD 0
    rw [if_neg (fun (z : y = x) => q (by rw [← z]; exact hy))]
    exact r.tl y hy
def MS.new : MS := ⟨[], fun _ => none, 0, fun _ => none, 0⟩
theorem rr_new {me : Mem} {vid : Vid} {mems l : List Mem} {fd : Mem} (h : mems = fd :: l) (n : mems.Nodup) (hl : mems.length ≤ 7) (hm : me ∈ mems) : RR (OS.new me vid mems fd) MS.new :=
  ⟨⟨l, h⟩, n, hl, hm, rfl, rfl, fun _ => rfl, ⟨fun _ _ => rfl, fun _ _ => rfl⟩, rfl, ⟨[], fun j g e => (by cases e), Nat.le_refl _⟩, fun _ _ => rfl, fun _ => ⟨Int.le_refl _, Int.le_refl _⟩, fun _ => ⟨Int.le_refl _, Int.le_refl _⟩, fun g h => (by cases h), fun j g e => (by cases e), Int.le_refl _, fun _ _ => rfl⟩
/-- the letters that tell n messages from the t-th on -/
def ordR (s : OS) (m : Mem) (t n : Nat) : List Pkt := (List.range n).map fun (j : Nat) => (m.1, Ltr.order s.me s.vid ((t : Int) + 1 + (j : Int)) (s.log.getD (t + j) (((0, 0), 0, ⟨#[]⟩) : Msg)))
theorem ordR_behind {s : OS} {m : Mem} {t : Nat} (h : (s.told m).getD 0 = (t : Int)) : s.behind m = ordR s m t (min (s.log.length - t) 16) := by
  unfold OS.behind ordR
  rw [h, Int.toNat_natCast]
  refine List.ext_getElem (by simp [Nat.min_comm]) fun i h1 h2 => ?_
  have h3 : i < s.log.length - t := by
    have : i < (((s.log.drop t).take 16).mapIdx fun j g => (m.1, Ltr.order s.me s.vid ((t : Int) + 1 + (j : Int)) g)).length := h1
    rw [List.length_mapIdx, List.length_take, List.length_drop] at this
    omega
  have h4 : s.log.getD (t + i) (((0, 0), 0, ⟨#[]⟩) : Msg) = s.log[t + i]'(by omega) := by
    rw [List.getD_eq_getElem?_getD, List.getElem?_eq_getElem (by omega)]; rfl
  show (((s.log.drop t).take 16).mapIdx fun j g => (m.1, Ltr.order s.me s.vid ((t : Int) + 1 + (j : Int)) g))[i] = _
  rw [List.getElem_mapIdx, List.getElem_map, List.getElem_range, List.getElem_take, List.getElem_drop, h4]
theorem ordR_one {s : OS} {m : Mem} {l : List Msg} {g : Msg} (h : s.log = l ++ [g]) : ordR s m l.length 1 = [(m.1, Ltr.order s.me s.vid ((l.length : Int) + 1) g)] := by
  unfold ordR
  have : s.log.getD (l.length + 0) (((0, 0), 0, ⟨#[]⟩) : Msg) = g := by rw [h, List.getD_eq_getElem?_getD]; simp
  show [(m.1, Ltr.order s.me s.vid ((l.length : Int) + 1 + ((0 : Nat) : Int)) (s.log.getD (l.length + 0) _))] = _
  rw [this]; simp
end Mus

set_option maxRecDepth 100000
set_option maxHeartbeats 4000000
namespace Mus
open PySem PySem.Spec PyProof.Rows L2
/-! ### orders beside one another: pure part -/
def cntG (L : List Msg) (m : Mem) : Nat := (L.filter fun g => decide (g.1 = m)).length
theorem cntG_snoc (L : List Msg) (g : Msg) (m : Mem) : cntG (L ++ [g]) m = if g.1 = m then cntG L m + 1 else cntG L m := by
  unfold cntG
  rw [List.filter_append, List.length_append]
  by_cases h : g.1 = m
  · rw [if_pos h]; simp [h]
  · rw [if_neg h]; simp [h]
theorem cntG_le (L : List Msg) (m : Mem) : cntG L m ≤ L.length := List.length_filter_le _ _
/-- the casts from the i-th on -/
def pd : Int → List Str → List Cst
  | _, [] => []
  | i, z :: zs => (i, z) :: pd (i + 1) zs
theorem pd_snoc : ∀ (i : Int) (zs : List Str) (z : Str), pd i (zs ++ [z]) = pd i zs ++ [(i + (zs.length : Int), z)]
  | i, [], z => by
    show [(i, z)] = [(i + ((0 : Nat) : Int), z)]
    simp
  | i, y :: zs, z => by
    show (i, y) :: pd (i + 1) (zs ++ [z]) = (i, y) :: (pd (i + 1) zs ++ [(i + (((y :: zs).length : Nat) : Int), z)])
    rw [pd_snoc, List.length_cons]
    have e : i + 1 + (zs.length : Int) = i + ((zs.length + 1 : Nat) : Int) := by omega
    rw [e]
theorem pd_gt : ∀ {i : Int} {zs : List Str} {c : Cst}, c ∈ pd i zs → i ≤ c.1
  | _, [], _, h => by cases h
  | i, z :: zs, c, h => by
    rcases List.mem_cons.mp h with rfl | h
    · exact Int.le_refl _
    · have := pd_gt h; omega
theorem pd_at : ∀ {i : Int} {zs : List Str} {c : Cst}, c ∈ pd i zs → ∃ k : Nat, c.1 = i + (k : Int) ∧ zs[k]? = some c.2
  | _, [], _, h => by cases h
  | i, z :: zs, c, h => by
    rcases List.mem_cons.mp h with rfl | h
    · exact ⟨0, by simp, rfl⟩
    · obtain ⟨k, h1, h2⟩ := pd_at h
      exact ⟨k + 1, by omega, h2⟩
theorem pd_len : ∀ (i : Int) (zs : List Str), (pd i zs).length = zs.length
  | _, [] => rfl
  | i, _ :: zs => congrArg (· + 1) (pd_len (i + 1) zs)
theorem pd_filter (i : Int) (zs : List Str) : (pd i zs).filter (fun c => !decide (c.1 = i)) = pd (i + 1) (zs.drop 1) := by
  cases zs with
  | nil => rfl
  | cons z zs =>
    show ((i, z) :: pd (i + 1) zs).filter (fun c => !decide (c.1 = i)) = pd (i + 1) zs
    rw [List.filter_cons, if_neg (by simp)]
    exact List.filter_eq_self.mpr fun c hc => by have := pd_gt hc; simp; omega
/-- a log in which every message is the next one of its sender, one of its casts, and behind its causes -/
def WF (ms : List Mem) (cs : Mem → List Str) (ca : Mem × Int → Option Int) (L : List Msg) : Prop :=
  ∀ k g, L[k]? = some g → g.1 ∈ ms ∧ g.2.1 = (cntG (L.take k) g.1 : Int) + 1 ∧ (cs g.1)[cntG (L.take k) g.1]? = some g.2.2 ∧ ∃ c, ca (g.1, g.2.1) = some c ∧ c ≤ (k : Int)
theorem pre_at {α : Type} {A B : List α} (h : A <+: B) {k : Nat} {x : α} (hk : A[k]? = some x) : B[k]? = some x ∧ B.take k = A.take k := by
  obtain ⟨C, rfl⟩ := h
  have hl : k < A.length := (List.getElem?_eq_some_iff.mp hk).1
  exact ⟨by rw [List.getElem?_append_left hl]; exact hk, List.take_append_of_le_length (by omega)⟩
theorem WF.pre {ms : List Mem} {cs : Mem → List Str} {ca : Mem × Int → Option Int} {A B : List Msg} (h : WF ms cs ca B) (p : A <+: B) : WF ms cs ca A := fun k g hk => by
  obtain ⟨h1, h2⟩ := pre_at p hk
  have := h k g h1
  rw [h2] at this
  exact this
theorem WF.snoc {ms : List Mem} {cs : Mem → List Str} {ca : Mem × Int → Option Int} {L : List Msg} (h : WF ms cs ca L) {g : Msg} (h1 : g.1 ∈ ms) (h2 : g.2.1 = (cntG L g.1 : Int) + 1) (h3 : (cs g.1)[cntG L g.1]? = some g.2.2) (h4 : ∃ c, ca (g.1, g.2.1) = some c ∧ c ≤ (L.length : Int)) : WF ms cs ca (L ++ [g]) := fun k x hk => by
  rcases Nat.lt_trichotomy k L.length with q | q | q
  · rw [List.getElem?_append_left q] at hk
    rw [List.take_append_of_le_length (by omega)]
    exact h k x hk
  · subst q
    rw [List.getElem?_append_right (Nat.le_refl _), Nat.sub_self] at hk
    cases hk
    rw [List.take_left' rfl]
    exact ⟨h1, h2, h3, h4⟩
  · rw [List.getElem?_eq_none (by rw [List.length_append, List.length_singleton]; omega)] at hk
    cases hk
/-- the casts grow -/
def CsLe (cs cs' : Mem → List Str) : Prop := ∀ m, cs m <+: cs' m
def CaLe (ca ca' : Mem × Int → Option Int) : Prop := ∀ k c, ca k = some c → ca' k = some c
theorem WF.more {ms : List Mem} {cs cs' : Mem → List Str} {ca ca' : Mem × Int → Option Int} {L : List Msg} (h : WF ms cs ca L) (a : CsLe cs cs') (b : CaLe ca ca') : WF ms cs' ca' L := fun k g hk => by
  obtain ⟨h1, h2, h3, c, h4, h5⟩ := h k g hk
  exact ⟨h1, h2, (pre_at (a g.1) h3).1, c, b _ _ h4, h5⟩
theorem WF.cnt {ms : List Mem} {cs : Mem → List Str} {ca : Mem × Int → Option Int} {L : List Msg} (h : WF ms cs ca L) (m : Mem) : cntG L m ≤ (cs m).length := by
  have key : ∀ j, cntG (L.take j) m ≤ (cs m).length := fun j => by
    induction j with
    | zero => exact Nat.zero_le _
    | succ j ih =>
      rw [List.take_succ]
      cases e : L[j]? with
      | none => simpa using ih
      | some g =>
        show cntG (L.take j ++ [g]) m ≤ _
        rw [cntG_snoc]
        split
        · rename_i q
          subst q
          have := (List.getElem?_eq_some_iff.mp (h j g e).2.2.1).1
          omega
        · exact ih
  have := key L.length
  rwa [List.take_length] at this
/-! ### one order -/
structure OI (ms : List Mem) (v0 : Vid) (cs : Mem → List Str) (L : List Msg) (k : Nat) (s : OS) : Prop where
  me : ms[k]? = some s.me
  vid : s.vid = v0
  mems : s.mems = ms
  fd : ms[0]? = some s.fd
  pre : s.log <+: L
  last : ∀ x, (s.last x).getD 0 = (cntG s.log x : Int)
  casts : s.casts = ((cs s.me).length : Int)
  kept : ∀ j g, s.kept j = some g → 1 ≤ j ∧ L[(j - 1).toNat]? = some g
  cnt : Cnt s
  pend : k ≠ 0 → s.pend = pd ((cntG s.log s.me : Int) + 1) ((cs s.me).drop (cntG s.log s.me))
  pend0 : k = 0 → s.pend = []
  kf : k = 0 → ∀ j, s.kept j = none
/-- nothing that is next is kept -/
def OS.Nx (s : OS) : Prop := s.kept ((s.log.length : Int) + 1) = none
theorem pre_next {α : Type} {A B : List α} (p : A <+: B) {x : α} (h : B[A.length]? = some x) : A ++ [x] <+: B := by
  obtain ⟨C, rfl⟩ := p
  rw [List.getElem?_append_right (Nat.le_refl _), Nat.sub_self] at h
  cases C with
  | nil => cases h
  | cons y C =>
    cases h
    exact ⟨C, by simp⟩
theorem OI.deliver {ms : List Mem} {v0 : Vid} {cs : Mem → List Str} {ca : Mem × Int → Option Int} {L : List Msg} {k : Nat} {s : OS} (h : OI ms v0 cs L k s) (wf : WF ms cs ca L) {g : Msg} (hg : L[s.log.length]? = some g) : OI ms v0 cs L k (s.deliver g) := by
  have hp := pre_next h.pre hg
  have hw := wf _ _ hg
  have ht : L.take s.log.length = s.log := by
    obtain ⟨C, e⟩ := h.pre
    rw [← e, List.take_left' rfl]
  rw [ht] at hw
  refine ⟨h.me, h.vid, h.mems, h.fd, hp, fun x => ?_, h.casts, h.kept, h.cnt, fun k0 => ?_, fun k0 => ?_, h.kf⟩
  · show (if x = g.1 then some g.2.1 else s.last x).getD 0 = (cntG (s.log ++ [g]) x : Int)
    rw [cntG_snoc]
    by_cases e : x = g.1
    · subst e
      rw [if_pos rfl, if_pos rfl]
      show g.2.1 = _
      rw [hw.2.1]; omega
    · rw [if_neg e, if_neg (Ne.symm e)]; exact h.last x
  · show (if g.1 = s.me then s.pend.filter (fun c => !decide (c.1 = g.2.1)) else s.pend) = pd ((cntG (s.log ++ [g]) s.me : Int) + 1) ((cs s.me).drop (cntG (s.log ++ [g]) s.me))
    rw [cntG_snoc, h.pend k0]
    by_cases e : g.1 = s.me
    · rw [if_pos e, if_pos e]
      have hi := hw.2.1
      rw [e] at hi
      rw [hi, pd_filter, List.drop_drop]
      have e2 : ((cntG s.log s.me + 1 : Nat) : Int) + 1 = (cntG s.log s.me : Int) + 1 + 1 := by omega
      rw [e2]
    · rw [if_neg e, if_neg e]
  · show (if g.1 = s.me then s.pend.filter _ else s.pend) = []
    rw [h.pend0 k0]
    split <;> rfl
theorem OI.drop {ms : List Mem} {v0 : Vid} {cs : Mem → List Str} {L : List Msg} {k : Nat} {s : OS} (h : OI ms v0 cs L k s) {i : Int} {g : Msg} (e : s.kept i = some g) : OI ms v0 cs L k (s.drop i) := by
  refine ⟨h.me, h.vid, h.mems, h.fd, h.pre, h.last, h.casts, fun j x hj => ?_, h.cnt.drop e, h.pend, h.pend0, fun k0 j => ?_⟩
  · have hj : (if j = i then none else s.kept j) = some x := hj
    split at hj
    · cases hj
    · exact h.kept j x hj
  · show (if j = i then none else s.kept j) = none
    rw [h.kf k0 j]; split <;> rfl
theorem OI.flush {ms : List Mem} {v0 : Vid} {cs : Mem → List Str} {ca : Mem × Int → Option Int} {L : List Msg} {k : Nat} (wf : WF ms cs ca L) : ∀ (n : Nat) {s : OS}, OI ms v0 cs L k s → s.kn ≤ n →
    OI ms v0 cs L k (OS.flush n s).1 ∧ (OS.flush n s).1.Nx ∧ s.log <+: (OS.flush n s).1.log ∧ (OS.flush n s).1.told = s.told ∧ (∀ g, s.kept ((s.log.length : Int) + 1) = some g → s.log.length < (OS.flush n s).1.log.length)
  | 0, s, h, hn => by
    have hx : s.kept ((s.log.length : Int) + 1) = none := by
      cases e : s.kept ((s.log.length : Int) + 1) with
      | none => rfl
      | some g => have := h.cnt.pos e; omega
    exact ⟨h, hx, List.prefix_refl _, rfl, fun g e => by rw [hx] at e; cases e⟩
  | n + 1, s, h, hn => by
    cases e : s.kept ((s.log.length : Int) + 1) with
    | none =>
      have ef : OS.flush (n + 1) s = (s, []) := by unfold OS.flush; rw [e]
      rw [ef]
      exact ⟨h, e, List.prefix_refl _, rfl, fun g e => by cases e⟩
    | some g =>
      have hk := (h.kept _ _ e).2
      have ek : ((s.log.length : Int) + 1 - 1).toNat = s.log.length := by omega
      rw [ek] at hk
      have ef : OS.flush (n + 1) s = ((OS.flush n ((s.drop ((s.log.length : Int) + 1)).deliver g)).1, g :: (OS.flush n ((s.drop ((s.log.length : Int) + 1)).deliver g)).2) := by
        conv => lhs; unfold OS.flush
        rw [e]
      have hd : OI ms v0 cs L k ((s.drop ((s.log.length : Int) + 1)).deliver g) := (h.drop e).deliver wf hk
      obtain ⟨i1, i2, i3, i4, _⟩ := OI.flush wf n hd (by show s.kn - 1 ≤ n; omega)
      have p : s.log <+: (OS.flush n ((s.drop ((s.log.length : Int) + 1)).deliver g)).1.log := List.IsPrefix.trans ⟨[g], rfl⟩ i3
      rw [ef]
      refine ⟨i1, i2, p, i4, fun _ _ => ?_⟩
      have := i3.length_le
      have l1 : ((s.drop ((s.log.length : Int) + 1)).deliver g).log.length = s.log.length + 1 := by
        show (s.log ++ [g]).length = _
        rw [List.length_append, List.length_singleton]
      show s.log.length < (OS.flush n ((s.drop ((s.log.length : Int) + 1)).deliver g)).1.log.length
      omega
end Mus

set_option maxRecDepth 100000
set_option maxHeartbeats 4000000
namespace Mus
open PySem PySem.Spec PyProof.Rows L2
theorem OI.mono {ms : List Mem} {v0 : Vid} {cs : Mem → List Str} {L L' : List Msg} {k : Nat} {s : OS} (h : OI ms v0 cs L k s) (p : L <+: L') : OI ms v0 cs L' k s :=
  ⟨h.me, h.vid, h.mems, h.fd, List.IsPrefix.trans h.pre p, h.last, h.casts, fun j g e => ⟨(h.kept j g e).1, (pre_at p (h.kept j g e).2).1⟩, h.cnt, h.pend, h.pend0, h.kf⟩
theorem OI.keep {ms : List Mem} {v0 : Vid} {cs : Mem → List Str} {L : List Msg} {k : Nat} {s : OS} (h : OI ms v0 cs L k s) (k0 : k ≠ 0) {i : Int} {g : Msg} (h1 : 1 ≤ i) (h2 : L[(i - 1).toNat]? = some g) : OI ms v0 cs L k (s.keep i g) := by
  have c := h.cnt.keep i g
  unfold OS.keep at c ⊢
  split
  · rename_i q
    rw [if_pos q] at c
    refine ⟨h.me, h.vid, h.mems, h.fd, h.pre, h.last, h.casts, fun j x hj => ?_, c, h.pend, h.pend0, fun z => absurd z k0⟩
    have hj : (if j = i then some g else s.kept j) = some x := hj
    split at hj
    · rename_i e; cases hj; rw [e]; exact ⟨h1, h2⟩
    · exact h.kept j x hj
  · exact h
def upF (os : Nat → OS) (k : Nat) (s : OS) : Nat → OS := fun j => if j = k then s else os j
theorem upF_at (os : Nat → OS) (k : Nat) (s : OS) : upF os k s k = s := if_pos rfl
theorem upF_ne (os : Nat → OS) {k j : Nat} (s : OS) (h : j ≠ k) : upF os k s j = os j := if_neg h
theorem upF_self (os : Nat → OS) (k : Nat) : upF os k (os k) = os := funext fun j => by
  unfold upF
  split
  · rename_i e; rw [e]
  · rfl
structure IV (ms : List Mem) (v0 : Vid) (os : Nat → OS) (cs : Mem → List Str) (ca : Mem × Int → Option Int) : Prop where
  nd : (ms.map (·.1)).Nodup
  n0 : 0 < ms.length
  oi : ∀ k, k < ms.length → OI ms v0 cs (os 0).log k (os k)
  nx : ∀ k, k < ms.length → (os k).Nx
  wf : WF ms cs ca (os 0).log
  gb : ∀ m ∈ ms, ∀ ix : Nat, ix < (cs m).length → ∃ c, ca (m, (ix : Int) + 1) = some c ∧ c ≤ ((os 0).log.length : Int)
  cab : ∀ m i c, ca (m, i) = some c → 1 ≤ i ∧ i ≤ ((cs m).length : Int)
  own : ∀ m, ms[0]? = some m → cntG (os 0).log m = (cs m).length
  t0 : ∀ k, k < ms.length → ∀ m, 0 ≤ ((os k).told m).getD 0 ∧ ((os k).told m).getD 0 ≤ ((os 0).log.length : Int)
  tk : ∀ k m, 0 < k → ms[k]? = some m → ((os 0).told m).getD 0 ≤ ((os k).log.length : Int)
def LOk (ms : List Mem) (cs : Mem → List Str) (L : List Msg) : Ltr → Prop
  | .cast x _ i z => x ∈ ms ∧ 1 ≤ i ∧ (cs x)[(i - 1).toNat]? = some z
  | .order _ _ i g => 1 ≤ i ∧ L[(i - 1).toNat]? = some g
  | _ => False
def POk (ms : List Mem) (cs : Mem → List Str) (L : List Msg) (p : Pkt) : Prop := (∃ m ∈ ms, m.1 = p.1) ∧ LOk ms cs L p.2
theorem LOk.more {ms : List Mem} {cs cs' : Mem → List Str} {L L' : List Msg} {l : Ltr} (h : LOk ms cs L l) (a : CsLe cs cs') (p : L <+: L') : LOk ms cs' L' l := by
  cases l <;> try exact h
  · obtain ⟨h1, h2, h3⟩ := h
    exact ⟨h1, h2, (pre_at (a _) h3).1⟩
  · obtain ⟨h1, h2⟩ := h
    exact ⟨h1, (pre_at p h2).1⟩
theorem POk.more {ms : List Mem} {cs cs' : Mem → List Str} {L L' : List Msg} {q : Pkt} (h : POk ms cs L q) (a : CsLe cs cs') (p : L <+: L') : POk ms cs' L' q := ⟨h.1, h.2.more a p⟩
theorem CsLe.refl (cs : Mem → List Str) : CsLe cs cs := fun _ => List.prefix_refl _
theorem nd_of {ms : List Mem} (h : (ms.map (·.1)).Nodup) : ms.Nodup := List.Pairwise.of_map (S := fun a b : Int => a ≠ b) (·.1) (fun a b n e => n (by rw [e])) h
theorem idx_inj {ms : List Mem} (h : ms.Nodup) {i j : Nat} {m : Mem} (h1 : ms[i]? = some m) (h2 : ms[j]? = some m) : i = j := by
  have l1 := (List.getElem?_eq_some_iff.mp h1).1
  have l2 := (List.getElem?_eq_some_iff.mp h2).1
  exact (List.getElem?_inj l1 h).mp (h1.trans h2.symm)
section
variable {ms : List Mem} {v0 : Vid} {os : Nat → OS} {cs : Mem → List Str} {ca : Mem × Int → Option Int}
theorem IV.log0 (I : IV ms v0 os cs ca) : (os 0).log = (os 0).log := rfl
theorem IV.pre (I : IV ms v0 os cs ca) {k : Nat} (hk : k < ms.length) : (os k).log <+: (os 0).log := (I.oi k hk).pre
theorem others_mem {s : OS} {ms : List Mem} (h : s.mems = ms) {m : Mem} (hm : m ∈ s.others) : m ∈ ms ∧ m ≠ s.me := by
  unfold OS.others at hm
  rw [List.mem_filter, h] at hm
  exact ⟨hm.1, by simpa using hm.2⟩
theorem ords_ok {s : OS} {L : List Msg} (h : s.mems = ms) {n : Nat} {g : Msg} (hg : L[n]? = some g) : ∀ p ∈ s.ords ((n : Int) + 1) g, POk ms cs L p := fun p hp => by
  obtain ⟨m, hm, rfl⟩ := List.mem_map.mp hp
  refine ⟨⟨m, (others_mem h hm).1, rfl⟩, by omega, ?_⟩
  have e : ((n : Int) + 1 - 1).toNat = n := by omega
  rw [e]; exact hg
theorem IV.take (I : IV ms v0 os cs ca) {k : Nat} (hk : k < ms.length) {l : Ltr} (hl : LOk ms cs (os 0).log l) :
    IV ms v0 (upF os k ((os k).take l).1) cs ca ∧ (∀ p ∈ ((os k).take l).2.2, POk ms cs (upF os k ((os k).take l).1 0).log p) ∧ (os k).log <+: ((os k).take l).1.log := by
  have O := I.oi k hk
  have triv : (os k).take l = (os k, [], []) → IV ms v0 (upF os k ((os k).take l).1) cs ca ∧ (∀ p ∈ ((os k).take l).2.2, POk ms cs (upF os k ((os k).take l).1 0).log p) ∧ (os k).log <+: ((os k).take l).1.log := fun e => by
    rw [e]
    exact ⟨by rw [upF_self]; exact I, fun p hp => (by cases hp), List.prefix_refl _⟩
  cases l <;> try exact hl.elim
  case cast x v i z =>
    obtain ⟨hx, hi, hz⟩ := hl
    by_cases c1 : (os k).me ≠ (os k).fd ∨ v ≠ (os k).vid ∨ x ∉ (os k).others
    · exact triv (if_pos c1)
    by_cases c2 : i ≠ ((os k).last x).getD 0 + 1
    · exact triv ((if_neg c1).trans (if_pos c2))
    have e : (os k).take (.cast x v i z) = (os k).decide (x, i, z) := (if_neg c1).trans (if_neg c2)
    simp only [not_or, Classical.not_not] at c1 c2
    have k0 : k = 0 := idx_inj (nd_of I.nd) (by rw [O.me, c1.1]) O.fd
    subst k0
    rw [e]
    have hxo := others_mem O.mems c1.2.2
    have ci : i = (cntG (os 0).log x : Int) + 1 := by rw [c2, O.last]
    have hz2 : (cs x)[cntG (os 0).log x]? = some z := by
      have : (i - 1).toNat = cntG (os 0).log x := by omega
      rwa [this] at hz
    have hlt := (List.getElem?_eq_some_iff.mp hz2).1
    obtain ⟨c, hc1, hc2⟩ := I.gb x hx _ hlt
    have wf2 : WF ms cs ca ((os 0).log ++ [(x, i, z)]) := I.wf.snoc (g := (x, i, z)) hx ci hz2 ⟨c, by rw [← hc1, ci], hc2⟩
    have p2 : (os 0).log <+: (os 0).log ++ [(x, i, z)] := ⟨_, rfl⟩
    have hg : ((os 0).log ++ [(x, i, z)])[(os 0).log.length]? = some (x, i, z) := by
      rw [List.getElem?_append_right (Nat.le_refl _), Nat.sub_self]; rfl
    have d0 : OI ms v0 cs ((os 0).log ++ [(x, i, z)]) 0 ((os 0).deliver (x, i, z)) := (O.mono p2).deliver wf2 hg
    have len2 : (((os 0).log ++ [(x, i, z)]).length : Int) = ((os 0).log.length : Int) + 1 := by rw [List.length_append, List.length_singleton]; omega
    refine ⟨⟨I.nd, I.n0, fun j hj => ?_, fun j hj => ?_, ?_, fun m hm ix hix => ?_, I.cab, fun m hm => ?_, fun j hj m => ?_, fun j m hj hm => ?_⟩, ?_, ⟨_, rfl⟩⟩
    · rw [upF_at]
      by_cases q : j = 0
      · subst q; rw [upF_at]; exact d0
      · rw [upF_ne _ _ q]; exact (I.oi j hj).mono p2
    · by_cases q : j = 0
      · subst q; rw [upF_at]; exact d0.kf rfl _
      · rw [upF_ne _ _ q]; exact I.nx j hj
    · rw [upF_at]; exact wf2
    · rw [upF_at]
      obtain ⟨c, h1, h2⟩ := I.gb m hm ix hix
      exact ⟨c, h1, by show c ≤ (((os 0).log ++ [(x, i, z)]).length : Int); omega⟩
    · rw [upF_at]
      show cntG ((os 0).log ++ [(x, i, z)]) m = _
      have : ¬ x = m := fun e => hxo.2 (by rw [e]; exact Option.some.inj (hm.symm.trans (O.me)))
      rw [cntG_snoc, if_neg this]
      exact I.own m hm
    · rw [upF_at]
      show _ ∧ _ ≤ (((os 0).log ++ [(x, i, z)]).length : Int)
      by_cases q : j = 0
      · subst q; rw [upF_at]
        have := I.t0 0 hj m
        show 0 ≤ ((os 0).told m).getD 0 ∧ ((os 0).told m).getD 0 ≤ _
        omega
      · rw [upF_ne _ _ q]
        have := I.t0 j hj m
        omega
    · rw [upF_at, upF_ne _ _ (by omega)]
      exact I.tk j m hj hm
    · rw [upF_at]
      exact ords_ok O.mems hg
  case order x v i g =>
    obtain ⟨hi, hg⟩ := hl
    by_cases c1 : (os k).me = (os k).fd ∨ x ≠ (os k).fd ∨ v ≠ (os k).vid
    · have e : (os k).takeOrder x v i g = (os k, []) := if_pos c1
      refine triv ?_
      show (((os k).takeOrder x v i g).1, ((os k).takeOrder x v i g).2, ([] : List Pkt)) = _
      rw [e]
    have e : (os k).takeOrder x v i g = OS.flush ((os k).keep i g).kn ((os k).keep i g) := if_neg c1
    simp only [not_or] at c1
    have k0 : k ≠ 0 := fun q => c1.1 (by subst q; exact Option.some.inj (O.me.symm.trans O.fd))
    have K := O.keep k0 hi hg
    obtain ⟨f1, f2, f3, f4, f5⟩ := OI.flush I.wf _ K (Nat.le_refl _)
    have kl : ((os k).keep i g).log = (os k).log := by unfold OS.keep; split <;> rfl
    have kt : ((os k).keep i g).told = (os k).told := by unfold OS.keep; split <;> rfl
    have er : ((os k).take (.order x v i g)).1 = (OS.flush ((os k).keep i g).kn ((os k).keep i g)).1 := by
      show ((os k).takeOrder x v i g).1 = _
      rw [e]
    rw [er]
    rw [kl] at f3
    rw [kt] at f4
    have u0 : upF os k (OS.flush ((os k).keep i g).kn ((os k).keep i g)).1 0 = os 0 := upF_ne _ _ (Ne.symm k0)
    refine ⟨⟨I.nd, I.n0, fun j hj => ?_, fun j hj => ?_, ?_, ?_, I.cab, ?_, fun j hj m => ?_, fun j m hj hm => ?_⟩, fun p hp => (by cases hp), f3⟩
    · rw [u0]
      by_cases q : j = k
      · subst q; rw [upF_at]; exact f1
      · rw [upF_ne _ _ q]; exact I.oi j hj
    · by_cases q : j = k
      · subst q; rw [upF_at]; exact f2
      · rw [upF_ne _ _ q]; exact I.nx j hj
    · rw [u0]; exact I.wf
    · rw [u0]; exact I.gb
    · rw [u0]; exact I.own
    · rw [u0]
      by_cases q : j = k
      · subst q; rw [upF_at, f4]; exact I.t0 j hj m
      · rw [upF_ne _ _ q]; exact I.t0 j hj m
    · rw [u0]
      by_cases q : j = k
      · subst q; rw [upF_at]
        have := I.tk j m hj hm
        have := f3.length_le
        omega
      · rw [upF_ne _ _ q]; exact I.tk j m hj hm
end
end Mus

set_option maxRecDepth 100000
set_option maxHeartbeats 4000000
namespace Mus
open PySem PySem.Spec PyProof.Rows L2
theorem OI.cs {ms : List Mem} {v0 : Vid} {cs cs' : Mem → List Str} {L : List Msg} {k : Nat} {s : OS} (h : OI ms v0 cs L k s) (e : cs' s.me = cs s.me) : OI ms v0 cs' L k s :=
  ⟨h.me, h.vid, h.mems, h.fd, h.pre, h.last, by rw [e]; exact h.casts, h.kept, h.cnt, by rw [e]; exact h.pend, h.pend0, h.kf⟩
def csA (cs : Mem → List Str) (me : Mem) (z : Str) : Mem → List Str := fun m => if m = me then cs m ++ [z] else cs m
def caA (ca : Mem × Int → Option Int) (q : Mem × Int) (n : Int) : Mem × Int → Option Int := fun x => if x = q then some n else ca x
theorem csA_at (cs : Mem → List Str) (me : Mem) (z : Str) : csA cs me z me = cs me ++ [z] := if_pos rfl
theorem csA_ne (cs : Mem → List Str) {me m : Mem} (z : Str) (h : m ≠ me) : csA cs me z m = cs m := if_neg h
theorem csA_le (cs : Mem → List Str) (me : Mem) (z : Str) : CsLe cs (csA cs me z) := fun m => by
  unfold csA
  split
  · exact ⟨[z], rfl⟩
  · exact List.prefix_refl _
section
variable {ms : List Mem} {v0 : Vid} {os : Nat → OS} {cs : Mem → List Str} {ca : Mem × Int → Option Int}
theorem IV.lead (I : IV ms v0 os cs ca) {k : Nat} (hk : k < ms.length) : (os k).me = (os k).fd ↔ k = 0 := by
  have O := I.oi k hk
  constructor
  · intro e
    exact idx_inj (nd_of I.nd) (by rw [O.me, e]) O.fd
  · intro e
    subst e
    exact Option.some.inj (O.me.symm.trans O.fd)
theorem IV.meNe (I : IV ms v0 os cs ca) {j k : Nat} (hj : j < ms.length) (hk : k < ms.length) (n : j ≠ k) : (os j).me ≠ (os k).me := fun e =>
  n (idx_inj (nd_of I.nd) (I.oi j hj).me (by rw [e]; exact (I.oi k hk).me))
theorem IV.caLe (I : IV ms v0 os cs ca) (me : Mem) (n : Int) : CaLe ca (caA ca (me, ((cs me).length : Int) + 1) n) := fun q c h => by
  unfold caA
  split
  · rename_i e
    subst e
    have := I.cab _ _ _ h
    omega
  · exact h
theorem IV.cast (I : IV ms v0 os cs ca) {k : Nat} (hk : k < ms.length) (z : Str) :
    IV ms v0 (upF os k ((os k).cast z).1) (csA cs (os k).me z) (caA ca ((os k).me, ((cs (os k).me).length : Int) + 1) ((os k).log.length : Int)) ∧
    ((os k).cast z).2.1 = ((cs (os k).me).length : Int) + 1 ∧ (∀ p ∈ ((os k).cast z).2.2.2, POk ms (csA cs (os k).me z) (upF os k ((os k).cast z).1 0).log p) ∧ (os k).log <+: ((os k).cast z).1.log := by
  have O := I.oi k hk
  have hme : (os k).me ∈ ms := List.mem_of_getElem? O.me
  have hn : (os k).casts + 1 = ((cs (os k).me).length : Int) + 1 := by rw [O.casts]
  have cLe := csA_le cs (os k).me z
  have aLe := I.caLe (os k).me ((os k).log.length : Int)
  have cab : ∀ m i c, caA ca ((os k).me, ((cs (os k).me).length : Int) + 1) ((os k).log.length : Int) (m, i) = some c → 1 ≤ i ∧ i ≤ ((csA cs (os k).me z m).length : Int) := fun m i c h => by
    unfold caA at h
    split at h
    · rename_i e
      injection e with e1 e2
      rw [e1, csA_at, List.length_append, List.length_singleton]; omega
    · have := I.cab _ _ _ h
      have := (cLe m).length_le
      omega
  have gb : ∀ L' : List Msg, (os 0).log <+: L' → ∀ m ∈ ms, ∀ ix : Nat, ix < (csA cs (os k).me z m).length → ∃ c, caA ca ((os k).me, ((cs (os k).me).length : Int) + 1) ((os k).log.length : Int) (m, (ix : Int) + 1) = some c ∧ c ≤ (L'.length : Int) := fun L' p m hm ix hix => by
    have pl := p.length_le
    have kl := (I.pre hk).length_le
    by_cases e : m = (os k).me
    · subst e
      rw [csA_at, List.length_append, List.length_singleton] at hix
      by_cases q : ix = (cs (os k).me).length
      · subst q
        exact ⟨_, if_pos rfl, by omega⟩
      · obtain ⟨c, h1, h2⟩ := I.gb _ hm ix (by omega)
        exact ⟨c, aLe _ _ h1, by omega⟩
    · rw [csA_ne _ _ e] at hix
      obtain ⟨c, h1, h2⟩ := I.gb m hm ix hix
      exact ⟨c, aLe _ _ h1, by omega⟩
  by_cases k0 : k = 0
  · subst k0
    have lead := (I.lead hk).mpr rfl
    have e : (os 0).cast z = (({ (os 0) with casts := (os 0).casts + 1 } : OS).deliver ((os 0).me, (os 0).casts + 1, z), (os 0).casts + 1, [((os 0).me, (os 0).casts + 1, z)], ({ (os 0) with casts := (os 0).casts + 1 } : OS).ords (((os 0).log.length : Int) + 1) ((os 0).me, (os 0).casts + 1, z)) := by
      unfold OS.cast
      dsimp only
      rw [if_pos lead]
      rfl
    rw [e]
    have own := I.own _ O.me
    have p2 : (os 0).log <+: (os 0).log ++ [((os 0).me, (os 0).casts + 1, z)] := ⟨_, rfl⟩
    have hg : ((os 0).log ++ [((os 0).me, (os 0).casts + 1, z)])[(os 0).log.length]? = some ((os 0).me, (os 0).casts + 1, z) := by
      rw [List.getElem?_append_right (Nat.le_refl _), Nat.sub_self]; rfl
    have wf2 : WF ms (csA cs (os 0).me z) (caA ca ((os 0).me, ((cs (os 0).me).length : Int) + 1) ((os 0).log.length : Int)) ((os 0).log ++ [((os 0).me, (os 0).casts + 1, z)]) :=
      (I.wf.more cLe aLe).snoc (g := ((os 0).me, (os 0).casts + 1, z)) hme (by rw [own]; exact hn) (by
        show (csA cs (os 0).me z (os 0).me)[_]? = _
        rw [csA_at, own, List.getElem?_append_right (Nat.le_refl _), Nat.sub_self]; rfl) ⟨_, by show caA _ _ _ ((os 0).me, (os 0).casts + 1) = _; rw [hn]; exact if_pos rfl, Int.le_refl _⟩
    have O1 : OI ms v0 (csA cs (os 0).me z) ((os 0).log ++ [((os 0).me, (os 0).casts + 1, z)]) 0 { (os 0) with casts := (os 0).casts + 1 } :=
      ⟨O.me, O.vid, O.mems, O.fd, p2, O.last, by show (os 0).casts + 1 = _; rw [csA_at, List.length_append, List.length_singleton]; omega, (fun j g h => by have := O.kf rfl j; rw [this] at h; cases h), O.cnt, (fun z => absurd rfl z), O.pend0, O.kf⟩
    have d0 := O1.deliver wf2 hg
    have len2 : (((os 0).log ++ [((os 0).me, (os 0).casts + 1, z)]).length : Int) = ((os 0).log.length : Int) + 1 := by rw [List.length_append, List.length_singleton]; omega
    refine ⟨⟨I.nd, I.n0, fun j hj => ?_, fun j hj => ?_, ?_, ?_, cab, fun m hm => ?_, fun j hj m => ?_, fun j m hj hm => ?_⟩, hn, ?_, ⟨_, rfl⟩⟩
    · rw [upF_at]
      by_cases q : j = 0
      · subst q; rw [upF_at]; exact d0
      · rw [upF_ne _ _ q]; exact ((I.oi j hj).mono p2).cs (csA_ne _ _ (I.meNe hj hk q))
    · by_cases q : j = 0
      · subst q; rw [upF_at]; exact d0.kf rfl _
      · rw [upF_ne _ _ q]; exact I.nx j hj
    · rw [upF_at]; exact wf2
    · rw [upF_at]; exact gb _ p2
    · rw [upF_at]
      have em : m = (os 0).me := Option.some.inj (hm.symm.trans O.me)
      subst em
      show cntG ((os 0).log ++ [((os 0).me, (os 0).casts + 1, z)]) (os 0).me = _
      rw [cntG_snoc, if_pos rfl, csA_at, List.length_append, List.length_singleton, own]
    · rw [upF_at]
      show _ ∧ _ ≤ (((os 0).log ++ [((os 0).me, (os 0).casts + 1, z)]).length : Int)
      by_cases q : j = 0
      · subst q; rw [upF_at]
        have := I.t0 0 hj m
        show 0 ≤ ((os 0).told m).getD 0 ∧ ((os 0).told m).getD 0 ≤ _
        omega
      · rw [upF_ne _ _ q]
        have := I.t0 j hj m
        omega
    · rw [upF_at, upF_ne _ _ (by omega)]
      exact I.tk j m hj hm
    · rw [upF_at]
      exact ords_ok (s := { (os 0) with casts := (os 0).casts + 1 }) O.mems hg
  · have nlead : ¬ (os k).me = (os k).fd := fun e => k0 ((I.lead hk).mp e)
    have e : (os k).cast z = ({ (os k) with casts := (os k).casts + 1, pend := (os k).pend ++ [((os k).casts + 1, z)] }, (os k).casts + 1, [], [(os k).castL ((os k).casts + 1, z)]) := by
      unfold OS.cast
      dsimp only
      rw [if_neg nlead]
    rw [e]
    have u0 : upF os k ({ (os k) with casts := (os k).casts + 1, pend := (os k).pend ++ [((os k).casts + 1, z)] }) 0 = os 0 := upF_ne _ _ (Ne.symm k0)
    have wk : WF ms cs ca (os k).log := I.wf.pre (I.pre hk)
    have hc := wk.cnt (os k).me
    have O1 : OI ms v0 (csA cs (os k).me z) (os 0).log k { (os k) with casts := (os k).casts + 1, pend := (os k).pend ++ [((os k).casts + 1, z)] } := by
      refine ⟨O.me, O.vid, O.mems, O.fd, O.pre, O.last, ?_, O.kept, O.cnt, fun _ => ?_, fun z => absurd z k0, O.kf⟩
      · show (os k).casts + 1 = _
        rw [csA_at, List.length_append, List.length_singleton]; omega
      · show (os k).pend ++ [((os k).casts + 1, z)] = pd ((cntG (os k).log (os k).me : Int) + 1) ((csA cs (os k).me z (os k).me).drop (cntG (os k).log (os k).me))
        rw [csA_at, O.pend k0, List.drop_append_of_le_length hc, pd_snoc, List.length_drop]
        have e3 : (cntG (os k).log (os k).me : Int) + 1 + (((cs (os k).me).length - cntG (os k).log (os k).me : Nat) : Int) = (os k).casts + 1 := by omega
        rw [e3]
    refine ⟨⟨I.nd, I.n0, fun j hj => ?_, fun j hj => ?_, ?_, ?_, cab, fun m hm => ?_, fun j hj m => ?_, fun j m hj hm => ?_⟩, hn, ?_, List.prefix_refl _⟩
    · rw [u0]
      by_cases q : j = k
      · subst q; rw [upF_at]; exact O1
      · rw [upF_ne _ _ q]; exact (I.oi j hj).cs (csA_ne _ _ (I.meNe hj hk q))
    · by_cases q : j = k
      · subst q; rw [upF_at]; exact I.nx j hj
      · rw [upF_ne _ _ q]; exact I.nx j hj
    · rw [u0]; exact I.wf.more cLe aLe
    · rw [u0]; exact gb _ (List.prefix_refl _)
    · rw [u0]
      have : m ≠ (os k).me := fun e => k0 (idx_inj (nd_of I.nd) O.me (by rw [← e]; exact hm))
      rw [csA_ne _ _ this]
      exact I.own m hm
    · rw [u0]
      by_cases q : j = k
      · subst q; rw [upF_at]; exact I.t0 j hj m
      · rw [upF_ne _ _ q]; exact I.t0 j hj m
    · rw [u0]
      by_cases q : j = k
      · subst q; rw [upF_at]; exact I.tk j m hj hm
      · rw [upF_ne _ _ q]; exact I.tk j m hj hm
    · intro p hp
      rw [List.mem_singleton.mp hp]
      refine ⟨⟨(os k).fd, List.mem_of_getElem? O.fd, rfl⟩, hme, ?_, ?_⟩
      · show 1 ≤ (os k).casts + 1
        rw [O.casts]; omega
      · show (csA cs (os k).me z (os k).me)[((os k).casts + 1 - 1).toNat]? = some z
        have e4 : ((os k).casts + 1 - 1).toNat = (cs (os k).me).length := by rw [O.casts]; omega
        rw [e4, csA_at, List.getElem?_append_right (Nat.le_refl _), Nat.sub_self]; rfl
theorem IV.heard (I : IV ms v0 os cs ca) {k : Nat} {m : Mem} (hk0 : 0 < k) (hm : ms[k]? = some m) :
    IV ms v0 (upF os 0 ((os 0).heard m ((os k).log.length : Int))) cs ca ∧ ((os 0).heard m ((os k).log.length : Int)).log = (os 0).log ∧
    (∀ x, (((os 0).heard m ((os k).log.length : Int)).told x).getD 0 = if x = m then ((os k).log.length : Int) else ((os 0).told x).getD 0) := by
  have hk : k < ms.length := (List.getElem?_eq_some_iff.mp hm).1
  have O := I.oi 0 I.n0
  have hin : m ∈ (os 0).mems := by rw [O.mems]; exact List.mem_of_getElem? hm
  have e : (os 0).heard m ((os k).log.length : Int) = { (os 0) with told := fun x => if x = m then some (if ((os 0).told m).getD 0 > ((os k).log.length : Int) then ((os 0).told m).getD 0 else ((os k).log.length : Int)) else (os 0).told x, tn := if ((os 0).told m).isSome then (os 0).tn else (os 0).tn + 1 } := if_pos hin
  have hmax : (if ((os 0).told m).getD 0 > ((os k).log.length : Int) then ((os 0).told m).getD 0 else ((os k).log.length : Int)) = ((os k).log.length : Int) := if_neg (by have := I.tk k m hk0 hm; omega)
  rw [hmax] at e
  have td : ∀ x, (((os 0).heard m ((os k).log.length : Int)).told x).getD 0 = if x = m then ((os k).log.length : Int) else ((os 0).told x).getD 0 := fun x => by
    rw [e]
    show (if x = m then some ((os k).log.length : Int) else (os 0).told x).getD 0 = _
    split <;> rfl
  have lg : ((os 0).heard m ((os k).log.length : Int)).log = (os 0).log := by rw [e]
  have O1 : OI ms v0 cs (os 0).log 0 ((os 0).heard m ((os k).log.length : Int)) := by
    rw [e]; exact ⟨O.me, O.vid, O.mems, O.fd, O.pre, O.last, O.casts, O.kept, O.cnt, O.pend, O.pend0, O.kf⟩
  have kl := (I.pre hk).length_le
  refine ⟨⟨I.nd, I.n0, fun j hj => ?_, fun j hj => ?_, ?_, ?_, I.cab, ?_, fun j hj x => ?_, fun j x hj hx => ?_⟩, lg, td⟩
  · rw [upF_at, lg]
    by_cases q : j = 0
    · subst q; rw [upF_at]; exact O1
    · rw [upF_ne _ _ q]; exact I.oi j hj
  · by_cases q : j = 0
    · subst q; rw [upF_at]; exact O1.kf rfl _
    · rw [upF_ne _ _ q]; exact I.nx j hj
  · rw [upF_at, lg]; exact I.wf
  · rw [upF_at, lg]; exact I.gb
  · rw [upF_at, lg]; exact I.own
  · rw [upF_at, lg]
    by_cases q : j = 0
    · subst q; rw [upF_at, td]
      have := I.t0 0 hj x
      split <;> omega
    · rw [upF_ne _ _ q]; exact I.t0 j hj x
  · rw [upF_at, td, upF_ne _ _ (by omega)]
    split
    · rename_i q
      subst q
      have : j = k := idx_inj (nd_of I.nd) hx hm
      subst this
      exact Int.le_refl _
    · exact I.tk j x hj hx
theorem IV.again (I : IV ms v0 os cs ca) {k : Nat} (hk : k < ms.length) : ∀ p ∈ (os k).again, POk ms cs (os 0).log p := by
  have O := I.oi k hk
  intro p hp
  unfold OS.again at hp
  split at hp
  · rename_i q
    obtain ⟨c, hc, rfl⟩ := List.mem_map.mp hp
    have hc := List.mem_of_mem_take hc
    have k0 : k ≠ 0 := fun z => q ((I.lead hk).mpr z)
    rw [O.pend k0] at hc
    obtain ⟨j, h1, h2⟩ := pd_at hc
    rw [List.getElem?_drop] at h2
    refine ⟨⟨(os k).fd, List.mem_of_getElem? O.fd, rfl⟩, List.mem_of_getElem? O.me, by omega, ?_⟩
    have : (c.1 - 1).toNat = cntG (os k).log (os k).me + j := by omega
    rw [this]; exact h2
  · rename_i q
    have k0 : k = 0 := (I.lead hk).mp (Classical.not_not.mp q)
    subst k0
    obtain ⟨x, hx, hq⟩ := List.mem_flatten.mp hp
    obtain ⟨y, hy, rfl⟩ := List.mem_map.mp hx
    unfold OS.behind at hq
    obtain ⟨i, hi, rfl⟩ := List.mem_mapIdx.mp hq
    have t0 := (I.t0 0 hk y).1
    refine ⟨⟨y, (others_mem O.mems hy).1, rfl⟩, by omega, ?_⟩
    have : (((os 0).told y).getD 0 + 1 + (i : Int) - 1).toNat = (((os 0).told y).getD 0).toNat + i := by omega
    rw [this]
    rw [List.getElem_take, List.getElem_drop]
    exact List.getElem?_eq_getElem _
end
end Mus

set_option maxRecDepth 100000
set_option maxHeartbeats 4000000
namespace Mus
open PySem PySem.Spec PyProof.Rows L2
/-! ### letters handed on -/
def atP (ms : List Mem) (p : Int) : Nat := (ms.map (·.1)).idxOf p
theorem atP_of {ms : List Mem} (h : (ms.map (·.1)).Nodup) {k : Nat} {m : Mem} (hm : ms[k]? = some m) : atP ms m.1 = k := by
  have hk : k < ms.length := (List.getElem?_eq_some_iff.mp hm).1
  have hk2 : k < (ms.map (·.1)).length := by rw [List.length_map]; exact hk
  have e : (ms.map (·.1))[k]'hk2 = m.1 := by
    rw [List.getElem_map]
    rw [(List.getElem?_eq_some_iff.mp hm).2]
  unfold atP
  have := List.Nodup.idxOf_getElem h k hk2
  rw [e] at this
  exact this
def handL (ms : List Mem) (os : Nat → OS) (p : Pkt) : Nat → OS := upF os (atP ms p.1) ((os (atP ms p.1)).take p.2).1
def runL (ms : List Mem) (os : Nat → OS) (ps : List Pkt) : Nat → OS := ps.foldl (handL ms) os
section
variable {ms : List Mem} {v0 : Vid} {os : Nat → OS} {cs : Mem → List Str} {ca : Mem × Int → Option Int}
theorem POk.at (I : IV ms v0 os cs ca) {L : List Msg} {p : Pkt} (h : POk ms cs L p) : atP ms p.1 < ms.length ∧ ∃ m, ms[atP ms p.1]? = some m ∧ m.1 = p.1 := by
  obtain ⟨⟨m, hm, e⟩, _⟩ := h
  obtain ⟨k, hk⟩ := List.getElem?_of_mem hm
  have := atP_of I.nd hk
  rw [e] at this
  rw [this]
  exact ⟨(List.getElem?_eq_some_iff.mp hk).1, m, hk, e⟩
theorem IV.hand (I : IV ms v0 os cs ca) {p : Pkt} (hp : POk ms cs (os 0).log p) : IV ms v0 (handL ms os p) cs ca ∧ ∀ k, (os k).log <+: (handL ms os p k).log := by
  obtain ⟨i1, i2, i3⟩ := I.take (hp.at I).1 hp.2
  refine ⟨i1, fun k => ?_⟩
  unfold handL
  by_cases q : k = atP ms p.1
  · subst q; rw [upF_at]; exact i3
  · rw [upF_ne _ _ q]; exact List.prefix_refl _
theorem IV.run : ∀ (ps : List Pkt) {os : Nat → OS}, IV ms v0 os cs ca → (∀ p ∈ ps, POk ms cs (os 0).log p) → IV ms v0 (runL ms os ps) cs ca ∧ ∀ k, (os k).log <+: (runL ms os ps k).log
  | [], os, I, _ => ⟨I, fun k => List.prefix_refl _⟩
  | p :: ps, os, I, h => by
    obtain ⟨i1, i2⟩ := I.hand (h p (List.mem_cons_self ..))
    obtain ⟨j1, j2⟩ := IV.run ps i1 fun q hq => (h q (List.mem_cons_of_mem _ hq)).more (CsLe.refl _) (i2 0)
    exact ⟨j1, fun k => List.IsPrefix.trans (i2 k) (j2 k)⟩
theorem runL_app (os : Nat → OS) (a b : List Pkt) : runL ms os (a ++ b) = runL ms (runL ms os a) b := List.foldl_append ..
/-- the letters that tell one member the places from t + 1 on -/
def OrdSeq (m x : Mem) (v0 : Vid) : Nat → List Pkt → Prop
  | _, [] => True
  | t, p :: ps => (∃ g, p = (m.1, .order x v0 ((t : Int) + 1) g)) ∧ OrdSeq m x v0 (t + 1) ps
def CastSeq (f m : Mem) (v0 : Vid) : Nat → List Pkt → Prop
  | _, [] => True
  | c, p :: ps => (∃ z, p = (f.1, .cast m v0 ((c : Int) + 1) z)) ∧ CastSeq f m v0 (c + 1) ps
theorem ord_step (I : IV ms v0 os cs ca) {k : Nat} (k0 : k ≠ 0) {m x : Mem} (hm : ms[k]? = some m) (hx : ms[0]? = some x) {t : Nat} {g : Msg} (hp : POk ms cs (os 0).log (m.1, .order x v0 ((t : Int) + 1) g)) (ht : t ≤ (os k).log.length) :
    t + 1 ≤ (handL ms os (m.1, .order x v0 ((t : Int) + 1) g) k).log.length := by
  have hk : k < ms.length := (List.getElem?_eq_some_iff.mp hm).1
  have ek := atP_of I.nd hm
  have mono := ((I.hand hp).2 k).length_le
  by_cases q : t < (os k).log.length
  · omega
  have ht : t = (os k).log.length := by omega
  have O := I.oi k hk
  unfold handL
  simp only
  rw [ek, upF_at]
  have nl : ¬ ((os k).me = (os k).fd ∨ x ≠ (os k).fd ∨ v0 ≠ (os k).vid) := by
    simp only [not_or, Classical.not_not]
    exact ⟨fun e => k0 ((I.lead hk).mp e), Option.some.inj (hx.symm.trans O.fd), O.vid.symm⟩
  have e : ((os k).take (.order x v0 ((t : Int) + 1) g)).1 = (OS.flush ((os k).keep ((t : Int) + 1) g).kn ((os k).keep ((t : Int) + 1) g)).1 := by
    show ((os k).takeOrder x v0 ((t : Int) + 1) g).1 = _
    unfold OS.takeOrder
    rw [if_neg nl]
  rw [e]
  obtain ⟨_, hl⟩ := hp
  have K := O.keep k0 hl.1 hl.2
  obtain ⟨f1, f2, f3, f4, f5⟩ := OI.flush I.wf _ K (Nat.le_refl _)
  have kl : ((os k).keep ((t : Int) + 1) g).log = (os k).log := by unfold OS.keep; split <;> rfl
  rw [kl] at f5
  have hn : (os k).kept ((t : Int) + 1) = none := by rw [ht]; exact I.nx k hk
  have hk2 : ((os k).keep ((t : Int) + 1) g).kept (((os k).log.length : Int) + 1) = some g := by
    unfold OS.keep
    rw [if_pos ⟨by omega, hn⟩]
    show (if (((os k).log.length : Int) + 1) = (t : Int) + 1 then some g else _) = some g
    rw [if_pos (by omega)]
  have := f5 g hk2
  omega
theorem ord_run {k : Nat} (k0 : k ≠ 0) {m x : Mem} (hm : ms[k]? = some m) (hx : ms[0]? = some x) : ∀ (ps : List Pkt) {os : Nat → OS} {t : Nat}, IV ms v0 os cs ca → (∀ p ∈ ps, POk ms cs (os 0).log p) → OrdSeq m x v0 t ps → t ≤ (os k).log.length → t + ps.length ≤ (runL ms os ps k).log.length
  | [], os, t, I, h, s, ht => ht
  | p :: ps, os, t, I, h, s, ht => by
    obtain ⟨⟨g, rfl⟩, s2⟩ := s
    have hp := h _ (List.mem_cons_self ..)
    obtain ⟨i1, i2⟩ := I.hand hp
    have st := ord_step I k0 hm hx hp ht
    have := ord_run k0 hm hx ps i1 (fun q hq => (h q (List.mem_cons_of_mem _ hq)).more (CsLe.refl _) (i2 0)) s2 st
    rw [List.length_cons]
    show _ ≤ (runL ms (handL ms os _) ps k).log.length
    omega
theorem cntG_pre {A B : List Msg} (h : A <+: B) (m : Mem) : cntG A m ≤ cntG B m := by
  obtain ⟨C, rfl⟩ := h
  unfold cntG
  rw [List.filter_append, List.length_append]; omega
theorem cast_step (I : IV ms v0 os cs ca) {k : Nat} (k0 : k ≠ 0) {m f : Mem} (hm : ms[k]? = some m) (hf : ms[0]? = some f) {c : Nat} {z : Str} (hp : POk ms cs (os 0).log (f.1, .cast m v0 ((c : Int) + 1) z)) (hc : c ≤ cntG (os 0).log m) :
    c + 1 ≤ cntG (handL ms os (f.1, .cast m v0 ((c : Int) + 1) z) 0).log m := by
  have mono := cntG_pre ((I.hand hp).2 0) m
  by_cases q : c < cntG (os 0).log m
  · omega
  have hc : c = cntG (os 0).log m := by omega
  have O := I.oi 0 I.n0
  have e0 := atP_of I.nd hf
  unfold handL
  simp only
  rw [e0, upF_at]
  have hne : m ≠ (os 0).me := fun e => k0 (idx_inj (nd_of I.nd) hm (by rw [e]; exact O.me))
  have c1 : ¬ ((os 0).me ≠ (os 0).fd ∨ v0 ≠ (os 0).vid ∨ m ∉ (os 0).others) := by
    simp only [not_or, Classical.not_not]
    refine ⟨(I.lead I.n0).mpr rfl, O.vid.symm, ?_⟩
    unfold OS.others
    rw [List.mem_filter, O.mems]
    exact ⟨List.mem_of_getElem? hm, by simp [hne]⟩
  have c2 : ¬ ((c : Int) + 1 ≠ ((os 0).last m).getD 0 + 1) := by
    rw [O.last, Classical.not_not]; omega
  have e : (os 0).take (.cast m v0 ((c : Int) + 1) z) = (os 0).decide (m, (c : Int) + 1, z) := (if_neg c1).trans (if_neg c2)
  rw [e]
  show c + 1 ≤ cntG ((os 0).log ++ [(m, (c : Int) + 1, z)]) m
  rw [cntG_snoc, if_pos rfl]
  omega
theorem cast_run {k : Nat} (k0 : k ≠ 0) {m f : Mem} (hm : ms[k]? = some m) (hf : ms[0]? = some f) : ∀ (ps : List Pkt) {os : Nat → OS} {c : Nat}, IV ms v0 os cs ca → (∀ p ∈ ps, POk ms cs (os 0).log p) → CastSeq f m v0 c ps → c ≤ cntG (os 0).log m → c + ps.length ≤ cntG (runL ms os ps 0).log m
  | [], os, c, I, h, s, hc => hc
  | p :: ps, os, c, I, h, s, hc => by
    obtain ⟨⟨z, rfl⟩, s2⟩ := s
    have hp := h _ (List.mem_cons_self ..)
    obtain ⟨i1, i2⟩ := I.hand hp
    have st := cast_step I k0 hm hf hp hc
    have := cast_run k0 hm hf ps i1 (fun q hq => (h q (List.mem_cons_of_mem _ hq)).more (CsLe.refl _) (i2 0)) s2 st
    rw [List.length_cons]
    show _ ≤ cntG (runL ms (handL ms os _) ps 0).log m
    omega
theorem ordSeq_map (m x : Mem) (v0 : Vid) : ∀ (zs : List Msg) (t : Nat) (T : Int), T = (t : Int) → OrdSeq m x v0 t (zs.mapIdx fun j g => (m.1, Ltr.order x v0 (T + 1 + (j : Int)) g))
  | [], _, _, _ => True.intro
  | z :: zs, t, T, e => by
    rw [List.mapIdx_cons]
    refine ⟨⟨z, by rw [e]; show (m.1, Ltr.order x v0 ((t : Int) + 1 + ((0 : Nat) : Int)) z) = _; simp⟩, ?_⟩
    have := ordSeq_map m x v0 zs (t + 1) (T + 1) (by omega)
    have e2 : (fun (j : Nat) (g : Msg) => (m.1, Ltr.order x v0 (T + 1 + 1 + (j : Int)) g)) = fun (j : Nat) (g : Msg) => (m.1, Ltr.order x v0 (T + 1 + ((j + 1 : Nat) : Int)) g) := by
      funext j g
      have : T + 1 + 1 + (j : Int) = T + 1 + ((j + 1 : Nat) : Int) := by omega
      rw [this]
    rw [e2] at this
    exact this
theorem pd_take : ∀ (n : Nat) (i : Int) (zs : List Str), (pd i zs).take n = pd i (zs.take n)
  | 0, _, _ => rfl
  | n + 1, _, [] => rfl
  | n + 1, i, z :: zs => by
    show (i, z) :: (pd (i + 1) zs).take n = (i, z) :: pd (i + 1) (zs.take n)
    rw [pd_take]
theorem castSeq_map {s : OS} {f m : Mem} {v0 : Vid} (e1 : s.fd = f) (e2 : s.me = m) (e3 : s.vid = v0) : ∀ (zs : List Str) (c : Nat) (i : Int), i = (c : Int) + 1 → CastSeq f m v0 c ((pd i zs).map s.castL)
  | [], _, _, _ => True.intro
  | z :: zs, c, i, e => by
    refine ⟨⟨z, ?_⟩, castSeq_map e1 e2 e3 zs (c + 1) (i + 1) (by omega)⟩
    show (s.fd.1, Ltr.cast s.me s.vid i z) = _
    rw [e1, e2, e3, e]
/-- all that is sent again, one order after another -/
def bagN (os : Nat → OS) : Nat → List Pkt
  | 0 => []
  | k + 1 => bagN os k ++ (os k).again
theorem bagN_split (os : Nat → OS) {k : Nat} : ∀ {n : Nat}, k < n → ∃ S, bagN os n = bagN os k ++ (os k).again ++ S
  | 0, h => by omega
  | n + 1, h => by
    by_cases q : k = n
    · subst q; exact ⟨[], by rw [List.append_nil]; rfl⟩
    · obtain ⟨S, e⟩ := bagN_split os (k := k) (n := n) (by omega)
      exact ⟨S ++ (os n).again, by show bagN os n ++ _ = _; rw [e, List.append_assoc]⟩
theorem IV.bag (I : IV ms v0 os cs ca) : ∀ {n : Nat}, n ≤ ms.length → ∀ p ∈ bagN os n, POk ms cs (os 0).log p
  | 0, _, p, h => by cases h
  | n + 1, hn, p, h => by
    rcases List.mem_append.mp h with h | h
    · exact I.bag (by omega) p h
    · exact I.again (by omega) p h
theorem IV.round (I : IV ms v0 os cs ca) (td : ∀ k m, 0 < k → ms[k]? = some m → ((os 0).told m).getD 0 = ((os k).log.length : Int)) :
    IV ms v0 (runL ms os (bagN os ms.length)) cs ca ∧ (∀ k, (os k).log <+: (runL ms os (bagN os ms.length) k).log) ∧
    (∀ k m, 0 < k → ms[k]? = some m → min (os 0).log.length ((os k).log.length + 16) ≤ (runL ms os (bagN os ms.length) k).log.length ∧ ((cs m).length ≤ 16 → (cs m).length ≤ cntG (runL ms os (bagN os ms.length) 0).log m)) := by
  have hb := I.bag (Nat.le_refl _)
  obtain ⟨j1, j2⟩ := IV.run _ I hb
  refine ⟨j1, j2, fun k m k0 hm => ⟨?_, fun h16 => ?_⟩⟩
  · have hk : k < ms.length := (List.getElem?_eq_some_iff.mp hm).1
    have O := I.oi 0 I.n0
    have lead := (I.lead I.n0).mpr rfl
    obtain ⟨S, eS⟩ := bagN_split os I.n0
    have ea : (os 0).again = ((os 0).others.map (os 0).behind).flatten := by
      unfold OS.again
      rw [if_neg (by rw [Classical.not_not]; exact lead)]
    have hne : m ≠ (os 0).me := fun e => by
      have := idx_inj (nd_of I.nd) hm (by rw [e]; exact O.me)
      omega
    have ho : m ∈ (os 0).others := by
      unfold OS.others
      rw [List.mem_filter, O.mems]
      exact ⟨List.mem_of_getElem? hm, by simp [hne]⟩
    obtain ⟨A, B, eAB⟩ := List.append_of_mem ho
    have eb : bagN os ms.length = (A.map (os 0).behind).flatten ++ ((os 0).behind m ++ ((B.map (os 0).behind).flatten ++ S)) := by
      rw [eS, ea, eAB]
      show [] ++ _ ++ S = _
      rw [List.nil_append, List.map_append, List.map_cons, List.flatten_append, List.flatten_cons, List.append_assoc, List.append_assoc]
    rw [eb] at hb ⊢
    rw [runL_app, runL_app]
    have hA : ∀ p ∈ (A.map (os 0).behind).flatten, POk ms cs (os 0).log p := fun p hp => hb p (List.mem_append_left _ hp)
    have hB : ∀ p ∈ (os 0).behind m, POk ms cs (os 0).log p := fun p hp => hb p (List.mem_append_right _ (List.mem_append_left _ hp))
    have hC : ∀ p ∈ (B.map (os 0).behind).flatten ++ S, POk ms cs (os 0).log p := fun p hp => hb p (List.mem_append_right _ (List.mem_append_right _ hp))
    obtain ⟨a1, a2⟩ := IV.run _ I hA
    have hB' := fun p hp => (hB p hp).more (CsLe.refl cs) (a2 0)
    obtain ⟨b1, b2⟩ := IV.run _ a1 hB'
    have hC' := fun p hp => (hC p hp).more (CsLe.refl cs) (List.IsPrefix.trans (a2 0) (b2 0))
    obtain ⟨c1, c2⟩ := IV.run _ b1 hC'
    have ht := td k m k0 hm
    have hsq : OrdSeq m (os 0).me v0 (os k).log.length ((os 0).behind m) := by
      have := ordSeq_map m (os 0).me v0 (((os 0).log.drop (((os 0).told m).getD 0).toNat).take 16) (os k).log.length (((os 0).told m).getD 0) ht
      unfold OS.behind
      rw [O.vid]
      exact this
    have pr := ord_run (by omega : k ≠ 0) hm O.me ((os 0).behind m) a1 hB' hsq (a2 k).length_le
    have lb : ((os 0).behind m).length = min 16 ((os 0).log.length - (os k).log.length) := by
      unfold OS.behind
      rw [List.length_mapIdx, List.length_take, List.length_drop, ht, Int.toNat_natCast]
    have := (c2 k).length_le
    have := (I.pre hk).length_le
    omega
  · have hk : k < ms.length := (List.getElem?_eq_some_iff.mp hm).1
    have O := I.oi k hk
    have em : (os k).me = m := Option.some.inj (O.me.symm.trans hm)
    have nlead : (os k).me ≠ (os k).fd := fun e => by
      have := (I.lead hk).mp e
      omega
    obtain ⟨S, eS⟩ := bagN_split os hk
    have ea : (os k).again = ((os k).pend.take 16).map (os k).castL := by
      unfold OS.again
      rw [if_pos nlead]
    rw [O.pend (by omega), pd_take] at ea
    rw [eS, List.append_assoc] at hb ⊢
    rw [runL_app, runL_app]
    have hA : ∀ p ∈ bagN os k, POk ms cs (os 0).log p := fun p hp => hb p (List.mem_append_left _ hp)
    have hB : ∀ p ∈ (os k).again, POk ms cs (os 0).log p := fun p hp => hb p (List.mem_append_right _ (List.mem_append_left _ hp))
    have hC : ∀ p ∈ S, POk ms cs (os 0).log p := fun p hp => hb p (List.mem_append_right _ (List.mem_append_right _ hp))
    obtain ⟨a1, a2⟩ := IV.run _ I hA
    have hB' := fun p hp => (hB p hp).more (CsLe.refl cs) (a2 0)
    obtain ⟨b1, b2⟩ := IV.run _ a1 hB'
    have hC' := fun p hp => (hC p hp).more (CsLe.refl cs) (List.IsPrefix.trans (a2 0) (b2 0))
    obtain ⟨c1, c2⟩ := IV.run _ b1 hC'
    have hsq : CastSeq (os k).fd m v0 (cntG (os k).log (os k).me) (os k).again := by
      rw [ea]
      exact castSeq_map rfl em O.vid _ _ _ rfl
    have hcn : cntG (os k).log (os k).me ≤ cntG (runL ms os (bagN os k) 0).log m := by
      rw [em]
      exact cntG_pre (List.IsPrefix.trans (I.pre hk) (a2 0)) m
    have pr := cast_run (by omega : k ≠ 0) hm O.fd (os k).again a1 hB' hsq hcn
    have lc := (I.wf.pre (I.pre hk)).cnt (os k).me
    have la : ((os k).again).length = (cs (os k).me).length - cntG (os k).log (os k).me := by
      rw [ea, List.length_map, pd_len, List.length_take, List.length_drop, em]
      rw [em] at lc
      omega
    have := cntG_pre (c2 0) m
    rw [em] at la lc pr
    omega
end
end Mus

set_option maxRecDepth 100000
set_option maxHeartbeats 4000000
namespace Mus
open PySem PySem.Spec PyProof.Rows L2
/-! ### the law's own model in the heap -/
theorem TD.tupI {H : Hp} {v : V} {ds : List PyData} (h : TD H v (.tuple ds)) : ∃ a xs, v = .ref a ∧ H a = some (.tup xs) ∧ xs.length ≤ 100000 ∧ TDs H xs ds := by
  cases h with
  | tup h l r => exact ⟨_, _, rfl, h, l, r⟩
theorem TDs.consI {H : Hp} {vs : List V} {d : PyData} {ds : List PyData} (h : TDs H vs (d :: ds)) : ∃ v r, vs = v :: r ∧ TD H v d ∧ TDs H r ds := by
  cases h with
  | cons a b => exact ⟨_, _, rfl, a, b⟩
structure MA where
  vme : V
  vid : V
  vms : V
  lg : Addr
  ea : Addr
  ow : Addr
  ct : Addr
def mF (a : MA) : List (Key × V) := [(.inr "me", a.vme), (.inr "id", a.vid), (.inr "members", a.vms), (.inr "log", .ref a.lg), (.inr "early", .ref a.ea), (.inr "own", .ref a.ow), (.inr "counts", .ref a.ct)]
def MA.fp (a : MA) (d : Addr) : List Addr := [d, a.lg, a.ea, a.ow, a.ct]
structure MAt (w : World) (H : Hp) (d : Addr) (a : MA) (s : OS) (m : MS) : Prop where
  ob : H d = some (.dK (mF a))
  me : TD H a.vme (eM s.me)
  vid : TD H a.vid (eV s.vid)
  ms : TD H a.vms (eMs s.mems)
  lg : LstAt H a.lg (s.log.map eG)
  ea : ∃ kvs, H a.ea = some (.dK kvs) ∧ (∀ i, KpAt H (valV kvs (.inl i)) (m.e i)) ∧ kvs.length ≤ m.en ∧ ∀ kv ∈ kvs, ∃ i : Int, kv.1 = .inl i
  ow : LstAt H a.ow (m.own.map PyData.str)
  ct : DctAt w H a.ct m.c m.cn
  ap : a.lg ≠ a.ow ∧ a.ea ≠ d
theorem MAt.mono {w : World} {H H' : Hp} {d : Addr} {a : MA} {s : OS} {m : MS} (h : MAt w H d a s m) (e : ∀ b ∈ a.fp d, ∀ o, H b = some o → H' b = some o) (t : TupK H H') : MAt w H' d a s m := by
  refine ⟨e d (by simp [MA.fp]) _ h.ob, h.me.mono t, h.vid.mono t, h.ms.mono t, h.lg.mono (e _ (by simp [MA.fp])) t, ?_, h.ow.mono (e _ (by simp [MA.fp])) t, h.ct.mono (e _ (by simp [MA.fp])) t, h.ap⟩
  obtain ⟨kvs, h1, h2, h3⟩ := h.ea
  exact ⟨kvs, e _ (by simp [MA.fp]) _ h1, fun i => (h2 i).mono t, h3⟩
theorem MAt.same {w : World} {H H' : Hp} {d : Addr} {a : MA} {s : OS} {m : MS} (h : MAt w H d a s m) (e : Same H H') : MAt w H' d a s m := h.mono (fun b _ o x => e b o x) (TupK.of e)
theorem MAt.fr {w : World} {H H' : Hp} {d : Addr} {a : MA} {s : OS} {m : MS} {fp fp' : List Addr} (h : MAt w H d a s m) (f : Fr fp fp' H H') (j : ∀ b ∈ a.fp d, b ∉ fp) : MAt w H' d a s m := h.mono (fun b hb o x => f.k b o x (j b hb)) f.t
theorem OAt.fr {w : World} {CO : Addr} {H H' : Hp} {p : Addr} {a : OA} {s : OS} {fp fp' : List Addr} (h : OAt w CO H p a s) (f : Fr fp fp' H H') (j : ∀ b ∈ a.fp p, b ∉ fp) : OAt w CO H' p a s := h.mono (fun b hb o x => f.k b o x (j b hb)) f.t
theorem MAt.taken {w : World} {H : Hp} {d : Addr} {a : MA} {s : OS} {m : MS} (h : MAt w H d a s m) : ∀ b ∈ a.fp d, ∃ o, H b = some o ∧ ∀ xs, o ≠ .tup xs := by
  obtain ⟨v1, l1, _⟩ := h.lg
  obtain ⟨v2, l2, _⟩ := h.ea
  obtain ⟨v3, l3, _⟩ := h.ow
  obtain ⟨v4, l4, _⟩ := h.ct
  intro b hb
  simp only [MA.fp, List.mem_cons, List.not_mem_nil, or_false] at hb
  rcases hb with rfl | rfl | rfl | rfl | rfl
  · exact ⟨_, h.ob, fun _ z => by cases z⟩
  · exact ⟨_, l1, fun _ z => by cases z⟩
  · exact ⟨_, l2, fun _ z => by cases z⟩
  · exact ⟨_, l3, fun _ z => by cases z⟩
  · exact ⟨_, l4.ob, fun _ z => by cases z⟩
theorem MAt.fresh {w : World} {H : Hp} {d q : Addr} {a : MA} {s : OS} {m : MS} (h : MAt w H d a s m) (hq : H q = none) : q ∉ a.fp d := fun z => by
  obtain ⟨o, e, _⟩ := h.taken q z
  rw [hq] at e; cases e
section
variable {w : World} {H : Hp} {d : Addr} {a : MA} {s : OS} {m : MS}
theorem MAt.g_me (h : MAt w H d a s m) : DGet H d (.str "me") (some a.vme) := DGet.k (k := Sum.inr "me") h.ob
theorem MAt.g_id (h : MAt w H d a s m) : DGet H d (.str "id") (some a.vid) := DGet.k (k := Sum.inr "id") h.ob
theorem MAt.g_ms (h : MAt w H d a s m) : DGet H d (.str "members") (some a.vms) := DGet.k (k := Sum.inr "members") h.ob
theorem MAt.g_lg (h : MAt w H d a s m) : DGet H d (.str "log") (some (.ref a.lg)) := DGet.k (k := Sum.inr "log") h.ob
theorem MAt.g_ea (h : MAt w H d a s m) : DGet H d (.str "early") (some (.ref a.ea)) := DGet.k (k := Sum.inr "early") h.ob
theorem MAt.g_ow (h : MAt w H d a s m) : DGet H d (.str "own") (some (.ref a.ow)) := DGet.k (k := Sum.inr "own") h.ob
theorem MAt.g_ct (h : MAt w H d a s m) : DGet H d (.str "counts") (some (.ref a.ct)) := DGet.k (k := Sum.inr "counts") h.ob
/-- the log grows -/
theorem MAt.addLog (h : MAt w H d a s m) {vs : List V} {v : V} {g : Msg} {s2 : OS} (hl : H a.lg = some (.lst vs)) (hv : TDs H vs (s.log.map eG)) (hg : TD H v (eG g)) (e1 : s2.me = s.me) (e2 : s2.vid = s.vid) (e3 : s2.mems = s.mems) (e4 : s2.log = s.log ++ [g]) :
    MAt w (upd H a.lg (.lst (vs ++ [v]))) d a s2 m ∧ Fr (a.fp d) (a.fp d) H (upd H a.lg (.lst (vs ++ [v]))) := by
  have k2 : TupK H (upd H a.lg (.lst (vs ++ [v]))) := tupK_upd fun xs e => by rw [hl] at e; cases e
  have at2 : ∀ c, c ≠ a.lg → ∀ o, H c = some o → (upd H a.lg (.lst (vs ++ [v]))) c = some o := fun c h o e => by rw [upd_ne h]; exact e
  refine ⟨?_, fr_upd (by simp [MA.fp]) hl (fun _ z => by cases z)⟩
  obtain ⟨w2, x3, x4⟩ := h.ea
  obtain ⟨w3, y1, y2⟩ := h.ow
  obtain ⟨w4, z1, z2⟩ := h.ct
  refine ⟨at2 _ (ne_of h.ob hl (by intro z; cases z)) _ h.ob, by rw [e1]; exact h.me.mono k2, by rw [e2]; exact h.vid.mono k2, by rw [e3]; exact h.ms.mono k2, ⟨_, upd_same, ?_⟩, ⟨w2, at2 _ (ne_of x3 hl (by intro z; cases z)) _ x3, fun i => (x4.1 i).mono k2, x4.2⟩, ⟨w3, at2 _ h.ap.1.symm _ y1, y2.mono k2⟩, ⟨w4, z1.mono (at2 _ (ne_of z1.ob hl (by intro z; cases z)) _ z1.ob) k2, z2⟩, h.ap⟩
  rw [e4, List.map_append]
  exact (hv.mono k2).append (.cons (hg.mono k2) .nil)
/-- one's own casts grow -/
theorem MAt.addOwn (h : MAt w H d a s m) {vs : List V} {z : Str} (hl : H a.ow = some (.lst vs)) (hv : TDs H vs (m.own.map PyData.str)) :
    MAt w (upd H a.ow (.lst (vs ++ [.str z]))) d a s { m with own := m.own ++ [z] } ∧ Fr (a.fp d) (a.fp d) H (upd H a.ow (.lst (vs ++ [.str z]))) := by
  have k2 : TupK H (upd H a.ow (.lst (vs ++ [.str z]))) := tupK_upd fun xs e => by rw [hl] at e; cases e
  have at2 : ∀ c, c ≠ a.ow → ∀ o, H c = some o → (upd H a.ow (.lst (vs ++ [.str z]))) c = some o := fun c h o e => by rw [upd_ne h]; exact e
  refine ⟨?_, fr_upd (by simp [MA.fp]) hl (fun _ z => by cases z)⟩
  obtain ⟨w1, l1, l2⟩ := h.lg
  obtain ⟨w2, x3, x4⟩ := h.ea
  obtain ⟨w4, z1, z2⟩ := h.ct
  refine ⟨at2 _ (ne_of h.ob hl (by intro z; cases z)) _ h.ob, h.me.mono k2, h.vid.mono k2, h.ms.mono k2, ⟨w1, at2 _ h.ap.1 _ l1, l2.mono k2⟩, ⟨w2, at2 _ (ne_of x3 hl (by intro z; cases z)) _ x3, fun i => (x4.1 i).mono k2, x4.2⟩, ⟨_, upd_same, ?_⟩, ⟨w4, z1.mono (at2 _ (ne_of z1.ob hl (by intro z; cases z)) _ z1.ob) k2, z2⟩, h.ap⟩
  show TDs _ _ ((m.own ++ [z]).map PyData.str)
  rw [List.map_append]
  exact (hv.mono k2).append (.cons (.str z) .nil)
/-- a message is kept -/
theorem MAt.addEarly (h : MAt w H d a s m) {kvs : List (Key × V)} {v : V} {i : Int} {g : Msg} (hl : H a.ea = some (.dK kvs)) (hk : ∀ i, KpAt H (valV kvs (.inl i)) (m.e i)) (hn : kvs.length ≤ m.en) (hki : ∀ kv ∈ kvs, ∃ i : Int, kv.1 = .inl i) (hg : TD H v (eG g)) (e0 : m.e i = none) :
    MAt w (upd H a.ea (.dK (putK kvs (.inl i) v))) d a s (m.keep i g) ∧ Fr (a.fp d) (a.fp d) H (upd H a.ea (.dK (putK kvs (.inl i) v))) := by
  have k2 : TupK H (upd H a.ea (.dK (putK kvs (.inl i) v))) := tupK_upd fun xs e => by rw [hl] at e; cases e
  have at2 : ∀ c, c ≠ a.ea → ∀ o, H c = some o → (upd H a.ea (.dK (putK kvs (.inl i) v))) c = some o := fun c h o e => by rw [upd_ne h]; exact e
  refine ⟨?_, fr_upd (by simp [MA.fp]) hl (fun _ z => by cases z)⟩
  obtain ⟨w1, l1, l2⟩ := h.lg
  obtain ⟨w3, y1, y2⟩ := h.ow
  obtain ⟨w4, z1, z2⟩ := h.ct
  have e : m.keep i g = { m with e := fun j => if j = i then some g else m.e j, en := m.en + 1 } := if_pos e0
  rw [e]
  refine ⟨at2 _ h.ap.2.symm _ h.ob, h.me.mono k2, h.vid.mono k2, h.ms.mono k2, ⟨w1, at2 _ (ne_of l1 hl (by intro z; cases z)) _ l1, l2.mono k2⟩, ⟨_, upd_same, fun j => ?_, ?_, fun kv hkv => ?_⟩, ⟨w3, at2 _ (ne_of y1 hl (by intro z; cases z)) _ y1, y2.mono k2⟩, ⟨w4, z1.mono (at2 _ (ne_of z1.ob hl (by intro z; cases z)) _ z1.ob) k2, z2⟩, h.ap⟩
  · show KpAt _ (valV (putK kvs (Sum.inl i) v) (Sum.inl j)) (if j = i then some g else m.e j)
    rw [valV_put]
    by_cases q : j = i
    · rw [if_pos (by rw [q]), if_pos q]; exact hg.mono k2
    · rw [if_neg (fun z => q (Sum.inl.inj z)), if_neg q]; exact (hk j).mono k2
  · have := length_putK kvs (Sum.inl i) v
    show _ ≤ m.en + 1
    omega
  · unfold putK at hkv
    split at hkv
    · obtain ⟨x, hx, e⟩ := List.mem_map.mp hkv
      obtain ⟨i', hi'⟩ := hki x hx
      split at e
      · rw [← e]; exact ⟨i', hi'⟩
      · rw [← e]; exact ⟨i', hi'⟩
    · rcases List.mem_append.mp hkv with hkv | hkv
      · exact hki kv hkv
      · rw [List.mem_singleton.mp hkv]; exact ⟨i, rfl⟩
/-- a count is told -/
theorem MAt.addCount (h : MAt w H d a s m) {kvs : NKV} {b : Addr} {x : Mem} {n : Int} (N : Nd w H a.ct kvs) (hN : ∀ y, valN kvs (kM y) = (m.c y).map V.int) (hl : kvs.length ≤ m.cn) (hs : m.cn ≤ 90000) (nk : NK H (.ref b) (kM x)) :
    MAt w (upd H a.ct (ndO w a.ct (putN kvs (kM x) b (.int (if (m.c x).getD 0 > n then (m.c x).getD 0 else n))))) d a s (m.heard x n) ∧ Fr (a.fp d) (a.fp d) H (upd H a.ct (ndO w a.ct (putN kvs (kM x) b (.int (if (m.c x).getD 0 > n then (m.c x).getD 0 else n))))) := by
  have hsl := sl
  generalize hv : (if (m.c x).getD 0 > n then (m.c x).getD 0 else n) = v
  have N2 := N.put (v := .int v) nk (kM_depth _) (by omega)
  generalize hh2 : upd H a.ct _ = H2 at *
  have k2 : TupK H H2 := by subst hh2; exact tupK_upd fun xs e => by rw [N.ob] at e; cases e
  have at2 : ∀ c, c ≠ a.ct → ∀ o, H c = some o → H2 c = some o := fun c h o e => by subst hh2; rw [upd_ne h]; exact e
  refine ⟨?_, by subst hh2; exact fr_upd (by simp [MA.fp]) N.ob (fun _ z => by cases z)⟩
  obtain ⟨w1, l1, l2⟩ := h.lg
  obtain ⟨w2, x3, x4⟩ := h.ea
  obtain ⟨w3, y1, y2⟩ := h.ow
  refine ⟨at2 _ (ne_of h.ob N.ob (by intro z; cases z)) _ h.ob, h.me.mono k2, h.vid.mono k2, h.ms.mono k2, ⟨w1, at2 _ (ne_of l1 N.ob (by intro z; cases z)) _ l1, l2.mono k2⟩, ⟨w2, at2 _ (ne_of x3 N.ob (by intro z; cases z)) _ x3, fun i => (x4.1 i).mono k2, x4.2⟩, ⟨w3, at2 _ (ne_of y1 N.ob (by intro z; cases z)) _ y1, y2.mono k2⟩, ⟨_, N2, fun y => ?_, ?_⟩, h.ap⟩
  · show _ = Option.map V.int (if y = x then some (if (m.c x).getD 0 > n then (m.c x).getD 0 else n) else m.c y)
    rw [valN_put, hv]
    by_cases e : y = x
    · rw [if_pos (by rw [e]), if_pos e]; rfl
    · rw [if_neg fun z => e (kM_inj z), if_neg e]; exact hN y
  · show _ ≤ m.cn + 1
    rw [putN_len']
    split <;> omega
end
end Mus

set_option maxRecDepth 100000
set_option maxHeartbeats 4000000
namespace Mus
open PySem PySem.Spec PyProof.Rows L2
def Ltr.sok : Ltr → Prop
  | .cast _ _ _ z => PyData.strOk z = true
  | .order _ _ _ g => PyData.strOk g.2.2 = true
  | _ => False
theorem eM_lay0 (m : Mem) : (eM m).canLay0 = true := (eM_lay m).1
theorem eV_lay0 (m : Vid) : (eV m).canLay0 = true := (eV_lay m).1
theorem eG_lay {g : Msg} (h : PyData.strOk g.2.2 = true) : (eG g).canLay0 = true ∧ (eG g).depth = 2 := ⟨by simp [eG, PyData.canLay0, PyData.canLayAll0, eM_lay0, h], by simp [eG, eM, PyData.depth, PyData.depthAll]⟩
theorem eC_lay {c : Cst} (h : PyData.strOk c.2 = true) : (eC c).canLay0 = true ∧ (eC c).depth = 1 := ⟨by simp [eC, PyData.canLay0, PyData.canLayAll0, h], by simp [eC, PyData.depth, PyData.depthAll]⟩
theorem ok_cast0 : PyData.strOk "cast" = true := by decide +kernel
theorem ok_order0 : PyData.strOk "order" = true := by decide +kernel
theorem sml_lay {l : Ltr} (h : l.sok) : (eL l).canLay0 = true ∧ (eL l).depth ≤ 3 := by
  cases l <;> try exact h.elim
  · have h : PyData.strOk _ = true := h
    exact ⟨by simp [eL, PyData.canLay0, PyData.canLayAll0, eM_lay0, eV_lay0, h, ok_cast0], by simp [eL, eV, eM, PyData.depth, PyData.depthAll]⟩
  · have h : PyData.strOk _ = true := h
    exact ⟨by simp [eL, PyData.canLay0, PyData.canLayAll0, eM_lay0, eV_lay0, (eG_lay h).1, ok_order0], by simp [eL, eV, eG, eM, PyData.depth, PyData.depthAll]⟩
theorem layAllM {α : Type} (f : α → PyData) : ∀ xs : List α, (∀ x ∈ xs, (f x).canLay0 = true) → PyData.canLayAll0 (xs.map f) = true
  | [], _ => rfl
  | x :: xs, h => by show ((f x).canLay0 && PyData.canLayAll0 (xs.map f)) = true; rw [h x (List.mem_cons_self ..), layAllM f xs fun y m => h y (List.mem_cons_of_mem _ m)]; rfl
theorem depAllM {α : Type} (f : α → PyData) (n : Nat) : ∀ xs : List α, (∀ x ∈ xs, (f x).depth ≤ n) → PyData.depthAll (xs.map f) ≤ n
  | [], _ => Nat.zero_le _
  | x :: xs, h => by
    show max (f x).depth (PyData.depthAll (xs.map f)) ≤ n
    have := h x (List.mem_cons_self ..)
    have := depAllM f n xs fun y m => h y (List.mem_cons_of_mem _ m)
    omega
def SmP (ps : List Pkt) : Prop := ∀ k ∈ ps, k.2.sok
def SmG (gs : List Msg) : Prop := ∀ g ∈ gs, PyData.strOk g.2.2 = true
theorem smG_nil : SmG [] := fun g hg => by cases hg
theorem smP_nil : SmP [] := fun g hg => by cases hg
theorem pk_lay {ps : List Pkt} (h : SmP ps) : PyData.canLayAll0 (ps.map ePk) = true ∧ PyData.depthAll (ps.map ePk) ≤ 4 := by
  refine ⟨layAllM _ _ fun x m => ?_, depAllM _ _ _ fun x m => ?_⟩
  · show (PyData.canLay0 (.int x.1) && (PyData.canLay0 (eL x.2) && true)) = true
    rw [(sml_lay (h x m)).1]; rfl
  · have := (sml_lay (h x m)).2
    simp [ePk, PyData.depth, PyData.depthAll]; omega
theorem gs_lay {gs : List Msg} (h : SmG gs) : PyData.canLayAll0 (gs.map eG) = true ∧ PyData.depthAll (gs.map eG) ≤ 2 :=
  ⟨layAllM _ _ fun x m => (eG_lay (h x m)).1, depAllM _ _ _ fun x m => by rw [(eG_lay (h x m)).2]; exact Nat.le_refl _⟩
theorem sh_pks {ps : List Pkt} (h : SmP ps) : SeqAt.shaped (.list (ps.map ePk)) = true := by
  have := pk_lay h
  simp [SeqAt.shaped, PyData.canLay0, PyData.canLayAll0, PyData.depth, PyData.depthAll, *]
  omega
theorem sh_gs {gs : List Msg} (g : SmG gs) : SeqAt.shaped (eGs gs) = true := by
  have := gs_lay g
  simp [eGs, SeqAt.shaped, PyData.canLay0, PyData.canLayAll0, PyData.depth, PyData.depthAll, *]
  omega
theorem ords_len (s : OS) (i : Int) (g : Msg) : (s.ords i g).length ≤ s.mems.length := by
  unfold OS.ords OS.others
  rw [List.length_map]
  exact List.length_filter_le _ _
theorem cast_len (s : OS) (z : Str) : (s.cast z).2.2.1.length ≤ 1 ∧ (s.cast z).2.2.2.length ≤ s.mems.length + 1 := by
  unfold OS.cast
  dsimp only
  split
  · refine ⟨Nat.le_refl _, ?_⟩
    have := ords_len ({ s with casts := s.casts + 1 }) ((s.log.length : Int) + 1) (s.me, s.casts + 1, z)
    exact Nat.le_succ_of_le this
  · exact ⟨Nat.zero_le _, by simp⟩
theorem flush_len : ∀ (n : Nat) (s : OS), (OS.flush n s).2.length ≤ n
  | 0, s => Nat.le_refl _
  | n + 1, s => by
    unfold OS.flush
    split
    · exact Nat.zero_le _
    · have := flush_len n ((s.drop ((s.log.length : Int) + 1)).deliver (by assumption))
      exact Nat.succ_le_succ this
theorem take_len (s : OS) (l : Ltr) : (s.take l).2.1.length ≤ s.kn + 1 ∧ (s.take l).2.2.length ≤ s.mems.length + 1 := by
  cases l <;> try exact ⟨Nat.zero_le _, Nat.zero_le _⟩
  case cast x v i z =>
    show (s.takeCast x v i z).2.1.length ≤ _ ∧ (s.takeCast x v i z).2.2.length ≤ _
    unfold OS.takeCast
    split
    · exact ⟨Nat.zero_le _, Nat.zero_le _⟩
    · split
      · exact ⟨Nat.zero_le _, Nat.zero_le _⟩
      · exact ⟨by show 1 ≤ _; omega, Nat.le_succ_of_le (ords_len s _ _)⟩
  case order x v i g =>
    show (s.takeOrder x v i g).2.length ≤ _ ∧ ([] : List Pkt).length ≤ _
    refine ⟨?_, Nat.zero_le _⟩
    unfold OS.takeOrder
    split
    · exact Nat.zero_le _
    · have c := flush_len (s.keep i g).kn (s.keep i g)
      have e : (s.keep i g).kn ≤ s.kn + 1 := by
        unfold OS.keep
        split
        · exact Nat.le_refl _
        · omega
      omega
theorem flush_con : ∀ (n : Nat) (s : OS), n ≤ s.kn → (OS.flush n s).1.me = s.me ∧ (OS.flush n s).1.vid = s.vid ∧ (OS.flush n s).1.mems = s.mems ∧ (OS.flush n s).1.tn = s.tn ∧ (OS.flush n s).1.log.length + (OS.flush n s).1.kn = s.log.length + s.kn
  | 0, s, _ => ⟨rfl, rfl, rfl, rfl, rfl⟩
  | n + 1, s, h => by
    unfold OS.flush
    split
    · exact ⟨rfl, rfl, rfl, rfl, rfl⟩
    · rename_i g _
      have ih := flush_con n ((s.drop ((s.log.length : Int) + 1)).deliver g) (by show n ≤ s.kn - 1; omega)
      refine ⟨ih.1, ih.2.1, ih.2.2.1, ih.2.2.2.1, ih.2.2.2.2.trans ?_⟩
      show (s.log ++ [g]).length + (s.kn - 1) = _
      rw [List.length_append, List.length_singleton]
      omega
theorem take_con (s : OS) (l : Ltr) : (s.take l).1.mems = s.mems ∧ (s.take l).1.tn = s.tn ∧ (s.take l).1.log.length + (s.take l).1.kn ≤ s.log.length + s.kn + 1 := by
  cases l <;> try exact ⟨rfl, rfl, by show s.log.length + s.kn ≤ _; omega⟩
  case cast x v i z =>
    show (s.takeCast x v i z).1.mems = _ ∧ (s.takeCast x v i z).1.tn = _ ∧ (s.takeCast x v i z).1.log.length + (s.takeCast x v i z).1.kn ≤ _
    unfold OS.takeCast
    split
    · exact ⟨rfl, rfl, by show s.log.length + s.kn ≤ _; omega⟩
    · split
      · exact ⟨rfl, rfl, by show s.log.length + s.kn ≤ _; omega⟩
      · refine ⟨rfl, rfl, ?_⟩
        show (s.log ++ [_]).length + s.kn ≤ _
        rw [List.length_append, List.length_singleton]; omega
  case order x v i g =>
    show (s.takeOrder x v i g).1.mems = _ ∧ (s.takeOrder x v i g).1.tn = _ ∧ (s.takeOrder x v i g).1.log.length + (s.takeOrder x v i g).1.kn ≤ _
    unfold OS.takeOrder
    split
    · exact ⟨rfl, rfl, by show s.log.length + s.kn ≤ _; omega⟩
    · have c := flush_con (s.keep i g).kn (s.keep i g) (Nat.le_refl _)
      have e : (s.keep i g).mems = s.mems ∧ (s.keep i g).tn = s.tn ∧ (s.keep i g).log.length + (s.keep i g).kn ≤ s.log.length + s.kn + 1 := by
        unfold OS.keep
        split
        · exact ⟨rfl, rfl, by show s.log.length + (s.kn + 1) ≤ _; omega⟩
        · exact ⟨rfl, rfl, by omega⟩
      exact ⟨c.2.2.1.trans e.1, c.2.2.2.1.trans e.2.1, c.2.2.2.2 ▸ e.2.2⟩
theorem cast_con (s : OS) (z : Str) : (s.cast z).1.mems = s.mems ∧ (s.cast z).1.tn = s.tn ∧ (s.cast z).1.log.length + (s.cast z).1.kn ≤ s.log.length + s.kn + 1 := by
  unfold OS.cast
  dsimp only
  split
  · refine ⟨rfl, rfl, ?_⟩
    show (s.log ++ [_]).length + s.kn ≤ _
    rw [List.length_append, List.length_singleton]; omega
  · exact ⟨rfl, rfl, by show s.log.length + s.kn ≤ _; omega⟩
theorem heard_con (s : OS) (x : Mem) (n : Int) : (s.heard x n).mems = s.mems ∧ (s.heard x n).tn ≤ s.tn + 1 ∧ (s.heard x n).log.length + (s.heard x n).kn = s.log.length + s.kn := by
  unfold OS.heard
  split
  · refine ⟨rfl, ?_, rfl⟩
    show (if (s.told x).isSome then s.tn else s.tn + 1) ≤ _
    split <;> omega
  · exact ⟨rfl, by omega, rfl⟩
end Mus

set_option maxRecDepth 100000
set_option maxHeartbeats 4000000
namespace Mus
open PySem PySem.Spec PyProof.Rows L2
/-! ### the orders in the heap -/
def upA (as : Nat → OA) (k : Nat) (a : OA) : Nat → OA := fun j => if j = k then a else as j
theorem upA_at (as : Nat → OA) (k : Nat) (a : OA) : upA as k a k = a := if_pos rfl
theorem upA_ne (as : Nat → OA) {k j : Nat} (a : OA) (h : j ≠ k) : upA as k a j = as j := if_neg h
structure OrdsAt (w : World) (CO : Addr) (H : Hp) (l : Addr) (n : Nat) (ps : Nat → Addr) (as : Nat → OA) (os : Nat → OS) : Prop where
  ls : H l = some (.lst ((List.range n).map fun k => V.ref (ps k)))
  at_ : ∀ k, k < n → OAt w CO H (ps k) (as k) (os k)
  dj : ∀ i j, i < n → j < n → i ≠ j → ∀ b ∈ (as i).fp (ps i), b ∉ (as j).fp (ps j)
  lo : ∀ k, k < n → l ∉ (as k).fp (ps k)
/-- what all the orders hold -/
def OFp (n : Nat) (ps : Nat → Addr) (as : Nat → OA) : Addr → Prop := fun b => ∃ k, k < n ∧ b ∈ (as k).fp (ps k)
section
variable {w : World} {CO : Addr} {H H' : Hp} {l : Addr} {n : Nat} {ps : Nat → Addr} {as : Nat → OA} {os : Nat → OS}
theorem OrdsAt.mono (h : OrdsAt w CO H l n ps as os) (e : ∀ b o, H b = some o → (b = l ∨ OFp n ps as b) → H' b = some o) (t : TupK H H') : OrdsAt w CO H' l n ps as os :=
  ⟨e _ _ h.ls (.inl rfl), fun k hk => (h.at_ k hk).mono (fun b hb o x => e b o x (.inr ⟨k, hk, hb⟩)) t, h.dj, h.lo⟩
theorem OrdsAt.same (h : OrdsAt w CO H l n ps as os) (s : Same H H') : OrdsAt w CO H' l n ps as os := h.mono (fun b o x _ => s b o x) (TupK.of s)
theorem OrdsAt.item (h : OrdsAt w CO H l n ps as os) {k : Nat} (hk : k < n) : atI ((List.range n).map fun k => V.ref (ps k)) (k : Int) = some (.ref (ps k)) := by
  refine at_int (by omega) ?_
  rw [Int.toNat_natCast, List.getElem?_map, List.getElem?_range hk]; rfl
theorem OrdsAt.taken (h : OrdsAt w CO H l n ps as os) {b : Addr} (hb : OFp n ps as b) : ∃ o, H b = some o ∧ ∀ xs, o ≠ .tup xs := by
  obtain ⟨k, hk, hm⟩ := hb
  exact (h.at_ k hk).taken b hm
/-- one order acts -/
theorem OrdsAt.act (h : OrdsAt w CO H l n ps as os) {k : Nat} (hk : k < n) {a' : OA} {s' : OS} (O : OAt w CO H' (ps k) a' s') (F : Fr ((as k).fp (ps k)) (a'.fp (ps k)) H H') :
    OrdsAt w CO H' l n ps (upA as k a') (upF os k s') ∧ (∀ b, OFp n ps (upA as k a') b → OFp n ps as b ∨ H b = none) ∧ (∀ b o, H b = some o → ¬ OFp n ps as b → H' b = some o) := by
  have kk : ∀ b o, H b = some o → b ∉ (as k).fp (ps k) → H' b = some o := fun b o x y => F.k b o x y
  refine ⟨⟨kk _ _ h.ls (h.lo k hk), fun j hj => ?_, fun i j hi hj n b hb => ?_, fun j hj => ?_⟩, fun b hb => ?_, fun b o x y => kk b o x fun z => y ⟨k, hk, z⟩⟩
  · by_cases q : j = k
    · subst q; rw [upA_at, upF_at]; exact O
    · rw [upA_ne _ _ q, upF_ne _ _ q]
      exact (h.at_ j hj).fr F (h.dj j k hj hk q)
  · by_cases q : i = k
    · subst q
      rw [upA_at] at hb
      rw [upA_ne _ _ (Ne.symm n)]
      intro z
      rcases F.n b hb with y | y
      · exact h.dj j i hj hi (Ne.symm n) b z y
      · obtain ⟨o, e, _⟩ := (h.at_ j hj).taken b z
        rw [y] at e; cases e
    · rw [upA_ne _ _ q] at hb
      by_cases r : j = k
      · subst r
        rw [upA_at]
        intro z
        rcases F.n b z with y | y
        · exact h.dj i j hi hj n b hb y
        · obtain ⟨o, e, _⟩ := (h.at_ i hi).taken b hb
          rw [y] at e; cases e
      · rw [upA_ne _ _ r]; exact h.dj i j hi hj n b hb
  · by_cases q : j = k
    · subst q
      rw [upA_at]
      intro z
      rcases F.n l z with y | y
      · exact h.lo j hj y
      · have := h.ls; rw [y] at this; cases this
    · rw [upA_ne _ _ q]; exact h.lo j hj
  · obtain ⟨j, hj, hm⟩ := hb
    by_cases q : j = k
    · subst q
      rw [upA_at] at hm
      rcases F.n b hm with y | y
      · exact .inl ⟨j, hj, y⟩
      · exact .inr y
    · rw [upA_ne _ _ q] at hm
      exact .inl ⟨j, hj, hm⟩
end
/-! ### the law's own dicts -/
def kQ (q : Mem × Int) : NestedKey := .tup [kM q.1, .num q.2]
theorem kQ_inj {a b : Mem × Int} (h : kQ a = kQ b) : a = b := by
  injection h with h
  injection h with h1 h2
  injection h2 with h2 _
  injection h2 with h2
  exact Prod.ext (kM_inj h1) h2
theorem kQ_depth (q : Mem × Int) : (kQ q).depth ≤ 8 := by simp [kQ, kM, NestedKey.depth, NestedKey.depthAll]
structure CsAt (w : World) (H : Hp) (d : Addr) (ms : List Mem) (ls : Mem → Addr) (cs : Mem → List Str) : Prop where
  nd : ∃ kvs, Nd w H d kvs ∧ (∀ m ∈ ms, valN kvs (kM m) = some (.ref (ls m))) ∧ kvs.length ≤ ms.length
  at_ : ∀ m ∈ ms, LstAt H (ls m) ((cs m).map PyData.str)
  inj : ∀ m ∈ ms, ∀ m' ∈ ms, m ≠ m' → ls m ≠ ls m'
theorem CsAt.mono {w : World} {H H' : Hp} {d : Addr} {ms : List Mem} {ls : Mem → Addr} {cs : Mem → List Str} (h : CsAt w H d ms ls cs) (e : ∀ b o, H b = some o → (b = d ∨ ∃ m ∈ ms, b = ls m) → H' b = some o) (t : TupK H H') : CsAt w H' d ms ls cs := by
  obtain ⟨kvs, n, v, l⟩ := h.nd
  exact ⟨⟨kvs, n.mono (e _ _ n.ob (.inl rfl)) t, v, l⟩, fun m hm => (h.at_ m hm).mono (fun o x => e _ o x (.inr ⟨m, hm, rfl⟩)) t, h.inj⟩
def CaAt (w : World) (H : Hp) (d : Addr) (ca : Mem × Int → Option Int) (n : Nat) : Prop := ∃ kvs, Nd w H d kvs ∧ (∀ q, valN kvs (kQ q) = (ca q).map V.int) ∧ kvs.length ≤ n
theorem CaAt.mono {w : World} {H H' : Hp} {d : Addr} {ca : Mem × Int → Option Int} {n : Nat} (h : CaAt w H d ca n) (e : ∀ o, H d = some o → H' d = some o) (t : TupK H H') : CaAt w H' d ca n := by
  obtain ⟨kvs, h1, h2⟩ := h
  exact ⟨kvs, h1.mono (e _ h1.ob) t, h2⟩
end Mus

set_option maxRecDepth 100000
set_option maxHeartbeats 4000000
/-! Displays of data, with no bag: p is any place that is taken. -/
namespace Mus
open PySem L2
def Occ (p : Addr) (H : Hp) : Prop := ∃ o, H p = some o
theorem Occ.same {p : Addr} {H H' : Hp} (g : Occ p H) (s : Same H H') : Occ p H' := by
  obtain ⟨o, h⟩ := g
  exact ⟨o, s _ _ h⟩
theorem Occ.ne {p D : Addr} {H : Hp} (g : Occ p H) (h : H D = none) : p ≠ D := by
  obtain ⟨o, hp⟩ := g
  exact ne_of_none hp h
def ZE (p : Addr) (te : TE) (σ : St) (d : PyData) : Prop := ∀ (H : Hp) (Q : VK), Occ p H → (∀ v H', Same H H' → Rp p H' v d → Q v H') → te σ H Q
def ZEs (p : Addr) (ta : TA) (σ : St) (ds : List PyData) : Prop := ∀ (H : Hp) (Q : List V → Hp → Prop), Occ p H → (∀ vs H', Same H H' → Rps p H' vs ds → Q vs H') → ta σ H Q
section
variable {p : Addr} {σ : St} {te ta1 tb1 : TE} {ta : TA} {i j : Int} {d : PyData} {ds : List PyData}
theorem ze_i (h : DI te σ i) : ZE p te σ (.int i) := fun H Q g q => h H Q (q _ H (Same.rfl' H) (.int i))
theorem ze_bl {b : Bool} : ZE p (tC (.bl b)) σ (.bool b) := fun H Q g q => q _ H (Same.rfl' H) (.bl b)
theorem ze_str {z : Str} : ZE p (tC (.str z)) σ (.str z) := fun H Q g q => q _ H (Same.rfl' H) (.str z)
theorem ze_non : ZE p (tC .non) σ .none := fun H Q g q => q _ H (Same.rfl' H) .non
theorem zes_nil : ZEs p tNil σ [] := fun H Q g q => q [] H (Same.rfl' H) .nil
theorem zes_cons (h1 : ZE p te σ d) (h2 : ZEs p ta σ ds) : ZEs p (tCons te ta) σ (d :: ds) := fun H Q g q =>
  h1 H _ g fun v H1 s1 r1 => h2 H1 _ (g.same s1) fun vs H2 s2 r2 => q _ H2 (s1.trans s2) (.cons (r1.same s2) r2)
theorem ze_tup (h : ZEs p ta σ ds) (hl : ds.length ≤ 1000) : ZE p (tTup ta) σ (.tuple ds) := fun H Q g q =>
  h H _ g fun vs H1 s1 r1 => ⟨by have := r1.length; have := sl; omega, fun a na => q _ _ (s1.trans (same_new na _)) (.tup upd_same ((g.same s1).ne na).symm (by have := r1.length; omega) (r1.same (same_new na _)))⟩
theorem ze_lst (h : ZEs p ta σ ds) (hl : ds.length ≤ 1000) : ZE p (tLst ta) σ (.list ds) := fun H Q g q =>
  h H _ g fun vs H1 s1 r1 => ⟨by have := r1.length; have := sl; omega, fun a na => q _ _ (s1.trans (same_new na _)) (.lst upd_same ((g.same s1).ne na).symm (r1.same (same_new na _)))⟩
theorem ze_cat {es : List PyData} (h1 : ZE p ta1 σ (.list ds)) (h2 : ZE p tb1 σ (.list es)) (hl : ds.length + es.length ≤ 1000) : ZE p (tOp rCat ta1 tb1) σ (.list (ds ++ es)) := fun H Q g q =>
  h1 H _ g fun v H1 s1 r1 => h2 H1 _ (g.same s1) fun u H2 s2 r2 => by
    obtain _ | _ | _ | _ | @⟨a, xs, _, ha, na, hr⟩ | _ := r1.same s2
    obtain _ | _ | _ | _ | @⟨b, ys, _, hb, nb, hr2⟩ | _ := r2
    refine ⟨a, b, xs, ys, rfl, rfl, ha, hb, ?_, fun t nt => q _ _ (s1.trans (s2.trans (same_new nt _))) (.lst upd_same (((g.same s1).same s2).ne nt).symm ((hr.append hr2).same (same_new nt _)))⟩
    have := hr.length; have := hr2.length; have := sl; omega
theorem ze_varD {n : Nat} {v : V} (h : σ[n]? = some (some v)) (hd : ∀ H, Rp p H v d) : ZE p (tVar n) σ d := fun H Q g q => ⟨_, h, q _ H (Same.rfl' H) (hd H)⟩
/-- a list of the data D at some place -/
theorem ze_list {H : Hp} {Q : VK} (h : ZE p te σ (.list ds)) (g : Occ p H) (q : ∀ a xs H', Same H H' → H' a = some (.lst xs) → a ≠ p → Rps p H' xs ds → Q (.ref a) H') : te σ H Q :=
  h H Q g fun v H' s r => by
    obtain _ | _ | _ | _ | @⟨a, xs, _, ha, na, hr⟩ | _ := r
    exact q a xs H' s ha na hr
end
end Mus

set_option maxRecDepth 100000
set_option maxHeartbeats 4000000
/-! Displays of data without lists; what stood in G still stands. -/
namespace Mus
open PySem L2
def TZ (G : Hp) (te : TE) (σ : St) (d : PyData) : Prop := ∀ (H : Hp) (Q : VK), Same G H → (∀ v H', Same H H' → TD H' v d → Q v H') → te σ H Q
def TZs (G : Hp) (ta : TA) (σ : St) (ds : List PyData) : Prop := ∀ (H : Hp) (Q : List V → Hp → Prop), Same G H → (∀ vs H', Same H H' → TDs H' vs ds → Q vs H') → ta σ H Q
section
variable {G : Hp} {σ : St} {te : TE} {ta : TA} {i : Int} {d : PyData} {ds : List PyData}
theorem tz_i (h : DI te σ i) : TZ G te σ (.int i) := fun H Q g q => h H Q (q _ H (Same.rfl' H) (.int i))
theorem tz_bl {b : Bool} : TZ G (tC (.bl b)) σ (.bool b) := fun H Q g q => q _ H (Same.rfl' H) (.bl b)
theorem tz_str {z : Str} : TZ G (tC (.str z)) σ (.str z) := fun H Q g q => q _ H (Same.rfl' H) (.str z)
theorem tzs_nil : TZs G tNil σ [] := fun H Q g q => q [] H (Same.rfl' H) .nil
theorem tzs_cons (h1 : TZ G te σ d) (h2 : TZs G ta σ ds) : TZs G (tCons te ta) σ (d :: ds) := fun H Q g q =>
  h1 H _ g fun v H1 s1 r1 => h2 H1 _ (g.trans s1) fun vs H2 s2 r2 => q _ H2 (s1.trans s2) (.cons (r1.same s2) r2)
theorem tz_tup (h : TZs G ta σ ds) (hl : ds.length ≤ 1000) : TZ G (tTup ta) σ (.tuple ds) := fun H Q g q =>
  h H _ g fun vs H1 s1 r1 => ⟨by have := r1.length; have := sl; omega, fun a na => q _ _ (s1.trans (same_new na _)) (.tup upd_same (by have := r1.length; omega) (r1.same (same_new na _)))⟩
theorem tz_var {n : Nat} {v : V} (h : σ[n]? = some (some v)) (hd : TD G v d) : TZ G (tVar n) σ d := fun H Q g q => ⟨_, h, q _ H (Same.rfl' H) (hd.same g)⟩
theorem tz_lst {H : Hp} {Q : VK} (h : TZs H ta σ ds) (hl : ds.length ≤ 1000) (q : ∀ a xs H', Same H H' → H a = none → H' a = some (.lst xs) → TDs H' xs ds → Q (.ref a) H') : tLst ta σ H Q :=
  h H _ (Same.rfl' H) fun vs H1 s1 r1 => ⟨by have := r1.length; have := sl; omega, fun a na => q a vs _ (s1.trans (same_new na _)) ((Fr.of (fp := []) s1).s _ na) upd_same (r1.same (same_new na _))⟩
end
end Mus

set_option maxRecDepth 100000
set_option maxHeartbeats 4000000
namespace Mus
open PySem L2
local macro_rules | `(tactic| walk_at "rd") => `(tactic| first
  | refine ⟨_, rfl, ?_⟩ | refine ⟨(True.intro : True), ?_⟩
  | refine ⟨_, _, rfl, rfl, (⟨by decide, by decide, by decide⟩ : CPow _ _), ?_⟩
  | refine ⟨_, _, rfl, rfl, (⟨by decide, by decide⟩ : CDiv _ _), ?_⟩
  | refine ⟨_, _, rfl, rfl, (by show (0 : Int) < _; decide), ?_⟩
  | refine ⟨_, _, rfl, rfl, ?_⟩ | refine ⟨rfl, ?_⟩ | refine iteT ?_ | refine iteF ?_ | refine ⟨_, _, rfl, ?_⟩ | refine .inl ⟨_, rfl, ?_⟩
  | refine ⟨_, _, _, _, _, rfl, (by assumption), (by assumption), (by assumption), rfl, ?_⟩ | refine ⟨_, _, _, _, rfl, rfl, SqT.of (by assumption), rfl, ?_⟩ | refine ⟨_, _, rfl, SqT.of (by assumption), rfl, ?_⟩
  | refine ⟨_, _, _, _, _, rfl, .ty _, Rp.ty (by assumption), kit_int _, ?_⟩ | refine ⟨_, _, _, _, _, rfl, .ty _, Rp.ty (by assumption), kit_bool _, ?_⟩
  | refine ⟨_, _, _, _, _, rfl, .ty _, Rp.ty (by assumption), kit_str _, ?_⟩ | refine ⟨_, _, _, _, _, rfl, .ty _, Rp.ty (by assumption), kit_tup _, ?_⟩)
local macro_rules | `(tactic| walk_at "cal") => `(tactic| first
  | refine ⟨_, _, _, _, _, rfl, (by assumption), ?_⟩ | refine ⟨_, _, _, _, _, rfl, (by assumption), (by assumption), ?_⟩)
local macro_rules | `(tactic| walk_at "sq") => `(tactic| first
  | refine ⟨_, _, rfl, Or.inr (SqT.of (by assumption)), ?_⟩ | refine ⟨_, _, _, _, rfl, rfl, SqT.of (by assumption), rfl, ?_⟩)
local macro_rules | `(tactic| walk_at "rds") => `(tactic| repeat first | walk_at "rd" | walk_at "cal" | walk_at "sq")
local macro_rules | `(tactic| walk_at "ze") => `(tactic| repeat first
  | exact zes_nil | exact ze_bl | exact ze_str | exact ze_non | apply zes_cons | apply ze_tup | apply ze_lst | apply ze_cat | exact di_c | exact di_v rfl | apply di_opC | apply di_op | apply di_neg | apply ze_i | (refine (⟨?_, ?_, ?_⟩ : CPow _ _) <;> decide) | exact Nat.le_of_ble_eq_true rfl | exact ze_varD rfl (by assumption))
local macro_rules | `(tactic| walk_at "rdz") => `(tactic| repeat (fail_if_success (first | show tLst _ _ _ _ | show tAsg (tLst _) _ _ _ _ | show tSeq (tAsg (tLst _) _) _ _ _ _)); first | walk_at "rd" | walk_at "cal" | walk_at "sq")
local macro_rules | `(tactic| walk_at "dv") => `(tactic| refine ⟨_, _, rfl, rfl, (wide_div (b := 40) (by decide) (by decide) (by decide) (by decide) : CDivW _ _), ?_⟩)
theorem pickS6 {k : Int} (h0 : 0 ≤ k) (h1 : k < 6) : ∃ z : Str, atI [V.str (Str.ofString ""), V.str (Str.ofString "x"), V.str (Str.ofString "a b"), V.str (Str.ofString "Yes"), V.str (Str.ofString " T "), V.str (Str.ofString "q7:;(")] k = some (V.str z) ∧ z.length ≤ 30 ∧ PyData.strOk z = true := by
  have h : k = 0 ∨ k = 1 ∨ k = 2 ∨ k = 3 ∨ k = 4 ∨ k = 5 := by omega
  rcases h with rfl | rfl | rfl | rfl | rfl | rfl <;> exact ⟨_, rfl, by decide +kernel⟩
def chars20 : Str := Str.ofString " !\"#$&'()*+,-./0123456789:;<=>?@ABCDEFGHIJKLMNOPQRSTUVWXYZ[\\]^_`abcdefghijklmnopqrstuvwxyz{|}~"
theorem strOk_cat {x y : Str} (hx : PyData.strOk x = true) (hy : PyData.strOk y = true) : PyData.strOk (x ++ y) = true := by
  show ((x.cps ++ y.cps).all _) = true
  rw [Array.all_append]
  exact Bool.and_eq_true_iff.mpr ⟨hx, hy⟩
theorem strOk_sign {x : Str} (hx : PyData.strOk x = true) {i : Nat} {c : Nat} (h : x.cps.toList[i]? = some c) : PyData.strOk ⟨#[c]⟩ = true := by
  have h2 : x.cps.toList.all (fun c => decide (c < 1114112)) = true := by rw [Array.all_toList]; exact hx
  have := List.all_eq_true.mp h2 c (List.mem_of_getElem? h)
  show (#[c].all fun x => decide (x < 1114112)) = true
  simpa using this
theorem chars20_ok : PyData.strOk chars20 = true := by decide +kernel
theorem chars20_len : chars20.cps.toList.length = 94 := by decide +kernel
/-- frames with what may change as a predicate -/
structure FO (A A' : Addr → Prop) (H H' : Hp) : Prop where
  k : ∀ b o, H b = some o → ¬ A b → H' b = some o
  n : ∀ b, A' b → A b ∨ H b = none
  t : TupK H H'
  s : ∀ b, H' b = none → H b = none
theorem FO.refl (A : Addr → Prop) (H : Hp) : FO A A H H := ⟨fun _ _ h _ => h, fun _ h => .inl h, TupK.refl H, fun _ h => h⟩
theorem FO.of {A : Addr → Prop} {H H' : Hp} (s : Same H H') : FO A A H H' := ⟨fun b o h _ => s b o h, fun _ h => .inl h, TupK.of s, fun b h => by
  cases e : H b with
  | none => rfl
  | some o => rw [s b o e] at h; cases h⟩
theorem FO.trans {A B C : Addr → Prop} {H H1 H2 : Hp} (a : FO A B H H1) (b : FO B C H1 H2) : FO A C H H2 := by
  refine ⟨fun c o h n => b.k c o (a.k c o h n) fun m => ?_, fun c m => ?_, a.t.trans b.t, fun c h => a.s c (b.s c h)⟩
  · rcases a.n c m with z | z
    · exact n z
    · rw [h] at z; cases z
  · rcases b.n c m with z | z
    · exact a.n c z
    · by_cases q : A c
      · exact .inl q
      · cases e : H c with
        | none => exact .inr rfl
        | some o => rw [a.k c o e q] at z; cases z
theorem FO.wide {A A' D : Addr → Prop} {H H' : Hp} (a : FO A A' H H') : FO (fun c => A c ∨ D c) (fun c => A' c ∨ D c) H H' :=
  ⟨fun b o h n => a.k b o h fun z => n (.inl z), fun b h => by
    rcases h with h | h
    · exact (a.n b h).imp .inl id
    · exact .inl (.inr h), a.t, a.s⟩
theorem FO.fr {A : Addr → Prop} {l : List Addr} {H H' : Hp} (f : Fr l l H H') (h : ∀ b ∈ l, A b) : FO A A H H' := ⟨fun b o x n => f.k b o x fun z => n (h b z), fun _ h => .inl h, f.t, f.s⟩
theorem FO.sub {A A' B : Addr → Prop} {H H' : Hp} (a : FO A A' H H') (h : ∀ b, B b → A' b) : FO A B H H' := ⟨a.k, fun b z => a.n b (h b z), a.t, a.s⟩
/-- how much the orders hold -/
def BD (t : Nat) (n : Nat) (os : Nat → OS) : Prop := ∀ k, k < n → (os k).log.length + (os k).kn ≤ t ∧ (os k).tn ≤ t
theorem IV.pl {ms : List Mem} {v0 : Vid} {os : Nat → OS} {cs : Mem → List Str} {ca : Mem × Int → Option Int} (I : IV ms v0 os cs ca) {k : Nat} (hk : k < ms.length) : (os k).pend.length ≤ (cs (os k).me).length := by
  have O := I.oi k hk
  by_cases q : k = 0
  · rw [O.pend0 q]; exact Nat.zero_le _
  · rw [O.pend q, pd_len, List.length_drop]; omega
theorem LOk.flows {ms : List Mem} {cs : Mem → List Str} {L : List Msg} {l : Ltr} (h : LOk ms cs L l) : l.flows := by
  cases l <;> first | exact True.intro | exact h.elim
section
variable {P : Program} {w : World} {K : PySem.W.Frag} {mg : Str → Option Value} {base : Heap} {CO CV : Addr}
def sp_cell20 (K : PySem.W.Frag) : Sp := fun vs H Q _ => ∃ (a : Addr) (ns : List Int) (k : Int), vs = [.ref a, .int k] ∧ 0 ≤ k ∧ SqL K H a (ns.map V.int) ∧ ∀ x, Q (.int x) H
abbrev s__law_cell : Stmt := top 8
abbrev N__law_cell : List Str := ["script", "k"]
abbrev P__law_cell : List Str := ["script", "k"]
theorem sc__law_cell : FnScope N__law_cell P__law_cell (defScope s__law_cell) := ⟨rfl, rfl, rfl, by decide +kernel, rfl, by decide +kernel, by decide +kernel⟩
theorem ok__law_cell {f : Addr} {fd : FuncData} (T : Tx K mg CO CV) (F : Fun K "_law_cell" "_law_cell" s__law_cell f fd) : FnOk P w K mg base CX0 (1) f fd P__law_cell (sp_cell20 K) := by
  have nd := sc__law_cell.nd
  refine F.ok sc__law_cell (fun vs H Q E h => ?_) (fun cdv A outer s H vs Q E hr h => ?_)
  · obtain ⟨_, _, _, rfl, _⟩ := h
    rfl
  · obtain ⟨a, ns, k, rfl, k0, hS, q⟩ := h
    refine ⟨_, (pss_cons (ps_if (pt_cmpR op_lt (pv 1) (pe_callB call_len_seq (by rfl) T.b_len (by decide +kernel) (pa_cons (pv 0) pa_nil)) (nomark _))
        (pss_one (ps_ret (pe_ix ix_list (pv 0) (pv 1) (fun _ _ => rfl))))
        pss_nil)
      (pss_one (ps_ret pe_int))), ?_⟩
    have hl : (ns.map V.int).length = ns.length := List.length_map _
    walk_at "rds"
    refine ⟨a, _, rfl, .inl hS, ?_⟩
    walk_at "rds"
    refine iB (fun h => ?_) (fun h => ?_)
    · have hk : k < (((ns.map V.int).length : Nat) : Int) := of_decide_eq_true h
      have hk2 : k.toNat < ns.length := by omega
      walk_at "rds"
      exact ⟨a, _, _, .int ns[k.toNat], rfl, rfl, hS, at_int k0 (by rw [List.getElem?_map, List.getElem?_eq_getElem hk2]; rfl), q _⟩
    · exact q _
def sp_pay20 : Sp := fun vs H Q _ => ∃ (c : Int), vs = [.int c] ∧ 0 ≤ c ∧ ∀ z H', Same H H' → z.length ≤ 30 → PyData.strOk z = true → Q (.str z) H'
abbrev s__law_payload : Stmt := top 9
abbrev N__law_payload : List Str := ["cell", "chars", "text", "rest", "k"]
abbrev P__law_payload : List Str := ["cell"]
theorem sc__law_payload : FnScope N__law_payload P__law_payload (defScope s__law_payload) := ⟨rfl, rfl, rfl, by decide +kernel, rfl, by decide +kernel, by decide +kernel⟩
theorem ok__law_payload {f : Addr} {fd : FuncData} (T : Tx K mg CO CV) (F : Fun K "_law_payload" "_law_payload" s__law_payload f fd) : FnOk P w K mg base CX0 (1) f fd P__law_payload (sp_pay20) := by
  have nd := sc__law_payload.nd
  refine F.ok sc__law_payload (fun vs H Q E h => ?_) (fun cdv A outer s H vs Q E hr h => ?_)
  · obtain ⟨_, rfl, _⟩ := h
    rfl
  · obtain ⟨c, rfl, c0, q⟩ := h
    have hs := sl
    refine ⟨_, (pss_cons (ps_set (i := 1) nd rfl (Or.inl rfl) pe_str)
      (pss_cons (ps_if (pt_cmpR op_gt (pe_op op_mod (pe_callTy call_int1 (by rfl) T.b_int (by decide +kernel) (pa_cons (pv 0) pa_nil)) pe_int) pe_int (nomark _))
        (pss_one (ps_ret (pe_ix ix_list (pe_lst (pa_cons pe_str (pa_cons pe_str (pa_cons pe_str (pa_cons pe_str (pa_cons pe_str (pa_cons pe_str pa_nil))))))) (pe_op op_mod (pe_callTy call_int1 (by rfl) T.b_int (by decide +kernel) (pa_cons (pe_op op_fdivW (pv 0) pe_int) pa_nil)) pe_int) (fun _ _ => rfl))))
        pss_nil)
      (pss_cons (ps_set (i := 2) nd rfl (Or.inl rfl) pe_str)
      (pss_cons (ps_set (i := 3) nd rfl (Or.inl rfl) (pe_callTy call_int1 (by rfl) T.b_int (by decide +kernel) (pa_cons (pe_op op_fdivW (pv 0) pe_int) pa_nil)))
      (pss_cons (ps_for PassesOwn.never rfl (pi_range1 (by rfl) T.b_range (pa_cons (pe_op op_mod (pe_callTy call_int1 (by rfl) T.b_int (by decide +kernel) (pa_cons (pe_op op_fdivW (pv 0) pe_int) pa_nil)) pe_int) pa_nil)) (pg_name (i := 4) nd rfl (Or.inl rfl))
        (pss_cons (ps_set (i := 2) nd rfl (Or.inl rfl) (pe_op op_add_str (pv 2) (pe_ix ix_str (pv 1) (pe_op op_mod (pe_op op_add (pv 3) (pe_op op_mul pe_int (pv 4))) pe_int) (fun _ _ => rfl))))
        (pss_one (ps_set (i := 3) nd rfl (Or.inl rfl) (pe_op op_fdivW (pv 3) pe_int)))))
      (pss_one (ps_ret (pv 2)))))))), ?_⟩
    walk_at "rds"
    refine iB (fun h => ?_) (fun h => ?_)
    · refine ⟨by show 6 ≤ sizeLine; omega, fun t nt => ?_⟩
      walk_at "rd"
      walk_at "dv"
      refine .inl ⟨_, rfl, ?_⟩
      walk_at "rd"
      obtain ⟨z, hz, lz, oz⟩ := pickS6 (k := c / 4 % 6) (by omega) (by omega)
      refine ⟨t, _, _, .str z, rfl, rfl, SqL.of upd_same, hz, q z _ (same_new nt _) lz oz⟩
    · walk_at "rd"
      walk_at "dv"
      refine .inl ⟨_, rfl, ?_⟩
      walk_at "rd"
      walk_at "dv"
      refine .inl ⟨_, rfl, ?_⟩
      walk_at "rd"
      refine ⟨_, rfl, by omega, by omega, ?_⟩
      generalize hchars : Str.ofString " !\"#$&'()*+,-./0123456789:;<=>?@ABCDEFGHIJKLMNOPQRSTUVWXYZ[\\]^_`abcdefghijklmnopqrstuvwxyz{|}~" = chars
      have cl2 : chars.length = 94 := by rw [← hchars]; decide +kernel
      have cl : chars.cps.toList.length = 94 := by rw [← hchars]; exact chars20_len
      have cok : PyData.strOk chars = true := by rw [← hchars]; exact chars20_ok
      refine for_range (lo := 0) (n := (c / 4 % 31).toNat) (fun i σ H' => ∃ (z : Str) (r : Int) (x : Option V), σ = [some (.int c), some (.str chars), some (.str z), some (.int r), x] ∧ z.length ≤ i ∧ 0 ≤ r ∧ H' = H ∧ PyData.strOk z = true) ?_ ?_ ?_
      · exact ⟨_, _, none, rfl, Nat.le_of_eq (by decide), by omega, rfl, by decide +kernel⟩
      · rintro i σ H' hi ⟨z, r, x, rfl, lz, r0, rfl, oz⟩
        have hm0 : 0 ≤ (r + 31 * (0 + (i : Int))) % 94 := by omega
        have hm1 : (r + 31 * (0 + (i : Int))) % 94 < 94 := by omega
        obtain ⟨sg, hsg⟩ : ∃ sg, chars.cps.toList[((r + 31 * (0 + (i : Int))) % 94).toNat]? = some sg := ⟨_, List.getElem?_eq_getElem (by rw [cl]; omega)⟩
        walk_at "rds"
        refine ⟨.inl (by decide), ?_⟩
        walk_at "rds"
        refine ⟨chars, _, sg, rfl, rfl, by omega, at_int hm0 hsg, ?_⟩
        have l1 : (⟨#[sg]⟩ : Str).length = 1 := rfl
        refine ⟨z, _, rfl, rfl, by omega, _, rfl, ?_⟩
        walk_at "dv"
        refine ⟨_, _, _, rfl, ?_, by omega, rfl, strOk_cat oz (strOk_sign cok hsg)⟩
        have e1 : (z ++ (⟨#[sg]⟩ : Str)).length = z.length + 1 := by
          show (z.cps ++ #[sg]).size = z.cps.size + 1
          rw [Array.size_append]; rfl
        omega
      · rintro σ H' ⟨z, r, x, rfl, lz, r0, rfl, oz⟩
        exact ⟨_, rfl, q z _ (Same.rfl' _) (by omega) oz⟩
abbrev s__law_post : Stmt := top 12
abbrev N__law_post : List Str := ["bag", "letters", "letter"]
abbrev P__law_post : List Str := ["bag", "letters"]
theorem sc__law_post : FnScope N__law_post P__law_post (defScope s__law_post) := ⟨rfl, rfl, rfl, by decide +kernel, rfl, by decide +kernel, by decide +kernel⟩
def sp_lpost : Sp := fun vs H Q _ => ∃ (b l : Addr) (ds es : List PyData), vs = [.ref b, .ref l] ∧ LstAt H b ds ∧ LstAt H l es ∧ b ≠ l ∧ ds.length + es.length ≤ 100000 ∧ ∀ H', LstAt H' b (ds ++ es) → Fr [b] [b] H H' → Q .non H'
theorem ok_lpost {f : Addr} {fd : FuncData} (T : Tx K mg CO CV) (F : Fun K "_law_post" "_law_post" s__law_post f fd) : FnOk P w K mg base CX0 1 f fd P__law_post sp_lpost := by
  have nd := sc__law_post.nd
  refine F.ok sc__law_post (fun vs H Q E h => ?_) (fun cdv A outer s H vs Q E hr h => ?_)
  · obtain ⟨_, _, _, _, rfl, _⟩ := h
    rfl
  · obtain ⟨b, l, ds, es, rfl, ⟨us, hb, tu⟩, ⟨ws, hl, tw⟩, nbl, len, q⟩ := h
    have hs := sl
    have lu := tu.length
    have lw := tw.length
    refine ⟨_, (pss_one (ps_for PassesOwn.never rfl (pi_list (pv 1)) (pg_name (i := 2) nd rfl (Or.inl rfl))
        (pss_one (ps_expr (pe_bm PySem.F.plainAttrs_list PySem.F.slot_list_append PySem.F.type_list_append mt_append (pv 0) (pa_cons (pv 2) pa_nil)))))), ?_⟩
    walk_at "rds"
    refine ⟨⟨_, SqL.of hl⟩, for_list (xs := ws) (fun i σ H' => ∃ x2 : Option V, σ = [some (.ref b), some (.ref l), x2] ∧ H' b = some (.lst (us ++ ws.take i)) ∧ Fr [b] [b] H H') ?_ ?_ ?_ ?_⟩
    · exact ⟨_, rfl, by simpa using hb, Fr.refl _ _⟩
    · rintro i σ H' _ ⟨_, _, _, F'⟩
      exact SqL.of (F'.k _ _ hl (by simp [Ne.symm nbl]))
    · rintro i y σ H' hi ⟨x2, rfl, hb', F'⟩
      have hi2 := (List.getElem?_eq_some_iff.mp hi).1
      walk_at "rds"
      refine ⟨.inl ⟨rfl, _, SqL.of hb'⟩, ?_⟩
      walk_at "rds"
      refine ⟨b, _, _, rfl, rfl, hb', by rw [List.length_append, List.length_take]; omega, ?_⟩
      refine ⟨_, rfl, ?_, F'.trans (fr_upd (by simp) hb' (fun _ z => by cases z))⟩
      rw [upd_same, List.take_succ, hi, List.append_assoc]; rfl
    · rintro σ H' ⟨x2, rfl, hb', F'⟩
      rw [List.take_length] at hb'
      exact q H' ⟨_, hb', (tu.append tw).mono F'.t⟩ F'
abbrev s__law_hand : Stmt := top 13
abbrev N__law_hand : List Str := ["orders", "processes", "bag", "letter", "at", "told"]
abbrev P__law_hand : List Str := ["orders", "processes", "bag", "letter"]
theorem sc__law_hand : FnScope N__law_hand P__law_hand (defScope s__law_hand) := ⟨rfl, rfl, rfl, by decide +kernel, rfl, by decide +kernel, by decide +kernel⟩
def sp_lhand (w : World) (CO : Addr) : Sp := fun vs H Q _ => ∃ (l pr b : Addr) (v : V) (ps : Nat → Addr) (as : Nat → OA) (os : Nat → OS) (ms : List Mem) (v0 : Vid) (cs : Mem → List Str) (ca : Mem × Int → Option Int) (ds : List PyData) (p : Pkt) (t : Nat), vs = [.ref l, .ref pr, .ref b, v] ∧ OrdsAt w CO H l ms.length ps as os ∧ IV ms v0 os cs ca ∧ H pr = some (.lst (ms.map fun m => V.int m.1)) ∧
  LstAt H b ds ∧ b ≠ l ∧ b ≠ pr ∧ ¬ OFp ms.length ps as b ∧ TD H v (ePk p) ∧ POk ms cs (os 0).log p ∧ BD t ms.length os ∧ t ≤ 50000 ∧ ms.length ≤ 12 ∧ (∀ m ∈ ms, (cs m).length ≤ 100) ∧ ds.length ≤ 10000 ∧
  ∀ H' as', OrdsAt w CO H' l ms.length ps as' (handL ms os p) → LstAt H' b (ds ++ ((os (atP ms p.1)).take p.2).2.2.map ePk) → FO (fun c => OFp ms.length ps as c ∨ c = b) (fun c => OFp ms.length ps as' c ∨ c = b) H H' → ¬ OFp ms.length ps as' b → Q .non H'
theorem ok_lhand {f : Addr} {fd : FuncData} (T : Tx K mg CO CV) (m_Order_take : MethOk P w K mg base CX0 CO "take" P_Order_take 4 (sp_otk w CO)) (c__law_post : DefOk P w K mg base CX0 "_law_post" P__law_post 1 (sp_lpost)) (F : Fun K "_law_hand" "_law_hand" s__law_hand f fd) : FnOk P w K mg base CX0 5 f fd P__law_hand (sp_lhand w CO) := by
  have nd := sc__law_hand.nd
  refine F.ok sc__law_hand (fun vs H Q E h => ?_) (fun cdv A outer s H vs Q E hr h => ?_)
  · obtain ⟨_, _, _, _, _, _, _, _, _, _, _, _, _, _, rfl, _⟩ := h
    rfl
  · obtain ⟨l, pr, b, v, ps, as, os, ms, v0, cs, ca, ds, p, t, rfl, O, I, hpr, hbd, nbl, nbp, nbo, tv, pok, bd, ht, h12, hcs, hds, q⟩ := h
    have hs := sl
    obtain ⟨vb, xs, rfl, hvb, lxs, txs⟩ := TD.tupI tv
    obtain ⟨v1, r1, rfl, t1, tr1⟩ := TDs.consI txs
    obtain ⟨v2, r2, rfl, t2, tr2⟩ := TDs.consI tr1
    cases tr2
    cases t1
    obtain ⟨hk, m, hm, em⟩ := pok.at I
    refine ⟨_, (pss_cons (ps_set (i := 4) nd rfl (Or.inl rfl) (pe_bm PySem.F.plainAttrs_list PySem.F.slot_list_index PySem.F.type_list_index mt_index (pv 1) (pa_cons (pe_ix ix_tup (pv 3) pe_int (fun _ _ => rfl)) pa_nil)))
      (pss_cons (ps_set (i := 5) nd rfl (Or.inl rfl) (pmeth m_Order_take T.cl_Order (pe_ix ix_list (pv 0) (pv 4) (fun _ _ => rfl)) hr (pa_cons (pe_ix ix_tup (pv 3) pe_int (fun _ _ => rfl)) pa_nil)))
      (pss_one (ps_expr (pcall c__law_post hr (pa_cons (pv 2) (pa_cons (pe_ix ix_tup (pv 5) pe_int (fun _ _ => rfl)) pa_nil))))))), ?_⟩
    walk_at "rds"
    refine ⟨.inl ⟨rfl, _, SqL.of hpr⟩, ?_⟩
    walk_at "rds"
    have hks : (ms.map fun m => V.int m.1)[atP ms p.1]? = some (V.int p.1) := by rw [List.getElem?_map, hm, ← em]; rfl
    refine ⟨pr, _, .int p.1, atP ms p.1, .int p.1, rfl, rfl, SqL.of hpr, rfl, ?_, hks, ?_, fun j z hj hz => ?_, ?_⟩
    · rw [List.all_eq_true]
      intro y hy
      obtain ⟨x, _, rfl⟩ := List.mem_map.mp hy
      rfl
    · show decide (p.1 = p.1) = true
      exact decide_eq_true rfl
    · rw [List.getElem?_map] at hz
      obtain ⟨x, hx, rfl⟩ := Option.map_eq_some_iff.mp hz
      show decide (x.1 = p.1) = false
      refine decide_eq_false fun e => ?_
      have := atP_of I.nd hx
      rw [e] at this
      omega
    generalize hkk : atP ms p.1 = k at *
    have OA := O.at_ k hk
    have bk := bd k hk
    have hme : (os k).me ∈ ms := List.mem_of_getElem? (I.oi k hk).me
    have hpl := I.pl hk
    have hcl := hcs _ hme
    have hmm : (os k).mems.length ≤ 12 := by rw [(I.oi k hk).mems]; exact h12
    walk_at "rds"
    refine ⟨l, _, _, .ref (ps k), rfl, rfl, SqL.of O.ls, O.item hk, ?_⟩
    refine ⟨ps k, (as k).dx, _, rfl, OA.ob, rfl, ?_⟩
    walk_at "rds"
    refine ⟨pok.2.flows, by omega, by omega, by omega, fun t' H1 a1 O1 F1 T1 => ?_⟩
    obtain ⟨l1, l2, ht', N1, N2, _⟩ := T1
    obtain ⟨A1, A2, A3⟩ := O.act hk O1 F1
    obtain ⟨ub, hub, tub⟩ := hbd
    have hb1 : H1 b = some (.lst ub) := A3 _ _ hub nbo
    have nb1 : ¬ OFp ms.length ps (upA as k a1) b := fun z => by
      rcases A2 b z with y | y
      · exact nbo y
      · rw [hub] at y; cases y
    walk_at "rds"
    have tl := take_len (os k) p.2
    refine ⟨b, l2, ds, _, rfl, ⟨ub, hb1, tub.mono F1.t⟩, N2.at_, (fun z => by have := N2.new; rw [← z, hub] at this; cases this), (by rw [List.length_map]; omega), fun H2 hb2 F2 => ?_⟩
    have A4 := A1.mono (H' := H2) (fun c o h z => F2.k c o h (fun y => by
      have y := List.mem_singleton.mp y
      subst y
      rcases z with z | z
      · exact nbl z
      · exact nb1 z)) F2.t
    refine q H2 (upA as k a1) ?_ hb2 ⟨fun c o h n => F2.k c o (A3 c o h fun z => n (.inl z)) (fun z => n (.inr (List.mem_singleton.mp z))), fun c h => ?_, F1.t.trans F2.t, fun c h => F1.s c (F2.s c h)⟩ nb1
    · unfold handL
      rw [hkk]; exact A4
    · rcases h with h | h
      · exact (A2 c h).imp .inl id
      · exact .inl (.inr h)
abbrev s__law_told : Stmt := top 14
abbrev N__law_told : List Str := ["orders", "members", "k"]
abbrev P__law_told : List Str := ["orders", "members"]
theorem sc__law_told : FnScope N__law_told P__law_told (defScope s__law_told) := ⟨rfl, rfl, rfl, by decide +kernel, rfl, by decide +kernel, by decide +kernel⟩
def sp_ltold (w : World) (CO : Addr) : Sp := fun vs H Q _ => ∃ (l : Addr) (vms : V) (ps : Nat → Addr) (as : Nat → OA) (os : Nat → OS) (ms : List Mem) (v0 : Vid) (cs : Mem → List Str) (ca : Mem × Int → Option Int) (t : Nat), vs = [.ref l, vms] ∧ OrdsAt w CO H l ms.length ps as os ∧ IV ms v0 os cs ca ∧ TD H vms (eMs ms) ∧ BD t ms.length os ∧ t ≤ 50000 ∧ ms.length ≤ 12 ∧
  ∀ H' as' os', OrdsAt w CO H' l ms.length ps as' os' → IV ms v0 os' cs ca → (∀ k, (os' k).log = (os k).log) → BD (t + 12) ms.length os' → (∀ k m, 0 < k → ms[k]? = some m → ((os' 0).told m).getD 0 = ((os' k).log.length : Int)) → FO (OFp ms.length ps as) (OFp ms.length ps as') H H' → Q .non H'
theorem ok_ltold {f : Addr} {fd : FuncData} (T : Tx K mg CO CV) (m_Order_heard : MethOk P w K mg base CX0 CO "heard" P_Order_heard 1 (sp_ohr w CO)) (m_Order_log : MethOk P w K mg base CX0 CO "log" P_Order_log 1 (sp_olog w CO)) (F : Fun K "_law_told" "_law_told" s__law_told f fd) : FnOk P w K mg base CX0 2 f fd P__law_told (sp_ltold w CO) := by
  have nd := sc__law_told.nd
  refine F.ok sc__law_told (fun vs H Q E h => ?_) (fun cdv A outer s H vs Q E hr h => ?_)
  · obtain ⟨_, _, _, _, _, _, _, _, _, _, rfl, _⟩ := h
    rfl
  · obtain ⟨l, vms, ps, as, os, ms, v0, cs, ca, t, rfl, O, I, tms, bd, ht, h12, q⟩ := h
    have hs := sl
    obtain ⟨bm, xs, rfl, hbm, lxs, txs⟩ := TD.tupI tms
    have lx := txs.length
    rw [List.length_map] at lx
    have n0 := I.n0
    refine ⟨_, (pss_one (ps_for PassesOwn.never rfl (pi_range2 (by rfl) T.b_range (pa_cons pe_int (pa_cons (pe_callB call_len_seq (by rfl) T.b_len (by decide +kernel) (pa_cons (pv 1) pa_nil)) pa_nil))) (pg_name (i := 2) nd rfl (Or.inl rfl))
        (pss_one (ps_expr (pmeth m_Order_heard T.cl_Order (pe_ix ix_list (pv 0) pe_int (fun _ _ => rfl)) hr (pa_cons (pe_ix ix_tup (pv 1) (pv 2) (fun _ _ => rfl)) (pa_cons (pe_callB call_len_seq (by rfl) T.b_len (by decide +kernel) (pa_cons (pmeth0 m_Order_log T.cl_Order (pe_ix ix_list (pv 0) (pv 2) (fun _ _ => rfl)) hr) pa_nil)) pa_nil))))))), ?_⟩
    walk_at "rds"
    refine ⟨⟨by decide, by decide, by omega, by omega⟩, ?_⟩
    refine for_range (lo := 1) (n := (((xs.length : Nat) : Int) - 1).toNat) (fun i σ H' => ∃ (x2 : Option V) (as' : Nat → OA) (os' : Nat → OS), σ = [some (.ref l), some (.ref bm), x2] ∧ OrdsAt w CO H' l ms.length ps as' os' ∧ IV ms v0 os' cs ca ∧ (∀ k, (os' k).log = (os k).log) ∧ BD (t + i) ms.length os' ∧
      (∀ k m, 0 < k → k ≤ i → ms[k]? = some m → ((os' 0).told m).getD 0 = ((os' k).log.length : Int)) ∧ FO (OFp ms.length ps as) (OFp ms.length ps as') H H') ?_ ?_ ?_
    · exact ⟨_, as, os, rfl, O, I, fun _ => rfl, bd, fun k m h1 h2 => by omega, FO.refl _ _⟩
    · rintro i σ H' hi ⟨x2, as', os', rfl, O', I', el, bd', td, F'⟩
      have hik : i + 1 < ms.length := by omega
      obtain ⟨m, hm⟩ : ∃ m, ms[i + 1]? = some m := ⟨_, List.getElem?_eq_getElem hik⟩
      have tk := F'.t
      have hbm' := tk _ _ hbm
      obtain ⟨vm, hvm, tvm⟩ := txs.get (i := i + 1) (d := eM m) (by rw [List.getElem?_map, hm]; rfl)
      have OA0 := O'.at_ 0 n0
      have OAk := O'.at_ (i + 1) hik
      have b0 := bd' 0 n0
      have bk := bd' (i + 1) hik
      have ei : (1 : Int) + (i : Int) = ((i + 1 : Nat) : Int) := by omega
      walk_at "rds"
      refine ⟨l, _, _, .ref (ps 0), rfl, rfl, SqL.of O'.ls, O'.item (k := 0) n0, ?_⟩
      refine ⟨ps 0, (as' 0).dx, _, rfl, OA0.ob, rfl, ?_⟩
      walk_at "rds"
      refine ⟨bm, _, _, vm, rfl, rfl, SqT.of hbm', at_int (by omega) (by rw [ei, Int.toNat_natCast]; exact hvm), ?_⟩
      walk_at "rds"
      refine ⟨l, _, _, .ref (ps (i + 1)), rfl, rfl, SqL.of O'.ls, (by rw [ei]; exact O'.item hik), ?_⟩
      refine ⟨ps (i + 1), (as' (i + 1)).dx, _, rfl, OAk.ob, rfl, ps (i + 1), as' (i + 1), os' (i + 1), rfl, OAk, by omega, fun r H1 s1 tr => ?_⟩
      obtain ⟨r', zs, er, hr', lzs, tzs⟩ := tr.tupI
      cases er
      have lz := tzs.length
      rw [List.length_map] at lz
      have O1 := O'.same s1
      refine ⟨r, _, rfl, .inr (SqT.of hr'), ?_⟩
      rw [lz]
      refine ⟨ps 0, as' 0, os' 0, vm, m, _, rfl, O1.at_ 0 n0, (tvm.mono tk).same s1, by omega, fun H2 O2 F2 => ?_⟩
      obtain ⟨A1, A2, A3⟩ := O1.act n0 O2 F2
      obtain ⟨I2, lg, tdx⟩ := I'.heard (k := i + 1) (m := m) (by omega) hm
      have kl : ((os' 0).heard m ((os' (i + 1)).log.length : Int)).kn = (os' 0).kn ∧ ((os' 0).heard m ((os' (i + 1)).log.length : Int)).tn ≤ (os' 0).tn + 1 := by
        have := heard_con (os' 0) m ((os' (i + 1)).log.length : Int)
        rw [lg] at this
        exact ⟨by omega, this.2.1⟩
      refine ⟨_, _, _, rfl, A1, I2, fun k => ?_, fun k hk => ?_, fun k m' h1 h2 h3 => ?_, F'.trans ((FO.of s1).trans ⟨fun b o h n => A3 b o h n, A2, F2.t, F2.s⟩)⟩
      · by_cases e : k = 0
        · subst e; rw [upF_at, lg]; exact el 0
        · rw [upF_ne _ _ e]; exact el k
      · by_cases e : k = 0
        · subst e; rw [upF_at, lg, kl.1]; omega
        · rw [upF_ne _ _ e]
          have := bd' k hk
          omega
      · rw [upF_at, upF_ne _ _ (by omega), tdx]
        by_cases e : m' = m
        · subst e
          have : k = i + 1 := idx_inj (nd_of I.nd) h3 hm
          subst this
          rw [if_pos rfl]
        · rw [if_neg e]
          have : k ≠ i + 1 := fun z => e (by subst z; exact Option.some.inj (h3.symm.trans hm))
          exact td k m' h1 (by omega) h3
    · rintro σ H' ⟨x2, as', os', rfl, O', I', el, bd', td, F'⟩
      exact q H' as' os' O' I' el (fun k hk => by have := bd' k hk; omega) (fun k m h1 h2 => td k m h1 (by have := (List.getElem?_eq_some_iff.mp h2).1; omega) h2) F'
end
end Mus

set_option maxRecDepth 100000
set_option maxHeartbeats 4000000
namespace Mus
open PySem L2
local macro_rules | `(tactic| walk_at "rd") => `(tactic| first
  | refine ⟨_, rfl, ?_⟩ | refine ⟨(True.intro : True), ?_⟩
  | refine ⟨_, _, rfl, rfl, (⟨by decide, by decide, by decide⟩ : CPow _ _), ?_⟩
  | refine ⟨_, _, rfl, rfl, (⟨by decide, by decide⟩ : CDiv _ _), ?_⟩
  | refine ⟨_, _, rfl, rfl, (by show (0 : Int) < _; decide), ?_⟩
  | refine ⟨_, _, rfl, rfl, ?_⟩ | refine ⟨rfl, ?_⟩ | refine iteT ?_ | refine iteF ?_ | refine ⟨_, _, rfl, ?_⟩ | refine .inl ⟨_, rfl, ?_⟩
  | refine ⟨_, _, _, _, _, rfl, (by assumption), (by assumption), (by assumption), rfl, ?_⟩ | refine ⟨_, _, _, _, rfl, rfl, SqT.of (by assumption), rfl, ?_⟩ | refine ⟨_, _, rfl, SqT.of (by assumption), rfl, ?_⟩
  | refine ⟨_, _, _, _, _, rfl, .ty _, Rp.ty (by assumption), kit_int _, ?_⟩ | refine ⟨_, _, _, _, _, rfl, .ty _, Rp.ty (by assumption), kit_bool _, ?_⟩
  | refine ⟨_, _, _, _, _, rfl, .ty _, Rp.ty (by assumption), kit_str _, ?_⟩ | refine ⟨_, _, _, _, _, rfl, .ty _, Rp.ty (by assumption), kit_tup _, ?_⟩)
local macro_rules | `(tactic| walk_at "cal") => `(tactic| first
  | refine ⟨_, _, _, _, _, rfl, (by assumption), ?_⟩ | refine ⟨_, _, _, _, _, rfl, (by assumption), (by assumption), ?_⟩)
local macro_rules | `(tactic| walk_at "sq") => `(tactic| first
  | refine ⟨_, _, rfl, Or.inr (SqT.of (by assumption)), ?_⟩ | refine ⟨_, _, _, _, rfl, rfl, SqT.of (by assumption), rfl, ?_⟩)
local macro_rules | `(tactic| walk_at "rds") => `(tactic| repeat first | walk_at "rd" | walk_at "cal" | walk_at "sq")
local macro_rules | `(tactic| walk_at "ze") => `(tactic| repeat first
  | exact zes_nil | exact ze_bl | exact ze_str | exact ze_non | apply zes_cons | apply ze_tup | apply ze_lst | apply ze_cat | exact di_c | exact di_v rfl | apply di_opC | apply di_op | apply di_neg | apply ze_i | (refine (⟨?_, ?_, ?_⟩ : CPow _ _) <;> decide) | exact Nat.le_of_ble_eq_true rfl | exact ze_varD rfl (by assumption))
local macro_rules | `(tactic| walk_at "rdz") => `(tactic| repeat (fail_if_success (first | show tLst _ _ _ _ | show tAsg (tLst _) _ _ _ _ | show tSeq (tAsg (tLst _) _) _ _ _ _)); first | walk_at "rd" | walk_at "cal" | walk_at "sq")
section
variable {P : Program} {w : World} {K : PySem.W.Frag} {mg : Str → Option Value} {base : Heap} {CO CV : Addr}
theorem slAn {H : Hp} {x : V} {ds : List PyData} {n : Nat} {Q : VK} (h : TD H x (.tuple ds)) (q : ∀ p H', Same H H' → TD H' (.ref p) (.tuple (ds.take n)) → Q (.ref p) H') : rSlA K x none (some (n : Int)) H Q := by
  obtain ⟨a, xs, rfl, ha, la, ra⟩ := h.tupI
  have lr := ra.length
  have e : HT.sIx xs.length xs.length (some (n : Int)) = min n xs.length := HT.sIx_nat _ _ n
  refine ⟨a, xs, rfl, SqT.of ha, fun hw => ?_, fun hw p np => ?_⟩
  · have := hw.2
    rw [e] at this
    exact q a H (Same.rfl' H) (by rw [List.take_of_length_le (by omega)]; exact h)
  · have ec : cutV xs none (some (n : Int)) = xs.take n := by
      unfold cutV
      rw [e]
      show (xs.drop 0).take (min n xs.length - 0) = _
      rw [List.drop_zero, Nat.sub_zero]
      rcases Nat.le_total n xs.length with h | h
      · rw [Nat.min_eq_left h]
      · rw [Nat.min_eq_right h, List.take_length, List.take_of_length_le h]
    rw [ec]
    exact q p _ (same_new np _) (.tup upd_same (by rw [List.length_take]; omega) ((ra.take n).same (same_new np _)))
abbrev s__law_prefixes : Stmt := top 10
abbrev N__law_prefixes : List Str := ["orders", "logs", "one", "other", "size", "order"]
abbrev P__law_prefixes : List Str := ["orders"]
theorem sc__law_prefixes : FnScope N__law_prefixes P__law_prefixes (defScope s__law_prefixes) := ⟨rfl, rfl, rfl, by decide +kernel, rfl, by decide +kernel, by decide +kernel⟩
def sp_lpre (w : World) (CO : Addr) : Sp := fun vs H Q _ => ∃ (l : Addr) (n : Nat) (ps : Nat → Addr) (as : Nat → OA) (os : Nat → OS) (L : List Msg), vs = [.ref l] ∧ OrdsAt w CO H l n ps as os ∧ (∀ k, k < n → (os k).log <+: L) ∧ SmG L ∧ L.length ≤ 10000 ∧ n ≤ 12 ∧ ∀ H', Same H H' → Q (.bl true) H'
theorem ok_lpre {f : Addr} {fd : FuncData} (T : Tx K mg CO CV) (m_Order_log : MethOk P w K mg base CX0 CO "log" P_Order_log 1 (sp_olog w CO)) (F : Fun K "_law_prefixes" "_law_prefixes" s__law_prefixes f fd) : FnOk P w K mg base CX0 2 f fd P__law_prefixes (sp_lpre w CO) := by
  have nd := sc__law_prefixes.nd
  refine F.ok sc__law_prefixes (fun vs H Q E h => ?_) (fun cdv A outer s H vs Q E hr h => ?_)
  · obtain ⟨_, _, _, _, _, _, rfl, _⟩ := h
    rfl
  · obtain ⟨l, n, ps, as, os, L, rfl, O, hp, sm, hL, hn, q⟩ := h
    have hs := sl
    have lr : ((List.range n).map fun k => V.ref (ps k)).length = n := by simp
    refine ⟨_, (pss_cons (ps_setLcX (i := 1) (own := [("order", 5)]) rfl nd rfl rfl (sw_true rfl rfl rfl (by decide +kernel)) (pi_list (pv 0)) (blkOk_by (own := [("order", 5)]) (N := N__law_prefixes) (sc := defScope s__law_prefixes) (by decide +kernel)) (fun _ _ _ _ _ => (pg_name (i := 5) nd rfl (Or.inl rfl))) (fun _ _ _ _ _ => pts_nil) (fun _ _ _ _ _ => (pmeth0 m_Order_log T.cl_Order (pv 5) hr)))
      (pss_cons (ps_for PassesOwn.never rfl (pi_list (pv 1)) (pg_name (i := 2) nd rfl (Or.inl rfl))
        (pss_one (ps_for PassesOwn.never rfl (pi_list (pv 1)) (pg_name (i := 3) nd rfl (Or.inl rfl))
          (pss_cons (ps_set (i := 4) nd rfl (Or.inl rfl) (pe_callB (call_min2 rfl) (by rfl) T.b_min (by decide +kernel) (pa_cons (pe_callB call_len_seq (by rfl) T.b_len (by decide +kernel) (pa_cons (pv 2) pa_nil)) (pa_cons (pe_callB call_len_seq (by rfl) T.b_len (by decide +kernel) (pa_cons (pv 3) pa_nil)) pa_nil))))
          (pss_one (ps_if (pt_cmpR (op_neD hr.units) (pe_slice sl_tupA (pv 2) po_none (po_some (pv 4))) (pe_slice sl_tupA (pv 3) po_none (po_some (pv 4))) (nomark _))
            (pss_one (ps_ret pe_bl))
            pss_nil))))))
      (pss_one (ps_ret pe_bl)))), ?_⟩
    walk_at "rds"
    refine ⟨⟨_, SqL.of O.ls⟩, fun D nD => ?_⟩
    refine lc_list (K := K) (a := l) (xs := (List.range n).map fun k => V.ref (ps k)) (fun i H' => (∃ vs, H' D = some (.lst vs) ∧ TDs H' vs ((List.range i).map fun k => eGs (os k).log)) ∧ Same H H') ?_ ?_ ?_ ?_
    · exact ⟨⟨[], upd_same, .nil⟩, same_new nD _⟩
    · rintro i H' _ ⟨_, s1⟩
      exact SqL.of (s1 _ _ O.ls)
    · rintro i x H' hi ⟨⟨ws, hD, tw⟩, s1⟩
      rw [List.getElem?_map] at hi
      obtain ⟨j, hj, rfl⟩ := Option.map_eq_some_iff.mp hi
      obtain ⟨hin, ej⟩ := List.getElem?_eq_some_iff.mp hj
      rw [List.length_range] at hin
      rw [List.getElem_range] at ej
      subst ej
      have O1 := O.same s1
      have OK := O1.at_ i hin
      have pl := (hp i hin).length_le
      have lw := tw.length
      rw [List.length_map, List.length_range] at lw
      walk_at "rds"
      refine ⟨ps i, (as i).dx, _, rfl, OK.ob, rfl, ps i, as i, os i, rfl, OK, by omega, fun r H2 s2 tr => ?_⟩
      refine ⟨ws, s2 _ _ hD, by omega, ⟨ws ++ [.ref r], upd_same, ?_⟩, fun b o e => ?_⟩
      · have k3 : TupK H2 (upd H2 D (.lst (ws ++ [.ref r]))) := tupK_upd fun xs e => by rw [s2 _ _ hD] at e; cases e
        rw [List.range_succ, List.map_append]
        exact ((tw.same s2).append (.cons tr .nil)).mono k3
      · rw [upd_ne (ne_of_none e nD)]
        exact s2 _ _ (s1 _ _ e)
    · rintro H' ⟨⟨ws, hD, tw⟩, s1⟩
      rw [lr] at tw
      have lw := tw.length
      rw [List.length_map, List.length_range] at lw
      have cl : ∀ {i : Nat} {y : V}, ws[i]? = some y → ∃ k, k < n ∧ TD H' y (eGs (os k).log) := fun {i y} hi => by
        obtain ⟨d, hd, td⟩ := tw.at hi
        rw [List.getElem?_map] at hd
        obtain ⟨k, hk, rfl⟩ := Option.map_eq_some_iff.mp hd
        exact ⟨k, List.mem_range.mp (List.mem_of_getElem? hk), td⟩
      walk_at "rds"
      refine ⟨⟨_, SqL.of hD⟩, for_list (xs := ws) (fun i σ H2 => ∃ x2 x3 x4 : Option V, σ = [some (.ref l), some (.ref D), x2, x3, x4, none] ∧ Same H' H2) ?_ ?_ ?_ ?_⟩
      · exact ⟨_, _, _, rfl, Same.rfl' _⟩
      · rintro i σ H2 _ ⟨_, _, _, _, s2⟩
        exact SqL.of (s2 _ _ hD)
      · rintro i y σ H2 hi ⟨x2, x3, x4, rfl, s2⟩
        obtain ⟨k, hk, tk⟩ := cl hi
        walk_at "rds"
        refine ⟨⟨_, SqL.of (s2 _ _ hD)⟩, for_list (xs := ws) (fun j σ H3 => ∃ x3 x4 : Option V, σ = [some (.ref l), some (.ref D), some y, x3, x4, none] ∧ Same H' H3) ?_ ?_ ?_ ?_⟩
        · exact ⟨_, _, rfl, s2⟩
        · rintro j σ H3 _ ⟨_, _, _, s3⟩
          exact SqL.of (s3 _ _ hD)
        · rintro j z σ H3 hj ⟨x3, x4, rfl, s3⟩
          obtain ⟨k', hk', tk'⟩ := cl hj
          have t1 := tk.same s3
          have t2 := tk'.same s3
          obtain ⟨y1, ys, rfl, hy, ly, ty⟩ := TD.tupI t1
          obtain ⟨z1, zs, rfl, hz, lz, tz⟩ := TD.tupI t2
          have l1 := ty.length
          have l2 := tz.length
          rw [List.length_map] at l1 l2
          have e1 : (if ((zs.length : Nat) : Int) < ((ys.length : Nat) : Int) then ((zs.length : Nat) : Int) else ((ys.length : Nat) : Int)) = ((min ys.length zs.length : Nat) : Int) := by split <;> omega
          walk_at "rds"
          rw [e1]
          refine slAn t1 fun p1 H4 s4 t4 => ?_
          walk_at "rds"
          refine slAn (t2.same s4) fun p2 H5 s5 t5 => ?_
          have eq : ((os k).log.map eG).take (min ys.length zs.length) = ((os k').log.map eG).take (min ys.length zs.length) := by
            rw [← List.map_take, ← List.map_take]
            have h1 := hp k hk
            have h2 := hp k' hk'
            have a1 : (os k).log.take (min ys.length zs.length) = L.take (min ys.length zs.length) := by
              obtain ⟨C, e⟩ := h1
              rw [← e, List.take_append_of_le_length (by omega)]
            have a2 : (os k').log.take (min ys.length zs.length) = L.take (min ys.length zs.length) := by
              obtain ⟨C, e⟩ := h2
              rw [← e, List.take_append_of_le_length (by omega)]
            rw [a1, a2]
          rw [← eq] at t5
          have sh : SeqAt.shaped (.tuple (((os k).log.map eG).take (min ys.length zs.length))) = true := by
            rw [← List.map_take]
            refine sh_gs (gs := (os k).log.take (min ys.length zs.length)) fun g hg => sm g ?_
            exact (hp k hk).subset (List.mem_of_mem_take hg)
          refine ⟨_, _, (t4.same s5).dp, t5.dp, sh, sh, ?_⟩
          rw [SeqAt.eqv_refl _ (SeqAt.canLay_of_shaped sh)]
          walk_at "rds"
          exact s3.trans (s4.trans s5)
        · rintro σ H3 ⟨x3, x4, rfl, s3⟩
          exact ⟨_, _, _, rfl, s3⟩
      · rintro σ H2 ⟨x2, x3, x4, rfl, s2⟩
        exact q H2 (s1.trans s2)
end
end Mus

set_option maxRecDepth 100000
set_option maxHeartbeats 4000000
namespace Mus
open PySem L2
local macro_rules | `(tactic| walk_at "rd") => `(tactic| first
  | refine ⟨_, rfl, ?_⟩ | refine ⟨(True.intro : True), ?_⟩
  | refine ⟨_, _, rfl, rfl, (⟨by decide, by decide, by decide⟩ : CPow _ _), ?_⟩
  | refine ⟨_, _, rfl, rfl, (⟨by decide, by decide⟩ : CDiv _ _), ?_⟩
  | refine ⟨_, _, rfl, rfl, (by show (0 : Int) < _; decide), ?_⟩
  | refine ⟨_, _, rfl, rfl, ?_⟩ | refine ⟨rfl, ?_⟩ | refine iteT ?_ | refine iteF ?_ | refine ⟨_, _, rfl, ?_⟩ | refine .inl ⟨_, rfl, ?_⟩
  | refine ⟨_, _, _, _, _, rfl, (by assumption), (by assumption), (by assumption), rfl, ?_⟩ | refine ⟨_, _, _, _, rfl, rfl, SqT.of (by assumption), rfl, ?_⟩ | refine ⟨_, _, rfl, SqT.of (by assumption), rfl, ?_⟩
  | refine ⟨_, _, _, _, _, rfl, .ty _, Rp.ty (by assumption), kit_int _, ?_⟩ | refine ⟨_, _, _, _, _, rfl, .ty _, Rp.ty (by assumption), kit_bool _, ?_⟩
  | refine ⟨_, _, _, _, _, rfl, .ty _, Rp.ty (by assumption), kit_str _, ?_⟩ | refine ⟨_, _, _, _, _, rfl, .ty _, Rp.ty (by assumption), kit_tup _, ?_⟩)
local macro_rules | `(tactic| walk_at "cal") => `(tactic| first
  | refine ⟨_, _, _, _, _, rfl, (by assumption), ?_⟩ | refine ⟨_, _, _, _, _, rfl, (by assumption), (by assumption), ?_⟩)
local macro_rules | `(tactic| walk_at "sq") => `(tactic| first
  | refine ⟨_, _, rfl, Or.inr (SqT.of (by assumption)), ?_⟩ | refine ⟨_, _, _, _, rfl, rfl, SqT.of (by assumption), rfl, ?_⟩)
local macro_rules | `(tactic| walk_at "rds") => `(tactic| repeat first | walk_at "rd" | walk_at "cal" | walk_at "sq")
local macro_rules | `(tactic| walk_at "ze") => `(tactic| repeat first
  | exact zes_nil | exact ze_bl | exact ze_str | exact ze_non | apply zes_cons | apply ze_tup | apply ze_lst | apply ze_cat | exact di_c | exact di_v rfl | apply di_opC | apply di_op | apply di_neg | apply ze_i | (refine (⟨?_, ?_, ?_⟩ : CPow _ _) <;> decide) | exact Nat.le_of_ble_eq_true rfl | exact ze_varD rfl (by assumption))
local macro_rules | `(tactic| walk_at "rdz") => `(tactic| repeat (fail_if_success (first | show tLst _ _ _ _ | show tAsg (tLst _) _ _ _ _ | show tSeq (tAsg (tLst _) _) _ _ _ _)); first | walk_at "rd" | walk_at "cal" | walk_at "sq")
section
variable {P : Program} {w : World} {K : PySem.W.Frag} {mg : Str → Option Value} {base : Heap} {CO CV : Addr}
abbrev s__law_sound : Stmt := top 11
abbrev N__law_sound : List Str := ["log", "members", "casts", "causes", "counts", "k", "sender", "index", "payload"]
abbrev P__law_sound : List Str := ["log", "members", "casts", "causes"]
theorem sc__law_sound : FnScope N__law_sound P__law_sound (defScope s__law_sound) := ⟨rfl, rfl, rfl, by decide +kernel, rfl, by decide +kernel, by decide +kernel⟩
def sp_lsou (w : World) : Sp := fun vs H Q _ => ∃ (vl vms : V) (d e : Addr) (ms : List Mem) (ls : Mem → Addr) (cs : Mem → List Str) (ca : Mem × Int → Option Int) (L : List Msg) (n : Nat), vs = [vl, vms, .ref d, .ref e] ∧ TD H vl (eGs L) ∧ TD H vms (eMs ms) ∧ CsAt w H d ms ls cs ∧ CaAt w H e ca n ∧ WF ms cs ca L ∧ (∀ m ∈ ms, (cs m).length ≤ 100) ∧ L.length ≤ 10000 ∧ ∀ H', Same H H' → Q (.bl true) H'
theorem ok_lsou {f : Addr} {fd : FuncData} (T : Tx K mg CO CV) (F : Fun K "_law_sound" "_law_sound" s__law_sound f fd) : FnOk P w K mg base CX0 1 f fd P__law_sound (sp_lsou w) := by
  have nd := sc__law_sound.nd
  refine F.ok sc__law_sound (fun vs H Q E h => ?_) (fun cdv A outer s H vs Q E hr h => ?_)
  · obtain ⟨_, _, _, _, _, _, _, _, _, _, rfl, _⟩ := h
    rfl
  · obtain ⟨vl, vms, d, e, ms, ls, cs, ca, L, n, rfl, tl, tms, hcs, hca, wf, h100, hL, q⟩ := h
    have hs := sl
    obtain ⟨bl, ys, rfl, hbl, lys, tys⟩ := TD.tupI tl
    have ly := tys.length
    rw [List.length_map] at ly
    obtain ⟨kc, Nc, vc, lc⟩ := hcs.nd
    obtain ⟨ka, Na, va, la⟩ := hca
    refine ⟨_, (pss_cons (ps_set (i := 4) nd rfl (Or.inl rfl) pe_nnew)
      (pss_cons (ps_for PassesOwn.never rfl (pi_range1 (by rfl) T.b_range (pa_cons (pe_callB call_len_seq (by rfl) T.b_len (by decide +kernel) (pa_cons (pv 0) pa_nil)) pa_nil)) (pg_name (i := 5) nd rfl (Or.inl rfl))
        (pss_cons (ps_asg (pe_ix ix_tup (pv 0) (pv 5) (fun _ _ => rfl)) (pg_tup (by rfl) (pgs_cons (pg_name (i := 6) nd rfl (Or.inl rfl)) (pgs_cons (pg_name (i := 7) nd rfl (Or.inl rfl)) (pgs_cons (pg_name (i := 8) nd rfl (Or.inl rfl)) pgs_nil)))))
        (pss_cons (ps_if (PW.pt (pw_or (pt_cmpR (op_notInDD hr.units) (pv 6) (pv 1) (by rfl)) (pw_or (pt_cmpR op_ne (pv 7) (pe_op op_add (pe_nget2 hr.units (pv 4) (pv 6) pe_int ⟨rfl, rfl, rfl, rfl⟩) pe_int) (nomark _)) (pw_or1 (pt_cmpR op_gt (pv 7) (pe_callB call_len_seq (by rfl) T.b_len (by decide +kernel) (pa_cons (pe_nget hr.units (pv 2) (pv 6) (fun _ _ => rfl)) pa_nil)) (nomark _))))))
          (pss_one (ps_ret pe_bl))
          pss_nil)
        (pss_cons (ps_if (pt_cmpR op_ne (pe_ix ix_list (pe_nget hr.units (pv 2) (pv 6) (fun _ _ => rfl)) (pe_op op_sub (pv 7) pe_int) (fun _ _ => rfl)) (pv 8) (nomark _))
          (pss_one (ps_ret pe_bl))
          pss_nil)
        (pss_cons (ps_if (pt_cmpR op_lt (pv 5) (pe_nget hr.units (pv 3) (pe_tup (pa_cons (pv 6) (pa_cons (pv 7) pa_nil))) (fun _ _ => rfl)) (nomark _))
          (pss_one (ps_ret pe_bl))
          pss_nil)
        (pss_one (ps_nput hr.units (pv 4) (pv 6) (pv 7) rfl)))))))
      (pss_one (ps_ret pe_bl)))), ?_⟩
    intro cd ncd locd
    generalize hh : upd H cd _ = H1
    have s1 : Same H H1 := by subst hh; exact same_new ncd _
    have N1 : Nd w H1 cd [] := by subst hh; exact nd_new locd
    clear hh
    walk_at "rds"
    refine ⟨bl, ys, rfl, .inr (SqT.of (s1 _ _ hbl)), ?_⟩
    refine ⟨_, rfl, by omega, by omega, for_range (lo := 0) (fun i σ H' => ∃ (x5 x6 x7 x8 : Option V) (kvs : NKV), σ = [some (.ref bl), some vms, some (.ref d), some (.ref e), some (.ref cd), x5, x6, x7, x8] ∧ Same H H' ∧ Nd w H' cd kvs ∧ (∀ x, (valN kvs (kM x)).getD (.int 0) = .int (cntG (L.take i) x : Nat)) ∧ kvs.length ≤ i) ?_ ?_ ?_⟩
    · exact ⟨_, _, _, _, [], rfl, s1, N1, fun x => rfl, Nat.le_refl _⟩
    · rintro i σ H' hi ⟨x5, x6, x7, x8, kvs, rfl, s', N, hv, lk⟩
      have hiL : i < L.length := by omega
      obtain ⟨g, hg⟩ : ∃ g, L[i]? = some g := ⟨_, List.getElem?_eq_getElem hiL⟩
      obtain ⟨w1, w2, w3, c, w4, w5⟩ := wf i g hg
      obtain ⟨y, hy, ty⟩ := tys.get (i := i) (d := eG g) (by rw [List.getElem?_map, hg]; rfl)
      obtain ⟨b, u, rfl, hb, tu⟩ := (ty.same s').msg
      have nkc : (valN kc (kM g.1)) = some (.ref (ls g.1)) := vc _ w1
      obtain ⟨us, hus, tus⟩ := hcs.at_ _ w1
      have lus := tus.length
      rw [List.length_map] at lus
      have hcl := (List.getElem?_eq_some_iff.mp w3).1
      have h1c := h100 _ w1
      have Nc' := Nc.mono (s' _ _ Nc.ob) (TupK.of s')
      have Na' := Na.mono (s' _ _ Na.ob) (TupK.of s')
      obtain ⟨bu, rfl, nku⟩ := tu.nk
      have hbl' := s' _ _ hbl
      walk_at "rds"
      refine ⟨bl, _, _, .ref b, rfl, rfl, SqT.of hbl', at_int (by omega) (by rw [Int.zero_add, Int.toNat_natCast]; exact hy), ?_⟩
      walk_at "rds"
      refine rd_inMs tu (tms.same s') ?_
      rw [decide_eq_true w1]
      walk_at "rds"
      refine ⟨cd, kvs, rfl, N, ?_⟩
      walk_at "rds"
      refine ⟨bu, valN kvs (kM g.1), rfl, ⟨kvs, kM g.1, N, nku, kM_depth _, rfl⟩, ?_⟩
      rw [hv g.1]
      walk_at "rds"
      rw [decide_eq_true (by rw [w2] : V.int g.2.1 = V.int ((cntG (L.take i) g.1 : Nat) + 1))]
      walk_at "rds"
      refine ⟨d, bu, .ref (ls g.1), rfl, rfl, ⟨kc, kM g.1, Nc', nku, kM_depth _, nkc.symm⟩, ?_⟩
      refine ⟨ls g.1, us, rfl, .inl (SqL.of (s' _ _ hus)), ?_⟩
      walk_at "rds"
      refine iB (fun h => absurd (of_decide_eq_true h) (by omega)) (fun _ => ?_)
      obtain ⟨yz, hyz, tyz⟩ := tus.get (i := cntG (L.take i) g.1) (d := .str g.2.2) (by rw [List.getElem?_map, w3]; rfl)
      cases tyz
      walk_at "rds"
      refine ⟨d, bu, .ref (ls g.1), rfl, rfl, ⟨kc, kM g.1, Nc', nku, kM_depth _, nkc.symm⟩, ?_⟩
      walk_at "rds"
      have hat : atI us (g.2.1 - 1) = some (V.str g.2.2) := at_int (by omega) (by
        have e9 : (g.2.1 - 1).toNat = cntG (L.take i) g.1 := by omega
        rw [e9]; exact hyz)
      refine ⟨ls g.1, us, _, .str g.2.2, rfl, rfl, SqL.of (s' _ _ hus), hat, ?_⟩
      walk_at "rds"
      rw [decide_eq_true (rfl : V.str g.2.2 = V.str g.2.2)]
      walk_at "rds"
      refine ⟨by show 2 ≤ sizeLine; omega, fun t nt => ?_⟩
      have s2 := same_new nt (.tup [.ref bu, V.int g.2.1])
      have ht : (upd H' t (.tup [.ref bu, V.int g.2.1])) t = some _ := upd_same
      generalize upd H' t (.tup [.ref bu, V.int g.2.1]) = H2 at *
      have N2 := N.mono (s2 _ _ N.ob) (TupK.of s2)
      have Na2 := Na'.mono (s2 _ _ Na'.ob) (TupK.of s2)
      obtain ⟨bu', eb, nku2⟩ := (tu.same s2).nk
      cases eb
      refine ⟨e, t, .int c, rfl, rfl, ⟨ka, kQ (g.1, g.2.1), Na2, .tup ht (.cons nku2 (.cons (.int _) .nil)), kQ_depth _, by rw [va, w4]; rfl⟩, ?_⟩
      walk_at "rds"
      refine iB (fun h => absurd (of_decide_eq_true h) (by omega)) (fun _ => ?_)
      walk_at "rds"
      refine ⟨cd, bu, kvs, kM g.1, rfl, rfl, N2, nku2, kM_depth _, ?_⟩
      generalize hh2 : upd H2 cd _ = H3
      have N3 : Nd w H3 cd (putN kvs (kM g.1) bu (.int g.2.1)) := by subst hh2; exact N2.put (v := .int g.2.1) nku2 (kM_depth _) (by omega)
      have s3 : Same H H3 := fun b o h => by
        subst hh2
        rw [upd_ne (ne_of_none h ncd)]
        exact s2 _ _ (s' _ _ h)
      refine ⟨_, _, _, _, _, rfl, s3, N3, fun x => ?_, by rw [putN_len']; split <;> omega⟩
      have et : L.take (i + 1) = L.take i ++ [g] := by rw [List.take_succ, hg]; rfl
      rw [valN_put, et, cntG_snoc]
      by_cases q2 : x = g.1
      · subst q2
        rw [if_pos rfl, if_pos rfl]
        show V.int g.2.1 = _
        rw [w2]; rfl
      · rw [if_neg fun z => q2 (kM_inj z), if_neg (Ne.symm q2)]
        exact hv x
    · rintro σ H' ⟨x5, x6, x7, x8, kvs, rfl, s', N, hv, lk⟩
      walk_at "rds"
      exact q H' s'
end
end Mus

set_option maxRecDepth 100000
set_option maxHeartbeats 4000000
namespace Mus
open PySem PySem.Spec PyProof.Rows L2
theorem sum_ind {ms : List Mem} (nd : ms.Nodup) {x : Mem} (hx : x ∈ ms) : (ms.map fun m => if x = m then 1 else 0).sum = 1 := by
  induction ms with
  | nil => cases hx
  | cons m ms ih =>
    rw [List.nodup_cons] at nd
    rw [List.map_cons, List.sum_cons]
    by_cases e : x = m
    · subst e
      have z : (ms.map fun m => if x = m then 1 else 0).sum = 0 := by
        have : ∀ l : List Mem, x ∉ l → (l.map fun m => if x = m then 1 else 0).sum = 0 := fun l hl => by
          induction l with
          | nil => rfl
          | cons y l ih2 =>
            rw [List.map_cons, List.sum_cons, if_neg (fun z => hl (by rw [z]; exact List.mem_cons_self ..)), ih2 fun z => hl (List.mem_cons_of_mem _ z)]
        exact this ms nd.1
      rw [if_pos rfl, z]
    · rw [if_neg e, ih nd.2 ((List.mem_cons.mp hx).resolve_left e)]
theorem sum_add (ms : List Mem) (f g : Mem → Nat) : (ms.map fun m => f m + g m).sum = (ms.map f).sum + (ms.map g).sum := by
  induction ms with
  | nil => rfl
  | cons m ms ih => simp only [List.map_cons, List.sum_cons, ih]; omega
theorem cntG_cons (g : Msg) (L : List Msg) (m : Mem) : cntG (g :: L) m = (if g.1 = m then 1 else 0) + cntG L m := by
  unfold cntG
  rw [List.filter_cons]
  by_cases h : g.1 = m
  · rw [if_pos (by simp [h]), if_pos h, List.length_cons]; omega
  · rw [if_neg (by simp [h]), if_neg h]; omega
theorem len_sum {ms : List Mem} (nd : ms.Nodup) : ∀ {L : List Msg}, (∀ g ∈ L, g.1 ∈ ms) → L.length = (ms.map (cntG L)).sum
  | [], _ => by
    have : ∀ l : List Mem, (l.map (cntG [])).sum = 0 := fun l => by
      induction l with
      | nil => rfl
      | cons y l ih => rw [List.map_cons, List.sum_cons, ih]; rfl
    exact (this ms).symm
  | g :: L, h => by
    have e : (ms.map (cntG (g :: L))) = ms.map fun m => (if g.1 = m then 1 else 0) + cntG L m := List.map_congr_left fun m _ => cntG_cons g L m
    rw [e, sum_add, sum_ind nd (h g (List.mem_cons_self ..)), ← len_sum nd fun x hx => h x (List.mem_cons_of_mem _ hx), List.length_cons]
    omega
structure FP (ms : List Mem) (v0 : Vid) (os : Nat → OS) (cs : Mem → List Str) (ca : Mem × Int → Option Int) (r : Nat) : Prop where
  iv : IV ms v0 os cs ca
  full : 1 ≤ r → ∀ m ∈ ms, (cs m).length ≤ cntG (os 0).log m
  far : ∀ k m, 0 < k → ms[k]? = some m → min (os 0).log.length (16 * (r - 1)) ≤ (os k).log.length
section
variable {ms : List Mem} {v0 : Vid} {os : Nat → OS} {cs : Mem → List Str} {ca : Mem × Int → Option Int}
theorem IV.tot (I : IV ms v0 os cs ca) (h : ∀ m ∈ ms, (cs m).length ≤ cntG (os 0).log m) : (os 0).log.length = (ms.map fun m => (cs m).length).sum := by
  rw [len_sum (nd_of I.nd) fun g hg => by
    obtain ⟨k, hk⟩ := List.getElem?_of_mem hg
    exact (I.wf k g hk).1]
  congr 1
  refine List.map_congr_left fun m hm => ?_
  have := h m hm
  have := I.wf.cnt m
  omega
theorem FP.step {r : Nat} (h : FP ms v0 os cs ca r) (h8 : ∀ m ∈ ms, (cs m).length ≤ 8) {os1 : Nat → OS} (I1 : IV ms v0 os1 cs ca) (el : ∀ k, (os1 k).log = (os k).log)
    (td : ∀ k m, 0 < k → ms[k]? = some m → ((os1 0).told m).getD 0 = ((os1 k).log.length : Int)) : FP ms v0 (runL ms os1 (bagN os1 ms.length)) cs ca (r + 1) := by
  obtain ⟨j1, j2, j3⟩ := I1.round td
  have full : ∀ m ∈ ms, (cs m).length ≤ cntG (runL ms os1 (bagN os1 ms.length) 0).log m := fun m hm => by
    obtain ⟨k, hk⟩ := List.getElem?_of_mem hm
    by_cases q : k = 0
    · subst q
      rw [j1.own m hk]; exact Nat.le_refl _
    · exact (j3 k m (by omega) hk).2 (by have := h8 m hm; omega)
  refine ⟨j1, fun _ => full, fun k m k0 hm => ?_⟩
  by_cases q : r = 0
  · subst q
    show min _ (16 * 0) ≤ _
    omega
  · have f0 : (os 0).log.length = _ := h.iv.tot (h.full (by omega))
    have f1 := j1.tot full
    have := (j3 k m k0 hm).1
    have := h.far k m k0 hm
    rw [el, el] at *
    have e3 : r + 1 - 1 = r := by omega
    rw [e3]
    omega
theorem sum_le8 (ms : List Mem) (f : Mem → Nat) (h : ∀ m ∈ ms, f m ≤ 8) : (ms.map f).sum ≤ 8 * ms.length := by
  induction ms with
  | nil => exact Nat.zero_le _
  | cons m ms ih =>
    rw [List.map_cons, List.sum_cons, List.length_cons]
    have := h m (List.mem_cons_self ..)
    have := ih fun x hx => h x (List.mem_cons_of_mem _ hx)
    omega
theorem FP.fin (h : FP ms v0 os cs ca 7) (h8 : ∀ m ∈ ms, (cs m).length ≤ 8) (h12 : ms.length ≤ 12) : ∀ k, k < ms.length → (os k).log.length = (ms.map fun m => (cs m).length).sum := fun k hk => by
  have t := h.iv.tot (h.full (by decide))
  have s8 := sum_le8 ms (fun m => (cs m).length) h8
  by_cases q : k = 0
  · subst q; exact t
  · obtain ⟨m, hm⟩ : ∃ m, ms[k]? = some m := ⟨_, List.getElem?_eq_getElem hk⟩
    have := h.far k m (by omega) hm
    have := (h.iv.pre hk).length_le
    omega
end
end Mus

set_option maxRecDepth 100000
set_option maxHeartbeats 4000000
namespace Mus
open PySem PySem.Spec PyProof.Rows L2
/-! ### what the law holds between two turns -/
def Q0 (l pr d e sl : Addr) (ms : List Mem) (ls : Mem → Addr) (b : Addr) : Prop := b = l ∨ b = pr ∨ b = d ∨ b = e ∨ b = sl ∨ ∃ m ∈ ms, b = ls m
structure LV (w : World) (CO l pr d e sl bg : Addr) (ms : List Mem) (v0 : Vid) (ls : Mem → Addr) (xs : List V) (vms : V) (H : Hp) (ps : Nat → Addr) (as : Nat → OA) (os : Nat → OS) (cs : Mem → List Str) (ca : Mem × Int → Option Int) (bag : List Pkt) (t : Nat) : Prop where
  O : OrdsAt w CO H l ms.length ps as os
  I : IV ms v0 os cs ca
  fpr : H pr = some (.lst (ms.map fun m => V.int m.1))
  tm : TD H vms (eMs ms)
  fcs : CsAt w H d ms ls cs
  fca : CaAt w H e ca t
  fbg : LstAt H bg (bag.map ePk)
  pk : ∀ p ∈ bag, POk ms cs (os 0).log p
  bd : BD t ms.length os
  h8 : ∀ m ∈ ms, (cs m).length ≤ 8
  ok : ∀ m ∈ ms, ∀ z ∈ cs m, PyData.strOk z = true
  fsl : H sl = some (.lst xs)
  sB : ¬ Q0 l pr d e sl ms ls bg
  sO : ¬ OFp ms.length ps as bg
  sS : ∀ b, Q0 l pr d e sl ms ls b → ¬ OFp ms.length ps as b
  dq : d ≠ e ∧ ∀ m ∈ ms, ls m ≠ l ∧ ls m ≠ pr ∧ ls m ≠ sl
section
variable {w : World} {CO l pr d e sl bg : Addr} {ms : List Mem} {v0 : Vid} {ls : Mem → Addr} {xs : List V} {vms : V} {H H' : Hp} {ps : Nat → Addr} {as as' : Nat → OA} {os os' : Nat → OS} {cs : Mem → List Str} {ca : Mem × Int → Option Int} {bag bag' : List Pkt} {t t' : Nat}
theorem LV.taken (V : LV w CO l pr d e sl bg ms v0 ls xs vms H ps as os cs ca bag t) {b : Addr} (h : Q0 l pr d e sl ms ls b) : H b ≠ none := fun z => by
  rcases h with rfl | rfl | rfl | rfl | rfl | ⟨m, hm, rfl⟩
  · have := V.O.ls; rw [z] at this; cases this
  · have := V.fpr; rw [z] at this; cases this
  · obtain ⟨kvs, n, _⟩ := V.fcs.nd
    have := n.ob; rw [z] at this; cases this
  · obtain ⟨kvs, n, _⟩ := V.fca
    have := n.ob; rw [z] at this; cases this
  · have := V.fsl; rw [z] at this; cases this
  · obtain ⟨vs, h, _⟩ := V.fcs.at_ m hm
    rw [z] at h; cases h
theorem LV.act (V : LV w CO l pr d e sl bg ms v0 ls xs vms H ps as os cs ca bag t) (F : FO (fun c => OFp ms.length ps as c ∨ c = bg) (fun c => OFp ms.length ps as' c ∨ c = bg) H H') (O' : OrdsAt w CO H' l ms.length ps as' os') (I' : IV ms v0 os' cs ca)
    (b' : LstAt H' bg (bag'.map ePk)) (pk' : ∀ p ∈ bag', POk ms cs (os' 0).log p) (bd' : BD t' ms.length os') (ht : t ≤ t') (nb : ¬ OFp ms.length ps as' bg) : LV w CO l pr d e sl bg ms v0 ls xs vms H' ps as' os' cs ca bag' t' := by
  have k : ∀ b o, Q0 l pr d e sl ms ls b → H b = some o → H' b = some o := fun b o q h => F.k b o h fun z => by
    rcases z with z | z
    · exact V.sS b q z
    · exact V.sB (z ▸ q)
  refine ⟨O', I', k _ _ (.inr (.inl rfl)) V.fpr, V.tm.mono F.t, V.fcs.mono (fun b o h z => k b o (by
    rcases z with z | ⟨m, hm, z⟩
    · exact .inr (.inr (.inl z))
    · exact .inr (.inr (.inr (.inr (.inr ⟨m, hm, z⟩))))) h) F.t, ?_, b', pk', bd', V.h8, V.ok, k _ _ (.inr (.inr (.inr (.inr (.inl rfl))))) V.fsl, V.sB, nb, fun b q z => ?_, V.dq⟩
  · obtain ⟨kvs, h1, h2, h3⟩ := V.fca
    exact ⟨kvs, h1.mono (k _ _ (.inr (.inr (.inr (.inl rfl)))) h1.ob) F.t, h2, by omega⟩
  · rcases F.n b (.inl z) with y | y
    · rcases y with y | y
      · exact V.sS b q y
      · exact V.sB (y ▸ q)
    · exact V.taken q y
theorem LV.same (V : LV w CO l pr d e sl bg ms v0 ls xs vms H ps as os cs ca bag t) (s : Same H H') : LV w CO l pr d e sl bg ms v0 ls xs vms H' ps as os cs ca bag t :=
  V.act (FO.of s) (V.O.same s) V.I (V.fbg.mono (fun o h => s _ _ h) (TupK.of s)) V.pk V.bd (Nat.le_refl _) V.sO
/-- another list takes the bag's place -/
theorem LV.newBag (V : LV w CO l pr d e sl bg ms v0 ls xs vms H ps as os cs ca bag t) {b2 : Addr} (h : H b2 = none) (s : Same H H') (h2 : LstAt H' b2 (bag'.map ePk)) (pk' : ∀ p ∈ bag', POk ms cs (os 0).log p) : LV w CO l pr d e sl b2 ms v0 ls xs vms H' ps as os cs ca bag' t := by
  have V' := V.same s
  exact ⟨V'.O, V'.I, V'.fpr, V'.tm, V'.fcs, V'.fca, h2, pk', V'.bd, V'.h8, V'.ok, V'.fsl, fun q => V.taken q h, (fun q => by
    obtain ⟨o, x, _⟩ := V.O.taken q
    rw [h] at x; cases x), V'.sS, V'.dq⟩
theorem LV.smG (V : LV w CO l pr d e sl bg ms v0 ls xs vms H ps as os cs ca bag t) : SmG (os 0).log := fun g hg => by
  obtain ⟨k, hk⟩ := List.getElem?_of_mem hg
  obtain ⟨h1, _, h3, _⟩ := V.I.wf k g hk
  exact V.ok _ h1 _ (List.mem_of_getElem? h3)
/-- a cast is noted -/
theorem CsAt.add (h : CsAt w H d ms ls cs) {m : Mem} (hm : m ∈ ms) {us : List V} (hu : H (ls m) = some (.lst us)) (tu : TDs H us ((cs m).map PyData.str)) (z : Str) : CsAt w (upd H (ls m) (.lst (us ++ [.str z]))) d ms ls (csA cs m z) := by
  have tk : TupK H (upd H (ls m) (.lst (us ++ [.str z]))) := tupK_upd fun xs e => by rw [hu] at e; cases e
  obtain ⟨kvs, n, v, lk⟩ := h.nd
  refine ⟨⟨kvs, n.mono (by rw [upd_ne (ne_of n.ob hu (by intro z; cases z))]; exact n.ob) tk, v, lk⟩, fun x hx => ?_, h.inj⟩
  by_cases q : x = m
  · subst q
    refine ⟨_, upd_same, ?_⟩
    rw [csA_at, List.map_append]
    exact (tu.append (.cons (.str z) .nil)).mono tk
  · rw [csA_ne _ _ q]
    obtain ⟨vs, h1, h2⟩ := h.at_ x hx
    exact ⟨vs, by rw [upd_ne (h.inj x hx m hm q)]; exact h1, h2.mono tk⟩
theorem CaAt.put (h : CaAt w H e ca t) {b : Addr} {q : Mem × Int} {n : Int} (hl : t ≤ 90000) (nk : NK H (.ref b) (kQ q)) :
    ∀ kvs, Nd w H e kvs → (∀ q, valN kvs (kQ q) = (ca q).map V.int) → kvs.length ≤ t → CaAt w (upd H e (ndO w e (putN kvs (kQ q) b (.int n)))) e (caA ca q n) (t + 1) ∧ Fr [e] [e] H (upd H e (ndO w e (putN kvs (kQ q) b (.int n)))) := by
  intro kvs N hN lk
  have N2 := N.put (v := .int n) nk (kQ_depth _) (by have := Mus.sl; omega)
  refine ⟨⟨_, N2, fun y => ?_, ?_⟩, fr_upd (by simp) N.ob (fun _ z => by cases z)⟩
  · rw [valN_put]
    unfold caA
    by_cases e : y = q
    · rw [if_pos (by rw [e]), if_pos e]; rfl
    · rw [if_neg fun z => e (kQ_inj z), if_neg e]; exact hN y
  · rw [putN_len']
    split <;> omega
end
end Mus

set_option maxRecDepth 100000
set_option maxHeartbeats 4000000
namespace Mus
open PySem PySem.Spec PyProof.Rows L2
theorem seq_at {j n : Nat} (h : j < n) : seqIndex? (j : Int) n = some j := by
  unfold seqIndex?
  simp only [show ¬ (j : Int) < 0 by omega, if_false]
  rw [if_pos (by simp; omega), Int.toNat_natCast]
theorem TDs.eraseI {H : Hp} : ∀ {vs : List V} {ds : List PyData} (i : Nat), TDs H vs ds → TDs H (vs.eraseIdx i) (ds.eraseIdx i)
  | _, _, _, .nil => .nil
  | _, _, 0, .cons _ r => r
  | _, _, i + 1, .cons a r => .cons a (TDs.eraseI i r)
theorem map_eraseIdx' {α β : Type} (f : α → β) : ∀ (l : List α) (i : Nat), (l.eraseIdx i).map f = (l.map f).eraseIdx i
  | [], _ => rfl
  | _ :: _, 0 => rfl
  | a :: l, i + 1 => congrArg (f a :: ·) (map_eraseIdx' f l i)
section
variable {w : World} {CO l pr d e sl bg : Addr} {ms : List Mem} {v0 : Vid} {ls : Mem → Addr} {xs : List V} {vms : V} {H H' : Hp} {ps : Nat → Addr} {as as' : Nat → OA} {os os' : Nat → OS} {cs : Mem → List Str} {ca : Mem × Int → Option Int} {bag bag' : List Pkt} {t t' : Nat}
theorem LV.bagS (V : LV w CO l pr d e sl bg ms v0 ls xs vms H ps as os cs ca bag t) (F : Fr [bg] [bg] H H') (b' : LstAt H' bg (bag'.map ePk)) (pk' : ∀ p ∈ bag', POk ms cs (os 0).log p) : LV w CO l pr d e sl bg ms v0 ls xs vms H' ps as os cs ca bag' t := by
  have O' : OrdsAt w CO H' l ms.length ps as os := V.O.mono (fun b o h z => F.k b o h fun y => by
    have y := List.mem_singleton.mp y
    subst y
    rcases z with z | z
    · exact V.sB (.inl z)
    · exact V.sO z) F.t
  exact V.act (FO.fr F fun b hb => .inr (List.mem_singleton.mp hb)) O' V.I b' pk' V.bd (Nat.le_refl _) V.sO
theorem LV.ords (V : LV w CO l pr d e sl bg ms v0 ls xs vms H ps as os cs ca bag t) (F : FO (OFp ms.length ps as) (OFp ms.length ps as') H H') (O' : OrdsAt w CO H' l ms.length ps as' os') (I' : IV ms v0 os' cs ca) (pk' : ∀ p ∈ bag, POk ms cs (os' 0).log p)
    (bd' : BD t' ms.length os') (ht : t ≤ t') : LV w CO l pr d e sl bg ms v0 ls xs vms H' ps as' os' cs ca bag t' := by
  have nb : ¬ OFp ms.length ps as' bg := fun h => by
    rcases F.n bg h with y | y
    · exact V.sO y
    · obtain ⟨ub, hub, _⟩ := V.fbg
      rw [y] at hub; cases hub
  exact V.act F.wide O' I' (V.fbg.mono (fun o h => F.k _ _ h V.sO) F.t) pk' bd' ht nb
/-- a letter is taken out of the bag -/
theorem LV.pop (VV : LV w CO l pr d e sl bg ms v0 ls xs vms H ps as os cs ca bag t) {ub : List V} (hub : H bg = some (.lst ub)) (tub : TDs H ub (bag.map ePk)) (j : Nat) : LV w CO l pr d e sl bg ms v0 ls xs vms (upd H bg (.lst (ub.eraseIdx j))) ps as os cs ca (bag.eraseIdx j) t := by
  have F : Fr [bg] [bg] H (upd H bg (.lst (ub.eraseIdx j))) := fr_upd (by simp) hub (fun _ z => by cases z)
  exact VV.bagS F ⟨_, upd_same, by rw [map_eraseIdx']; exact (TDs.eraseI j tub).mono F.t⟩ fun p hp => VV.pk p (List.mem_of_mem_eraseIdx hp)
/-- a letter is put into the bag -/
theorem LV.push (VV : LV w CO l pr d e sl bg ms v0 ls xs vms H ps as os cs ca bag t) {ub : List V} (hub : H bg = some (.lst ub)) (tub : TDs H ub (bag.map ePk)) {v : V} {p : Pkt} (tv : TD H v (ePk p)) (hp : POk ms cs (os 0).log p) : LV w CO l pr d e sl bg ms v0 ls xs vms (upd H bg (.lst (ub ++ [v]))) ps as os cs ca (bag ++ [p]) t := by
  have F : Fr [bg] [bg] H (upd H bg (.lst (ub ++ [v]))) := fr_upd (by simp) hub (fun _ z => by cases z)
  refine VV.bagS F ⟨_, upd_same, by rw [List.map_append]; exact (tub.append (.cons tv .nil)).mono F.t⟩ fun q hq => ?_
  rcases List.mem_append.mp hq with hq | hq
  · exact VV.pk q hq
  · cases List.mem_singleton.mp hq; exact hp
theorem BD.hand (B : BD t ms.length os) (p : Pkt) : BD (t + 1) ms.length (handL ms os p) := fun k hk => by
  have b := B k hk
  unfold handL
  by_cases q : k = atP ms p.1
  · subst q
    rw [upF_at]
    obtain ⟨_, h2, h3⟩ := take_con (os (atP ms p.1)) p.2
    omega
  · rw [upF_ne _ _ q]; omega
theorem cut60 {bag : List Pkt} (h : 60 < bag.length) : ∃ b2 : List Pkt, cutD (bag.map ePk) (some (-60)) none = b2.map ePk ∧ (∀ p ∈ b2, p ∈ bag) ∧ b2.length ≤ 60 := by
  refine ⟨(bag.drop (HT.sIx bag.length 0 (some (-60)))).take (HT.sIx bag.length bag.length none - HT.sIx bag.length 0 (some (-60))), ?_, fun p hp => List.mem_of_mem_drop (List.mem_of_mem_take hp), ?_⟩
  · unfold cutD
    rw [List.length_map, ← List.map_drop, ← List.map_take]
  · have e1 : HT.sIx bag.length 0 (some (-60)) = bag.length - 60 := by
      unfold HT.sIx
      simp
      omega
    have e2 : HT.sIx bag.length bag.length none = bag.length := rfl
    rw [List.length_take, List.length_drop, e1, e2]
    omega
end
end Mus

set_option maxRecDepth 100000
set_option maxHeartbeats 4000000
namespace Mus
open PySem PySem.Spec PyProof.Rows L2
theorem again_len2 (s : OS) : s.again.length ≤ 16 * s.mems.length + 16 := by
  unfold OS.again
  split
  · rw [List.length_map, List.length_take]; omega
  · have each : ∀ m, (s.behind m).length ≤ 16 := fun m => by
      show (List.mapIdx _ _).length ≤ 16
      rw [List.length_mapIdx, List.length_take]; omega
    have all : ∀ ks : List Mem, (ks.map s.behind).flatten.length ≤ 16 * ks.length := fun ks => by
      induction ks with
      | nil => simp
      | cons m ks ih =>
        have := each m
        rw [List.map_cons, List.flatten_cons, List.length_append, List.length_cons]; omega
    have := all s.others
    have := List.length_filter_le (fun m => decide (m ≠ s.me)) s.mems
    have e : s.others.length ≤ s.mems.length := List.length_filter_le _ _
    omega
section
variable {ms : List Mem} {v0 : Vid} {os : Nat → OS} {cs : Mem → List Str} {ca : Mem × Int → Option Int}
theorem IV.bag_len (I : IV ms v0 os cs ca) : ∀ {n : Nat}, n ≤ ms.length → (bagN os n).length ≤ n * (16 * ms.length + 16)
  | 0, _ => by simp [bagN]
  | n + 1, h => by
    have h1 := I.bag_len (n := n) (by omega)
    have h2 := again_len2 (os n)
    rw [(I.oi n (by omega)).mems] at h2
    show (bagN os n ++ (os n).again).length ≤ _
    rw [List.length_append, Nat.succ_mul]
    omega
theorem BD.run {t : Nat} : ∀ (ps : List Pkt) {os : Nat → OS} {t : Nat}, BD t ms.length os → BD (t + ps.length) ms.length (runL ms os ps)
  | [], _, _, B => B
  | p :: ps, os, t, B => by
    have := BD.run (t := t) ps (B.hand p)
    rw [List.length_cons, show t + (ps.length + 1) = t + 1 + ps.length by omega]
    exact this
theorem runL_snoc (ps : List Pkt) (p : Pkt) (os : Nat → OS) : runL ms os (ps ++ [p]) = handL ms (runL ms os ps) p := List.foldl_append
end
/-- what a new list took part in -/
theorem FO.fresh {A A' : Addr → Prop} {x : Addr} {H0 H1 H2 : Hp} (s : Same H0 H1) (hx : H0 x = none) (F : FO (fun c => A c ∨ c = x) (fun c => A' c ∨ c = x) H1 H2) : FO A A' H0 H2 := by
  have f0 := FO.of (A := A) s
  refine ⟨fun b o h n => F.k b o (s b o h) fun z => ?_, fun b h => ?_, f0.t.trans F.t, fun b h => f0.s b (F.s b h)⟩
  · rcases z with z | z
    · exact n z
    · subst z; rw [hx] at h; cases h
  · rcases F.n b (.inl h) with z | z
    · rcases z with z | z
      · exact .inl z
      · subst z; exact .inr hx
    · exact .inr (f0.s b z)
end Mus

set_option maxRecDepth 100000
set_option maxHeartbeats 4000000
namespace Mus
open PySem PySem.Spec PyProof.Rows L2
/-! ### a cast, step by step: what the law holds of the heap alone -/
structure LW (w : World) (CO l pr d e sl bg : Addr) (ms : List Mem) (ls : Mem → Addr) (xs : List V) (vms : V) (H : Hp) (ps : Nat → Addr) (as : Nat → OA) (os : Nat → OS) (cs : Mem → List Str) (ca : Mem × Int → Option Int) (ds : List PyData) (t : Nat) : Prop where
  O : OrdsAt w CO H l ms.length ps as os
  fpr : H pr = some (.lst (ms.map fun m => V.int m.1))
  tm : TD H vms (eMs ms)
  fcs : CsAt w H d ms ls cs
  fca : CaAt w H e ca t
  fbg : LstAt H bg ds
  fsl : H sl = some (.lst xs)
  sB : ¬ Q0 l pr d e sl ms ls bg
  sO : ¬ OFp ms.length ps as bg
  sS : ∀ b, Q0 l pr d e sl ms ls b → ¬ OFp ms.length ps as b
  dq : d ≠ e ∧ ∀ m ∈ ms, ls m ≠ l ∧ ls m ≠ pr ∧ ls m ≠ sl
section
variable {w : World} {CO l pr d e sl bg : Addr} {ms : List Mem} {v0 : Vid} {ls : Mem → Addr} {xs : List V} {vms : V} {H H' : Hp} {ps : Nat → Addr} {as as' : Nat → OA} {os os' : Nat → OS} {cs : Mem → List Str} {ca : Mem × Int → Option Int} {bag : List Pkt} {ds ds' : List PyData} {t t' : Nat}
theorem LV.weak (V : LV w CO l pr d e sl bg ms v0 ls xs vms H ps as os cs ca bag t) : LW w CO l pr d e sl bg ms ls xs vms H ps as os cs ca (bag.map ePk) t :=
  ⟨V.O, V.fpr, V.tm, V.fcs, V.fca, V.fbg, V.fsl, V.sB, V.sO, V.sS, V.dq⟩
theorem LW.lv (W : LW w CO l pr d e sl bg ms ls xs vms H ps as os cs ca (bag.map ePk) t) (I : IV ms v0 os cs ca) (pk : ∀ p ∈ bag, POk ms cs (os 0).log p) (bd : BD t ms.length os) (h8 : ∀ m ∈ ms, (cs m).length ≤ 8) (ok : ∀ m ∈ ms, ∀ z ∈ cs m, PyData.strOk z = true) :
    LV w CO l pr d e sl bg ms v0 ls xs vms H ps as os cs ca bag t := ⟨W.O, I, W.fpr, W.tm, W.fcs, W.fca, W.fbg, pk, bd, h8, ok, W.fsl, W.sB, W.sO, W.sS, W.dq⟩
theorem LW.taken (W : LW w CO l pr d e sl bg ms ls xs vms H ps as os cs ca ds t) {b : Addr} (h : Q0 l pr d e sl ms ls b) : ∃ o, H b = some o ∧ ∀ xs, o ≠ .tup xs := by
  rcases h with rfl | rfl | rfl | rfl | rfl | ⟨m, hm, rfl⟩
  · exact ⟨_, W.O.ls, by intro _ z; cases z⟩
  · exact ⟨_, W.fpr, by intro _ z; cases z⟩
  · obtain ⟨kvs, n, _⟩ := W.fcs.nd
    exact ⟨_, n.ob, by intro _ z; cases z⟩
  · obtain ⟨kvs, n, _⟩ := W.fca
    exact ⟨_, n.ob, by intro _ z; cases z⟩
  · exact ⟨_, W.fsl, by intro _ z; cases z⟩
  · obtain ⟨vs, h, _⟩ := W.fcs.at_ m hm
    exact ⟨_, h, by intro _ z; cases z⟩
/-- a step that leaves all of this but the bag -/
theorem LW.keep (W : LW w CO l pr d e sl bg ms ls xs vms H ps as os cs ca ds t) (k : ∀ b o, H b = some o → Q0 l pr d e sl ms ls b → H' b = some o) (T : TupK H H') (O : OrdsAt w CO H' l ms.length ps as' os') (b' : LstAt H' bg ds')
    (n : ∀ b, OFp ms.length ps as' b → OFp ms.length ps as b ∨ H b = none) : LW w CO l pr d e sl bg ms ls xs vms H' ps as' os' cs ca ds' t := by
  refine ⟨O, k _ _ W.fpr (.inr (.inl rfl)), W.tm.mono T, W.fcs.mono (fun b o h z => k b o h (by
    rcases z with z | ⟨m, hm, z⟩
    · exact .inr (.inr (.inl z))
    · exact .inr (.inr (.inr (.inr (.inr ⟨m, hm, z⟩)))))) T, W.fca.mono (fun o h => k _ o h (.inr (.inr (.inr (.inl rfl))))) T, b', k _ _ W.fsl (.inr (.inr (.inr (.inr (.inl rfl))))), W.sB, fun z => ?_, fun b q z => ?_, W.dq⟩
  · rcases n _ z with y | y
    · exact W.sO y
    · obtain ⟨ub, hub, _⟩ := W.fbg
      rw [y] at hub; cases hub
  · rcases n _ z with y | y
    · exact W.sS b q y
    · obtain ⟨o, h, _⟩ := W.taken q
      rw [y] at h; cases h
theorem LW.same (W : LW w CO l pr d e sl bg ms ls xs vms H ps as os cs ca ds t) (s : Same H H') : LW w CO l pr d e sl bg ms ls xs vms H' ps as os cs ca ds t :=
  W.keep (fun b o h _ => s b o h) (TupK.of s) (W.O.same s) (W.fbg.mono (fun o h => s _ _ h) (TupK.of s)) (fun _ h => .inl h)
theorem LW.cast (W : LW w CO l pr d e sl bg ms ls xs vms H ps as os cs ca ds t) {k : Nat} (hk : k < ms.length) {a' : OA} {s' : OS} (O : OAt w CO H' (ps k) a' s') (F : Fr ((as k).fp (ps k)) (a'.fp (ps k)) H H') :
    LW w CO l pr d e sl bg ms ls xs vms H' ps (upA as k a') (upF os k s') cs ca ds t := by
  obtain ⟨O', n, kk⟩ := W.O.act hk O F
  exact W.keep (fun b o h q => kk b o h (W.sS b q)) F.t O' (W.fbg.mono (fun o h => kk _ o h W.sO) F.t) n
theorem LW.post (W : LW w CO l pr d e sl bg ms ls xs vms H ps as os cs ca ds t) (F : Fr [bg] [bg] H H') (b' : LstAt H' bg ds') : LW w CO l pr d e sl bg ms ls xs vms H' ps as os cs ca ds' t := by
  have k : ∀ b o, H b = some o → b ≠ bg → H' b = some o := fun b o h z => F.k b o h fun y => z (List.mem_singleton.mp y)
  refine W.keep (fun b o h q => k b o h fun z => W.sB (z ▸ q)) F.t (W.O.mono (fun b o h z => k b o h fun y => ?_) F.t) b' (fun _ h => .inl h)
  subst y
  rcases z with z | z
  · exact W.sB (.inl z)
  · exact W.sO z
/-- a cast is noted with its member -/
theorem LW.add (W : LW w CO l pr d e sl bg ms ls xs vms H ps as os cs ca ds t) {m : Mem} (hm : m ∈ ms) {us : List V} (hu : H (ls m) = some (.lst us)) (tu : TDs H us ((cs m).map PyData.str)) (z : Str) :
    LW w CO l pr d e sl bg ms ls xs vms (upd H (ls m) (.lst (us ++ [.str z]))) ps as os (csA cs m z) ca ds t := by
  have q0 : Q0 l pr d e sl ms ls (ls m) := .inr (.inr (.inr (.inr (.inr ⟨m, hm, rfl⟩))))
  have T : TupK H (upd H (ls m) (.lst (us ++ [.str z]))) := tupK_upd fun xs e => by rw [hu] at e; cases e
  obtain ⟨n1, n2, n3⟩ := W.dq.2 m hm
  have k : ∀ b o, H b = some o → b ≠ ls m → (upd H (ls m) (.lst (us ++ [.str z]))) b = some o := fun b o h n => by rw [upd_ne n]; exact h
  have bq : bg ≠ ls m := fun z => W.sB (z ▸ q0)
  obtain ⟨kca, Nca, vca, lca⟩ := W.fca
  have en : e ≠ ls m := ne_of Nca.ob hu (by intro z; cases z)
  refine ⟨W.O.mono (fun b o h z => k b o h fun y => ?_) T, k _ _ W.fpr n2.symm, W.tm.mono T, W.fcs.add hm hu tu z, ⟨kca, Nca.mono (k _ _ Nca.ob en) T, vca, lca⟩, W.fbg.mono (fun o h => k _ o h bq) T, k _ _ W.fsl n3.symm, W.sB, W.sO, W.sS, W.dq⟩
  subst y
  rcases z with z | z
  · exact n1 z
  · exact W.sS _ q0 z
/-- what was told before is noted with its index -/
theorem LW.put (W : LW w CO l pr d e sl bg ms ls xs vms H ps as os cs ca ds t) {b : Addr} {q : Mem × Int} {n : Int} (hl : t ≤ 90000) (nk : NK H (.ref b) (kQ q)) {kvs : NKV} (N : Nd w H e kvs) (hN : ∀ q, valN kvs (kQ q) = (ca q).map V.int) (lk : kvs.length ≤ t) :
    LW w CO l pr d e sl bg ms ls xs vms (upd H e (ndO w e (putN kvs (kQ q) b (.int n)))) ps as os cs (caA ca q n) ds (t + 1) := by
  have q0 : Q0 l pr d e sl ms ls e := .inr (.inr (.inr (.inl rfl)))
  have put := (CaAt.put (t := t) (n := n) ⟨kvs, N, hN, lk⟩ hl nk kvs N hN lk).1
  generalize hh : upd H e (ndO w e (putN kvs (kQ q) b (.int n))) = H2 at put ⊢
  have T : TupK H H2 := by subst hh; exact tupK_upd fun xs y => by rw [N.ob] at y; cases y
  have k : ∀ b o, H b = some o → b ≠ e → H2 b = some o := fun b o h n => by subst hh; rw [upd_ne n]; exact h
  refine ⟨W.O.mono (fun b o h z => k b o h fun y => ?_) T, k _ _ W.fpr (ne_of W.fpr N.ob (by intro z; cases z)), W.tm.mono T, W.fcs.mono (fun b o h z => k b o h fun y => ?_) T, put, W.fbg.mono (fun o h => k _ o h fun z => W.sB (z ▸ q0)) T, k _ _ W.fsl (ne_of W.fsl N.ob (by intro z; cases z)), W.sB, W.sO, W.sS, W.dq⟩
  · subst y
    rcases z with z | z
    · have := W.O.ls
      rw [← z, N.ob] at this; cases this
    · exact W.sS _ q0 z
  · subst y
    rcases z with z | ⟨m, hm, z⟩
    · exact W.dq.1 z.symm
    · obtain ⟨us, hu, _⟩ := W.fcs.at_ m hm
      rw [← z, N.ob] at hu; cases hu
theorem BD.cast (B : BD t ms.length os) {k : Nat} (z : Str) : BD (t + 1) ms.length (upF os k ((os k).cast z).1) := fun j hj => by
  have b := B j hj
  by_cases q : j = k
  · subst q
    rw [upF_at]
    obtain ⟨_, h2, h3⟩ := cast_con (os j) z
    omega
  · rw [upF_ne _ _ q]; omega
end
end Mus

set_option maxRecDepth 100000
set_option maxHeartbeats 8000000
namespace Mus
open PySem L2
local macro_rules | `(tactic| walk_at "rd") => `(tactic| first
  | refine ⟨_, rfl, ?_⟩ | refine ⟨(True.intro : True), ?_⟩
  | refine ⟨_, _, rfl, rfl, (⟨by decide, by decide, by decide⟩ : CPow _ _), ?_⟩
  | refine ⟨_, _, rfl, rfl, (⟨by decide, by decide⟩ : CDiv _ _), ?_⟩
  | refine ⟨_, _, rfl, rfl, (by show (0 : Int) < _; decide), ?_⟩
  | refine ⟨_, _, rfl, rfl, ?_⟩ | refine ⟨rfl, ?_⟩ | refine iteT ?_ | refine iteF ?_ | refine ⟨_, _, rfl, ?_⟩ | refine .inl ⟨_, rfl, ?_⟩
  | refine ⟨_, _, _, _, _, rfl, (by assumption), (by assumption), (by assumption), rfl, ?_⟩ | refine ⟨_, _, _, _, rfl, rfl, SqT.of (by assumption), rfl, ?_⟩ | refine ⟨_, _, rfl, SqT.of (by assumption), rfl, ?_⟩
  | refine ⟨_, _, _, _, _, rfl, .ty _, Rp.ty (by assumption), kit_int _, ?_⟩ | refine ⟨_, _, _, _, _, rfl, .ty _, Rp.ty (by assumption), kit_bool _, ?_⟩
  | refine ⟨_, _, _, _, _, rfl, .ty _, Rp.ty (by assumption), kit_str _, ?_⟩ | refine ⟨_, _, _, _, _, rfl, .ty _, Rp.ty (by assumption), kit_tup _, ?_⟩)
local macro_rules | `(tactic| walk_at "cal") => `(tactic| first
  | refine ⟨_, _, _, _, _, rfl, (by assumption), ?_⟩ | refine ⟨_, _, _, _, _, rfl, (by assumption), (by assumption), ?_⟩)
local macro_rules | `(tactic| walk_at "sq") => `(tactic| first
  | refine ⟨_, _, rfl, Or.inr (SqT.of (by assumption)), ?_⟩ | refine ⟨_, _, _, _, rfl, rfl, SqT.of (by assumption), rfl, ?_⟩)
local macro_rules | `(tactic| walk_at "rds") => `(tactic| repeat first | walk_at "rd" | walk_at "cal" | walk_at "sq")
local macro_rules | `(tactic| walk_at "ze") => `(tactic| repeat first
  | exact zes_nil | exact ze_bl | exact ze_str | exact ze_non | apply zes_cons | apply ze_tup | apply ze_lst | apply ze_cat | exact di_c | exact di_v rfl | apply di_opC | apply di_op | apply di_neg | apply ze_i | (refine (⟨?_, ?_, ?_⟩ : CPow _ _) <;> decide) | exact Nat.le_of_ble_eq_true rfl | exact ze_varD rfl (by assumption))
local macro_rules | `(tactic| walk_at "rdz") => `(tactic| repeat (fail_if_success (first | show tLst _ _ _ _ | show tAsg (tLst _) _ _ _ _ | show tSeq (tAsg (tLst _) _) _ _ _ _)); first | walk_at "rd" | walk_at "cal" | walk_at "sq")
theorem iBk {A B : Prop} {b : Bool} (n : B) (y : b = true → B → A) : if b = true then A else B := by
  cases b
  · exact iteF n
  · exact iteT (y rfl n)
theorem Gr5 {H H' : Hp} (s : Same H H') : ∀ b, H' b = none → H b = none := (FO.of (A := fun _ => False) s).s
def os0 (ms : List Mem) (v0 : Vid) (fd : Mem) : Nat → OS := fun k => OS.new (ms.getD k (0, 0)) v0 ms fd
theorem sum_cast {α : Type} (f : α → Nat) : ∀ l : List α, (((l.map f).sum : Nat) : Int) = (l.map fun m => (f m : Int)).sum
  | [] => rfl
  | a :: l => by rw [List.map_cons, List.sum_cons, List.map_cons, List.sum_cons, ← sum_cast f l]; omega
theorem iv_new {ms : List Mem} {v0 : Vid} {fd : Mem} (nd : (ms.map (·.1)).Nodup) (hf : ms[0]? = some fd) : IV ms v0 (os0 ms v0 fd) (fun _ => []) (fun _ => none) := by
  have n0 : 0 < ms.length := (List.getElem?_eq_some_iff.mp hf).1
  refine ⟨nd, n0, fun k hk => ⟨?_, rfl, rfl, hf, List.nil_prefix, fun _ => rfl, rfl, (fun j g h => by cases h), ⟨[], (fun j g h => by cases h), Nat.le_refl _⟩, fun _ => rfl, fun _ => rfl, fun _ _ => rfl⟩, fun k hk => rfl, (fun k g h => by cases h), (fun m hm ix h => by cases h), (fun m i c h => by cases h), fun m hm => rfl, fun k hk m => ⟨Int.le_refl _, Int.le_refl _⟩, fun k m hk hm => Int.le_refl _⟩
  show ms[k]? = some (ms.getD k (0, 0))
  rw [List.getD_eq_getElem?_getD, List.getElem?_eq_getElem hk]; rfl
def sp_law (K : PySem.W.Frag) : Sp := fun vs H Q _ => ∃ (a : Addr) (ns : List Int), vs = [.ref a] ∧ SqL K H a (ns.map V.int) ∧ ns.length ≤ 63 ∧ ∀ H', Q (.bl true) H'
section
variable {P : Program} {w : World} {K : PySem.W.Frag} {mg : Str → Option Value} {base : Heap} {CO CV : Addr}
abbrev s_law : Stmt := top 15
abbrev N_law : List Str := ["script", "first", "many", "members", "processes", "orders", "casts", "member", "causes", "bag", "cell", "kind", "at", "before", "payload", "told", "own", "letter", "order", "turn", "total", "k"]
abbrev P_law : List Str := ["script"]
theorem sc_law : FnScope N_law P_law (defScope s_law) := ⟨rfl, rfl, rfl, by decide +kernel, rfl, by decide +kernel, by decide +kernel⟩
theorem ok_law {f : Addr} {fd : FuncData} (T : Tx K mg CO CV) (c__law_cell : DefOk P w K mg base CX0 "_law_cell" P__law_cell 1 (sp_cell20 K)) (k_Order : MkOkX P w K mg base CO "Order" P_Order___init__ 1 (sp_oini w CO CV)) (m_Order_log : MethOk P w K mg base CX0 CO "log" P_Order_log 1 (sp_olog w CO)) (c__law_payload : DefOk P w K mg base CX0 "_law_payload" P__law_payload 1 (sp_pay20))
    (m_Order_cast : MethOk P w K mg base CX0 CO "cast" P_Order_cast 3 (sp_ocast w CO)) (c__law_post : DefOk P w K mg base CX0 "_law_post" P__law_post 1 (sp_lpost)) (c__law_told : DefOk P w K mg base CX0 "_law_told" P__law_told 2 (sp_ltold w CO)) (m_Order_again : MethOk P w K mg base CX0 CO "again" P_Order_again 3 (sp_oag w CO)) (c__law_hand : DefOk P w K mg base CX0 "_law_hand" P__law_hand 5 (sp_lhand w CO)) (c__law_sound : DefOk P w K mg base CX0 "_law_sound" P__law_sound 1 (sp_lsou w)) (c__law_prefixes : DefOk P w K mg base CX0 "_law_prefixes" P__law_prefixes 2 (sp_lpre w CO))
    (F : Fun K "law" "law" s_law f fd) : FnOk P w K mg base CX0 7 f fd P_law (sp_law K) := by
  have nd := sc_law.nd
  refine F.ok sc_law (fun vs H Q E h => ?_) (fun cdv A outer s H vs Q E hr h => ?_)
  · obtain ⟨_, _, rfl, _⟩ := h
    rfl
  · obtain ⟨sc, ns, rfl, hS, h63, q⟩ := h
    have hs := sl
    have hu := hu_of hr
    refine ⟨_, (pss_cons (ps_set (i := 1) nd rfl (Or.inr rfl) (pe_callB call_abs (by rfl) T.b_abs (by decide +kernel) (pa_cons (pe_callTy call_int1 (by rfl) T.b_int (by decide +kernel) (pa_cons (pcall c__law_cell hr (pa_cons (pv 0) (pa_cons pe_int pa_nil))) pa_nil)) pa_nil)))
      (pss_cons (ps_set (i := 2) nd rfl (Or.inl rfl) (pe_op op_add pe_int (pe_op op_mod (pv 1) pe_int)))
      (C8.pss_cut (ps_if (pt_cmpR op_eq (pe_op op_mod (pe_op op_fdiv (pv 1) pe_int) pe_int) pe_int (nomark _))
        (pss_one (ps_set (i := 2) nd rfl (Or.inl rfl) (pe_op op_add pe_int (pe_op op_mod (pe_op op_fdiv (pv 1) pe_int) pe_int))))
        pss_nil)
      (pss_cons (ps_set (i := 3) nd rfl (Or.inr rfl) (pe_callTy call_tuple_of (by rfl) T.b_tuple (by decide +kernel) (pa_cons (pe_lcX (own := [("k", 21)]) rfl nd (pi_range1 (by rfl) T.b_range (pa_cons (pv 2) pa_nil)) (blkOk_by (own := [("k", 21)]) (N := N_law) (sc := defScope s_law) (by decide +kernel)) (fun _ _ _ _ _ => (pg_name (i := 21) nd rfl (Or.inl rfl))) (fun _ _ _ _ _ => pts_nil) (fun _ _ _ _ _ => (pe_tup (pa_cons (pv 21) (pa_cons (pe_op op_add pe_int (pe_op op_mod (pe_op op_fdivN (pv 1) (pe_op op_add (pv 21) pe_int)) pe_int)) pa_nil))))) pa_nil)))
      (pss_cons (ps_setLcX (i := 4) (own := [("member", 7)]) rfl nd rfl rfl (sw_true rfl rfl rfl (by decide +kernel)) (pi_tup (pv 3)) (blkOk_by (own := [("member", 7)]) (N := N_law) (sc := defScope s_law) (by decide +kernel)) (fun _ _ _ _ _ => (pg_name (i := 7) nd rfl (Or.inl rfl))) (fun _ _ _ _ _ => pts_nil) (fun _ _ _ _ _ => (pe_ix ix_tup (pv 7) pe_int (fun _ _ => rfl))))
      (pss_cons (ps_setLcX (i := 5) (own := [("member", 7)]) rfl nd rfl rfl (sw_true rfl rfl rfl (by decide +kernel)) (pi_tup (pv 3)) (blkOk_by (own := [("member", 7)]) (N := N_law) (sc := defScope s_law) (by decide +kernel)) (fun _ _ _ _ _ => (pg_name (i := 7) nd rfl (Or.inl rfl))) (fun _ _ _ _ _ => pts_nil) (fun _ _ _ _ _ => (pmakeN k_Order takes0 hr (pa_cons (pv 7) (pa_cons (pe_tup (pa_cons pe_int (pa_cons (pe_ix ix_tup (pv 3) pe_int (fun _ _ => rfl)) pa_nil))) (pa_cons (pv 3) pa_nil))))))
      (pss_cons (ps_set (i := 6) nd rfl (Or.inr rfl) pe_nnew)
      (pss_cons (ps_for PassesOwn.never rfl (pi_tup (pv 3)) (pg_name (i := 7) nd rfl (Or.inl rfl))
        (pss_one (ps_nput hr.units (pv 6) (pv 7) (pe_lst pa_nil) rfl)))
      (pss_cons (ps_set (i := 8) nd rfl (Or.inl rfl) pe_nnew)
      (pss_cons (ps_set (i := 9) nd rfl (Or.inl rfl) (pe_lst pa_nil))
      (pss_cons (ps_for PassesOwn.never rfl (pi_list (pe_slice sl_list (pv 0) (po_some pe_int) po_none)) (pg_name (i := 10) nd rfl (Or.inl rfl))
        (pss_cons (ps_set (i := 11) nd rfl (Or.inl rfl) (pe_op op_mod (pe_callTy call_int1 (by rfl) T.b_int (by decide +kernel) (pa_cons (pv 10) pa_nil)) pe_int))
        (pss_cons (ps_set (i := 10) nd rfl (Or.inl rfl) (pe_callB call_abs (by rfl) T.b_abs (by decide +kernel) (pa_cons (pe_callTy call_int1 (by rfl) T.b_int (by decide +kernel) (pa_cons (pe_op op_fdiv (pv 10) pe_int) pa_nil)) pa_nil)))
        (pss_cons (ps_set (i := 12) nd rfl (Or.inl rfl) (pe_op op_mod (pv 10) (pe_callB call_len_seq (by rfl) T.b_len (by decide +kernel) (pa_cons (pv 3) pa_nil))))
        (C8.pss_cut (ps_if (PW.pt (pw_and (pt_cmpR op_lt (pv 11) pe_int (nomark _)) (pw_and1 (pt_cmpR op_lt (pe_callB call_len_seq (by rfl) T.b_len (by decide +kernel) (pa_cons (pe_nget hr.units (pv 6) (pe_ix ix_tup (pv 3) (pv 12) (fun _ _ => rfl)) (fun _ _ => rfl)) pa_nil)) pe_int (nomark _)))))
          (pss_cons (ps_set (i := 13) nd rfl (Or.inl rfl) (pe_callB call_len_seq (by rfl) T.b_len (by decide +kernel) (pa_cons (pmeth0 m_Order_log T.cl_Order (pe_ix ix_list (pv 5) (pv 12) (fun _ _ => rfl)) hr) pa_nil)))
          (pss_cons (ps_set (i := 14) nd rfl (Or.inl rfl) (pcall c__law_payload hr (pa_cons (pe_op op_fdiv (pv 10) pe_int) pa_nil)))
          (pss_cons (ps_set (i := 15) nd rfl (Or.inl rfl) (pmeth m_Order_cast T.cl_Order (pe_ix ix_list (pv 5) (pv 12) (fun _ _ => rfl)) hr (pa_cons (pv 14) pa_nil)))
          (pss_cons (ps_set (i := 16) nd rfl (Or.inl rfl) (pe_nget hr.units (pv 6) (pe_ix ix_tup (pv 3) (pv 12) (fun _ _ => rfl)) (fun _ _ => rfl)))
          (pss_cons (ps_expr (pe_bm PySem.F.plainAttrs_list PySem.F.slot_list_append PySem.F.type_list_append mt_append (pv 16) (pa_cons (pv 14) pa_nil)))
          (pss_cons (ps_nput hr.units (pv 8) (pe_tup (pa_cons (pe_ix ix_tup (pv 3) (pv 12) (fun _ _ => rfl)) (pa_cons (pe_ix ix_tup (pv 15) pe_int (fun _ _ => rfl)) pa_nil))) (pv 13) rfl)
          (pss_one (ps_expr (pcall c__law_post hr (pa_cons (pv 9) (pa_cons (pe_ix ix_tup (pv 15) pe_int (fun _ _ => rfl)) pa_nil)))))))))))
          (pss_one (ps_if (pt_cmpR op_eq (pv 11) pe_int (nomark _))
            (pss_one (ps_expr (pcall c__law_told hr (pa_cons (pv 5) (pa_cons (pv 3) pa_nil)))))
            (pss_one (ps_if (pt_cmpR op_eq (pv 11) pe_int (nomark _))
              (pss_one (ps_expr (pcall c__law_post hr (pa_cons (pv 9) (pa_cons (pmeth0 m_Order_again T.cl_Order (pe_ix ix_list (pv 5) (pv 12) (fun _ _ => rfl)) hr) pa_nil)))))
              (pss_one (ps_if (pt_cmpR op_gt (pe_callB call_len_seq (by rfl) T.b_len (by decide +kernel) (pa_cons (pv 9) pa_nil)) pe_int (nomark _))
                (pss_cons (ps_set (i := 17) nd rfl (Or.inl rfl) (pe_bm PySem.F.plainAttrs_list PySem.F.slot_list_pop PySem.F.type_list_pop mt_popAt (pv 9) (pa_cons (pe_op op_mod (pe_op op_fdiv (pv 10) pe_int) (pe_callB call_len_seq (by rfl) T.b_len (by decide +kernel) (pa_cons (pv 9) pa_nil))) pa_nil)))
                (pss_cons (ps_if (pt_cmpR op_ne (pv 11) pe_int (nomark _))
                  (pss_one (ps_expr (pcall c__law_hand hr (pa_cons (pv 5) (pa_cons (pv 4) (pa_cons (pv 9) (pa_cons (pv 17) pa_nil)))))))
                  pss_nil)
                (pss_one (ps_if (PW.pt (pw_or (pt_cmpR op_eq (pv 11) pe_int (nomark _)) (pw_or1 (PW.pt (pw_and (pt_cmpR op_eq (pv 11) pe_int (nomark _)) (pw_and1 (pt_cmpR op_eq (pe_op op_mod (pe_op op_fdiv (pv 10) pe_int) pe_int) pe_int (nomark _))))))))
                  (pss_one (ps_expr (pe_bm PySem.F.plainAttrs_list PySem.F.slot_list_append PySem.F.type_list_append mt_append (pv 9) (pa_cons (pv 17) pa_nil))))
                  pss_nil))))
                pss_nil)))))))
        (C8.pss_cut (ps_if (pt_cmpR op_gt (pe_callB call_len_seq (by rfl) T.b_len (by decide +kernel) (pa_cons (pv 9) pa_nil)) pe_int (nomark _))
          (pss_one (ps_set (i := 9) nd rfl (Or.inl rfl) (pe_slice sl_list (pv 9) (po_some (pe_un un_neg pe_int)) po_none)))
          pss_nil)
        (pss_cons (ps_for PassesOwn.never rfl (pi_list (pv 5)) (pg_name (i := 18) nd rfl (Or.inl rfl))
          (pss_one (ps_if (pt_not (pt_val (pcall c__law_sound hr (pa_cons (pmeth0 m_Order_log T.cl_Order (pv 18) hr) (pa_cons (pv 3) (pa_cons (pv 6) (pa_cons (pv 8) pa_nil)))))))
            (pss_one (ps_ret pe_bl))
            pss_nil)))
        (pss_one (ps_if (pt_not (pt_val (pcall c__law_prefixes hr (pa_cons (pv 5) pa_nil))))
          (pss_one (ps_ret pe_bl))
          pss_nil)))))))))
      (pss_cons (ps_for PassesOwn.never rfl (pi_range1 (by rfl) T.b_range (pa_cons pe_int pa_nil)) (pg_name (i := 19) nd rfl (Or.inl rfl))
        (pss_cons (ps_expr (pcall c__law_told hr (pa_cons (pv 5) (pa_cons (pv 3) pa_nil))))
        (pss_cons (ps_set (i := 9) nd rfl (Or.inl rfl) (pe_lst pa_nil))
        (pss_cons (ps_for PassesOwn.never rfl (pi_list (pv 5)) (pg_name (i := 18) nd rfl (Or.inl rfl))
          (pss_one (ps_expr (pcall c__law_post hr (pa_cons (pv 9) (pa_cons (pmeth0 m_Order_again T.cl_Order (pv 18) hr) pa_nil))))))
        (pss_one (ps_for PassesOwn.never rfl (pi_list (pv 9)) (pg_name (i := 17) nd rfl (Or.inl rfl))
          (pss_one (ps_expr (pcall c__law_hand hr (pa_cons (pv 5) (pa_cons (pv 4) (pa_cons (pe_lst pa_nil) (pa_cons (pv 17) pa_nil)))))))))))))
      (pss_cons (ps_set (i := 20) nd rfl (Or.inl rfl) (pe_callB (cr_sum rfl) (by rfl) T.b_sum (by decide +kernel) (pa_cons (pe_lcX (own := [("member", 7)]) rfl nd (pi_tup (pv 3)) (blkOk_by (own := [("member", 7)]) (N := N_law) (sc := defScope s_law) (by decide +kernel)) (fun _ _ _ _ _ => (pg_name (i := 7) nd rfl (Or.inl rfl))) (fun _ _ _ _ _ => pts_nil) (fun _ _ _ _ _ => (pe_callB call_len_seq (by rfl) T.b_len (by decide +kernel) (pa_cons (pe_nget hr.units (pv 6) (pv 7) (fun _ _ => rfl)) pa_nil)))) pa_nil)))
      (pss_cons (ps_for PassesOwn.never rfl (pi_list (pv 5)) (pg_name (i := 18) nd rfl (Or.inl rfl))
        (pss_one (ps_if (PW.pt (pw_or (pt_not (pt_val (pcall c__law_sound hr (pa_cons (pmeth0 m_Order_log T.cl_Order (pv 18) hr) (pa_cons (pv 3) (pa_cons (pv 6) (pa_cons (pv 8) pa_nil))))))) (pw_or1 (pt_cmpR op_ne (pe_callB call_len_seq (by rfl) T.b_len (by decide +kernel) (pa_cons (pmeth0 m_Order_log T.cl_Order (pv 18) hr) pa_nil)) (pv 20) (nomark _)))))
          (pss_one (ps_ret pe_bl))
          pss_nil)))
      (pss_one (ps_ret (pcall c__law_prefixes hr (pa_cons (pv 5) pa_nil)))))))))))))))))), ?_⟩
    refine ⟨_, rfl, ?_⟩
    refine ⟨sc, ns, 0, rfl, by decide, hS, fun c0 => ?_⟩
    refine .inl ⟨_, rfl, ?_⟩
    refine ⟨_, rfl, ?_⟩
    refine ⟨_, rfl, ?_⟩
    refine ⟨_, _, rfl, rfl, (by show (0 : Int) < _; decide), ?_⟩
    refine ⟨_, _, rfl, rfl, ?_⟩
    have hf0 : 0 ≤ (if c0 < 0 then -c0 else c0) := by split <;> omega
    generalize (if c0 < 0 then -c0 else c0) = first at *
    refine ⟨fun σ' H' => ∃ n : Nat, σ' = [some (.ref sc), some (.int first), some (.int (n : Nat)), none, none, none, none, none, none, none, none, none, none, none, none, none, none, none, none, none, none, none] ∧ H = H' ∧ 2 ≤ n ∧ n ≤ 12, ?_, ?_⟩
    · walk_at "rds"
      refine iB (fun h => ?_) (fun h => ?_)
      · walk_at "rds"
        refine ⟨(2 + first / 32 % 11).toNat, ?_, rfl, by omega, by omega⟩
        have : ((2 + first / 32 % 11).toNat : Int) = 2 + first / 32 % 11 := by omega
        rw [this]; rfl
      · refine ⟨(2 + first % 4).toNat, ?_, rfl, by omega, by omega⟩
        have : ((2 + first % 4).toNat : Int) = 2 + first % 4 := by omega
        rw [this]; rfl
    rintro _ _ ⟨n, rfl, rfl, n2, n12⟩
    refine ⟨_, rfl, ?_⟩
    refine ⟨_, rfl, ?_⟩
    refine ⟨by omega, by omega, fun D nD => ?_⟩
    refine lc_range (lo := 0) (n := (n : Int).toNat) (fun i H' => (∃ (vs : List V) (ms : List Mem), H' D = some (.lst vs) ∧ TDs H' vs (ms.map eM) ∧ ms.length = i ∧ ms.map (·.1) = (List.range i).map fun (k : Nat) => (k : Int)) ∧ Same H H') ?_ ?_ ?_
    · exact ⟨⟨[], [], upd_same, .nil, rfl, rfl⟩, same_new nD _⟩
    · rintro i H1 hi ⟨⟨us, ms, hD, tus, lms, em⟩, s1⟩
      have lu := tus.length
      rw [List.length_map] at lu
      refine ⟨rfl, ?_⟩
      refine ⟨_, rfl, ?_⟩
      refine ⟨_, rfl, ?_⟩
      refine ⟨_, rfl, ?_⟩
      refine ⟨_, _, rfl, rfl, ?_⟩
      refine ⟨_, _, rfl, rfl, ?_⟩
      refine ⟨⟨by omega, by omega⟩, ?_⟩
      refine ⟨_, _, rfl, rfl, (by show (0 : Int) < _; decide), ?_⟩
      refine ⟨_, _, rfl, rfl, ?_⟩
      refine ⟨by show 2 ≤ sizeLine; omega, fun t nt => ?_⟩
      have s2 := same_new nt (.tup [V.int (0 + (i : Int)), V.int (1 + first.fdiv (0 + (i : Int) + 1) % 4)])
      have ht : (upd H1 t (.tup [V.int (0 + (i : Int)), V.int (1 + first.fdiv (0 + (i : Int) + 1) % 4)])) t = some _ := upd_same
      have td : TD (upd H1 t (.tup [V.int (0 + (i : Int)), V.int (1 + first.fdiv (0 + (i : Int) + 1) % 4)])) (.ref t) (eM ((i : Int), 1 + first.fdiv (0 + (i : Int) + 1) % 4)) := td_mem (m := ((i : Int), 1 + first.fdiv (0 + (i : Int) + 1) % 4)) (by rw [ht, Int.zero_add])
      refine ⟨us, s2 _ _ hD, by omega, ⟨us ++ [.ref t], ms ++ [((i : Int), 1 + first.fdiv (0 + (i : Int) + 1) % 4)], upd_same, ?_, by rw [List.length_append, lms]; rfl, by rw [List.map_append, em, List.range_succ, List.map_append]; rfl⟩, fun b o h => ?_⟩
      · have k3 : TupK (upd H1 t (.tup [V.int (0 + (i : Int)), V.int (1 + first.fdiv (0 + (i : Int) + 1) % 4)])) (upd (upd H1 t (.tup [V.int (0 + (i : Int)), V.int (1 + first.fdiv (0 + (i : Int) + 1) % 4)])) D (.lst (us ++ [.ref t]))) := tupK_upd fun xs e => by rw [s2 _ _ hD] at e; cases e
        rw [List.map_append]
        exact ((tus.same s2).append (.cons td .nil)).mono k3
      · have := s2 _ _ (s1 _ _ h)
        have nb := ne_of_none h nD
        show (upd (upd H1 t _) D _) b = some o
        rw [upd_ne nb]
        exact this
    · rintro H1 ⟨⟨us, ms, hD, tus, lms, em⟩, s1⟩
      rw [Int.toNat_natCast] at lms em
      have lu := tus.length
      rw [List.length_map] at lu
      walk_at "rds"
      refine ⟨D, _, rfl, .inl ⟨SqL.of hD, fun bm nbm => ?_⟩⟩
      have s2 := same_new nbm (.tup us)
      have hbm : (upd H1 bm (.tup us)) bm = some (.tup us) := upd_same
      have tms : TD (upd H1 bm (.tup us)) (.ref bm) (eMs ms) := .tup hbm (by omega) (tus.same s2)
      have tus2 := tus.same s2
      have s02 := s1.trans s2
      clear tus hD
      generalize upd H1 bm (.tup us) = H2 at *
      have ndm : (ms.map (·.1)).Nodup := by
        rw [em]
        exact List.Pairwise.map _ (fun a b (h : a ≠ b) => by show (a : Int) ≠ (b : Int); omega) List.nodup_range
      have nzr : 0 < ms.length := by omega
      obtain ⟨fd0, hfd⟩ : ∃ fd0, ms[0]? = some fd0 := ⟨_, List.getElem?_eq_getElem nzr⟩
      obtain ⟨vf, hvf, tvf⟩ := tus2.get (i := 0) (d := eM fd0) (by rw [List.getElem?_map, hfd]; rfl)
      refine ⟨_, rfl, ?_⟩
      refine ⟨_, rfl, ?_⟩
      refine ⟨⟨_, SqT.of hbm⟩, fun pr npr => ?_⟩
      refine lc_tup (K := K) (a := bm) (xs := us) (fun i H' => H' pr = some (.lst ((ms.take i).map fun m => V.int m.1)) ∧ Same H2 H') ?_ ?_ ?_ ?_
      · exact ⟨upd_same, same_new npr _⟩
      · rintro i H' _ ⟨_, s3⟩
        exact SqT.of (s3 _ _ hbm)
      · rintro i x H' hi ⟨hp, s3⟩
        obtain ⟨d, hd, td⟩ := (tus2.same s3).at hi
        rw [List.getElem?_map] at hd
        obtain ⟨m, hm, rfl⟩ := Option.map_eq_some_iff.mp hd
        obtain ⟨b, rfl, hb⟩ := td.mem
        refine ⟨rfl, ?_⟩
        refine ⟨_, rfl, ?_⟩
        refine ⟨_, _, _, _, rfl, rfl, SqT.of (by assumption), rfl, ?_⟩
        refine ⟨_, hp, by rw [List.length_map, List.length_take]; omega, ?_, fun b o h => by rw [upd_ne (ne_of_none h npr)]; exact s3 _ _ h⟩
        rw [upd_same, List.take_succ, hm, List.map_append]; rfl
      rintro H3 ⟨hpr, s3⟩
      rw [lu, List.take_length] at hpr
      have tus3 := tus2.same s3
      have hbm3 := s3 _ _ hbm
      refine ⟨_, rfl, ?_⟩
      refine ⟨_, rfl, ?_⟩
      refine ⟨⟨_, SqT.of hbm3⟩, fun l nl => ?_⟩
      refine lc_tup (K := K) (a := bm) (xs := us) (fun i H' => ∃ (ps : Nat → Addr) (as : Nat → OA), H' l = some (.lst ((List.range i).map fun k => V.ref (ps k))) ∧ (∀ k, k < i → OAt w CO H' (ps k) (as k) (os0 ms (7, fd0) fd0 k)) ∧ (∀ j k, j < i → k < i → j ≠ k → ∀ b ∈ (as j).fp (ps j), b ∉ (as k).fp (ps k)) ∧ (∀ k, k < i → l ∉ (as k).fp (ps k)) ∧ (∀ k, k < i → ∀ b ∈ (as k).fp (ps k), H3 b = none) ∧ Same H3 H') ?_ ?_ ?_ ?_
      · exact ⟨fun _ => 0, fun _ => ⟨0, .non, .non, .non, .non, 0, 0, 0, 0, 0⟩, upd_same, fun k h => by omega, fun j k h => by omega, fun k h => by omega, fun k h => by omega, same_new nl _⟩
      · rintro i H' _ ⟨_, _, _, _, _, _, _, s4⟩
        exact SqT.of (s4 _ _ hbm3)
      · rintro i x H' hi ⟨ps, as, hl, oa, dj, lo, nw, s4⟩
        have hin : i < us.length := (List.getElem?_eq_some_iff.mp hi).1
        obtain ⟨d, hd, td⟩ := (tus3.same s4).at hi
        rw [List.getElem?_map] at hd
        obtain ⟨m, hm, rfl⟩ := Option.map_eq_some_iff.mp hd
        have hmm : m ∈ ms := List.mem_of_getElem? hm
        have s24 := s3.trans s4
        refine ⟨rfl, ?_⟩
        refine ⟨_, rfl, ?_⟩
        refine ⟨_, rfl, ?_⟩
        refine ⟨bm, _, _, vf, rfl, rfl, SqT.of (s4 _ _ hbm3), at_int (by decide) hvf, ?_⟩
        refine ⟨by show 2 ≤ sizeLine; omega, fun vi nvi => ?_⟩
        have s5 := same_new nvi (.tup [V.int 7, vf])
        have tvi : TD (upd H' vi (.tup [V.int 7, vf])) (.ref vi) (eV (7, fd0)) := .tup upd_same (by show 2 ≤ 100000; decide) (.cons (.int _) (.cons (tvf.same (s24.trans s5)) .nil))
        have hl5 := s5 _ _ hl
        generalize upd H' vi (.tup [V.int 7, vf]) = H5 at *
        refine ⟨_, rfl, ?_⟩
        intro x0 dy nx ndy nxy
        have sa := same_new ndy (.own x0)
        have nx2 : (upd H5 dy (.own x0)) x0 = none := by rw [upd_ne nxy.symm]; exact nx
        have sb := same_new nx2 (.ins CO dy [])
        have sab := sa.trans sb
        have hx0 : (upd (upd H5 dy (.own x0)) x0 (.ins CO dy [])) x0 = some (.ins CO dy []) := upd_same
        generalize upd (upd H5 dy (.own x0)) x0 (.ins CO dy []) = H6 at *
        have s46 := s5.trans sab
        refine ⟨x0, dy, x, .ref vi, .ref bm, m, (7, fd0), ms, rfl, hx0, td.same s46, tvi.same sab, tms.same (s24.trans s46), fun hn => absurd hmm hn, fun _ H7 a fd1 r e1 O7 F7 => ⟨rfl, ?_⟩⟩
        have e2 : fd1 = fd0 := by
          rw [e1] at hfd
          exact Option.some.inj hfd
        subst e2
        have s57 : Same H5 H7 := fun b o h => F7.k b o (sab b o h) (fun z => by rw [List.mem_singleton.mp z, nx] at h; cases h)
        have s47 := s5.trans s57
        have hl7 := s57 _ _ hl5
        have fresh : ∀ b ∈ a.fp x0, H' b = none := fun b hb => by
          rcases F7.n b hb with z | z
          · rw [List.mem_singleton.mp z]
            exact (Gr5 s5) _ nx
          · exact (Gr5 s46) _ z
        have lx : l ∉ a.fp x0 := fun z => by rw [fresh l z] at hl; cases hl
        have tk8 : TupK H7 (upd H7 l (.lst (((List.range i).map fun k => V.ref (ps k)) ++ [.ref x0]))) := tupK_upd fun xs e => by rw [hl7] at e; cases e
        have k8 : ∀ b o, H7 b = some o → b ≠ l → (upd H7 l (.lst (((List.range i).map fun k => V.ref (ps k)) ++ [.ref x0]))) b = some o := fun b o h n => by rw [upd_ne n]; exact h
        have eo : os0 ms (7, fd1) fd1 i = OS.new m (7, fd1) ms fd1 := by
          unfold os0
          rw [List.getD_eq_getElem?_getD, hm]; rfl
        have psi : ∀ k, k < i → (fun k => if k = i then x0 else ps k) k = ps k := fun k h => if_neg (by omega)
        refine ⟨_, hl7, by rw [List.length_map, List.length_range]; omega, fun k => if k = i then x0 else ps k, fun k => if k = i then a else as k, ?_, fun k hk => ?_, fun j k hj hk hjk => ?_, fun k hk => ?_, fun k hk => ?_, fun b o h => k8 b o (s47 b o (s4 b o h)) (ne_of_none h nl)⟩
        · rw [upd_same, List.range_succ, List.map_append]
          have : ((List.range i).map fun k => V.ref (if k = i then x0 else ps k)) = (List.range i).map fun k => V.ref (ps k) := List.map_congr_left fun k hk => by rw [if_neg (by have := List.mem_range.mp hk; omega)]
          rw [this]
          show _ = some (HO.lst (_ ++ [V.ref (if i = i then x0 else ps i)]))
          rw [if_pos rfl]
        · show OAt w CO _ (if k = i then x0 else ps k) (if k = i then a else as k) _
          by_cases q2 : k = i
          · subst q2
            rw [if_pos rfl, if_pos rfl, eo]
            exact O7.mono (fun b hb o h => k8 b o h fun z => lx (z ▸ hb)) tk8
          · rw [if_neg q2, if_neg q2]
            exact ((oa k (by omega)).same s47).mono (fun b hb o h => k8 b o h fun z => lo k (by omega) (z ▸ hb)) tk8
        · show ∀ b ∈ (if j = i then a else as j).fp (if j = i then x0 else ps j), b ∉ (if k = i then a else as k).fp (if k = i then x0 else ps k)
          have tak : ∀ j, j < i → ∀ b ∈ (as j).fp (ps j), b ∉ a.fp x0 := fun j hj b hb z => by
            obtain ⟨o, e, _⟩ := (oa j hj).taken b hb
            rw [fresh b z] at e; cases e
          by_cases q2 : j = i
          · subst q2
            rw [if_pos rfl, if_pos rfl, if_neg (Ne.symm hjk), if_neg (Ne.symm hjk)]
            exact fun b hb z => tak k (by omega) b z hb
          · rw [if_neg q2, if_neg q2]
            by_cases q3 : k = i
            · subst q3
              rw [if_pos rfl, if_pos rfl]
              exact tak j (by omega)
            · rw [if_neg q3, if_neg q3]
              exact dj j k (by omega) (by omega) hjk
        · show l ∉ (if k = i then a else as k).fp (if k = i then x0 else ps k)
          by_cases q2 : k = i
          · rw [if_pos q2, if_pos q2]; exact lx
          · rw [if_neg q2, if_neg q2]; exact lo k (by omega)
        · show ∀ b ∈ (if k = i then a else as k).fp (if k = i then x0 else ps k), H3 b = none
          by_cases q2 : k = i
          · rw [if_pos q2, if_pos q2]
            exact fun b hb => (Gr5 s4) _ (fresh b hb)
          · rw [if_neg q2, if_neg q2]; exact nw k (by omega)
      rintro H8 ⟨ps, as, hl, oa, dj, lo, nw, s8⟩
      have lum : us.length = ms.length := lu
      rw [lum] at hl oa dj lo nw
      have O8 : OrdsAt w CO H8 l ms.length ps as (os0 ms (7, fd0) fd0) := ⟨hl, oa, dj, lo⟩
      have O8nw := nw
      have hpr3 := hpr
      have I8 := iv_new (v0 := (7, fd0)) ndm hfd
      have s28 := s3.trans s8
      have hpr8 := s8 _ _ hpr
      have tms8 := tms.same s28
      have tus8 := tus2.same s28
      have hbm8 := s28 _ _ hbm
      have hS8 := (s02.trans s28).seq hS
      clear oa dj lo nw hl nl s8 tus3 hbm3 hpr npr tms tus2 hbm s3 s02 s28 s2 s1 nD nbm tvf
      walk_at "rds"
      intro d ndd lod
      generalize hh : upd H8 d _ = H9
      have s9 : Same H8 H9 := by subst hh; exact same_new ndd _
      have N9 : Nd w H9 d [] := by subst hh; exact nd_new lod
      clear hh
      refine ⟨_, rfl, ?_⟩
      refine ⟨_, rfl, ?_⟩
      refine ⟨⟨_, SqT.of (s9 _ _ hbm8)⟩, for_tup (K := K) (a := bm) (xs := us) (fun i σ H' => ∃ (x7 : Option V) (ls : Mem → Addr) (kvs : NKV), σ = [some (.ref sc), some (.int first), some (.int (n : Nat)), some (.ref bm), some (.ref pr), some (.ref l), some (.ref d), x7, none, none, none, none, none, none, none, none, none, none, none, none, none, none] ∧ Nd w H' d kvs ∧ kvs.length ≤ i ∧
        (∀ k m, k < i → ms[k]? = some m → valN kvs (kM m) = some (.ref (ls m)) ∧ H' (ls m) = some (.lst []) ∧ H9 (ls m) = none) ∧ (∀ j k m m', j < i → k < i → ms[j]? = some m → ms[k]? = some m' → j ≠ k → ls m ≠ ls m') ∧ FO (fun c => c = d) (fun c => c = d) H9 H') ?_ ?_ ?_ ?_⟩
      · exact ⟨_, fun _ => 0, [], rfl, N9, Nat.le_refl _, fun k m h => by omega, fun j k m m' h => by omega, FO.refl _ _⟩
      · rintro i σ H' _ ⟨_, _, _, _, _, _, _, _, F'⟩
        exact SqT.of (F'.t _ _ (s9 _ _ hbm8))
      · rintro i x σ H' hi ⟨x7, ls, kvs, rfl, N, lk, hv, hj, F'⟩
        have hin : i < us.length := (List.getElem?_eq_some_iff.mp hi).1
        obtain ⟨dd, hd, td⟩ := tus8.at hi
        rw [List.getElem?_map] at hd
        obtain ⟨m, hm, rfl⟩ := Option.map_eq_some_iff.mp hd
        obtain ⟨bx, rfl, nk⟩ := ((td.same s9).mono F'.t).nk
        walk_at "rds"
        refine ⟨by show 0 ≤ sizeLine; omega, fun y ny => ?_⟩
        have s1 := same_new ny (.lst [])
        have hy : (upd H' y (.lst [])) y = some (.lst []) := upd_same
        have yd : y ≠ d := fun z => by rw [z, N.ob] at ny; cases ny
        have N1 := N.mono (s1 _ _ N.ob) (TupK.of s1)
        obtain ⟨bx', eb, nk1⟩ := (((td.same s9).mono F'.t).same s1).nk
        cases eb
        generalize upd H' y (.lst []) = H1 at *
        refine ⟨_, rfl, ?_⟩
        refine ⟨_, rfl, ?_⟩
        refine ⟨d, bx, kvs, kM m, rfl, rfl, N1, nk1, kM_depth _, ?_⟩
        generalize hh2 : upd H1 d _ = H2
        have N2 : Nd w H2 d (putN kvs (kM m) bx (.ref y)) := by subst hh2; exact N1.put (v := .ref y) nk1 (kM_depth _) (by omega)
        have k2 : ∀ b o, H1 b = some o → b ≠ d → H2 b = some o := fun b o h n => by subst hh2; rw [upd_ne n]; exact h
        have F2 : Fr [d] [d] H1 H2 := by subst hh2; exact fr_upd (by simp) N1.ob (fun _ z => by cases z)
        have F02 : FO (fun c => c = d) (fun c => c = d) H9 H2 := F'.trans ((FO.of s1).trans (FO.fr F2 (fun b hb => List.mem_singleton.mp hb)))
        refine ⟨_, fun m' => if m' = m then y else ls m', _, rfl, N2, by rw [putN_len']; split <;> omega, fun k m' hk hm' => ?_, fun j k m1 m2 h1 h2 h3 h4 h5 => ?_, F02⟩
        · rw [valN_put]
          by_cases q2 : m' = m
          · subst q2
            have el : (fun x => if x = m' then y else ls x) m' = y := if_pos rfl
            rw [if_pos rfl, el]
            exact ⟨rfl, k2 _ _ hy yd, F'.s _ ny⟩
          · rw [if_neg (fun z => q2 (kM_inj z))]
            have el : (fun x => if x = m then y else ls x) m' = ls m' := if_neg q2
            rw [el]
            have : k ≠ i := fun z => q2 (by subst z; exact Option.some.inj (hm'.symm.trans hm))
            obtain ⟨a1, a2, a3⟩ := hv k m' (by omega) hm'
            exact ⟨a1, k2 _ _ (s1 _ _ a2) (fun z => by rw [z, N.ob] at a2; cases a2), a3⟩
        · show (if m1 = m then y else ls m1) ≠ (if m2 = m then y else ls m2)
          have ne12 : m1 ≠ m2 := fun z => h5 (idx_inj (nd_of ndm) h3 (by rw [z]; exact h4))
          have old : ∀ k m', k < i + 1 → ms[k]? = some m' → m' ≠ m → ls m' ≠ y := fun k m' hk hm' q2 z => by
            have : k ≠ i := fun z => q2 (by subst z; exact Option.some.inj (hm'.symm.trans hm))
            obtain ⟨_, a2, _⟩ := hv k m' (by omega) hm'
            rw [z, ny] at a2; cases a2
          by_cases q2 : m1 = m
          · rw [if_pos q2, if_neg (fun z => ne12 (q2.trans z.symm))]
            exact (old k m2 h2 h4 (fun z => ne12 (q2.trans z.symm))).symm
          · rw [if_neg q2]
            by_cases q3 : m2 = m
            · rw [if_pos q3]; exact old j m1 h1 h3 q2
            · rw [if_neg q3]
              have e1 : j ≠ i := fun z => q2 (by subst z; exact Option.some.inj (h3.symm.trans hm))
              have e2 : k ≠ i := fun z => q3 (by subst z; exact Option.some.inj (h4.symm.trans hm))
              exact hj j k m1 m2 (by omega) (by omega) h3 h4 h5
      rintro σ H10 ⟨x7, ls, kvs, rfl, N10, lk10, hv, hj, F10⟩
      rw [lum] at hv hj lk10
      have tk10 := F10.t
      have k10 : ∀ b o, H8 b = some o → H10 b = some o := fun b o h => F10.k b o (s9 b o h) (fun z => by rw [z, ndd] at h; cases h)
      have s10 : Same H8 H10 := k10
      walk_at "rds"
      intro e ne loe
      generalize hh : upd H10 e _ = H11
      have s11 : Same H10 H11 := by subst hh; exact same_new ne _
      have N11 : Nd w H11 e [] := by subst hh; exact nd_new loe
      clear hh
      walk_at "rds"
      refine ⟨by show 0 ≤ sizeLine; omega, fun bg nbg => ?_⟩
      have s12 := same_new nbg (.lst [])
      have hbg : (upd H11 bg (.lst [])) bg = some (.lst []) := upd_same
      generalize upd H11 bg (.lst []) = H12 at *
      refine ⟨_, rfl, ?_⟩
      refine ⟨_, rfl, ?_⟩
      have s812 := s10.trans (s11.trans s12)
      refine ⟨sc, ns.map V.int, rfl, s812.seq hS8, fun sl nsl => ?_⟩
      have s13 := same_new nsl (.lst (cutV (ns.map V.int) (some 1) none))
      have hsl : (upd H12 sl (.lst (cutV (ns.map V.int) (some 1) none))) sl = some (.lst (cutV (ns.map V.int) (some 1) none)) := upd_same
      obtain ⟨nq, ens, lns⟩ : ∃ nq : List Int, cutV (ns.map V.int) (some 1) none = nq.map V.int ∧ nq.length ≤ 63 := by
        refine ⟨((ns.drop (HT.sIx ns.length 0 (some 1))).take (HT.sIx ns.length ns.length none - HT.sIx ns.length 0 (some 1))), ?_, ?_⟩
        · unfold cutV
          rw [List.map_take, List.map_drop, List.length_map]
        · rw [List.length_take, List.length_drop]; omega
      rw [ens] at hsl s13 ⊢
      generalize upd H12 sl (.lst (nq.map V.int)) = H13 at *
      have s1213 := s12.trans s13
      have s1013 := s11.trans s1213
      have s813 := s812.trans s13
      have nls : ∀ m ∈ ms, ∃ k, k < ms.length ∧ ms[k]? = some m := fun m hm => by
        obtain ⟨k, hk⟩ := List.getElem?_of_mem hm
        exact ⟨k, (List.getElem?_eq_some_iff.mp hk).1, hk⟩
      have inr : ∀ {b o}, H12 b = some o → b ≠ sl := fun h => ne_of_none h nsl
      have hlst : ∀ m ∈ ms, H10 (ls m) = some (.lst []) ∧ H9 (ls m) = none := fun m hm => by
        obtain ⟨k, hk, hm'⟩ := nls m hm
        exact (hv k m hk hm').2
      have h89 : ∀ b, H9 b = none → H8 b = none := fun b h => by
        cases e : H8 b with
        | none => rfl
        | some o => rw [s9 b o e] at h; cases h
      have h810 : ∀ b, H10 b = none → H8 b = none := fun b h => h89 b (F10.s b h)
      have h811 : ∀ b, H11 b = none → H8 b = none := fun b h => h810 b (Gr5 s11 b h)
      have h812 : ∀ b, H12 b = none → H8 b = none := fun b h => h811 b (Gr5 s12 b h)
      have noO : ∀ b, H8 b = none → ¬ OFp ms.length ps as b := fun b h z => by
        obtain ⟨o, x, _⟩ := O8.taken z
        rw [h] at x; cases x
      have notpr : ¬ OFp ms.length ps as pr := fun z => by
        obtain ⟨k, hk, hb⟩ := z
        have := O8nw k hk pr hb
        rw [hpr3] at this; cases this
      have some11 : ∀ {b o}, H10 b = some o → H11 b = some o := fun h => s11 _ _ h
      have L0 : LV w CO l pr d e sl bg ms (7, fd0) ls (nq.map V.int) (.ref bm) H13 ps as (os0 ms (7, fd0) fd0) (fun _ => []) (fun _ => none) [] 0 := by
        refine ⟨O8.same s813, I8, s813 _ _ hpr8, tms8.same s813, ⟨⟨kvs, N10.mono (s1013 _ _ N10.ob) (TupK.of s1013), fun m hm => ?_, lk10⟩, fun m hm => ⟨[], s1013 _ _ (hlst m hm).1, .nil⟩, fun m hm m' hm' hne => ?_⟩, ⟨[], N11.mono (s1213 _ _ N11.ob) (TupK.of s1213), fun q => rfl, Nat.le_refl _⟩, ⟨[], s13 _ _ hbg, .nil⟩, (fun p hp => by cases hp), fun k hk => ⟨Nat.le_refl _, Nat.le_refl _⟩, fun m hm => Nat.zero_le _, (fun m hm z hz => by cases hz), hsl, fun qq => ?_, noO _ (h811 _ nbg), fun b qq => ?_, ?_, fun m hm => ⟨fun z => ?_, fun z => ?_, fun z => ?_⟩⟩
        · obtain ⟨k, hk, hm'⟩ := nls m hm
          exact (hv k m hk hm').1
        · obtain ⟨k, hk, h1⟩ := nls m hm
          obtain ⟨k', hk', h2⟩ := nls m' hm'
          exact hj k k' m m' hk hk' h1 h2 (fun z => hne (by subst z; exact Option.some.inj (h1.symm.trans h2)))
        · rcases qq with rfl | rfl | rfl | rfl | rfl | ⟨m, hm, rfl⟩
          · have := s11 _ _ (s10 _ _ O8.ls); rw [nbg] at this; cases this
          · have := s11 _ _ (s10 _ _ hpr8); rw [nbg] at this; cases this
          · have := s11 _ _ N10.ob; rw [nbg] at this; cases this
          · have := N11.ob; rw [nbg] at this; cases this
          · rw [nsl] at hbg; cases hbg
          · have := s11 _ _ (hlst m hm).1; rw [nbg] at this; cases this
        · rcases qq with rfl | rfl | rfl | rfl | rfl | ⟨m, hm, rfl⟩
          · rintro ⟨k, hk, hb⟩; exact O8.lo k hk hb
          · exact notpr
          · exact noO _ ndd
          · exact noO _ (h810 _ ne)
          · exact noO _ (h812 _ nsl)
          · exact noO _ (h89 _ (hlst m hm).2)
        · intro z
          have := N10.ob; rw [z, ne] at this; cases this
        · have := (hlst m hm).2; rw [z] at this
          have h2 := s9 _ _ O8.ls; rw [this] at h2; cases h2
        · have := (hlst m hm).2; rw [z] at this
          have h2 := s9 _ _ hpr8; rw [this] at h2; cases h2
        · have := s12 _ _ (s11 _ _ (hlst m hm).1); rw [z, nsl] at this; cases this
      clear O8 I8 hpr8 tms8 N10 N11 hv hj lk10 hlst hbg hsl O8nw hpr3 noO notpr some11 inr
      have hbm13 := s813 _ _ hbm8
      have tus13 := tus8.same s813
      have hvf13 := hvf
      clear hbm8 tus8
      refine ⟨sl, rfl, ⟨_, SqL.of L0.fsl⟩, for_list (xs := nq.map V.int) (fun i σ H' => ∃ (x7 x10 x11 x12 x13 x14 x15 x16 x17 x18 : Option V) (bg : Addr) (as : Nat → OA) (os : Nat → OS) (cs : Mem → List Str) (ca : Mem × Int → Option Int) (bag : List Pkt) (t : Nat), σ = [some (.ref sc), some (.int first), some (.int (n : Nat)), some (.ref bm), some (.ref pr), some (.ref l), some (.ref d), x7, some (.ref e), some (.ref bg), x10, x11, x12, x13, x14, x15, x16, x17, x18, none, none, none] ∧
        LV w CO l pr d e sl bg ms (7, fd0) ls (nq.map V.int) (.ref bm) H' ps as os cs ca bag t ∧ t ≤ 12 * i ∧ bag.length ≤ 60) ?_ ?_ ?_ ?_⟩
      · exact ⟨_, _, _, _, _, _, _, _, _, _, bg, as, _, _, _, [], 0, rfl, L0, Nat.le_refl _, Nat.zero_le _⟩
      · rintro i σ H' _ ⟨_, _, _, _, _, _, _, _, _, _, _, _, _, _, _, _, _, _, VV, _⟩
        exact SqL.of VV.fsl
      · clear L0
        rintro i y σ HT hi ⟨x7, x10, x11, x12, x13, x14, x15, x16, x17, x18, bg, as, os, cs, ca, bag, t, rfl, VV, ht, hbg60⟩
        have hi2 : i < nq.length := by rw [← List.length_map (as := nq) V.int]; exact (List.getElem?_eq_some_iff.mp hi).1
        rw [List.getElem?_map] at hi
        obtain ⟨nn, _, rfl⟩ := Option.map_eq_some_iff.mp hi
        obtain ⟨bm', us', em', hbmT, lxT, tusT⟩ := TD.tupI VV.tm
        cases em'
        have luT := tusT.length
        rw [List.length_map] at luT
        have n0 := VV.I.n0
        refine ⟨_, rfl, ?_⟩
        refine .inl ⟨_, rfl, ?_⟩
        refine ⟨_, _, rfl, rfl, (by show (0 : Int) < _; decide), ?_⟩
        refine ⟨_, rfl, ?_⟩
        refine ⟨_, _, rfl, rfl, (⟨by decide, by decide⟩ : CDiv _ _), ?_⟩
        refine .inl ⟨_, rfl, ?_⟩
        refine ⟨_, rfl, ?_⟩
        refine ⟨_, rfl, ?_⟩
        refine ⟨_, rfl, ?_⟩
        refine ⟨_, _, rfl, Or.inr (SqT.of (by assumption)), ?_⟩
        refine ⟨_, _, rfl, rfl, ?_⟩
        have hc0 : 0 ≤ (if nn / 8 < 0 then -(nn / 8) else nn / 8) := by split <;> omega
        generalize (if nn / 8 < 0 then -(nn / 8) else nn / 8) = cell at *
        refine ⟨by omega, ?_⟩
        have hk0 : 0 ≤ cell % ((us'.length : Nat) : Int) := Int.emod_nonneg _ (by omega)
        have hk1 : cell % ((us'.length : Nat) : Int) < ((us'.length : Nat) : Int) := Int.emod_lt_of_pos _ (by omega)
        obtain ⟨k, ek, hk⟩ : ∃ k : Nat, cell % ((us'.length : Nat) : Int) = (k : Int) ∧ k < ms.length := ⟨(cell % ((us'.length : Nat) : Int)).toNat, by omega, by omega⟩
        obtain ⟨mk, hmk⟩ : ∃ mk, ms[k]? = some mk := ⟨_, List.getElem?_eq_getElem hk⟩
        obtain ⟨vmk, hvmk, tvmk⟩ := tusT.get (i := k) (d := eM mk) (by rw [List.getElem?_map, hmk]; rfl)
        have hmks : mk ∈ ms := List.mem_of_getElem? hmk
        have emk : (os k).me = mk := Option.some.inj ((VV.I.oi k hk).me.symm.trans hmk)
        walk_at "rds"
        refine ⟨fun σ' H' => ∃ (x13 x14 x15 x16 x17 : Option V) (as : Nat → OA) (os : Nat → OS) (cs : Mem → List Str) (ca : Mem × Int → Option Int) (bag : List Pkt) (t : Nat), σ' = [some (.ref sc), some (.int first), some (.int (n : Nat)), some (.ref bm), some (.ref pr), some (.ref l), some (.ref d), x7, some (.ref e), some (.ref bg), some (.int cell), some (.int (nn % 8)), some (.int (cell % ((us'.length : Nat) : Int))), x13, x14, x15, x16, x17, x18, none, none, none] ∧
          LV w CO l pr d e sl bg ms (7, fd0) ls (nq.map V.int) (.ref bm) H' ps as os cs ca bag t ∧ t ≤ 12 * (i + 1) ∧ bag.length ≤ 20000, ?_, ?_⟩
        · walk_at "rds"
          have VB := VV.bd
          have bd0 := VB 0 n0
          have bdk := VB k hk
          have OA := VV.O.at_ k hk
          refine iBk ?_ (fun hk2 hNO => ?_)
          rotate_left
          · have hk2 := of_decide_eq_true hk2
            obtain ⟨bk, rfl, nkk⟩ := tvmk.nk
            obtain ⟨kc, Nc, vc, lc⟩ := VV.fcs.nd
            obtain ⟨uc, huc, tuc⟩ := VV.fcs.at_ mk hmks
            have luc := tuc.length
            rw [List.length_map] at luc
            have nkc : valN kc (kM mk) = some (.ref (ls mk)) := vc _ hmks
            refine ⟨_, rfl, ?_⟩
            refine ⟨_, rfl, ?_⟩
            refine ⟨_, rfl, ?_⟩
            refine ⟨bm, _, _, .ref bk, rfl, rfl, SqT.of hbmT, (by rw [ek]; exact at_int (by omega) (by rw [Int.toNat_natCast]; exact hvmk)), ?_⟩
            refine ⟨d, bk, .ref (ls mk), rfl, rfl, ⟨kc, kM mk, Nc, nkk, kM_depth _, nkc.symm⟩, ?_⟩
            refine ⟨ls mk, uc, rfl, .inl (SqL.of huc), ?_⟩
            refine ⟨_, _, rfl, rfl, ?_⟩
            refine ⟨_, rfl, ?_⟩
            refine iB (fun h88 => ?_) (fun _ => hNO)
            have h88 := of_decide_eq_true h88
            clear hNO
            refine ⟨_, rfl, ?_⟩
            refine ⟨_, rfl, ?_⟩
            refine ⟨l, _, _, .ref (ps k), rfl, rfl, SqL.of VV.O.ls, (by rw [ek]; exact VV.O.item hk), ?_⟩
            refine ⟨ps k, (as k).dx, _, rfl, OA.ob, rfl, ps k, as k, os k, rfl, OA, by omega, fun r H1 s1 tr => ?_⟩
            obtain ⟨r', zs, er, hr', lzs, tzs⟩ := tr.tupI
            cases er
            have lz := tzs.length
            rw [List.length_map] at lz
            refine ⟨r, _, rfl, .inr (SqT.of hr'), ?_⟩
            rw [lz]
            refine ⟨_, rfl, ?_⟩
            refine ⟨_, _, rfl, rfl, (⟨by decide, by decide⟩ : CDiv _ _), ?_⟩
            refine ⟨_, rfl, ?_⟩
            refine ⟨by omega, fun z H2 s2 lz30 okz => ?_⟩
            refine ⟨_, rfl, ?_⟩
            refine ⟨_, rfl, ?_⟩
            have V2 := (VV.same s1).same s2
            refine ⟨l, _, _, .ref (ps k), rfl, rfl, SqL.of V2.O.ls, (by rw [ek]; exact V2.O.item hk), ?_⟩
            have OA2 := V2.O.at_ k hk
            refine ⟨ps k, (as k).dx, _, rfl, OA2.ob, rfl, ?_⟩
            refine ⟨_, rfl, ?_⟩
            have hpl := V2.I.pl hk
            have hpm := (V2.I.oi k hk).mems
            have hp8 := V2.h8 _ (by rw [emk]; exact hmks : (os k).me ∈ ms)
            refine ⟨ps k, as k, os k, z, rfl, OA2, by omega, by omega, by rw [hpm]; omega, fun t' H3 a1 l1 l2 O1 F1 hT N1 N2 nll => ?_⟩
            have W3 := V2.weak.cast hk O1 F1
            obtain ⟨I7, ix7, pk7, pre7⟩ := V2.I.cast hk z
            have cl7 := (cast_len (os k) z).2
            rw [hpm] at cl7
            rw [emk] at I7 ix7 pk7
            rw [ix7] at hT
            have p0 : (os 0).log <+: (upF os k ((os k).cast z).1 0).log := by
              by_cases q : k = 0
              · subst q; rw [upF_at]; exact pre7
              · rw [upF_ne _ _ (Ne.symm q)]; exact List.prefix_refl _
            have B7 := V2.bd.cast (k := k) z
            have pk8 : ∀ p ∈ bag ++ ((os k).cast z).2.2.2, POk ms (csA cs mk z) (upF os k ((os k).cast z).1 0).log p := fun p hp => by
              rcases List.mem_append.mp hp with hp | hp
              · exact (V2.pk p hp).more (csA_le cs mk z) p0
              · exact pk7 p hp
            have h8' : ∀ m ∈ ms, (csA cs mk z m).length ≤ 8 := fun m hm => by
              by_cases q : m = mk
              · subst q
                rw [csA_at, List.length_append, List.length_singleton]; omega
              · rw [csA_ne _ _ q]; exact V2.h8 m hm
            have ok' : ∀ m ∈ ms, ∀ y ∈ csA cs mk z m, PyData.strOk y = true := fun m hm y hy => by
              by_cases q : m = mk
              · subst q
                rw [csA_at] at hy
                rcases List.mem_append.mp hy with hy | hy
                · exact V2.ok _ hm y hy
                · rw [List.mem_singleton.mp hy]; exact okz
              · rw [csA_ne _ _ q] at hy; exact V2.ok m hm y hy
            have tk3 : TupK HT H3 := (TupK.of (s1.trans s2)).trans F1.t
            have hbm3 := tk3 _ _ hbmT
            have tv3 := tvmk.mono tk3
            have L2h := N2.at_
            have nl2 : ∀ {b o}, H2 b = some o → l2 ≠ b := fun h z => by rw [← z, N2.new] at h; cases h
            have l2e : l2 ≠ e := by
              obtain ⟨_, n, _⟩ := V2.fca
              exact nl2 n.ob
            have l2b : l2 ≠ bg := by
              obtain ⟨_, n, _⟩ := V2.fbg
              exact nl2 n
            have l2m : l2 ≠ ls mk := by
              obtain ⟨_, n, _⟩ := V2.fcs.at_ mk hmks
              exact nl2 n
            clear tr tzs hr' OA OA2 V2 O1 F1 N1 N2 nkk pk7 pre7 hbmT tusT tvmk Nc vc huc tuc s1 s2 VV nl2 nkc
            refine ⟨_, rfl, ?_⟩
            refine ⟨_, rfl, ?_⟩
            refine ⟨_, rfl, ?_⟩
            obtain ⟨kc3, Nc3, vc3, lc3⟩ := W3.fcs.nd
            obtain ⟨u3, hu3, tu3⟩ := W3.fcs.at_ mk hmks
            obtain ⟨bk', eb, nk3⟩ := tv3.nk
            cases eb
            have lu3 := tu3.length
            rw [List.length_map] at lu3
            refine ⟨bm, _, _, .ref bk, rfl, rfl, SqT.of hbm3, (by rw [ek]; exact at_int (by omega) (by rw [Int.toNat_natCast]; exact hvmk)), ?_⟩
            refine ⟨d, bk, .ref (ls mk), rfl, rfl, ⟨kc3, kM mk, Nc3, nk3, kM_depth _, (vc3 _ hmks).symm⟩, ?_⟩
            refine ⟨_, rfl, ?_⟩
            refine ⟨.inl ⟨rfl, _, SqL.of hu3⟩, ?_⟩
            refine ⟨_, rfl, ?_⟩
            refine ⟨ls mk, _, _, rfl, rfl, hu3, by omega, ?_⟩
            have W4 := W3.add hmks hu3 tu3 z
            have tk4 : TupK H3 (upd H3 (ls mk) (.lst (u3 ++ [.str z]))) := tupK_upd fun xs e => by rw [hu3] at e; cases e
            have L24 : LstAt (upd H3 (ls mk) (.lst (u3 ++ [.str z]))) l2 (((os k).cast z).2.2.2.map ePk) := L2h.mono (fun o h => by rw [upd_ne l2m]; exact h) tk4
            clear W3 Nc3 vc3 hu3 tu3 nk3 L2h
            have hbm4 := tk4 _ _ hbm3
            have tv4 := tv3.mono tk4
            have hT4 := tk4 _ _ hT
            clear hbm3 tv3 hT
            generalize upd H3 (ls mk) (.lst (u3 ++ [.str z])) = H4 at *
            refine ⟨_, rfl, ?_⟩
            refine ⟨_, rfl, ?_⟩
            refine ⟨_, rfl, ?_⟩
            refine ⟨_, rfl, ?_⟩
            refine ⟨bm, _, _, .ref bk, rfl, rfl, SqT.of hbm4, (by rw [ek]; exact at_int (by omega) (by rw [Int.toNat_natCast]; exact hvmk)), ?_⟩
            refine ⟨_, rfl, ?_⟩
            refine ⟨_, _, _, _, rfl, rfl, SqT.of (by assumption), rfl, ?_⟩
            refine ⟨by show 2 ≤ sizeLine; omega, fun tq ntq => ?_⟩
            have s5 := same_new ntq (.tup [V.ref bk, V.int (((cs mk).length : Int) + 1)])
            have htq : (upd H4 tq (.tup [V.ref bk, V.int (((cs mk).length : Int) + 1)])) tq = some (.tup [V.ref bk, V.int (((cs mk).length : Int) + 1)]) := upd_same
            have W5 := W4.same s5
            have L25 := L24.mono (fun o h => s5 _ _ h) (TupK.of s5)
            have hT5 := s5 _ _ hT4
            obtain ⟨bk', eb, nk5⟩ := (tv4.same s5).nk
            cases eb
            clear W4 L24 hT4 hbm4 tv4
            generalize upd H4 tq (.tup [V.ref bk, V.int (((cs mk).length : Int) + 1)]) = H5 at *
            obtain ⟨kca, Nca, vca, lca⟩ := W5.fca
            have nkq : NK H5 (.ref tq) (kQ (mk, ((cs mk).length : Int) + 1)) := .tup htq (.cons nk5 (.cons (.int _) .nil))
            walk_at "rds"
            refine ⟨e, tq, kca, kQ (mk, ((cs mk).length : Int) + 1), rfl, rfl, Nca, nkq, kQ_depth _, ?_⟩
            have W6 := W5.put (n := ((os k).log.length : Int)) (by omega) nkq Nca vca lca
            generalize hh6 : upd H5 e _ = H6
            have W6 : LW w CO l pr d e sl bg ms ls (nq.map V.int) (.ref bm) H6 ps (upA as k a1) (upF os k ((os k).cast z).1) (csA cs mk z) (caA ca (mk, ((cs mk).length : Int) + 1) ((os k).log.length : Int)) (bag.map ePk) (t + 1) := by subst hh6; exact W6
            have tk6 : TupK H5 H6 := by subst hh6; exact tupK_upd fun xs y => by rw [Nca.ob] at y; cases y
            have L26 : LstAt H6 l2 (((os k).cast z).2.2.2.map ePk) := L25.mono (fun o h => by subst hh6; rw [upd_ne l2e]; exact h) tk6
            have hT6 := tk6 _ _ hT5
            clear W5 Nca vca nkq nk5 hT5 L25 htq hh6
            refine ⟨_, rfl, ?_⟩
            refine ⟨_, rfl, ?_⟩
            refine ⟨_, _, _, _, rfl, rfl, SqT.of (by assumption), rfl, ?_⟩
            refine ⟨bg, l2, _, _, rfl, W6.fbg, L26, Ne.symm l2b, by rw [List.length_map, List.length_map]; omega, fun H7 hb7 F7 => ?_⟩
            rw [← List.map_append] at hb7
            exact ⟨_, _, _, _, x17, upA as k a1, upF os k ((os k).cast z).1, csA cs mk z, _, _, t + 1, rfl, (W6.post F7 hb7).lv I7 pk8 B7 h8' ok', by omega, by rw [List.length_append]; omega⟩
          · walk_at "rds"
            refine iB (fun h2 => ?_) (fun h2 => ?_)
            · walk_at "rds"
              refine ⟨l, .ref bm, ps, as, os, ms, (7, fd0), cs, ca, t, rfl, VV.O, VV.I, VV.tm, VV.bd, by omega, by omega, fun H' as' os' O' I' el bd' td F' => ?_⟩
              exact ⟨x13, x14, x15, x16, x17, as', os', cs, ca, bag, t + 12, rfl, VV.ords F' O' I' (fun p hp => by rw [el]; exact VV.pk p hp) bd' (by omega), by omega, by omega⟩
            · walk_at "rds"
              refine iB (fun h3 => ?_) (fun h3 => ?_)
              · walk_at "rds"
                refine ⟨l, _, _, .ref (ps k), rfl, rfl, SqL.of VV.O.ls, (by rw [ek]; exact VV.O.item hk), ?_⟩
                have hpl := VV.I.pl hk
                have hp8 := VV.h8 _ (by rw [emk]; exact hmks : (os k).me ∈ ms)
                have hmm : (os k).mems.length ≤ 12 := by rw [(VV.I.oi k hk).mems]; omega
                refine ⟨ps k, (as k).dx, _, rfl, OA.ob, rfl, ps k, as k, os k, rfl, OA, by omega, by omega, by omega, fun m => ⟨(VV.I.t0 k hk m).1, by have := (VV.I.t0 k hk m).2; omega⟩, fun r H1 s1 nr lr => ?_⟩
                have V1 := VV.same s1
                have al := again_len (os k) (by omega)
                walk_at "rds"
                refine ⟨bg, r, _, _, rfl, V1.fbg, lr, (fun z => by
                  obtain ⟨ub, hub, _⟩ := VV.fbg
                  rw [z, nr] at hub; cases hub), by rw [List.length_map, List.length_map]; omega, fun H2 hb2 F2 => ?_⟩
                rw [← List.map_append] at hb2
                refine ⟨x13, x14, x15, x16, x17, as, os, cs, ca, _, t, rfl, V1.bagS F2 hb2 (fun p hp => ?_), by omega, by rw [List.length_append]; omega⟩
                rcases List.mem_append.mp hp with hp | hp
                · exact VV.pk p hp
                · exact VV.I.again hk p hp
              · walk_at "rds"
                obtain ⟨ub, hub, tub⟩ := VV.fbg
                have lub := tub.length
                rw [List.length_map] at lub
                refine ⟨bg, _, rfl, .inl (SqL.of hub), ?_⟩
                refine ⟨_, _, rfl, rfl, ?_⟩
                refine ⟨_, rfl, ?_⟩
                refine iB (fun h4 => ?_) (fun h4 => ?_)
                · have h4 : 0 < ub.length := by
                    have := of_decide_eq_true h4
                    omega
                  refine ⟨_, rfl, ?_⟩
                  refine ⟨.inl ⟨rfl, _, SqL.of hub⟩, ?_⟩
                  refine ⟨_, rfl, ?_⟩
                  refine ⟨_, _, rfl, rfl, (⟨by decide, by decide⟩ : CDiv _ _), ?_⟩
                  refine ⟨_, rfl, ?_⟩
                  refine ⟨bg, _, rfl, .inl (SqL.of hub), ?_⟩
                  refine ⟨_, _, rfl, rfl, ?_⟩
                  refine ⟨by omega, ?_⟩
                  have j0 : 0 ≤ cell / 8 % ((ub.length : Nat) : Int) := Int.emod_nonneg _ (by omega)
                  have j1 : cell / 8 % ((ub.length : Nat) : Int) < ((ub.length : Nat) : Int) := Int.emod_lt_of_pos _ (by omega)
                  obtain ⟨jj, ej, hjj⟩ : ∃ jj : Nat, cell / 8 % ((ub.length : Nat) : Int) = (jj : Int) ∧ jj < ub.length := ⟨(cell / 8 % ((ub.length : Nat) : Int)).toNat, by omega, by omega⟩
                  obtain ⟨vl, hvl⟩ : ∃ vl, ub[jj]? = some vl := ⟨_, List.getElem?_eq_getElem hjj⟩
                  obtain ⟨pd, hpd, tvl⟩ := tub.at hvl
                  rw [List.getElem?_map] at hpd
                  obtain ⟨pp, hpp, rfl⟩ := Option.map_eq_some_iff.mp hpd
                  walk_at "rds"
                  refine ⟨bg, ub, _, jj, vl, rfl, rfl, hub, by omega, by omega, (by rw [ej]; exact seq_at hjj), hvl, ?_⟩
                  have V2 := VV.pop hub tub jj
                  have FB : Fr [bg] [bg] HT (upd HT bg (.lst (ub.eraseIdx jj))) := fr_upd (by simp) hub (fun _ z => by cases z)
                  have tvl2 := tvl.mono FB.t
                  have pok := VV.pk pp (List.mem_of_getElem? hpp)
                  have lle := List.length_eraseIdx_le bag jj
                  clear hub tub FB tvl
                  generalize upd HT bg (.lst (ub.eraseIdx jj)) = H2 at *
                  generalize bag.eraseIdx jj = bag2 at *
                  obtain ⟨u2, hu2, tu2⟩ := V2.fbg
                  have lu2 := tu2.length
                  rw [List.length_map] at lu2
                  refine ⟨_, rfl, ?_⟩
                  refine ⟨rfl, ?_⟩
                  refine ⟨_, rfl, ?_⟩
                  refine iB (fun q4 => ?_) (fun q4 => ?_)
                  · walk_at "rds"
                    refine ⟨l, pr, bg, vl, ps, as, os, ms, (7, fd0), cs, ca, bag2.map ePk, pp, t, rfl, V2.O, V2.I, V2.fpr, V2.fbg, (fun z => V2.sB (.inl z)), (fun z => V2.sB (.inr (.inl z))), V2.sO, tvl2, pok, V2.bd, by omega, by omega, (fun m hm => by have := V2.h8 m hm; omega), by rw [List.length_map]; omega, fun H3 as3 O3 hb3 F3 nb3 => ?_⟩
                    obtain ⟨I3, pre3⟩ := V2.I.hand pok
                    have hk3 := (POk.at V2.I pok).1
                    have tl3 := (take_len (os (atP ms pp.1)) pp.2).2
                    have mm3 : (os (atP ms pp.1)).mems.length ≤ 12 := by rw [(V2.I.oi _ hk3).mems]; omega
                    rw [← List.map_append] at hb3
                    have V3 := V2.act F3 O3 I3 hb3 (fun p hp => by
                      rcases List.mem_append.mp hp with hp | hp
                      · exact (V2.pk p hp).more (CsLe.refl _) (pre3 0)
                      · exact (V2.I.take hk3 pok.2).2.1 p hp) (V2.bd.hand pp) (by omega) nb3
                    have tvl3 := tvl2.mono F3.t
                    have pok3 := pok.more (CsLe.refl _) (pre3 0)
                    have lb3 : (bag2 ++ ((os (atP ms pp.1)).take pp.2).2.2).length ≤ 100 := by rw [List.length_append]; omega
                    clear hu2 tu2 lu2 tl3 mm3 hb3 F3 O3 nb3
                    generalize bag2 ++ ((os (atP ms pp.1)).take pp.2).2.2 = bag3 at *
                    obtain ⟨u3, hu3, tu3⟩ := V3.fbg
                    have lu3 := tu3.length
                    rw [List.length_map] at lu3
                    refine ⟨_, rfl, ?_⟩
                    refine ⟨rfl, ?_⟩
                    refine ⟨_, rfl, ?_⟩
                    refine iB (fun q5 => ?_) (fun q5 => ?_)
                    · walk_at "rds"
                      refine ⟨.inl ⟨rfl, _, SqL.of hu3⟩, ?_⟩
                      refine ⟨_, rfl, ?_⟩
                      refine ⟨bg, _, _, rfl, rfl, hu3, by omega, ?_⟩
                      exact ⟨x13, x14, x15, x16, _, as3, _, cs, ca, _, (t + 1), rfl, V3.push hu3 tu3 tvl3 pok3, by omega, by rw [List.length_append, List.length_singleton]; omega⟩
                    · walk_at "rds"
                      refine iB (fun q6 => ?_) (fun q6 => ?_)
                      · walk_at "rds"
                        refine iB (fun q7 => ?_) (fun q7 => ?_)
                        · walk_at "rds"
                          refine ⟨.inl ⟨rfl, _, SqL.of hu3⟩, ?_⟩
                          refine ⟨_, rfl, ?_⟩
                          refine ⟨bg, _, _, rfl, rfl, hu3, by omega, ?_⟩
                          exact ⟨x13, x14, x15, x16, _, as3, _, cs, ca, _, (t + 1), rfl, V3.push hu3 tu3 tvl3 pok3, by omega, by rw [List.length_append, List.length_singleton]; omega⟩
                        · exact ⟨x13, x14, x15, x16, _, as3, _, cs, ca, _, (t + 1), rfl, V3, by omega, by omega⟩
                      · exact ⟨x13, x14, x15, x16, _, as3, _, cs, ca, _, (t + 1), rfl, V3, by omega, by omega⟩
                  · walk_at "rds"
                    refine iB (fun q5 => ?_) (fun q5 => ?_)
                    · walk_at "rds"
                      refine ⟨.inl ⟨rfl, _, SqL.of hu2⟩, ?_⟩
                      refine ⟨_, rfl, ?_⟩
                      refine ⟨bg, _, _, rfl, rfl, hu2, by omega, ?_⟩
                      exact ⟨x13, x14, x15, x16, _, as, _, cs, ca, _, t, rfl, V2.push hu2 tu2 tvl2 pok, by omega, by rw [List.length_append, List.length_singleton]; omega⟩
                    · walk_at "rds"
                      refine iB (fun q6 => ?_) (fun q6 => ?_)
                      · walk_at "rds"
                        refine iB (fun q7 => ?_) (fun q7 => ?_)
                        · walk_at "rds"
                          refine ⟨.inl ⟨rfl, _, SqL.of hu2⟩, ?_⟩
                          refine ⟨_, rfl, ?_⟩
                          refine ⟨bg, _, _, rfl, rfl, hu2, by omega, ?_⟩
                          exact ⟨x13, x14, x15, x16, _, as, _, cs, ca, _, t, rfl, V2.push hu2 tu2 tvl2 pok, by omega, by rw [List.length_append, List.length_singleton]; omega⟩
                        · exact ⟨x13, x14, x15, x16, _, as, _, cs, ca, _, t, rfl, V2, by omega, by omega⟩
                      · exact ⟨x13, x14, x15, x16, _, as, _, cs, ca, _, t, rfl, V2, by omega, by omega⟩
                · exact ⟨x13, x14, x15, x16, x17, as, os, cs, ca, bag, t, rfl, VV, by omega, by omega⟩
        · rintro _ _ ⟨x13, x14, x15, x16, x17, as, os, cs, ca, bag, t, rfl, VV, ht, hbl⟩
          refine ⟨fun σ' H' => ∃ (bg : Addr) (bag : List Pkt), σ' = [some (.ref sc), some (.int first), some (.int (n : Nat)), some (.ref bm), some (.ref pr), some (.ref l), some (.ref d), x7, some (.ref e), some (.ref bg), some (.int cell), some (.int (nn % 8)), some (.int (cell % ((us'.length : Nat) : Int))), x13, x14, x15, x16, x17, x18, none, none, none] ∧
            LV w CO l pr d e sl bg ms (7, fd0) ls (nq.map V.int) (.ref bm) H' ps as os cs ca bag t ∧ bag.length ≤ 60, ?_, ?_⟩
          · walk_at "rds"
            obtain ⟨ub, hub, tub⟩ := VV.fbg
            have lub := tub.length
            rw [List.length_map] at lub
            refine ⟨bg, _, rfl, .inl (SqL.of hub), ?_⟩
            refine ⟨_, _, rfl, rfl, ?_⟩
            refine ⟨_, rfl, ?_⟩
            refine iB (fun h6 => ?_) (fun h6 => ?_)
            · walk_at "rds"
              have h6 : 60 < bag.length := by
                have := of_decide_eq_true h6
                omega
              refine ⟨bg, ub, rfl, SqL.of hub, fun b2 nb2 => ?_⟩
              obtain ⟨z2, ez, sz, lz⟩ := cut60 h6
              have s2 := same_new nb2 (.lst (cutV ub (some (-60)) none))
              refine ⟨b2, z2, rfl, VV.newBag nb2 s2 ⟨_, upd_same, by rw [← ez]; exact (tub.cut _ _).same s2⟩ fun p hp => VV.pk p (sz p hp), lz⟩
            · have h6 := of_decide_eq_false h6
              exact ⟨bg, bag, rfl, VV, by omega⟩
          · rintro _ _ ⟨bg, bag, rfl, VV, hbl⟩
            refine ⟨_, rfl, ?_⟩
            refine ⟨_, rfl, ?_⟩
            refine ⟨⟨_, SqL.of VV.O.ls⟩, for_list (xs := (List.range ms.length).map fun k => V.ref (ps k)) (fun j σ' H' => ∃ x18 : Option V, σ' = [some (.ref sc), some (.int first), some (.int (n : Nat)), some (.ref bm), some (.ref pr), some (.ref l), some (.ref d), x7, some (.ref e), some (.ref bg), some (.int cell), some (.int (nn % 8)), some (.int (cell % ((us'.length : Nat) : Int))), x13, x14, x15, x16, x17, x18, none, none, none] ∧
              LV w CO l pr d e sl bg ms (7, fd0) ls (nq.map V.int) (.ref bm) H' ps as os cs ca bag t) ?_ ?_ ?_ ?_⟩
            · exact ⟨_, rfl, VV⟩
            · rintro j σ' H' _ ⟨_, _, VV⟩
              exact SqL.of VV.O.ls
            · clear VV
              rintro j y σ' H' hj ⟨x18, rfl, VV⟩
              have hj2 : j < ms.length := by
                have := (List.getElem?_eq_some_iff.mp hj).1
                rwa [List.length_map, List.length_range] at this
              rw [List.getElem?_map, List.getElem?_range hj2] at hj
              cases hj
              have OA := VV.O.at_ j hj2
              have bdj := VV.bd j hj2
              refine ⟨_, rfl, ?_⟩
              refine ⟨ps j, (as j).dx, _, rfl, OA.ob, rfl, ps j, as j, os j, rfl, OA, by omega, fun r H1 s1 tr => ?_⟩
              have V1 := VV.same s1
              refine ⟨_, rfl, ?_⟩
              refine ⟨_, rfl, ?_⟩
              refine ⟨_, rfl, ?_⟩
              refine ⟨.ref r, .ref bm, d, e, ms, ls, cs, ca, (os j).log, t, rfl, tr, V1.tm, V1.fcs, V1.fca, V1.I.wf.pre (V1.I.pre hj2), fun m hm => by have := V1.h8 m hm; omega, by omega, fun H2 s2 => ?_⟩
              refine ⟨_, rfl, ?_⟩
              refine ⟨_, rfl, ?_⟩
              exact V1.same s2
            · clear VV
              rintro σ' H' ⟨x18, rfl, VV⟩
              have bd0 := VV.bd 0 n0
              refine ⟨_, rfl, ?_⟩
              refine ⟨l, ms.length, ps, as, os, (os 0).log, rfl, VV.O, fun k hk => VV.I.pre hk, VV.smG, by omega, by omega, fun H2 s2 => ?_⟩
              refine ⟨_, rfl, ?_⟩
              refine iteF ?_
              exact ⟨x7, _, _, _, _, _, _, _, _, _, bg, as, os, cs, ca, bag, t, rfl, VV.same s2, ht, hbl⟩
      · clear L0
        rintro σ H14 ⟨x7, x10, x11, x12, x13, x14, x15, x16, x17, x18, bg, as, os, cs, ca, bag, t, rfl, VV, ht, hbg60⟩
        rw [List.length_map] at ht
        refine ⟨_, rfl, ?_⟩
        refine ⟨by decide, by decide, for_range (lo := 0) (n := (7 : Int).toNat) (fun r σ' H' => ∃ (x7 x10 x11 x12 x13 x14 x15 x16 x17 x18 x19 : Option V) (bg : Addr) (as : Nat → OA) (os : Nat → OS) (bag : List Pkt) (t : Nat), σ' = [some (.ref sc), some (.int first), some (.int (n : Nat)), some (.ref bm), some (.ref pr), some (.ref l), some (.ref d), x7, some (.ref e), some (.ref bg), x10, x11, x12, x13, x14, x15, x16, x17, x18, x19, none, none] ∧
          LV w CO l pr d e sl bg ms (7, fd0) ls (nq.map V.int) (.ref bm) H' ps as os cs ca bag t ∧ FP ms (7, fd0) os cs ca r ∧ t ≤ 756 + r * 2600) ?_ ?_ ?_⟩
        · exact ⟨_, _, _, _, _, _, _, _, _, _, _, _, _, _, _, _, rfl, VV, ⟨VV.I, fun h => by omega, fun k m k0 hm => by show min _ (16 * 0) ≤ _; omega⟩, by omega⟩
        · clear VV
          rintro r σ' HT hr ⟨x7, x10, x11, x12, x13, x14, x15, x16, x17, x18, x19, bg, as, os, bag, t, rfl, VV, fp, ht⟩
          have hr : r < 7 := hr
          have n0 := VV.I.n0
          refine ⟨_, rfl, ?_⟩
          refine ⟨_, rfl, ?_⟩
          refine ⟨l, .ref bm, ps, as, os, ms, (7, fd0), cs, ca, t, rfl, VV.O, VV.I, VV.tm, VV.bd, by omega, by omega, fun H1 as1 os1 O1 I1 el bd1 td F1 => ?_⟩
          have V1 := VV.ords F1 O1 I1 (fun p hp => by rw [el]; exact VV.pk p hp) bd1 (by omega)
          walk_at "rds"
          refine ⟨by show 0 ≤ sizeLine; omega, fun b2 nb2 => ?_⟩
          have V2 := V1.newBag (bag' := []) nb2 (same_new nb2 (.lst [])) ⟨[], upd_same, .nil⟩ (fun p hp => by cases hp)
          clear O1 F1 VV V1
          generalize upd H1 b2 (.lst []) = H2 at *
          refine ⟨_, rfl, ?_⟩
          refine ⟨_, rfl, ?_⟩
          refine ⟨⟨_, SqL.of V2.O.ls⟩, for_list (xs := (List.range ms.length).map fun k => V.ref (ps k)) (fun j σ' H' => ∃ x18 : Option V, σ' = [some (.ref sc), some (.int first), some (.int (n : Nat)), some (.ref bm), some (.ref pr), some (.ref l), some (.ref d), x7, some (.ref e), some (.ref b2), x10, x11, x12, x13, x14, x15, x16, x17, x18, some (.int (0 + (r : Int))), none, none] ∧
            LV w CO l pr d e sl b2 ms (7, fd0) ls (nq.map V.int) (.ref bm) H' ps as1 os1 cs ca (bagN os1 j) (t + 12) ∧ j ≤ ms.length) ?_ ?_ ?_ ?_⟩
          · exact ⟨_, rfl, V2, by omega⟩
          · rintro j σ' H' _ ⟨_, _, V2, _⟩
            exact SqL.of V2.O.ls
          · clear V2
            rintro j y σ' H' hj ⟨x18, rfl, V2, hjm⟩
            have hj2 : j < ms.length := by
              have := (List.getElem?_eq_some_iff.mp hj).1
              rwa [List.length_map, List.length_range] at this
            rw [List.getElem?_map, List.getElem?_range hj2] at hj
            cases hj
            have OA := V2.O.at_ j hj2
            have bdj := V2.bd j hj2
            have bd0 := V2.bd 0 n0
            have hmej : (os1 j).me ∈ ms := List.mem_of_getElem? (V2.I.oi j hj2).me
            have hpl := V2.I.pl hj2
            have hp8 := V2.h8 _ hmej
            have hmm : (os1 j).mems.length ≤ 12 := by rw [(V2.I.oi j hj2).mems]; omega
            refine ⟨_, rfl, ?_⟩
            refine ⟨_, rfl, ?_⟩
            refine ⟨ps j, (as1 j).dx, _, rfl, OA.ob, rfl, ps j, as1 j, os1 j, rfl, OA, by omega, by omega, by omega, fun m => ⟨(V2.I.t0 j hj2 m).1, by have := (V2.I.t0 j hj2 m).2; omega⟩, fun q H3 s3 nq3 lq => ?_⟩
            have V3 := V2.same s3
            have al := again_len2 (os1 j)
            have bl := V2.I.bag_len hjm
            have bl2 : j * (16 * ms.length + 16) ≤ 12 * (16 * 12 + 16) := Nat.mul_le_mul (by omega) (by omega)
            walk_at "rds"
            refine ⟨b2, q, _, _, rfl, V3.fbg, lq, (fun z => by
              obtain ⟨ub, hub, _⟩ := V2.fbg
              rw [z, nq3] at hub; cases hub), by rw [List.length_map, List.length_map]; omega, fun H4 hb4 F4 => ?_⟩
            rw [← List.map_append] at hb4
            exact ⟨_, rfl, V3.bagS F4 hb4 (V2.I.bag (n := j + 1) hj2), hj2⟩
          · clear V2
            rintro σ' H3 ⟨x18, rfl, V3, _⟩
            rw [List.length_map, List.length_range] at V3
            have bl := V3.I.bag_len (Nat.le_refl ms.length)
            have bl2 : ms.length * (16 * ms.length + 16) ≤ 12 * (16 * 12 + 16) := Nat.mul_le_mul (by omega) (by omega)
            obtain ⟨ub, hub, tub⟩ := V3.fbg
            have lub := tub.length
            rw [List.length_map] at lub
            refine ⟨_, rfl, ?_⟩
            refine ⟨_, rfl, ?_⟩
            refine ⟨⟨_, SqL.of hub⟩, for_list (xs := ub) (fun i σ' H' => ∃ (x17 : Option V) (as2 : Nat → OA), σ' = [some (.ref sc), some (.int first), some (.int (n : Nat)), some (.ref bm), some (.ref pr), some (.ref l), some (.ref d), x7, some (.ref e), some (.ref b2), x10, x11, x12, x13, x14, x15, x16, x17, x18, some (.int (0 + (r : Int))), none, none] ∧
              H' b2 = some (.lst ub) ∧ TupK H3 H' ∧ LV w CO l pr d e sl b2 ms (7, fd0) ls (nq.map V.int) (.ref bm) H' ps as2 (runL ms os1 ((bagN os1 ms.length).take i)) cs ca (bagN os1 ms.length) (t + 12 + i)) ?_ ?_ ?_ ?_⟩
            · exact ⟨_, as1, rfl, hub, TupK.refl _, V3⟩
            · rintro i σ' H' _ ⟨_, _, _, hub', _⟩
              exact SqL.of hub'
            · rintro i y σ' H' hi ⟨x17, as2, rfl, hub', tk, VI⟩
              obtain ⟨pd, hpd, tvl⟩ := (tub.mono tk).at hi
              rw [List.getElem?_map] at hpd
              obtain ⟨pp, hpp, rfl⟩ := Option.map_eq_some_iff.mp hpd
              have hi2 := (List.getElem?_eq_some_iff.mp hi).1
              have pok := VI.pk pp (List.mem_of_getElem? hpp)
              refine ⟨_, rfl, ?_⟩
              refine ⟨_, rfl, ?_⟩
              refine ⟨by show 0 ≤ sizeLine; omega, fun nb hnb => ?_⟩
              have s1 := same_new hnb (.lst [])
              have VJ := VI.same s1
              have hnbl : LstAt (upd H' nb (.lst [])) nb [] := ⟨[], upd_same, .nil⟩
              have nbo : ¬ OFp ms.length ps as2 nb := fun z => by
                obtain ⟨o, x, _⟩ := VI.O.taken z
                rw [hnb] at x; cases x
              have tvl2 := tvl.same s1
              generalize upd H' nb (.lst []) = H4 at *
              refine ⟨_, rfl, ?_⟩
              refine ⟨l, pr, nb, y, ps, as2, _, ms, (7, fd0), cs, ca, [], pp, t + 12 + i, rfl, VJ.O, VJ.I, VJ.fpr, hnbl, (fun z => by have := VI.O.ls; rw [← z, hnb] at this; cases this), (fun z => by have := VI.fpr; rw [← z, hnb] at this; cases this), nbo, tvl2, pok, VJ.bd, by omega, by omega, (fun m hm => by have := VJ.h8 m hm; omega), Nat.zero_le _, fun H5 as5 O5 _ F5 _ => ?_⟩
              have F6 := FO.fresh s1 hnb F5
              obtain ⟨I5, pre5⟩ := VI.I.hand pok
              have V5 := VI.ords F6 O5 I5 (fun p hp => (VI.pk p hp).more (CsLe.refl _) (pre5 0)) (VI.bd.hand pp) (Nat.le_succ _)
              have et : (bagN os1 ms.length).take (i + 1) = (bagN os1 ms.length).take i ++ [pp] := by rw [List.take_succ, hpp]; rfl
              refine ⟨_, as5, rfl, F6.k _ _ hub' VI.sO, tk.trans F6.t, ?_⟩
              rw [et, runL_snoc]
              exact V5
            · rintro σ' H5 ⟨x17, as2, rfl, hub', tk, VI⟩
              have et : (bagN os1 ms.length).take ub.length = bagN os1 ms.length := by rw [lub, List.take_length]
              rw [et] at VI
              exact ⟨x7, x10, x11, x12, x13, x14, x15, x16, x17, x18, _, b2, as2, _, _, _, rfl, VI, fp.step VI.h8 I1 el td, by omega⟩
        · clear VV
          rintro σ' H3 ⟨x7, x10, x11, x12, x13, x14, x15, x16, x17, x18, x19, bg, as, os, bag, t, rfl, VV, fp, ht⟩
          have fp : FP ms (7, fd0) os cs ca 7 := fp
          have ht : t ≤ 756 + 7 * 2600 := ht
          obtain ⟨bm', us', em', hbmT, lxT, tusT⟩ := TD.tupI VV.tm
          cases em'
          have luT := tusT.length
          rw [List.length_map] at luT
          have n0 := VV.I.n0
          refine ⟨_, rfl, ?_⟩
          refine ⟨_, rfl, ?_⟩
          refine ⟨⟨_, SqT.of hbmT⟩, fun ll nll => ?_⟩
          refine lc_tup (K := K) (a := bm) (xs := us') (fun i H' => H' ll = some (.lst ((ms.take i).map fun m => V.int ((cs m).length : Nat))) ∧ Same H3 H') ?_ ?_ ?_ ?_
          · exact ⟨upd_same, same_new nll _⟩
          · rintro i H' _ ⟨_, s3⟩
            exact SqT.of (s3 _ _ hbmT)
          · rintro i x H' hi ⟨hp, s3⟩
            have hi2 := (List.getElem?_eq_some_iff.mp hi).1
            obtain ⟨dd, hd, td⟩ := (tusT.same s3).at hi
            rw [List.getElem?_map] at hd
            obtain ⟨m, hm, rfl⟩ := Option.map_eq_some_iff.mp hd
            have hms := List.mem_of_getElem? hm
            have VI := VV.same s3
            obtain ⟨bk, rfl, nkk⟩ := td.nk
            obtain ⟨kc, Nc, vc, lc⟩ := VI.fcs.nd
            obtain ⟨uc, huc, tuc⟩ := VI.fcs.at_ m hms
            have luc := tuc.length
            rw [List.length_map] at luc
            refine ⟨rfl, ?_⟩
            refine ⟨_, rfl, ?_⟩
            refine ⟨_, rfl, ?_⟩
            refine ⟨d, bk, .ref (ls m), rfl, rfl, ⟨kc, kM m, Nc, nkk, kM_depth _, (vc _ hms).symm⟩, ?_⟩
            refine ⟨ls m, uc, rfl, .inl (SqL.of huc), ?_⟩
            rw [luc]
            refine ⟨_, hp, by rw [List.length_map, List.length_take]; omega, ?_, fun b o h => by rw [upd_ne (ne_of_none h nll)]; exact s3 _ _ h⟩
            rw [upd_same, List.take_succ, hm, List.map_append]; rfl
          · rintro H4 ⟨hll, s4⟩
            rw [luT, List.take_length] at hll
            have V4 := VV.same s4
            walk_at "rds"
            refine ⟨ll, ms.map fun m => ((cs m).length : Int), rfl, SqL.of (by rw [List.map_map]; exact hll), ?_⟩
            obtain ⟨S, eS⟩ : ∃ S : Int, S = (ms.map fun m => ((cs m).length : Int)).sum := ⟨_, rfl⟩
            rw [← eS]
            have h12 : ms.length ≤ 12 := by omega
            have fin : ∀ k, k < ms.length → ((os k).log.length : Int) = S := fun k hk => by
              rw [eS, ← sum_cast, fp.fin V4.h8 h12 k hk]
            have l96 : ∀ k, k < ms.length → (os k).log.length ≤ 96 := fun k hk => by
              rw [fp.fin V4.h8 h12 k hk]
              have := sum_le8 ms (fun m => (cs m).length) V4.h8
              omega
            have l96_0 := l96 0 n0
            clear hll eS s4 hbmT tusT VV
            refine ⟨_, rfl, ?_⟩
            refine ⟨_, rfl, ?_⟩
            refine ⟨⟨_, SqL.of V4.O.ls⟩, for_list (xs := (List.range ms.length).map fun k => V.ref (ps k)) (fun j σ' H' => ∃ x18 : Option V, σ' = [some (.ref sc), some (.int first), some (.int (n : Nat)), some (.ref bm), some (.ref pr), some (.ref l), some (.ref d), x7, some (.ref e), some (.ref bg), x10, x11, x12, x13, x14, x15, x16, x17, x18, x19, some (.int S), none] ∧
              LV w CO l pr d e sl bg ms (7, fd0) ls (nq.map V.int) (.ref bm) H' ps as os cs ca bag t) ?_ ?_ ?_ ?_⟩
            · exact ⟨_, rfl, V4⟩
            · rintro j σ' H' _ ⟨_, _, VV⟩
              exact SqL.of VV.O.ls
            · clear V4
              rintro j y σ' H' hj ⟨x18, rfl, VV⟩
              have hj2 : j < ms.length := by
                have := (List.getElem?_eq_some_iff.mp hj).1
                rwa [List.length_map, List.length_range] at this
              rw [List.getElem?_map, List.getElem?_range hj2] at hj
              cases hj
              have OA := VV.O.at_ j hj2
              have bdj := VV.bd j hj2
              have l96_j := l96 j hj2
              refine ⟨_, rfl, ?_⟩
              refine ⟨ps j, (as j).dx, _, rfl, OA.ob, rfl, ps j, as j, os j, rfl, OA, by omega, fun r H1 s1 tr => ?_⟩
              have V1 := VV.same s1
              refine ⟨_, rfl, ?_⟩
              refine ⟨_, rfl, ?_⟩
              refine ⟨_, rfl, ?_⟩
              refine ⟨.ref r, .ref bm, d, e, ms, ls, cs, ca, (os j).log, t, rfl, tr, V1.tm, V1.fcs, V1.fca, V1.I.wf.pre (V1.I.pre hj2), fun m hm => by have := V1.h8 m hm; omega, by omega, fun H2 s2 => ?_⟩
              have V2 := V1.same s2
              have OA2 := V2.O.at_ j hj2
              refine ⟨_, rfl, ?_⟩
              refine ⟨_, rfl, ?_⟩
              refine ⟨ps j, (as j).dx, _, rfl, OA2.ob, rfl, ps j, as j, os j, rfl, OA2, by omega, fun r2 H3 s3 tr3 => ?_⟩
              obtain ⟨r', zs, er, hr', lzs, tzs⟩ := tr3.tupI
              cases er
              have lz := tzs.length
              rw [List.length_map] at lz
              refine ⟨r2, _, rfl, .inr (SqT.of hr'), ?_⟩
              rw [lz, fin j hj2]
              refine ⟨_, rfl, ?_⟩
              refine ⟨rfl, ?_⟩
              refine ⟨_, rfl, ?_⟩
              refine iB (fun h => ?_) (fun h => ?_)
              · simp at h
              · exact ⟨_, rfl, V2.same s3⟩
            · clear V4
              rintro σ' H' ⟨x18, rfl, VV⟩
              have bd0 := VV.bd 0 n0
              refine ⟨_, rfl, ?_⟩
              refine ⟨l, ms.length, ps, as, os, (os 0).log, rfl, VV.O, fun k hk => VV.I.pre hk, VV.smG, by omega, by omega, fun H2 s2 => ?_⟩
              exact q _
end
end Mus

set_option maxRecDepth 100000
set_option maxHeartbeats 4000000
namespace Mus
open PySem L2
def at_mk {K : PySem.W.Frag} {h : Heap} {mg : Str → Option Value} {x : Str} {ps : List Str} {st : Stmt} {f : Addr} {oc : Value} {od an : Option Addr} {osl : Array (Option Value)} {kV dc pm cd ct : Value} (X : K.In h) (G : h.Ns mainGlobals mg) (a : PySem.W.nsIn K mainGlobals x = some (some (.ref f)))
    (l : K.lookup f = some ⟨oc, od, .func (PySem.W.fnOf x x (defArgs st) (defBody st) (defScope st) .none kV dc pm an cd ct), osl⟩) (c : PySem.W.codeIn K cd x = true) (k : PySem.W.keepIn K (.ref f) = true)
    (hb : ∀ (kV doc pm : Value) (an : Option Addr) (cdv ct : Value) (us : List Value), us.length = ps.length → bindArgs (PySem.W.fnOf x x (defArgs st) (defBody st) (defScope st) .none kV doc pm an cdv ct) ⟨us, []⟩ = pure (ps.zip us)) : DefAt K mg x ps st :=
  ⟨f, _, fun_mk (st := st) l c k, PySem.W.mg_of X G a, (fun_mk (st := st) l c k).binds hb⟩
def meth_mk {K : PySem.W.Frag} {C : Addr} {x qual : Str} {ps : List Str} {st : Stmt} {f : Addr} {oc : Value} {od an : Option Addr} {osl : Array (Option Value)} {kV dc pm cd ct : Value} (a : PySem.W.findIn K (.ref C) x = some (some (.ref f))) (i : PySem.W.isFn K (.ref f) = true)
    (l : K.lookup f = some ⟨oc, od, .func (PySem.W.fnOf x qual (defArgs st) (defBody st) (defScope st) .none kV dc pm an cd ct), osl⟩) (c : PySem.W.codeIn K cd qual = true) (k : PySem.W.keepIn K (.ref f) = true)
    (hb : ∀ (kV doc pm : Value) (an : Option Addr) (cdv ct : Value) (us : List Value), us.length = ps.length → bindArgs (PySem.W.fnOf x qual (defArgs st) (defBody st) (defScope st) .none kV doc pm an cdv ct) ⟨us, []⟩ = pure (ps.zip us)) : MethAt K C x qual ps st :=
  ⟨f, _, fun_mk (st := st) l c k, ⟨a, i, k⟩, (fun_mk (st := st) l c k).binds hb⟩
theorem walk_ofX {l : PySem.W.OpenLaw} {n k : Nat} {q : Program} {loose : List Str} {XP : (Str → Option Value) → Heap → Prop} {YP : World → Heap → Prop} {d : DefRec} {K : Params → PySem.W.Frag} {sp : World → Sp} {x : Str}
    (most : l.most = some n) (few : n ≤ sizeLine) (nod : d.params.defaults = []) (room : Room k callerA) (kin : ∀ (w : World) (h : Heap), YP w h → (K w.params).In h)
    (F : ∀ (w : World) (mg : Str → Option Value) (at1 : Addr) (h : Heap), (K w.params).In h → h.Ns mainGlobals mg → XP mg h → mg d.name = some (.ref at1) →
      ∃ fd : FuncData, (∀ (s : Shared) (u : Value), BindsTo s fd ⟨[u], []⟩ [(x, u)]) ∧ ∀ base : Heap, (K w.params).In base → base.Ns mainGlobals mg → FnOk l.prog w (K w.params) mg base CX0 k at1 fd [x] (sp w))
    (hsp : ∀ (w : World) (H : Hp) (a : Addr) (ns : List Int), ns.length ≤ n → Only H → SqL (K w.params) H a (ns.map V.int) → sp w [.ref a] H (fun v _ => v = .bl true) fun _ _ _ => False) :
    PySem.W.WalkO q loose XP YP l.row.toRowW d [] (fun f vs => PySem.call f vs) := by
  refine Att.attach_call most nod fun w sb sc mg mB at1 o pm1 cd1 doc1 a vs ns G Y ho1 hd1 hc1 hm1 ob1 in1 ln1 hg1 => ?_
  have inK := kin w _ Y
  obtain ⟨fd, bnd, pr⟩ := F w mg at1 _ inK G.T.g G.X hm1
  exact law_call inK G.T.g G.T.b G.T.builtins G.T.nolimit hg1 ob1 in1 (Nat.le_trans ln1 few) room pr bnd (fun H hO hS => hsp w H a ns ln1 hO hS) fun H e s' z => z
theorem loose_int {n : Str} {i : Int} {mg : Str → Option Value} {h : Heap} (x : PySem.W.LooseAre [(n, PySem.W.WData.int i)] mg h) : ∃ t, mg n = some (.int i t) := by
  obtain ⟨v, h1, h2⟩ := x.val _ (List.mem_singleton.mpr rfl)
  cases h2
  exact ⟨_, h1⟩
theorem all_mk {l : PySem.W.OpenLaw} {w : World} {K : PySem.W.Frag} {h : Heap} {mg : Str → Option Value} {fa : Addr} (X : K.In h) (G : h.Ns mainGlobals mg) (hfa : mg "law" = some (.ref fa))
    {C_Order : Addr}
    {C_BadView : Addr}
    {odx_Order___init__ anx_Order___init__ : Option Addr} {slx_Order___init__ : Array (Option Value)} {ocx_Order___init__ kVx_Order___init__ dcx_Order___init__ pmx_Order___init__ cdx_Order___init__ ctx_Order___init__ : Value} {fx_Order___init__ : Addr}
    {odx_Order_cast anx_Order_cast : Option Addr} {slx_Order_cast : Array (Option Value)} {ocx_Order_cast kVx_Order_cast dcx_Order_cast pmx_Order_cast cdx_Order_cast ctx_Order_cast : Value} {fx_Order_cast : Addr}
    {odx_Order_take anx_Order_take : Option Addr} {slx_Order_take : Array (Option Value)} {ocx_Order_take kVx_Order_take dcx_Order_take pmx_Order_take cdx_Order_take ctx_Order_take : Value} {fx_Order_take : Addr}
    {odx_Order_heard anx_Order_heard : Option Addr} {slx_Order_heard : Array (Option Value)} {ocx_Order_heard kVx_Order_heard dcx_Order_heard pmx_Order_heard cdx_Order_heard ctx_Order_heard : Value} {fx_Order_heard : Addr}
    {odx_Order_again anx_Order_again : Option Addr} {slx_Order_again : Array (Option Value)} {ocx_Order_again kVx_Order_again dcx_Order_again pmx_Order_again cdx_Order_again ctx_Order_again : Value} {fx_Order_again : Addr}
    {odx_Order_log anx_Order_log : Option Addr} {slx_Order_log : Array (Option Value)} {ocx_Order_log kVx_Order_log dcx_Order_log pmx_Order_log cdx_Order_log ctx_Order_log : Value} {fx_Order_log : Addr}
    {odx_Order__take_cast anx_Order__take_cast : Option Addr} {slx_Order__take_cast : Array (Option Value)} {ocx_Order__take_cast kVx_Order__take_cast dcx_Order__take_cast pmx_Order__take_cast cdx_Order__take_cast ctx_Order__take_cast : Value} {fx_Order__take_cast : Addr}
    {odx_Order__decide anx_Order__decide : Option Addr} {slx_Order__decide : Array (Option Value)} {ocx_Order__decide kVx_Order__decide dcx_Order__decide pmx_Order__decide cdx_Order__decide ctx_Order__decide : Value} {fx_Order__decide : Addr}
    {odx_Order__take_order anx_Order__take_order : Option Addr} {slx_Order__take_order : Array (Option Value)} {ocx_Order__take_order kVx_Order__take_order dcx_Order__take_order pmx_Order__take_order cdx_Order__take_order ctx_Order__take_order : Value} {fx_Order__take_order : Addr}
    {odx_Order__deliver_kept anx_Order__deliver_kept : Option Addr} {slx_Order__deliver_kept : Array (Option Value)} {ocx_Order__deliver_kept kVx_Order__deliver_kept dcx_Order__deliver_kept pmx_Order__deliver_kept cdx_Order__deliver_kept ctx_Order__deliver_kept : Value} {fx_Order__deliver_kept : Addr}
    {odx_Order__deliver anx_Order__deliver : Option Addr} {slx_Order__deliver : Array (Option Value)} {ocx_Order__deliver kVx_Order__deliver dcx_Order__deliver pmx_Order__deliver cdx_Order__deliver ctx_Order__deliver : Value} {fx_Order__deliver : Addr}
    {odx_Order__others anx_Order__others : Option Addr} {slx_Order__others : Array (Option Value)} {ocx_Order__others kVx_Order__others dcx_Order__others pmx_Order__others cdx_Order__others ctx_Order__others : Value} {fx_Order__others : Addr}
    {odx_Order__letters_behind anx_Order__letters_behind : Option Addr} {slx_Order__letters_behind : Array (Option Value)} {ocx_Order__letters_behind kVx_Order__letters_behind dcx_Order__letters_behind pmx_Order__letters_behind cdx_Order__letters_behind ctx_Order__letters_behind : Value} {fx_Order__letters_behind : Addr}
    {odx_Order__cast_letter anx_Order__cast_letter : Option Addr} {slx_Order__cast_letter : Array (Option Value)} {ocx_Order__cast_letter kVx_Order__cast_letter dcx_Order__cast_letter pmx_Order__cast_letter cdx_Order__cast_letter ctx_Order__cast_letter : Value} {fx_Order__cast_letter : Addr}
    {odx_Order__order_letter anx_Order__order_letter : Option Addr} {slx_Order__order_letter : Array (Option Value)} {ocx_Order__order_letter kVx_Order__order_letter dcx_Order__order_letter pmx_Order__order_letter cdx_Order__order_letter ctx_Order__order_letter : Value} {fx_Order__order_letter : Addr}
    {odx__law_cell anx__law_cell : Option Addr} {slx__law_cell : Array (Option Value)} {ocx__law_cell kVx__law_cell dcx__law_cell pmx__law_cell cdx__law_cell ctx__law_cell : Value} {fx__law_cell : Addr}
    {odx__law_payload anx__law_payload : Option Addr} {slx__law_payload : Array (Option Value)} {ocx__law_payload kVx__law_payload dcx__law_payload pmx__law_payload cdx__law_payload ctx__law_payload : Value} {fx__law_payload : Addr}
    {odx__law_prefixes anx__law_prefixes : Option Addr} {slx__law_prefixes : Array (Option Value)} {ocx__law_prefixes kVx__law_prefixes dcx__law_prefixes pmx__law_prefixes cdx__law_prefixes ctx__law_prefixes : Value} {fx__law_prefixes : Addr}
    {odx__law_sound anx__law_sound : Option Addr} {slx__law_sound : Array (Option Value)} {ocx__law_sound kVx__law_sound dcx__law_sound pmx__law_sound cdx__law_sound ctx__law_sound : Value} {fx__law_sound : Addr}
    {odx__law_post anx__law_post : Option Addr} {slx__law_post : Array (Option Value)} {ocx__law_post kVx__law_post dcx__law_post pmx__law_post cdx__law_post ctx__law_post : Value} {fx__law_post : Addr}
    {odx__law_hand anx__law_hand : Option Addr} {slx__law_hand : Array (Option Value)} {ocx__law_hand kVx__law_hand dcx__law_hand pmx__law_hand cdx__law_hand ctx__law_hand : Value} {fx__law_hand : Addr}
    {odx__law_told anx__law_told : Option Addr} {slx__law_told : Array (Option Value)} {ocx__law_told kVx__law_told dcx__law_told pmx__law_told cdx__law_told ctx__law_told : Value} {fx__law_told : Addr}
    {odx_law anx_law : Option Addr} {slx_law : Array (Option Value)} {ocx_law kVx_law dcx_law pmx_law cdx_law ctx_law : Value} {fx_law : Addr}
    {tWINDOW : Tok}
    (aC_Order : PySem.W.nsIn K mainGlobals "Order" = some (some (.ref C_Order)))
    (aC_BadView : PySem.W.nsIn K mainGlobals "BadView" = some (some (.ref C_BadView)))
    (pg_Order : PySem.W.plainGet K C_Order Str.empty = true)
    (hd_Order : PySem.W.hasDictIn K C_Order = true)
    (po_Order : PySem.W.plainOver K C_Order = true)
    (sa_Order : PySem.W.findIn K (.ref C_Order) "__setattr__" = some (some (.builtin "object.__setattr__")))
    (mk_Order : PySem.W.makesIn K C_Order = true)
    (kc_Order : PySem.W.keepIn K (.ref C_Order) = true)
    (n_Order__me : PySem.W.findIn K (.ref C_Order) "_me" = some none)
    (n_Order__view_id : PySem.W.findIn K (.ref C_Order) "_view_id" = some none)
    (n_Order__members : PySem.W.findIn K (.ref C_Order) "_members" = some none)
    (n_Order__founder : PySem.W.findIn K (.ref C_Order) "_founder" = some none)
    (n_Order__log : PySem.W.findIn K (.ref C_Order) "_log" = some none)
    (n_Order__last_indexes : PySem.W.findIn K (.ref C_Order) "_last_indexes" = some none)
    (n_Order__casts : PySem.W.findIn K (.ref C_Order) "_casts" = some none)
    (n_Order__pending : PySem.W.findIn K (.ref C_Order) "_pending" = some none)
    (n_Order__kept : PySem.W.findIn K (.ref C_Order) "_kept" = some none)
    (n_Order__told : PySem.W.findIn K (.ref C_Order) "_told" = some none)
    (ax_Order___init__ : PySem.W.findIn K (.ref C_Order) "__init__" = some (some (.ref fx_Order___init__)))
    (ix_Order___init__ : PySem.W.isFn K (.ref fx_Order___init__) = true)
    (lx_Order___init__ : K.lookup fx_Order___init__ = some ⟨ocx_Order___init__, odx_Order___init__, .func (PySem.W.fnOf "__init__" "Order.__init__" (defArgs s_Order___init__) (defBody s_Order___init__) (defScope s_Order___init__) .none kVx_Order___init__ dcx_Order___init__ pmx_Order___init__ anx_Order___init__ cdx_Order___init__ ctx_Order___init__), slx_Order___init__⟩)
    (cx_Order___init__ : PySem.W.codeIn K cdx_Order___init__ "Order.__init__" = true)
    (kx_Order___init__ : PySem.W.keepIn K (.ref fx_Order___init__) = true)
    (ax_Order_cast : PySem.W.findIn K (.ref C_Order) "cast" = some (some (.ref fx_Order_cast)))
    (ix_Order_cast : PySem.W.isFn K (.ref fx_Order_cast) = true)
    (lx_Order_cast : K.lookup fx_Order_cast = some ⟨ocx_Order_cast, odx_Order_cast, .func (PySem.W.fnOf "cast" "Order.cast" (defArgs s_Order_cast) (defBody s_Order_cast) (defScope s_Order_cast) .none kVx_Order_cast dcx_Order_cast pmx_Order_cast anx_Order_cast cdx_Order_cast ctx_Order_cast), slx_Order_cast⟩)
    (cx_Order_cast : PySem.W.codeIn K cdx_Order_cast "Order.cast" = true)
    (kx_Order_cast : PySem.W.keepIn K (.ref fx_Order_cast) = true)
    (ax_Order_take : PySem.W.findIn K (.ref C_Order) "take" = some (some (.ref fx_Order_take)))
    (ix_Order_take : PySem.W.isFn K (.ref fx_Order_take) = true)
    (lx_Order_take : K.lookup fx_Order_take = some ⟨ocx_Order_take, odx_Order_take, .func (PySem.W.fnOf "take" "Order.take" (defArgs s_Order_take) (defBody s_Order_take) (defScope s_Order_take) .none kVx_Order_take dcx_Order_take pmx_Order_take anx_Order_take cdx_Order_take ctx_Order_take), slx_Order_take⟩)
    (cx_Order_take : PySem.W.codeIn K cdx_Order_take "Order.take" = true)
    (kx_Order_take : PySem.W.keepIn K (.ref fx_Order_take) = true)
    (ax_Order_heard : PySem.W.findIn K (.ref C_Order) "heard" = some (some (.ref fx_Order_heard)))
    (ix_Order_heard : PySem.W.isFn K (.ref fx_Order_heard) = true)
    (lx_Order_heard : K.lookup fx_Order_heard = some ⟨ocx_Order_heard, odx_Order_heard, .func (PySem.W.fnOf "heard" "Order.heard" (defArgs s_Order_heard) (defBody s_Order_heard) (defScope s_Order_heard) .none kVx_Order_heard dcx_Order_heard pmx_Order_heard anx_Order_heard cdx_Order_heard ctx_Order_heard), slx_Order_heard⟩)
    (cx_Order_heard : PySem.W.codeIn K cdx_Order_heard "Order.heard" = true)
    (kx_Order_heard : PySem.W.keepIn K (.ref fx_Order_heard) = true)
    (ax_Order_again : PySem.W.findIn K (.ref C_Order) "again" = some (some (.ref fx_Order_again)))
    (ix_Order_again : PySem.W.isFn K (.ref fx_Order_again) = true)
    (lx_Order_again : K.lookup fx_Order_again = some ⟨ocx_Order_again, odx_Order_again, .func (PySem.W.fnOf "again" "Order.again" (defArgs s_Order_again) (defBody s_Order_again) (defScope s_Order_again) .none kVx_Order_again dcx_Order_again pmx_Order_again anx_Order_again cdx_Order_again ctx_Order_again), slx_Order_again⟩)
    (cx_Order_again : PySem.W.codeIn K cdx_Order_again "Order.again" = true)
    (kx_Order_again : PySem.W.keepIn K (.ref fx_Order_again) = true)
    (ax_Order_log : PySem.W.findIn K (.ref C_Order) "log" = some (some (.ref fx_Order_log)))
    (ix_Order_log : PySem.W.isFn K (.ref fx_Order_log) = true)
    (lx_Order_log : K.lookup fx_Order_log = some ⟨ocx_Order_log, odx_Order_log, .func (PySem.W.fnOf "log" "Order.log" (defArgs s_Order_log) (defBody s_Order_log) (defScope s_Order_log) .none kVx_Order_log dcx_Order_log pmx_Order_log anx_Order_log cdx_Order_log ctx_Order_log), slx_Order_log⟩)
    (cx_Order_log : PySem.W.codeIn K cdx_Order_log "Order.log" = true)
    (kx_Order_log : PySem.W.keepIn K (.ref fx_Order_log) = true)
    (ax_Order__take_cast : PySem.W.findIn K (.ref C_Order) "_take_cast" = some (some (.ref fx_Order__take_cast)))
    (ix_Order__take_cast : PySem.W.isFn K (.ref fx_Order__take_cast) = true)
    (lx_Order__take_cast : K.lookup fx_Order__take_cast = some ⟨ocx_Order__take_cast, odx_Order__take_cast, .func (PySem.W.fnOf "_take_cast" "Order._take_cast" (defArgs s_Order__take_cast) (defBody s_Order__take_cast) (defScope s_Order__take_cast) .none kVx_Order__take_cast dcx_Order__take_cast pmx_Order__take_cast anx_Order__take_cast cdx_Order__take_cast ctx_Order__take_cast), slx_Order__take_cast⟩)
    (cx_Order__take_cast : PySem.W.codeIn K cdx_Order__take_cast "Order._take_cast" = true)
    (kx_Order__take_cast : PySem.W.keepIn K (.ref fx_Order__take_cast) = true)
    (ax_Order__decide : PySem.W.findIn K (.ref C_Order) "_decide" = some (some (.ref fx_Order__decide)))
    (ix_Order__decide : PySem.W.isFn K (.ref fx_Order__decide) = true)
    (lx_Order__decide : K.lookup fx_Order__decide = some ⟨ocx_Order__decide, odx_Order__decide, .func (PySem.W.fnOf "_decide" "Order._decide" (defArgs s_Order__decide) (defBody s_Order__decide) (defScope s_Order__decide) .none kVx_Order__decide dcx_Order__decide pmx_Order__decide anx_Order__decide cdx_Order__decide ctx_Order__decide), slx_Order__decide⟩)
    (cx_Order__decide : PySem.W.codeIn K cdx_Order__decide "Order._decide" = true)
    (kx_Order__decide : PySem.W.keepIn K (.ref fx_Order__decide) = true)
    (ax_Order__take_order : PySem.W.findIn K (.ref C_Order) "_take_order" = some (some (.ref fx_Order__take_order)))
    (ix_Order__take_order : PySem.W.isFn K (.ref fx_Order__take_order) = true)
    (lx_Order__take_order : K.lookup fx_Order__take_order = some ⟨ocx_Order__take_order, odx_Order__take_order, .func (PySem.W.fnOf "_take_order" "Order._take_order" (defArgs s_Order__take_order) (defBody s_Order__take_order) (defScope s_Order__take_order) .none kVx_Order__take_order dcx_Order__take_order pmx_Order__take_order anx_Order__take_order cdx_Order__take_order ctx_Order__take_order), slx_Order__take_order⟩)
    (cx_Order__take_order : PySem.W.codeIn K cdx_Order__take_order "Order._take_order" = true)
    (kx_Order__take_order : PySem.W.keepIn K (.ref fx_Order__take_order) = true)
    (ax_Order__deliver_kept : PySem.W.findIn K (.ref C_Order) "_deliver_kept" = some (some (.ref fx_Order__deliver_kept)))
    (ix_Order__deliver_kept : PySem.W.isFn K (.ref fx_Order__deliver_kept) = true)
    (lx_Order__deliver_kept : K.lookup fx_Order__deliver_kept = some ⟨ocx_Order__deliver_kept, odx_Order__deliver_kept, .func (PySem.W.fnOf "_deliver_kept" "Order._deliver_kept" (defArgs s_Order__deliver_kept) (defBody s_Order__deliver_kept) (defScope s_Order__deliver_kept) .none kVx_Order__deliver_kept dcx_Order__deliver_kept pmx_Order__deliver_kept anx_Order__deliver_kept cdx_Order__deliver_kept ctx_Order__deliver_kept), slx_Order__deliver_kept⟩)
    (cx_Order__deliver_kept : PySem.W.codeIn K cdx_Order__deliver_kept "Order._deliver_kept" = true)
    (kx_Order__deliver_kept : PySem.W.keepIn K (.ref fx_Order__deliver_kept) = true)
    (ax_Order__deliver : PySem.W.findIn K (.ref C_Order) "_deliver" = some (some (.ref fx_Order__deliver)))
    (ix_Order__deliver : PySem.W.isFn K (.ref fx_Order__deliver) = true)
    (lx_Order__deliver : K.lookup fx_Order__deliver = some ⟨ocx_Order__deliver, odx_Order__deliver, .func (PySem.W.fnOf "_deliver" "Order._deliver" (defArgs s_Order__deliver) (defBody s_Order__deliver) (defScope s_Order__deliver) .none kVx_Order__deliver dcx_Order__deliver pmx_Order__deliver anx_Order__deliver cdx_Order__deliver ctx_Order__deliver), slx_Order__deliver⟩)
    (cx_Order__deliver : PySem.W.codeIn K cdx_Order__deliver "Order._deliver" = true)
    (kx_Order__deliver : PySem.W.keepIn K (.ref fx_Order__deliver) = true)
    (ax_Order__others : PySem.W.findIn K (.ref C_Order) "_others" = some (some (.ref fx_Order__others)))
    (ix_Order__others : PySem.W.isFn K (.ref fx_Order__others) = true)
    (lx_Order__others : K.lookup fx_Order__others = some ⟨ocx_Order__others, odx_Order__others, .func (PySem.W.fnOf "_others" "Order._others" (defArgs s_Order__others) (defBody s_Order__others) (defScope s_Order__others) .none kVx_Order__others dcx_Order__others pmx_Order__others anx_Order__others cdx_Order__others ctx_Order__others), slx_Order__others⟩)
    (cx_Order__others : PySem.W.codeIn K cdx_Order__others "Order._others" = true)
    (kx_Order__others : PySem.W.keepIn K (.ref fx_Order__others) = true)
    (ax_Order__letters_behind : PySem.W.findIn K (.ref C_Order) "_letters_behind" = some (some (.ref fx_Order__letters_behind)))
    (ix_Order__letters_behind : PySem.W.isFn K (.ref fx_Order__letters_behind) = true)
    (lx_Order__letters_behind : K.lookup fx_Order__letters_behind = some ⟨ocx_Order__letters_behind, odx_Order__letters_behind, .func (PySem.W.fnOf "_letters_behind" "Order._letters_behind" (defArgs s_Order__letters_behind) (defBody s_Order__letters_behind) (defScope s_Order__letters_behind) .none kVx_Order__letters_behind dcx_Order__letters_behind pmx_Order__letters_behind anx_Order__letters_behind cdx_Order__letters_behind ctx_Order__letters_behind), slx_Order__letters_behind⟩)
    (cx_Order__letters_behind : PySem.W.codeIn K cdx_Order__letters_behind "Order._letters_behind" = true)
    (kx_Order__letters_behind : PySem.W.keepIn K (.ref fx_Order__letters_behind) = true)
    (ax_Order__cast_letter : PySem.W.findIn K (.ref C_Order) "_cast_letter" = some (some (.ref fx_Order__cast_letter)))
    (ix_Order__cast_letter : PySem.W.isFn K (.ref fx_Order__cast_letter) = true)
    (lx_Order__cast_letter : K.lookup fx_Order__cast_letter = some ⟨ocx_Order__cast_letter, odx_Order__cast_letter, .func (PySem.W.fnOf "_cast_letter" "Order._cast_letter" (defArgs s_Order__cast_letter) (defBody s_Order__cast_letter) (defScope s_Order__cast_letter) .none kVx_Order__cast_letter dcx_Order__cast_letter pmx_Order__cast_letter anx_Order__cast_letter cdx_Order__cast_letter ctx_Order__cast_letter), slx_Order__cast_letter⟩)
    (cx_Order__cast_letter : PySem.W.codeIn K cdx_Order__cast_letter "Order._cast_letter" = true)
    (kx_Order__cast_letter : PySem.W.keepIn K (.ref fx_Order__cast_letter) = true)
    (ax_Order__order_letter : PySem.W.findIn K (.ref C_Order) "_order_letter" = some (some (.ref fx_Order__order_letter)))
    (ix_Order__order_letter : PySem.W.isFn K (.ref fx_Order__order_letter) = true)
    (lx_Order__order_letter : K.lookup fx_Order__order_letter = some ⟨ocx_Order__order_letter, odx_Order__order_letter, .func (PySem.W.fnOf "_order_letter" "Order._order_letter" (defArgs s_Order__order_letter) (defBody s_Order__order_letter) (defScope s_Order__order_letter) .none kVx_Order__order_letter dcx_Order__order_letter pmx_Order__order_letter anx_Order__order_letter cdx_Order__order_letter ctx_Order__order_letter), slx_Order__order_letter⟩)
    (cx_Order__order_letter : PySem.W.codeIn K cdx_Order__order_letter "Order._order_letter" = true)
    (kx_Order__order_letter : PySem.W.keepIn K (.ref fx_Order__order_letter) = true)
    (x_BadView : PySem.W.excIn K C_BadView [.type "ValueError", .type "Exception", .type "BaseException", .type "object"] "ValueError.__new__" = true)
    (k_BadView : PySem.W.keepIn K (.ref C_BadView) = true)
    (b_BadView : PySem.W.subIn K (.ref C_BadView) (.type "BaseException") = some true)
    (t_BadView : PySem.W.typeIn K (.ref C_BadView) = some (.type "type"))
    (m_VV : PySem.W.exmOne K (.ref C_BadView) (.ref C_BadView) = some true)
    (ax__law_cell : PySem.W.nsIn K mainGlobals "_law_cell" = some (some (.ref fx__law_cell)))
    (lx__law_cell : K.lookup fx__law_cell = some ⟨ocx__law_cell, odx__law_cell, .func (PySem.W.fnOf "_law_cell" "_law_cell" (defArgs s__law_cell) (defBody s__law_cell) (defScope s__law_cell) .none kVx__law_cell dcx__law_cell pmx__law_cell anx__law_cell cdx__law_cell ctx__law_cell), slx__law_cell⟩)
    (cx__law_cell : PySem.W.codeIn K cdx__law_cell "_law_cell" = true)
    (kx__law_cell : PySem.W.keepIn K (.ref fx__law_cell) = true)
    (ax__law_payload : PySem.W.nsIn K mainGlobals "_law_payload" = some (some (.ref fx__law_payload)))
    (lx__law_payload : K.lookup fx__law_payload = some ⟨ocx__law_payload, odx__law_payload, .func (PySem.W.fnOf "_law_payload" "_law_payload" (defArgs s__law_payload) (defBody s__law_payload) (defScope s__law_payload) .none kVx__law_payload dcx__law_payload pmx__law_payload anx__law_payload cdx__law_payload ctx__law_payload), slx__law_payload⟩)
    (cx__law_payload : PySem.W.codeIn K cdx__law_payload "_law_payload" = true)
    (kx__law_payload : PySem.W.keepIn K (.ref fx__law_payload) = true)
    (ax__law_prefixes : PySem.W.nsIn K mainGlobals "_law_prefixes" = some (some (.ref fx__law_prefixes)))
    (lx__law_prefixes : K.lookup fx__law_prefixes = some ⟨ocx__law_prefixes, odx__law_prefixes, .func (PySem.W.fnOf "_law_prefixes" "_law_prefixes" (defArgs s__law_prefixes) (defBody s__law_prefixes) (defScope s__law_prefixes) .none kVx__law_prefixes dcx__law_prefixes pmx__law_prefixes anx__law_prefixes cdx__law_prefixes ctx__law_prefixes), slx__law_prefixes⟩)
    (cx__law_prefixes : PySem.W.codeIn K cdx__law_prefixes "_law_prefixes" = true)
    (kx__law_prefixes : PySem.W.keepIn K (.ref fx__law_prefixes) = true)
    (ax__law_sound : PySem.W.nsIn K mainGlobals "_law_sound" = some (some (.ref fx__law_sound)))
    (lx__law_sound : K.lookup fx__law_sound = some ⟨ocx__law_sound, odx__law_sound, .func (PySem.W.fnOf "_law_sound" "_law_sound" (defArgs s__law_sound) (defBody s__law_sound) (defScope s__law_sound) .none kVx__law_sound dcx__law_sound pmx__law_sound anx__law_sound cdx__law_sound ctx__law_sound), slx__law_sound⟩)
    (cx__law_sound : PySem.W.codeIn K cdx__law_sound "_law_sound" = true)
    (kx__law_sound : PySem.W.keepIn K (.ref fx__law_sound) = true)
    (ax__law_post : PySem.W.nsIn K mainGlobals "_law_post" = some (some (.ref fx__law_post)))
    (lx__law_post : K.lookup fx__law_post = some ⟨ocx__law_post, odx__law_post, .func (PySem.W.fnOf "_law_post" "_law_post" (defArgs s__law_post) (defBody s__law_post) (defScope s__law_post) .none kVx__law_post dcx__law_post pmx__law_post anx__law_post cdx__law_post ctx__law_post), slx__law_post⟩)
    (cx__law_post : PySem.W.codeIn K cdx__law_post "_law_post" = true)
    (kx__law_post : PySem.W.keepIn K (.ref fx__law_post) = true)
    (ax__law_hand : PySem.W.nsIn K mainGlobals "_law_hand" = some (some (.ref fx__law_hand)))
    (lx__law_hand : K.lookup fx__law_hand = some ⟨ocx__law_hand, odx__law_hand, .func (PySem.W.fnOf "_law_hand" "_law_hand" (defArgs s__law_hand) (defBody s__law_hand) (defScope s__law_hand) .none kVx__law_hand dcx__law_hand pmx__law_hand anx__law_hand cdx__law_hand ctx__law_hand), slx__law_hand⟩)
    (cx__law_hand : PySem.W.codeIn K cdx__law_hand "_law_hand" = true)
    (kx__law_hand : PySem.W.keepIn K (.ref fx__law_hand) = true)
    (ax__law_told : PySem.W.nsIn K mainGlobals "_law_told" = some (some (.ref fx__law_told)))
    (lx__law_told : K.lookup fx__law_told = some ⟨ocx__law_told, odx__law_told, .func (PySem.W.fnOf "_law_told" "_law_told" (defArgs s__law_told) (defBody s__law_told) (defScope s__law_told) .none kVx__law_told dcx__law_told pmx__law_told anx__law_told cdx__law_told ctx__law_told), slx__law_told⟩)
    (cx__law_told : PySem.W.codeIn K cdx__law_told "_law_told" = true)
    (kx__law_told : PySem.W.keepIn K (.ref fx__law_told) = true)
    (ax_law : PySem.W.nsIn K mainGlobals "law" = some (some (.ref fx_law)))
    (lx_law : K.lookup fx_law = some ⟨ocx_law, odx_law, .func (PySem.W.fnOf "law" "law" (defArgs s_law) (defBody s_law) (defScope s_law) .none kVx_law dcx_law pmx_law anx_law cdx_law ctx_law), slx_law⟩)
    (cx_law : PySem.W.codeIn K cdx_law "law" = true)
    (kx_law : PySem.W.keepIn K (.ref fx_law) = true)
    (vWINDOW : PySem.W.nsIn K mainGlobals "WINDOW" = some (some (.int 16 tWINDOW)))
    (zlen : PySem.W.nsIn K mainGlobals "len" = some none)
    (zisinstance : PySem.W.nsIn K mainGlobals "isinstance" = some none)
    (zint : PySem.W.nsIn K mainGlobals "int" = some none)
    (zlist : PySem.W.nsIn K mainGlobals "list" = some none)
    (ztuple : PySem.W.nsIn K mainGlobals "tuple" = some none)
    (zrange : PySem.W.nsIn K mainGlobals "range" = some none)
    (zmin : PySem.W.nsIn K mainGlobals "min" = some none)
    (zmax : PySem.W.nsIn K mainGlobals "max" = some none)
    (zabs : PySem.W.nsIn K mainGlobals "abs" = some none)
    (zenumerate : PySem.W.nsIn K mainGlobals "enumerate" = some none)
    (zsum : PySem.W.nsIn K mainGlobals "sum" = some none) :
    ∃ fd : FuncData, (∀ (s : Shared) (v : Value), BindsTo s fd ⟨[v], []⟩ [("script", v)]) ∧ ∀ base : Heap, K.In base → base.Ns mainGlobals mg → FnOk l.prog w K mg base CX0 7 fa fd ["script"] (sp_law K) := by
  have e := hfa.symm.trans (PySem.W.mg_of X G ax_law)
  cases e
  have T : Tx K mg C_Order C_BadView := {
    b_len := PySem.W.mg_none_of X G zlen
    b_isinstance := PySem.W.mg_none_of X G zisinstance
    b_int := PySem.W.mg_none_of X G zint
    b_list := PySem.W.mg_none_of X G zlist
    b_tuple := PySem.W.mg_none_of X G ztuple
    b_range := PySem.W.mg_none_of X G zrange
    b_min := PySem.W.mg_none_of X G zmin
    b_max := PySem.W.mg_none_of X G zmax
    b_abs := PySem.W.mg_none_of X G zabs
    b_enumerate := PySem.W.mg_none_of X G zenumerate
    b_sum := PySem.W.mg_none_of X G zsum
    c_WINDOW := ⟨_, PySem.W.mg_of X G vWINDOW⟩
    g_Order := PySem.W.mg_of X G aC_Order
    cl_Order := ⟨pg_Order, hd_Order, po_Order, sa_Order⟩
    n_Order__me := n_Order__me
    n_Order__view_id := n_Order__view_id
    n_Order__members := n_Order__members
    n_Order__founder := n_Order__founder
    n_Order__log := n_Order__log
    n_Order__last_indexes := n_Order__last_indexes
    n_Order__casts := n_Order__casts
    n_Order__pending := n_Order__pending
    n_Order__kept := n_Order__kept
    n_Order__told := n_Order__told
    g_BadView := PySem.W.mg_of X G aC_BadView
    x_BadView := x_BadView
    k_BadView := k_BadView
    b_BadView := b_BadView
    t_BadView := t_BadView
    m_VV := m_VV }
  let a_Order___init__ : MethAt K C_Order "__init__" "Order.__init__" P_Order___init__ s_Order___init__ := meth_mk ax_Order___init__ ix_Order___init__ lx_Order___init__ cx_Order___init__ kx_Order___init__ fun _ _ _ _ _ _ us hl => match us, hl with | [_, _, _, _], _ => rfl
  let a_Order_cast : MethAt K C_Order "cast" "Order.cast" P_Order_cast s_Order_cast := meth_mk ax_Order_cast ix_Order_cast lx_Order_cast cx_Order_cast kx_Order_cast fun _ _ _ _ _ _ us hl => match us, hl with | [_, _], _ => rfl
  let a_Order_take : MethAt K C_Order "take" "Order.take" P_Order_take s_Order_take := meth_mk ax_Order_take ix_Order_take lx_Order_take cx_Order_take kx_Order_take fun _ _ _ _ _ _ us hl => match us, hl with | [_, _], _ => rfl
  let a_Order_heard : MethAt K C_Order "heard" "Order.heard" P_Order_heard s_Order_heard := meth_mk ax_Order_heard ix_Order_heard lx_Order_heard cx_Order_heard kx_Order_heard fun _ _ _ _ _ _ us hl => match us, hl with | [_, _, _], _ => rfl
  let a_Order_again : MethAt K C_Order "again" "Order.again" P_Order_again s_Order_again := meth_mk ax_Order_again ix_Order_again lx_Order_again cx_Order_again kx_Order_again fun _ _ _ _ _ _ us hl => match us, hl with | [_], _ => rfl
  let a_Order_log : MethAt K C_Order "log" "Order.log" P_Order_log s_Order_log := meth_mk ax_Order_log ix_Order_log lx_Order_log cx_Order_log kx_Order_log fun _ _ _ _ _ _ us hl => match us, hl with | [_], _ => rfl
  let a_Order__take_cast : MethAt K C_Order "_take_cast" "Order._take_cast" P_Order__take_cast s_Order__take_cast := meth_mk ax_Order__take_cast ix_Order__take_cast lx_Order__take_cast cx_Order__take_cast kx_Order__take_cast fun _ _ _ _ _ _ us hl => match us, hl with | [_, _], _ => rfl
  let a_Order__decide : MethAt K C_Order "_decide" "Order._decide" P_Order__decide s_Order__decide := meth_mk ax_Order__decide ix_Order__decide lx_Order__decide cx_Order__decide kx_Order__decide fun _ _ _ _ _ _ us hl => match us, hl with | [_, _], _ => rfl
  let a_Order__take_order : MethAt K C_Order "_take_order" "Order._take_order" P_Order__take_order s_Order__take_order := meth_mk ax_Order__take_order ix_Order__take_order lx_Order__take_order cx_Order__take_order kx_Order__take_order fun _ _ _ _ _ _ us hl => match us, hl with | [_, _], _ => rfl
  let a_Order__deliver_kept : MethAt K C_Order "_deliver_kept" "Order._deliver_kept" P_Order__deliver_kept s_Order__deliver_kept := meth_mk ax_Order__deliver_kept ix_Order__deliver_kept lx_Order__deliver_kept cx_Order__deliver_kept kx_Order__deliver_kept fun _ _ _ _ _ _ us hl => match us, hl with | [_], _ => rfl
  let a_Order__deliver : MethAt K C_Order "_deliver" "Order._deliver" P_Order__deliver s_Order__deliver := meth_mk ax_Order__deliver ix_Order__deliver lx_Order__deliver cx_Order__deliver kx_Order__deliver fun _ _ _ _ _ _ us hl => match us, hl with | [_, _], _ => rfl
  let a_Order__others : MethAt K C_Order "_others" "Order._others" P_Order__others s_Order__others := meth_mk ax_Order__others ix_Order__others lx_Order__others cx_Order__others kx_Order__others fun _ _ _ _ _ _ us hl => match us, hl with | [_], _ => rfl
  let a_Order__letters_behind : MethAt K C_Order "_letters_behind" "Order._letters_behind" P_Order__letters_behind s_Order__letters_behind := meth_mk ax_Order__letters_behind ix_Order__letters_behind lx_Order__letters_behind cx_Order__letters_behind kx_Order__letters_behind fun _ _ _ _ _ _ us hl => match us, hl with | [_, _], _ => rfl
  let a_Order__cast_letter : MethAt K C_Order "_cast_letter" "Order._cast_letter" P_Order__cast_letter s_Order__cast_letter := meth_mk ax_Order__cast_letter ix_Order__cast_letter lx_Order__cast_letter cx_Order__cast_letter kx_Order__cast_letter fun _ _ _ _ _ _ us hl => match us, hl with | [_, _, _], _ => rfl
  let a_Order__order_letter : MethAt K C_Order "_order_letter" "Order._order_letter" P_Order__order_letter s_Order__order_letter := meth_mk ax_Order__order_letter ix_Order__order_letter lx_Order__order_letter cx_Order__order_letter kx_Order__order_letter fun _ _ _ _ _ _ us hl => match us, hl with | [_, _, _, _], _ => rfl
  let a__law_cell : DefAt K mg "_law_cell" P__law_cell s__law_cell := at_mk X G ax__law_cell lx__law_cell cx__law_cell kx__law_cell fun _ _ _ _ _ _ us hl => match us, hl with | [_, _], _ => rfl
  let a__law_payload : DefAt K mg "_law_payload" P__law_payload s__law_payload := at_mk X G ax__law_payload lx__law_payload cx__law_payload kx__law_payload fun _ _ _ _ _ _ us hl => match us, hl with | [_], _ => rfl
  let a__law_prefixes : DefAt K mg "_law_prefixes" P__law_prefixes s__law_prefixes := at_mk X G ax__law_prefixes lx__law_prefixes cx__law_prefixes kx__law_prefixes fun _ _ _ _ _ _ us hl => match us, hl with | [_], _ => rfl
  let a__law_sound : DefAt K mg "_law_sound" P__law_sound s__law_sound := at_mk X G ax__law_sound lx__law_sound cx__law_sound kx__law_sound fun _ _ _ _ _ _ us hl => match us, hl with | [_, _, _, _], _ => rfl
  let a__law_post : DefAt K mg "_law_post" P__law_post s__law_post := at_mk X G ax__law_post lx__law_post cx__law_post kx__law_post fun _ _ _ _ _ _ us hl => match us, hl with | [_, _], _ => rfl
  let a__law_hand : DefAt K mg "_law_hand" P__law_hand s__law_hand := at_mk X G ax__law_hand lx__law_hand cx__law_hand kx__law_hand fun _ _ _ _ _ _ us hl => match us, hl with | [_, _, _, _], _ => rfl
  let a__law_told : DefAt K mg "_law_told" P__law_told s__law_told := at_mk X G ax__law_told lx__law_told cx__law_told kx__law_told fun _ _ _ _ _ _ us hl => match us, hl with | [_, _], _ => rfl
  have F_law := fun_mk (st := s_law) lx_law cx_law kx_law
  refine ⟨PySem.W.fnOf "law" "law" (defArgs s_law) (defBody s_law) (defScope s_law) .none kVx_law dcx_law pmx_law anx_law cdx_law ctx_law, fun s v => .of_eq rfl, fun base _ _ => ?_⟩
  let k_Order : MkOkX l.prog w K mg base C_Order "Order" P_Order___init__ 1 (sp_oini w C_Order C_BadView) := a_Order___init__.mkX mk_Order kc_Order T.g_Order fun F => ok_oini T F
  let c__law_cell : DefOk l.prog w K mg base CX0 "_law_cell" P__law_cell (1) ((sp_cell20 K)) := a__law_cell.ok fun F => ok__law_cell T F
  let m_Order_log : MethOk l.prog w K mg base CX0 C_Order "log" P_Order_log 1 ((sp_olog w C_Order)) := a_Order_log.ok fun F => ok_olog T F
  let c__law_payload : DefOk l.prog w K mg base CX0 "_law_payload" P__law_payload (1) ((sp_pay20)) := a__law_payload.ok fun F => ok__law_payload T F
  let m_Order__deliver : MethOk l.prog w K mg base CX0 C_Order "_deliver" P_Order__deliver 1 ((sp_del w C_Order)) := a_Order__deliver.ok fun F => ok_del T F
  let m_Order__others : MethOk l.prog w K mg base CX0 C_Order "_others" P_Order__others 1 ((sp_oth C_Order)) := a_Order__others.ok fun F => ok_oth T F
  let m_Order__order_letter : MethOk l.prog w K mg base CX0 C_Order "_order_letter" P_Order__order_letter 1 ((sp_ordl C_Order)) := a_Order__order_letter.ok fun F => ok_ordl T F
  let m_Order__decide : MethOk l.prog w K mg base CX0 C_Order "_decide" P_Order__decide 2 ((sp_dec w C_Order)) := a_Order__decide.ok fun F => ok_dec T m_Order__deliver m_Order__others m_Order__order_letter F
  let m_Order__cast_letter : MethOk l.prog w K mg base CX0 C_Order "_cast_letter" P_Order__cast_letter 1 ((sp_casl C_Order)) := a_Order__cast_letter.ok fun F => ok_casl T F
  let m_Order_cast : MethOk l.prog w K mg base CX0 C_Order "cast" P_Order_cast 3 ((sp_ocast w C_Order)) := a_Order_cast.ok fun F => ok_ocast T m_Order__decide m_Order__cast_letter F
  let c__law_post : DefOk l.prog w K mg base CX0 "_law_post" P__law_post 1 (sp_lpost) := a__law_post.ok fun F => ok_lpost T F
  let m_Order_heard : MethOk l.prog w K mg base CX0 C_Order "heard" P_Order_heard 1 ((sp_ohr w C_Order)) := a_Order_heard.ok fun F => ok_ohr T F
  let c__law_told : DefOk l.prog w K mg base CX0 "_law_told" P__law_told 2 ((sp_ltold w C_Order)) := a__law_told.ok fun F => ok_ltold T m_Order_heard m_Order_log F
  let m_Order__letters_behind : MethOk l.prog w K mg base CX0 C_Order "_letters_behind" P_Order__letters_behind 2 ((sp_beh w C_Order)) := a_Order__letters_behind.ok fun F => ok_beh T m_Order__order_letter F
  let m_Order_again : MethOk l.prog w K mg base CX0 C_Order "again" P_Order_again 3 ((sp_oag w C_Order)) := a_Order_again.ok fun F => ok_oag T m_Order__others m_Order__cast_letter m_Order__letters_behind F
  let m_Order__take_cast : MethOk l.prog w K mg base CX0 C_Order "_take_cast" P_Order__take_cast 3 ((sp_tc w C_Order)) := a_Order__take_cast.ok fun F => ok_tc T m_Order__others m_Order__decide F
  let m_Order__deliver_kept : MethOk l.prog w K mg base CX0 C_Order "_deliver_kept" P_Order__deliver_kept 2 ((sp_dk w C_Order)) := a_Order__deliver_kept.ok fun F => ok_dk T m_Order__deliver F
  let m_Order__take_order : MethOk l.prog w K mg base CX0 C_Order "_take_order" P_Order__take_order 3 ((sp_to w C_Order)) := a_Order__take_order.ok fun F => ok_to T m_Order__deliver_kept F
  let m_Order_take : MethOk l.prog w K mg base CX0 C_Order "take" P_Order_take 4 ((sp_otk w C_Order)) := a_Order_take.ok fun F => ok_otk T m_Order__take_cast m_Order__take_order F
  let c__law_hand : DefOk l.prog w K mg base CX0 "_law_hand" P__law_hand 5 ((sp_lhand w C_Order)) := a__law_hand.ok fun F => ok_lhand T m_Order_take c__law_post F
  let c__law_sound : DefOk l.prog w K mg base CX0 "_law_sound" P__law_sound 1 ((sp_lsou w)) := a__law_sound.ok fun F => ok_lsou T F
  let c__law_prefixes : DefOk l.prog w K mg base CX0 "_law_prefixes" P__law_prefixes 2 ((sp_lpre w C_Order)) := a__law_prefixes.ok fun F => ok_lpre T m_Order_log F
  exact ok_law T c__law_cell k_Order m_Order_log c__law_payload m_Order_cast c__law_post c__law_told m_Order_again c__law_hand c__law_sound c__law_prefixes F_law
end Mus
open PySem PySem.W PyProof.Rows
set_option maxRecDepth 100000 in
set_option maxHeartbeats 0 in
theorem PySem.Challenge.cw_mustercall_k21_whole_logs_are_prefixes_holds : PySem.Challenge.rw_mustercall_k21_whole_logs_are_prefixes.Holds := by
  w_on; o_law; k_head; (case hw => w_witness2)
  k_fill
  refine Mus.walk_ofX (l := PySem.Challenge.rw_mustercall_k21_whole_logs_are_prefixes) (n := 63) (k := 7) (x := "script") (sp := fun w => Mus.sp_law (_ : PySem.W.Frag)) rfl (by decide) rfl ⟨rfl, by decide, by decide⟩ (fun w h Y => PySem.W.kIn_of Y) ?F (fun _ _ a ns hl _ hS => ⟨a, ns, rfl, hS, hl, fun _ => rfl⟩)
  case F =>
    intro w mg fa h KX G XX hmg
    refine' Mus.all_mk KX G hmg ?aC_Order ?aC_BadView ?pg_Order ?hd_Order ?po_Order ?sa_Order ?mk_Order ?kc_Order ?n_Order__me ?n_Order__view_id ?n_Order__members ?n_Order__founder ?n_Order__log ?n_Order__last_indexes ?n_Order__casts ?n_Order__pending ?n_Order__kept ?n_Order__told ?ax_Order___init__ ?ix_Order___init__ ?lx_Order___init__ ?cx_Order___init__ ?kx_Order___init__ ?ax_Order_cast ?ix_Order_cast ?lx_Order_cast ?cx_Order_cast ?kx_Order_cast ?ax_Order_take ?ix_Order_take ?lx_Order_take ?cx_Order_take ?kx_Order_take ?ax_Order_heard ?ix_Order_heard ?lx_Order_heard ?cx_Order_heard ?kx_Order_heard ?ax_Order_again ?ix_Order_again ?lx_Order_again ?cx_Order_again ?kx_Order_again ?ax_Order_log ?ix_Order_log ?lx_Order_log ?cx_Order_log ?kx_Order_log ?ax_Order__take_cast ?ix_Order__take_cast ?lx_Order__take_cast ?cx_Order__take_cast ?kx_Order__take_cast ?ax_Order__decide ?ix_Order__decide ?lx_Order__decide ?cx_Order__decide ?kx_Order__decide ?ax_Order__take_order ?ix_Order__take_order ?lx_Order__take_order ?cx_Order__take_order ?kx_Order__take_order ?ax_Order__deliver_kept ?ix_Order__deliver_kept ?lx_Order__deliver_kept ?cx_Order__deliver_kept ?kx_Order__deliver_kept ?ax_Order__deliver ?ix_Order__deliver ?lx_Order__deliver ?cx_Order__deliver ?kx_Order__deliver ?ax_Order__others ?ix_Order__others ?lx_Order__others ?cx_Order__others ?kx_Order__others ?ax_Order__letters_behind ?ix_Order__letters_behind ?lx_Order__letters_behind ?cx_Order__letters_behind ?kx_Order__letters_behind ?ax_Order__cast_letter ?ix_Order__cast_letter ?lx_Order__cast_letter ?cx_Order__cast_letter ?kx_Order__cast_letter ?ax_Order__order_letter ?ix_Order__order_letter ?lx_Order__order_letter ?cx_Order__order_letter ?kx_Order__order_letter ?x_BadView ?k_BadView ?b_BadView ?t_BadView ?m_VV ?ax__law_cell ?lx__law_cell ?cx__law_cell ?kx__law_cell ?ax__law_payload ?lx__law_payload ?cx__law_payload ?kx__law_payload ?ax__law_prefixes ?lx__law_prefixes ?cx__law_prefixes ?kx__law_prefixes ?ax__law_sound ?lx__law_sound ?cx__law_sound ?kx__law_sound ?ax__law_post ?lx__law_post ?cx__law_post ?kx__law_post ?ax__law_hand ?lx__law_hand ?cx__law_hand ?kx__law_hand ?ax__law_told ?lx__law_told ?cx__law_told ?kx__law_told ?ax_law ?lx_law ?cx_law ?kx_law ?vWINDOW ?zlen ?zisinstance ?zint ?zlist ?ztuple ?zrange ?zmin ?zmax ?zabs ?zenumerate ?zsum
    (case aC_Order => first | k_is | rfl)
    (case aC_BadView => first | k_is | rfl)
    (case pg_Order => first | k_is | rfl)
    (case hd_Order => first | k_is | rfl)
    (case po_Order => first | k_is | rfl)
    (case sa_Order => first | k_is | rfl)
    (case mk_Order => first | k_is | rfl)
    (case kc_Order => first | k_is | rfl)
    (case n_Order__me => first | k_is | rfl)
    (case n_Order__view_id => first | k_is | rfl)
    (case n_Order__members => first | k_is | rfl)
    (case n_Order__founder => first | k_is | rfl)
    (case n_Order__log => first | k_is | rfl)
    (case n_Order__last_indexes => first | k_is | rfl)
    (case n_Order__casts => first | k_is | rfl)
    (case n_Order__pending => first | k_is | rfl)
    (case n_Order__kept => first | k_is | rfl)
    (case n_Order__told => first | k_is | rfl)
    (case ax_Order___init__ => first | k_is | rfl)
    (case ix_Order___init__ => first | k_is | rfl)
    (case lx_Order___init__ => first | k_is | rfl)
    (case cx_Order___init__ => first | k_is | rfl)
    (case kx_Order___init__ => first | k_is | rfl)
    (case ax_Order_cast => first | k_is | rfl)
    (case ix_Order_cast => first | k_is | rfl)
    (case lx_Order_cast => first | k_is | rfl)
    (case cx_Order_cast => first | k_is | rfl)
    (case kx_Order_cast => first | k_is | rfl)
    (case ax_Order_take => first | k_is | rfl)
    (case ix_Order_take => first | k_is | rfl)
    (case lx_Order_take => first | k_is | rfl)
    (case cx_Order_take => first | k_is | rfl)
    (case kx_Order_take => first | k_is | rfl)
    (case ax_Order_heard => first | k_is | rfl)
    (case ix_Order_heard => first | k_is | rfl)
    (case lx_Order_heard => first | k_is | rfl)
    (case cx_Order_heard => first | k_is | rfl)
    (case kx_Order_heard => first | k_is | rfl)
    (case ax_Order_again => first | k_is | rfl)
    (case ix_Order_again => first | k_is | rfl)
    (case lx_Order_again => first | k_is | rfl)
    (case cx_Order_again => first | k_is | rfl)
    (case kx_Order_again => first | k_is | rfl)
    (case ax_Order_log => first | k_is | rfl)
    (case ix_Order_log => first | k_is | rfl)
    (case lx_Order_log => first | k_is | rfl)
    (case cx_Order_log => first | k_is | rfl)
    (case kx_Order_log => first | k_is | rfl)
    (case ax_Order__take_cast => first | k_is | rfl)
    (case ix_Order__take_cast => first | k_is | rfl)
    (case lx_Order__take_cast => first | k_is | rfl)
    (case cx_Order__take_cast => first | k_is | rfl)
    (case kx_Order__take_cast => first | k_is | rfl)
    (case ax_Order__decide => first | k_is | rfl)
    (case ix_Order__decide => first | k_is | rfl)
    (case lx_Order__decide => first | k_is | rfl)
    (case cx_Order__decide => first | k_is | rfl)
    (case kx_Order__decide => first | k_is | rfl)
    (case ax_Order__take_order => first | k_is | rfl)
    (case ix_Order__take_order => first | k_is | rfl)
    (case lx_Order__take_order => first | k_is | rfl)
    (case cx_Order__take_order => first | k_is | rfl)
    (case kx_Order__take_order => first | k_is | rfl)
    (case ax_Order__deliver_kept => first | k_is | rfl)
    (case ix_Order__deliver_kept => first | k_is | rfl)
    (case lx_Order__deliver_kept => first | k_is | rfl)
    (case cx_Order__deliver_kept => first | k_is | rfl)
    (case kx_Order__deliver_kept => first | k_is | rfl)
    (case ax_Order__deliver => first | k_is | rfl)
    (case ix_Order__deliver => first | k_is | rfl)
    (case lx_Order__deliver => first | k_is | rfl)
    (case cx_Order__deliver => first | k_is | rfl)
    (case kx_Order__deliver => first | k_is | rfl)
    (case ax_Order__others => first | k_is | rfl)
    (case ix_Order__others => first | k_is | rfl)
    (case lx_Order__others => first | k_is | rfl)
    (case cx_Order__others => first | k_is | rfl)
    (case kx_Order__others => first | k_is | rfl)
    (case ax_Order__letters_behind => first | k_is | rfl)
    (case ix_Order__letters_behind => first | k_is | rfl)
    (case lx_Order__letters_behind => first | k_is | rfl)
    (case cx_Order__letters_behind => first | k_is | rfl)
    (case kx_Order__letters_behind => first | k_is | rfl)
    (case ax_Order__cast_letter => first | k_is | rfl)
    (case ix_Order__cast_letter => first | k_is | rfl)
    (case lx_Order__cast_letter => first | k_is | rfl)
    (case cx_Order__cast_letter => first | k_is | rfl)
    (case kx_Order__cast_letter => first | k_is | rfl)
    (case ax_Order__order_letter => first | k_is | rfl)
    (case ix_Order__order_letter => first | k_is | rfl)
    (case lx_Order__order_letter => first | k_is | rfl)
    (case cx_Order__order_letter => first | k_is | rfl)
    (case kx_Order__order_letter => first | k_is | rfl)
    (case x_BadView => k_exc)
    (case k_BadView => first | k_is | rfl)
    (case b_BadView => first | k_is | rfl)
    (case t_BadView => first | k_is | rfl)
    (case m_VV => first | k_is | rfl)
    (case ax__law_cell => first | k_is | rfl)
    (case lx__law_cell => first | k_is | rfl)
    (case cx__law_cell => first | k_is | rfl)
    (case kx__law_cell => first | k_is | rfl)
    (case ax__law_payload => first | k_is | rfl)
    (case lx__law_payload => first | k_is | rfl)
    (case cx__law_payload => first | k_is | rfl)
    (case kx__law_payload => first | k_is | rfl)
    (case ax__law_prefixes => first | k_is | rfl)
    (case lx__law_prefixes => first | k_is | rfl)
    (case cx__law_prefixes => first | k_is | rfl)
    (case kx__law_prefixes => first | k_is | rfl)
    (case ax__law_sound => first | k_is | rfl)
    (case lx__law_sound => first | k_is | rfl)
    (case cx__law_sound => first | k_is | rfl)
    (case kx__law_sound => first | k_is | rfl)
    (case ax__law_post => first | k_is | rfl)
    (case lx__law_post => first | k_is | rfl)
    (case cx__law_post => first | k_is | rfl)
    (case kx__law_post => first | k_is | rfl)
    (case ax__law_hand => first | k_is | rfl)
    (case lx__law_hand => first | k_is | rfl)
    (case cx__law_hand => first | k_is | rfl)
    (case kx__law_hand => first | k_is | rfl)
    (case ax__law_told => first | k_is | rfl)
    (case lx__law_told => first | k_is | rfl)
    (case cx__law_told => first | k_is | rfl)
    (case kx__law_told => first | k_is | rfl)
    (case ax_law => first | k_is | rfl)
    (case lx_law => first | k_is | rfl)
    (case cx_law => first | k_is | rfl)
    (case kx_law => first | k_is | rfl)
    (case vWINDOW => first | k_is | rfl)
    (case zlen => first | k_is | rfl)
    (case zisinstance => first | k_is | rfl)
    (case zint => first | k_is | rfl)
    (case zlist => first | k_is | rfl)
    (case ztuple => first | k_is | rfl)
    (case zrange => first | k_is | rfl)
    (case zmin => first | k_is | rfl)
    (case zmax => first | k_is | rfl)
    (case zabs => first | k_is | rfl)
    (case zenumerate => first | k_is | rfl)
    (case zsum => first | k_is | rfl)

