import PyProof.Rows.All
import Wide.All
import OpenK.AllK
import Wide.FinOn
import HandS.Base
import HandS.Call
import HandS.List
import HandS.Comp
import HandS.Ends
import HandS.Iter
import HandS.Text
import HandS.Words
import HandS.WordsList
import HandS.Wide
import HandS.IsInst
import HandS.TupAny
import HandS.Dict
import HandS.WordsDict
import HandS.Conv
import HandS.More
import KE.KeyNested
import KE.KDictKeyed
import KE.SortData
import KE.SortUse
import HandS.SortOrd
import HandS.Deep
import HandS.Codes
import HandS.SortRule
import HandS.Walk
import HandS.Exc
import HandS.ExcOwn
import HandS.TryOnly
import HandS.WordsExc
import HandS.TryMany
import HandS.ExcIs
import HandS.Style
import PySem.Challenge.RW_mustercall_k61_judge_by_pairs
set_option Elab.async false
set_option linter.all false
set_option maxRecDepth 100000
set_option maxHeartbeats 4000000
/-! What my proofs share: a def with its promise as one thing, small rules, heaps. -/
namespace Mus
open PySem L2
/-- a def of the text that keeps a promise, and all that a call of it asks -/
structure DefOk (P : Program) (w : World) (K : PySem.W.Frag) (mg : Str → Option Value) (base : Heap) (CX : CXT) (x : Str) (ps : List Str) (k : Nat) (sp : Sp) where
  f : Addr
  fd : FuncData
  G : FnOk P w K mg base CX k f fd ps sp
  m : mg x = some (.ref f)
  kp : PySem.W.keepIn K (.ref f) = true
  b : Binds K fd ps []
def DefOk.mono {P : Program} {w : World} {K : PySem.W.Frag} {mg : Str → Option Value} {base : Heap} {CX : CXT} {x : Str} {ps : List Str} {j k : Nat} {sp : Sp} (c : DefOk P w K mg base CX x ps j sp) (h : j ≤ k) : DefOk P w K mg base CX x ps k sp :=
  ⟨c.f, c.fd, c.G.mono h, c.m, c.kp, c.b⟩
/-- a def of the text as the top left it: no promise yet -/
structure DefAt (K : PySem.W.Frag) (mg : Str → Option Value) (x : Str) (ps : List Str) (st : Stmt) where
  f : Addr
  fd : FuncData
  F : Fun K x x st f fd
  m : mg x = some (.ref f)
  b : Binds K fd ps []
def DefAt.ok {P : Program} {w : World} {K : PySem.W.Frag} {mg : Str → Option Value} {base : Heap} {CX : CXT} {x : Str} {ps : List Str} {st : Stmt} {k : Nat} {sp : Sp} (d : DefAt K mg x ps st) (h : ∀ {f : Addr} {fd : FuncData}, Fun K x x st f fd → FnOk P w K mg base CX k f fd ps sp) : DefOk P w K mg base CX x ps k sp :=
  ⟨d.f, d.fd, h d.F, d.m, d.F.kp, d.b⟩
section
variable {X : Cx}
theorem pcall {x : Str} {ps : List Str} {j k : Nat} {sp : Sp} {e : Expr} {es : List Expr} {t : TA} {p pos : Pos} (c : DefOk X.prog X.w X.K X.mg X.base CX0 x ps j sp) (hr : Room k X.A) (ha : PA X (e :: es) t) (hj : j ≤ k := by first | decide | omega) (hg : Gl X x := by rfl)
    (db0 : (x == ("__debug__" : Str)) = false := by decide) (st0 : starEach (e :: es) X.env = (false, eval e X.env) :: starEach es X.env := by rfl) (pl0 : (backTo pos (starEach es X.env)).any (·.1) = false := by rfl) :
    PE X (.Call (.Name x p) (e :: es) [] pos) (tCall sp [] E0 t) := pe_call c.G (hr.mono hj) hg c.m c.kp c.b .nil pass0 ha db0 st0 pl0
/-- a text n times -/
theorem op_mul_str : OpR X (binaryOp .Mult) (fun x y H Q => ∃ (z : Str) (n : Int), x = .str z ∧ y = .int n ∧ 2 ≤ n ∧ n ≤ 1000 ∧ 1 ≤ z.length ∧ z.length ≤ 1000 ∧ ∀ r : Str, TL.tl r = (List.replicate n.toNat (TL.tl z)).flatten → Q (.str r) H) := by
  intro pins s σ H x y v u Q I rx ry h
  obtain ⟨z, n, rfl, rfl, h2, h3, h4, h5, q⟩ := h
  obtain ⟨t, rfl⟩ := rx
  obtain ⟨t', rfl⟩ := ry
  have n1 : ¬ n < 1 := by omega
  have n2 : ¬ (n == 1 || z.length == 0) = true := by
    rw [Bool.or_eq_true, beq_iff_eq, beq_iff_eq]; omega
  have hr : (decide (n < -(2 ^ 63 : Int)) || decide (n ≥ 2 ^ 63)) = false := by
    rw [decide_eq_false (by omega), decide_eq_false (by omega)]; rfl
  have hm : z.length * n.toNat ≤ 1000 * 1000 := Nat.mul_le_mul h5 (by omega)
  have hl : Builtin.Str.tooLong (z.length * n.toNat) = false := by
    unfold Builtin.Str.tooLong
    have e : sizeLine = 16777216 := sizeLine_eq
    rw [decide_eq_false (by omega)]
  have hb : ¬ ((z.length : Int) > (2 ^ 63 - 1) / n) := by
    have : (1000 : Int) ≤ (2 ^ 63 - 1) / n := by
      rw [Int.le_ediv_iff_mul_le (by omega)]
      omega
    omega
  refine PySem.P.mul_str hr (fun _ _ => hb) (fun _ _ => hl) ?_
  rw [if_neg n1, if_neg n2]
  have hf : ∀ (k : Nat) (acc : Array Nat), ((List.replicate k z.cps).foldl (· ++ ·) acc).toList = acc.toList ++ (List.replicate k z.cps.toList).flatten := by
    intro k
    induction k with
    | zero => intro acc; simp
    | succ k ih =>
      intro acc
      rw [List.replicate_succ, List.foldl_cons, ih, List.replicate_succ, List.flatten_cons, Array.toList_append, List.append_assoc]
  have hr : TL.tl (⟨(List.replicate n.toNat z.cps).foldl (· ++ ·) #[]⟩ : Str) = (List.replicate n.toNat (TL.tl z)).flatten := by
    show ((List.replicate n.toNat z.cps).foldl (· ++ ·) #[]).toList = _
    rw [hf]; rfl
  have hlen : (⟨(List.replicate n.toNat z.cps).foldl (· ++ ·) #[]⟩ : Str).length ≤ sizeLine := by
    rw [TL.len_tl, hr]
    have e : sizeLine = 16777216 := sizeLine_eq
    have z2 : ((List.replicate n.toNat (TL.tl z)).flatten).length = z.length * n.toNat := by
      rw [TL.len_tl]
      generalize n.toNat = k
      induction k with
      | zero => rfl
      | succ k ih => rw [List.replicate_succ, List.flatten_cons, List.length_append, ih, Nat.mul_succ, Nat.add_comm]
    omega
  exact ⟨hlen, .str _, H, I.tok _, ⟨_, rfl⟩, q _ hr⟩
/-- for c in a text -/
theorem for_str {z : Str} {g : TG} {tb : TS} {D : Ends} {σ : St} {H : Hp} (Pv : Nat → St → Hp → Prop) (h0 : Pv 0 σ H)
    (hs : ∀ i c σ H, (TL.tl z)[i]? = some c → Pv i σ H → g (.str ⟨#[c]⟩) σ H fun σ2 H2 => tb { D with nx := Pv (i + 1), ct := Pv (i + 1), bk := D.nx } σ2 H2) (hd : ∀ σ H, Pv (TL.tl z).length σ H → D.nx σ H) :
    ∃ W : Nat → Nat → St → Hp → Prop, (∃ m, W 0 m σ H) ∧ ∀ i m σ H, W i m σ H →
      ((Its z).stop i H ∧ D.nx σ H) ∨ ((Its z).go i H ∧ ∃ N : St → Hp → Prop, (∀ σ' H', N σ' H' → ∃ m', m' < m ∧ W (i + 1) m' σ' H') ∧ ∀ x H', (Its z).yld i H x H' → g x σ H' fun σ2 H2 => tb { D with nx := N, ct := N, bk := D.nx } σ2 H2) := by
  have hl : (TL.tl z).length = z.cps.size := Array.length_toList
  refine ⟨fun i m σ H => m = (TL.tl z).length - i ∧ i ≤ (TL.tl z).length ∧ Pv i σ H, ⟨(TL.tl z).length, rfl, Nat.zero_le _, h0⟩, ?_⟩
  rintro i m σ H ⟨rfl, le1, pv1⟩
  by_cases lt1 : i < (TL.tl z).length
  · refine .inr ⟨(by show i < z.cps.size; omega), Pv (i + 1), fun σ' H' p' => ⟨(TL.tl z).length - (i + 1), by omega, rfl, lt1, p'⟩, fun x H' y => ?_⟩
    obtain ⟨e, c, hc, ex⟩ := y
    subst e
    subst ex
    exact hs i c σ H' (by rw [Array.getElem?_toList]; exact hc) pv1
  · have e : i = (TL.tl z).length := by omega
    subst e
    exact .inl ⟨(by show z.cps.size ≤ _; omega), hd σ H pv1⟩
end
/-! ### heaps -/
/-- all but what stands at p is as it was -/
def But (p : Addr) (H H' : Hp) : Prop := ∀ b o, H b = some o → b ≠ p → H' b = some o
theorem But.refl (p : Addr) (H : Hp) : But p H H := fun _ _ h _ => h
theorem But.trans {p : Addr} {H H1 H2 : Hp} (a : But p H H1) (b : But p H1 H2) : But p H H2 := fun c o h n => b c o (a c o h n) n
theorem But.of {p : Addr} {H H' : Hp} (a : Same H H') : But p H H' := fun c o h _ => a c o h
theorem same_new {H : Hp} {p : Addr} (h : H p = none) (o : HO) : Same H (upd H p o) := fun b u q => by rw [upd_ne (ne_of_none q h)]; exact q
theorem but_upd {H : Hp} {p : Addr} (o : HO) : But p H (upd H p o) := fun b u q n => by rw [upd_ne n]; exact q
theorem same_seqT {K : PySem.W.Frag} {H H' : Hp} {a : Addr} {xs : List V} (e : Same H H') (h : SqT K H a xs) : SqT K H' a xs := by
  rcases h with (h | ⟨o, h⟩) | h
  · exact .inl (.inl (e _ _ h))
  · exact .inl (.inr ⟨o, e _ _ h⟩)
  · exact .inr h
/-- tuples stay where only a list may change -/
theorem But.seqT {K : PySem.W.Frag} {H H' : Hp} {p a : Addr} {xs ys : List V} (e : But p H H') (hp : H p = some (.lst ys)) (h : SqT K H a xs) : SqT K H' a xs := by
  rcases h with (h | ⟨o, h⟩) | h
  · exact .inl (.inl (e _ _ h (ne_of h hp (by intro z; cases z))))
  · exact .inl (.inr ⟨o, e _ _ h (ne_of h hp (by intro z; cases z))⟩)
  · exact .inr h
theorem But.seqL {K : PySem.W.Frag} {H H' : Hp} {p a : Addr} {xs : List V} (e : But p H H') (hp : a ≠ p) (h : SqL K H a xs) : SqL K H' a xs := by
  rcases h with (h | ⟨o, h⟩) | h
  · exact .inl (.inl (e _ _ h hp))
  · exact .inl (.inr ⟨o, e _ _ h hp⟩)
  · exact .inr h
end Mus

set_option maxRecDepth 100000
set_option maxHeartbeats 4000000
/-! Plain data of any kind in the heap, beside one list (the bag, at p) that changes. -/
namespace Mus
open PySem L2
theorem sl : sizeLine = 16777216 := sizeLine_eq
theorem dT {p : Prop} [Decidable p] {A B : Prop} (h : p) (a : A) : if decide p = true then A else B := by
  rw [decide_eq_true h]; exact iteT a
theorem dF {p : Prop} [Decidable p] {A B : Prop} (h : ¬ p) (b : B) : if decide p = true then A else B := by
  rw [decide_eq_false h]; exact iteF b
theorem nT {p : Prop} [Decidable p] {A B : Prop} (h : ¬ p) (a : A) : if (!decide p) = true then A else B := by
  rw [decide_eq_false h]; exact iteT a
theorem nF {p : Prop} [Decidable p] {A B : Prop} (h : p) (b : B) : if (!decide p) = true then A else B := by
  rw [decide_eq_true h]; exact iteF b
theorem at_int {α : Type} {xs : List α} {i : Int} {v : α} (h0 : 0 ≤ i) (h : xs[i.toNat]? = some v) : atI xs i = some v := by
  have e : i = ((i.toNat : Nat) : Int) := by omega
  rw [e]
  exact atI_nat h
theorem pe_const {X : Cx} {x : Str} {i : Int} {pos : Pos} (hm : ∃ t, X.mg x = some (.int i t)) (hg : Gl X x := by rfl) (hd : (x == ("__debug__" : Str)) = false := by decide) : PE X (.Name x pos) (tC (.int i)) := by
  obtain ⟨t, h⟩ := hm
  exact pe_glob hg h ⟨t, rfl⟩ hd
theorem pe_ty {X : Cx} {x : Str} {pos : Pos} (n : String) (hm : X.mg x = none) (hv : bootBuiltins x = some (.type n) := by decide +kernel) (hg : Gl X x := by rfl) (hn : x ≠ "__name__" := by decide) (hd : (x == ("__debug__" : Str)) = false := by decide) : PE X (.Name x pos) (tC (.ty n)) := pe_bltn hg hm hv rfl hn hd
theorem pe_cls {X : Cx} {x : Str} {C : Addr} {pos : Pos} (hm : X.mg x = some (.ref C)) (hg : Gl X x := by rfl) (hd : (x == ("__debug__" : Str)) = false := by decide) : PE X (.Name x pos) (tC (.ref C)) := pe_glob (v := .ref C) hg hm rfl hd
mutual
/-- the value v stands for the data d, all of it tracked and none of it at p -/
inductive Rp (p : Addr) (H : Hp) : V → PyData → Prop
  | non : Rp p H .non .none
  | bl (b : Bool) : Rp p H (.bl b) (.bool b)
  | int (i : Int) : Rp p H (.int i) (.int i)
  | str (x : Str) : Rp p H (.str x) (.str x)
  | lst {a : Addr} {xs : List V} {ds : List PyData} : H a = some (.lst xs) → a ≠ p → Rps p H xs ds → Rp p H (.ref a) (.list ds)
  | tup {a : Addr} {xs : List V} {ds : List PyData} : H a = some (.tup xs) → a ≠ p → xs.length ≤ 100000 → Rps p H xs ds → Rp p H (.ref a) (.tuple ds)
inductive Rps (p : Addr) (H : Hp) : List V → List PyData → Prop
  | nil : Rps p H [] []
  | cons {v : V} {vs : List V} {d : PyData} {ds : List PyData} : Rp p H v d → Rps p H vs ds → Rps p H (v :: vs) (d :: ds)
end
mutual
theorem Rp.mono {p : Addr} {H H' : Hp} (k : But p H H') : ∀ {v : V} {d : PyData}, Rp p H v d → Rp p H' v d
  | _, _, .non => .non
  | _, _, .bl b => .bl b
  | _, _, .int i => .int i
  | _, _, .str x => .str x
  | _, _, .lst h n r => .lst (k _ _ h n) n (Rps.mono k r)
  | _, _, .tup h n l r => .tup (k _ _ h n) n l (Rps.mono k r)
theorem Rps.mono {p : Addr} {H H' : Hp} (k : But p H H') : ∀ {vs : List V} {ds : List PyData}, Rps p H vs ds → Rps p H' vs ds
  | _, _, .nil => .nil
  | _, _, .cons a b => .cons (Rp.mono k a) (Rps.mono k b)
end
mutual
theorem Rp.dp {p : Addr} {K : PySem.W.Frag} {H : Hp} : ∀ {v : V} {d : PyData}, Rp p H v d → Dp K H v d
  | _, _, .non => .non
  | _, _, .bl b => .bl b
  | _, _, .int i => .int i
  | _, _, .str x => .str x
  | _, _, .lst h n r => .lst (SqL.of h) (Rps.dp r)
  | _, _, .tup h n _ r => .tup (SqT.of h) (Rps.dp r)
theorem Rps.dp {p : Addr} {K : PySem.W.Frag} {H : Hp} : ∀ {vs : List V} {ds : List PyData}, Rps p H vs ds → DpAll K H vs ds
  | _, _, .nil => .nil
  | _, _, .cons a b => .cons (Rp.dp a) (Rps.dp b)
end
theorem Rp.same {p : Addr} {H H' : Hp} {v : V} {d : PyData} (k : Same H H') (h : Rp p H v d) : Rp p H' v d := h.mono (But.of k)
theorem Rps.same {p : Addr} {H H' : Hp} {vs : List V} {ds : List PyData} (k : Same H H') (h : Rps p H vs ds) : Rps p H' vs ds := h.mono (But.of k)
theorem Rps.length {p : Addr} {H : Hp} : ∀ {vs : List V} {ds : List PyData}, Rps p H vs ds → vs.length = ds.length
  | _, _, .nil => rfl
  | _, _, .cons _ r => by rw [List.length_cons, List.length_cons, Rps.length r]
theorem Rps.at {p : Addr} {H : Hp} : ∀ {vs : List V} {ds : List PyData} {i : Nat} {v : V}, Rps p H vs ds → vs[i]? = some v → ∃ d, ds[i]? = some d ∧ Rp p H v d
  | _, _, i, v, .nil, h => by simp at h
  | _, _, 0, v, .cons a _, h => by cases h; exact ⟨_, rfl, a⟩
  | _, _, i + 1, v, .cons _ r, h => Rps.at (i := i) r (by simpa using h)
theorem Rps.get {p : Addr} {H : Hp} : ∀ {vs : List V} {ds : List PyData} {i : Nat} {d : PyData}, Rps p H vs ds → ds[i]? = some d → ∃ v, vs[i]? = some v ∧ Rp p H v d
  | _, _, i, v, .nil, h => by simp at h
  | _, _, 0, v, .cons a _, h => by cases h; exact ⟨_, rfl, a⟩
  | _, _, i + 1, v, .cons _ r, h => Rps.get (i := i) r (by simpa using h)
theorem Rps.append {p : Addr} {H : Hp} : ∀ {vs ws : List V} {ds es : List PyData}, Rps p H vs ds → Rps p H ws es → Rps p H (vs ++ ws) (ds ++ es)
  | _, _, _, _, .nil, r => r
  | _, _, _, _, .cons a q, r => .cons a (Rps.append q r)
theorem Rps.take {p : Addr} {H : Hp} : ∀ {vs : List V} {ds : List PyData} (n : Nat), Rps p H vs ds → Rps p H (vs.take n) (ds.take n)
  | _, _, 0, _ => .nil
  | _, _, n + 1, .nil => .nil
  | _, _, n + 1, .cons a q => .cons a (Rps.take n q)
theorem Rps.drop {p : Addr} {H : Hp} : ∀ {vs : List V} {ds : List PyData} (n : Nat), Rps p H vs ds → Rps p H (vs.drop n) (ds.drop n)
  | _, _, 0, r => r
  | _, _, n + 1, .nil => .nil
  | _, _, n + 1, .cons a q => Rps.drop n q
/-! ### classes of data -/
def tyD : PyData → Value
  | .none => .type "NoneType" | .bool _ => .type "bool" | .int _ => .type "int" | .str _ => .type "str" | .list _ => .type "list" | .tuple _ => .type "tuple" | .dict _ => .type "dict"
theorem Rp.ty {p : Addr} {K : PySem.W.Frag} {H : Hp} {v : V} {d : PyData} (h : Rp p H v d) : TyX K H v (tyD d) := by
  cases h with
  | non => exact .base .non
  | bl b => exact .base (.bl b)
  | int i => exact .base (.int i)
  | str x => exact .base (.str x)
  | lst h _ _ => exact .base (.lst h)
  | tup h _ _ _ => exact .base (.tup h)
def dInt : PyData → Bool
  | .int _ => true | .bool _ => true | _ => false
def dBool : PyData → Bool
  | .bool _ => true | _ => false
def dStr : PyData → Bool
  | .str _ => true | _ => false
def dTup : PyData → Bool
  | .tuple _ => true | _ => false
theorem kit_int {K : PySem.W.Frag} : ∀ d : PyData, PySem.W.kitOne K (tyD d) (.type "int") = some (dInt d)
  | .none => kit_ty (r := false) (by decide +kernel)
  | .bool _ => kit_ty (r := true) (by decide +kernel)
  | .int _ => kit_ty (r := true) (by decide +kernel)
  | .str _ => kit_ty (r := false) (by decide +kernel)
  | .list _ => kit_ty (r := false) (by decide +kernel)
  | .tuple _ => kit_ty (r := false) (by decide +kernel)
  | .dict _ => kit_ty (r := false) (by decide +kernel)
theorem kit_bool {K : PySem.W.Frag} : ∀ d : PyData, PySem.W.kitOne K (tyD d) (.type "bool") = some (dBool d)
  | .none => kit_ty (r := false) (by decide +kernel)
  | .bool _ => kit_ty (r := true) (by decide +kernel)
  | .int _ => kit_ty (r := false) (by decide +kernel)
  | .str _ => kit_ty (r := false) (by decide +kernel)
  | .list _ => kit_ty (r := false) (by decide +kernel)
  | .tuple _ => kit_ty (r := false) (by decide +kernel)
  | .dict _ => kit_ty (r := false) (by decide +kernel)
theorem kit_str {K : PySem.W.Frag} : ∀ d : PyData, PySem.W.kitOne K (tyD d) (.type "str") = some (dStr d)
  | .none => kit_ty (r := false) (by decide +kernel)
  | .bool _ => kit_ty (r := false) (by decide +kernel)
  | .int _ => kit_ty (r := false) (by decide +kernel)
  | .str _ => kit_ty (r := true) (by decide +kernel)
  | .list _ => kit_ty (r := false) (by decide +kernel)
  | .tuple _ => kit_ty (r := false) (by decide +kernel)
  | .dict _ => kit_ty (r := false) (by decide +kernel)
theorem kit_tup {K : PySem.W.Frag} : ∀ d : PyData, PySem.W.kitOne K (tyD d) (.type "tuple") = some (dTup d)
  | .none => kit_ty (r := false) (by decide +kernel)
  | .bool _ => kit_ty (r := false) (by decide +kernel)
  | .int _ => kit_ty (r := false) (by decide +kernel)
  | .str _ => kit_ty (r := false) (by decide +kernel)
  | .list _ => kit_ty (r := false) (by decide +kernel)
  | .tuple _ => kit_ty (r := true) (by decide +kernel)
  | .dict _ => kit_ty (r := false) (by decide +kernel)
end Mus
namespace Mus
open PySem L2
/-! ### members and view ids, as functions of data -/
def isInt (d : PyData) (a b : Int) : Bool := match d with | .int i => decide (a ≤ i) && decide (i ≤ b) | _ => false
def isProc (c d : PyData) : Bool := match c with | .int n => (decide (1 ≤ n) && decide (n ≤ 12)) && isInt d 0 (n - 1) | _ => false
def isMem (c : PyData) : PyData → Bool
  | .tuple [x, y] => isProc c x && isInt y 1 1000000000000
  | _ => false
def isVid (c : PyData) : PyData → Bool
  | .tuple [x, y] => isInt x 0 1000000000000 && isMem c y
  | _ => false
def procOf : PyData → Int
  | .tuple (.int i :: _) => i
  | _ => 0
def memsFrom (c : PyData) : Int → List PyData → Bool
  | _, [] => true
  | l, d :: ds => isMem c d && decide (l < procOf d) && memsFrom c (procOf d) ds
def isMems (c : PyData) : PyData → Bool
  | .tuple ds => !ds.isEmpty && memsFrom c (-1) ds
  | _ => false
theorem isProc_int {c d : PyData} (h : isProc c d = true) : ∃ n i, c = .int n ∧ d = .int i ∧ 1 ≤ n ∧ n ≤ 12 ∧ 0 ≤ i ∧ i < n := by
  cases c <;> try (simp [isProc] at h; done)
  rename_i n
  cases d <;> try (simp [isProc, isInt] at h; done)
  rename_i i
  simp [isProc, isInt] at h
  exact ⟨n, i, rfl, rfl, by omega, by omega, by omega, by omega⟩
theorem isInt_int {d : PyData} {a b : Int} (h : isInt d a b = true) : ∃ i, d = .int i ∧ a ≤ i ∧ i ≤ b := by
  cases d <;> try (simp [isInt] at h; done)
  rename_i i
  simp [isInt] at h
  exact ⟨i, rfl, h.1, h.2⟩
theorem isMem_int {c d : PyData} (h : isMem c d = true) : ∃ n i l, c = .int n ∧ d = .tuple [.int i, .int l] ∧ 1 ≤ n ∧ n ≤ 12 ∧ 0 ≤ i ∧ i < n ∧ 1 ≤ l ∧ l ≤ 1000000000000 := by
  unfold isMem at h
  split at h
  · rename_i x y
    rw [Bool.and_eq_true] at h
    obtain ⟨n, i, rfl, rfl, h1, h2, h3, h4⟩ := isProc_int h.1
    obtain ⟨l, rfl, h5, h6⟩ := isInt_int h.2
    exact ⟨n, i, l, rfl, rfl, h1, h2, h3, h4, h5, h6⟩
  · cases h
/-! ### promises: a truth told of data, nothing changed -/
def spI : Sp := fun vs H Q _ => ∃ (p : Addr) (v : V) (d : PyData) (a b : Int), vs = [v, .int a, .int b] ∧ Rp p H v d ∧ Q (.bl (isInt d a b)) H
def spB1 (f : PyData → Bool) : Sp := fun vs H Q _ => ∃ (p : Addr) (v : V) (d : PyData), vs = [v] ∧ Rp p H v d ∧ Q (.bl (f d)) H
def spB2 (f : PyData → PyData → Bool) : Sp := fun vs H Q _ => ∃ (p : Addr) (u v : V) (c d : PyData), vs = [u, v] ∧ Rp p H u c ∧ Rp p H v d ∧ Q (.bl (f c d)) H
/-- the same where new things may have come -/
def spS1 (f : PyData → Bool) : Sp := fun vs H Q _ => ∃ (p : Addr) (v : V) (d : PyData), vs = [v] ∧ Rp p H v d ∧ ∀ H', Same H H' → Q (.bl (f d)) H'
def spS2 (f : PyData → PyData → Bool) : Sp := fun vs H Q _ => ∃ (p : Addr) (u v : V) (c d : PyData), vs = [u, v] ∧ Rp p H u c ∧ Rp p H v d ∧ ∀ H', Same H H' → Q (.bl (f c d)) H'
theorem ansB {Q : VK} {H : Hp} {b c : Bool} (q : Q (.bl b) H) (e : b = c) : Q (.bl c) H := e ▸ q
theorem iB {A B : Prop} {b : Bool} (h1 : b = true → A) (h2 : b = false → B) : if b = true then A else B := by
  cases b
  · exact iteF (h2 rfl)
  · exact iteT (h1 rfl)
theorem vint_ne {a b : Int} (h : a ≠ b) : ¬ V.int a = V.int b := fun e => h (V.int.inj e)
theorem drop_cons {α : Type} {xs : List α} {i : Nat} {x : α} (h : xs[i]? = some x) : xs.drop i = x :: xs.drop (i + 1) := by
  obtain ⟨hi, e⟩ := List.getElem?_eq_some_iff.mp h
  rw [List.drop_eq_getElem_cons hi, e]
section
variable {P : Program} {w : World} {K : PySem.W.Frag} {mg : Str → Option Value} {base : Heap}
theorem no_call {CX : CXT} {k : Nat} {f : Addr} {fd : FuncData} {ps : List Str} {sp : Sp} (no : ∀ vs H Q E, ¬ sp vs H Q E) : FnOk P w K mg base CX k f fd ps sp :=
  ⟨fun vs H Q E h => absurd h (no vs H Q E), fun A outer s H args us vs Q E _ _ _ _ h => absurd h (no vs H Q E)⟩
end
end Mus

set_option maxRecDepth 100000
set_option maxHeartbeats 4000000
/-! The bag of a law's draws, new things beside it, displays of data, tuples cut and joined. -/
namespace Mus
open PySem L2
def Bag (p : Addr) (c : Int) (H : Hp) : Prop := ∃ x y : Int, H p = some (.lst [.int x, .int y, .int c])
theorem Bag.seqT {K : PySem.W.Frag} {p : Addr} {c : Int} {H H' : Hp} (g : Bag p c H) (b : But p H H') {a : Addr} {xs : List V} (h : SqT K H a xs) : SqT K H' a xs := by
  obtain ⟨x, y, hp⟩ := g
  exact b.seqT hp h
theorem Bag.ne {p D : Addr} {c : Int} {H : Hp} (g : Bag p c H) (h : H D = none) : p ≠ D := by
  obtain ⟨x, y, hp⟩ := g
  exact ne_of_none hp h
theorem Bag.upd {p D : Addr} {c : Int} {H : Hp} {o : HO} (g : Bag p c H) (h : p ≠ D) : Bag p c (upd H D o) := by
  obtain ⟨x, y, hp⟩ := g
  exact ⟨x, y, by rw [upd_ne h]; exact hp⟩
theorem Bag.new {p D : Addr} {c : Int} {H : Hp} {o : HO} (g : Bag p c H) (h : H D = none) : Bag p c (L2.upd H D o) := g.upd (g.ne h)
theorem Bag.same {p : Addr} {c : Int} {H H' : Hp} (g : Bag p c H) (s : Same H H') : Bag p c H' := by
  obtain ⟨x, y, hp⟩ := g
  exact ⟨x, y, s _ _ hp⟩
/-- a new thing -/
theorem But.new {p D : Addr} {H H' : Hp} {o : HO} (b : But p H H') (h : H' D = none) : But p H (L2.upd H' D o) := fun a u e n => by
  have z := b a u e n
  rw [upd_ne (ne_of_none z h)]; exact z
/-- a change at what was not there at first -/
theorem But.later {p D : Addr} {H H' : Hp} {o : HO} (b : But p H H') (h : H D = none) : But p H (L2.upd H' D o) := fun a u e n => by
  rw [upd_ne (ne_of_none e h)]; exact b a u e n
theorem But.free {p D : Addr} {H H' : Hp} (b : But p H H') (h : H' D = none) (n : D ≠ p) : H D = none := by
  cases e : H D with
  | none => rfl
  | some o =>
    have z := b D o e n
    rw [h] at z; cases z
/-! ### displays -/
/-- the expression gives the int i, and that is all -/
def DI (te : TE) (σ : St) (i : Int) : Prop := ∀ (H : Hp) (Q : VK), Q (.int i) H → te σ H Q
/-- the expression gives the data d, new things beside what was -/
def DE (p : Addr) (te : TE) (σ : St) (d : PyData) : Prop := ∀ (c : Int) (H : Hp) (Q : VK), Bag p c H → (∀ v H', Same H H' → Bag p c H' → Rp p H' v d → Q v H') → te σ H Q
def DEs (p : Addr) (ta : TA) (σ : St) (ds : List PyData) : Prop := ∀ (c : Int) (H : Hp) (Q : List V → Hp → Prop), Bag p c H → (∀ vs H', Same H H' → Bag p c H' → Rps p H' vs ds → Q vs H') → ta σ H Q
section
variable {p : Addr} {σ : St} {te ta1 tb1 : TE} {ta : TA} {i j : Int} {d : PyData} {ds : List PyData}
theorem Same.rfl' (H : Hp) : Same H H := fun _ _ h => h
theorem di_c : DI (tC (.int i)) σ i := fun _ _ q => q
theorem di_v {n : Nat} (h : σ[n]? = some (some (.int i))) : DI (tVar n) σ i := fun _ _ q => ⟨_, h, q⟩
theorem di_op {f : Int → Int → Int} (h1 : DI ta1 σ i) (h2 : DI tb1 σ j) : DI (tOp (rI0 fun i j => .int (f i j)) ta1 tb1) σ (f i j) := fun H Q q => h1 H _ (h2 H _ ⟨i, j, rfl, rfl, q⟩)
theorem di_opC {C : Int → Int → Prop} {f : Int → Int → Int} (h1 : DI ta1 σ i) (h2 : DI tb1 σ j) (hc : C i j) : DI (tOp (rI C fun i j => .int (f i j)) ta1 tb1) σ (f i j) := fun H Q q => h1 H _ (h2 H _ ⟨i, j, rfl, rfl, hc, q⟩)
theorem di_neg (h1 : DI te σ i) : DI (tUn (rU fun i => .int (-i)) te) σ (-i) := fun H Q q => h1 H _ ⟨i, rfl, q⟩
theorem de_i (h : DI te σ i) : DE p te σ (.int i) := fun c H Q g q => h H Q (q _ H (Same.rfl' H) g (.int i))
theorem de_bl {b : Bool} : DE p (tC (.bl b)) σ (.bool b) := fun c H Q g q => q _ H (Same.rfl' H) g (.bl b)
theorem de_str {z : Str} : DE p (tC (.str z)) σ (.str z) := fun c H Q g q => q _ H (Same.rfl' H) g (.str z)
theorem de_non : DE p (tC .non) σ .none := fun c H Q g q => q _ H (Same.rfl' H) g .non
theorem des_nil : DEs p tNil σ [] := fun c H Q g q => q [] H (Same.rfl' H) g .nil
theorem des_cons (h1 : DE p te σ d) (h2 : DEs p ta σ ds) : DEs p (tCons te ta) σ (d :: ds) := fun c H Q g q =>
  h1 c H _ g fun v H1 s1 g1 r1 => h2 c H1 _ g1 fun vs H2 s2 g2 r2 => q _ H2 (s1.trans s2) g2 (.cons (r1.same s2) r2)
theorem de_tup (h : DEs p ta σ ds) (hl : ds.length ≤ 1000) : DE p (tTup ta) σ (.tuple ds) := fun c H Q g q =>
  h c H _ g fun vs H1 s1 g1 r1 => ⟨by have := r1.length; have := sl; omega, fun a na => q _ _ (s1.trans (same_new na _)) (g1.new na) (.tup upd_same (g1.ne na).symm (by have := r1.length; omega) (r1.same (same_new na _)))⟩
theorem de_lst (h : DEs p ta σ ds) (hl : ds.length ≤ 1000) : DE p (tLst ta) σ (.list ds) := fun c H Q g q =>
  h c H _ g fun vs H1 s1 g1 r1 => ⟨by have := r1.length; have := sl; omega, fun a na => q _ _ (s1.trans (same_new na _)) (g1.new na) (.lst upd_same (g1.ne na).symm (r1.same (same_new na _)))⟩
theorem de_lstN (n : Nat) (R : PyData → Prop) {c : Int} {H : Hp} {Q : VK} (h : ∃ ds, DEs p ta σ ds ∧ ds.length = n ∧ ∀ d ∈ ds, R d) (hn : n ≤ 1000) (g : Bag p c H)
    (q : ∀ ds v H', ds.length = n → (∀ d ∈ ds, R d) → Same H H' → Bag p c H' → Rp p H' v (.list ds) → Q v H') : tLst ta σ H Q := by
  obtain ⟨ds, h1, h2, h3⟩ := h
  exact de_lst h1 (by omega) c H Q g fun v H' => q ds v H' h2 h3
theorem de_cat {es : List PyData} (h1 : DE p ta1 σ (.list ds)) (h2 : DE p tb1 σ (.list es)) (hl : ds.length + es.length ≤ 1000) : DE p (tOp rCat ta1 tb1) σ (.list (ds ++ es)) := fun c H Q g q =>
  h1 c H _ g fun v H1 s1 g1 r1 => h2 c H1 _ g1 fun u H2 s2 g2 r2 => by
    obtain _ | _ | _ | _ | @⟨a, xs, _, ha, na, hr⟩ | _ := r1.same s2
    obtain _ | _ | _ | _ | @⟨b, ys, _, hb, nb, hr2⟩ | _ := r2
    refine ⟨a, b, xs, ys, rfl, rfl, ha, hb, ?_, fun t nt => q _ _ (s1.trans (s2.trans (same_new nt _))) (g2.new nt) (.lst upd_same (g2.ne nt).symm ((hr.append hr2).same (same_new nt _)))⟩
    have := hr.length; have := hr2.length; have := sl; omega
theorem de_varD {n : Nat} {v : V} (h : σ[n]? = some (some v)) (hd : ∀ H, Rp p H v d) : DE p (tVar n) σ d := fun c H Q g q => ⟨_, h, q _ H (Same.rfl' H) g (hd H)⟩
end
/-! ### tuples cut and joined -/
def cutD (ds : List PyData) (lo hi : Option Int) : List PyData := (ds.drop (HT.sIx ds.length 0 lo)).take (HT.sIx ds.length ds.length hi - HT.sIx ds.length 0 lo)
theorem Rps.cut {p : Addr} {H : Hp} {vs : List V} {ds : List PyData} (r : Rps p H vs ds) (lo hi : Option Int) : Rps p H (cutV vs lo hi) (cutD ds lo hi) := by
  unfold cutV cutD
  rw [r.length]
  exact (r.drop _).take _
theorem cutD_len (ds : List PyData) (lo hi : Option Int) : (cutD ds lo hi).length ≤ ds.length := by
  unfold cutD
  rw [List.length_take, List.length_drop]; omega
theorem cutD_mem {ds : List PyData} {lo hi : Option Int} {d : PyData} (h : d ∈ cutD ds lo hi) : d ∈ ds := List.mem_of_mem_drop (List.mem_of_mem_take h)
theorem cut_whole {xs : List V} {lo hi : Option Int} (h : HT.sIx xs.length 0 lo = 0 ∧ HT.sIx xs.length xs.length hi = xs.length) : cutV xs lo hi = xs := by
  unfold cutV
  rw [h.1, h.2, List.drop_zero, Nat.sub_zero, List.take_length]
section
variable {K : PySem.W.Frag} {p : Addr} {c : Int} {H : Hp} {Q : VK}
theorem rd_cut {a : Addr} {ds : List PyData} {lo hi : Option Int} (r : Rp p H (.ref a) (.tuple ds)) (g : Bag p c H)
    (q : ∀ b H', Same H H' → Bag p c H' → Rp p H' (.ref b) (.tuple (cutD ds lo hi)) → Q (.ref b) H') : rSlA K (.ref a) lo hi H Q := by
  obtain _ | _ | _ | _ | _ | @⟨_, xs, _, ha, na, hw, hr⟩ := r
  refine ⟨a, xs, rfl, SqT.of ha, fun w => ?_, fun w b nb => ?_⟩
  · refine q _ _ (Same.rfl' H) g (.tup ha na hw ?_)
    have z := hr.cut lo hi
    rw [cut_whole w] at z
    exact z
  · exact q _ _ (same_new nb _) (g.new nb) (.tup upd_same (g.ne nb).symm (Nat.le_trans (cutV_length _ _ _) hw) ((hr.cut lo hi).same (same_new nb _)))
theorem rd_cat {a b : Addr} {ds es : List PyData} (r1 : Rp p H (.ref a) (.tuple ds)) (r2 : Rp p H (.ref b) (.tuple es)) (g : Bag p c H) (hl : ds.length + es.length ≤ 100000)
    (q : ∀ t H', Same H H' → Bag p c H' → Rp p H' (.ref t) (.tuple (ds ++ es)) → Q (.ref t) H') : rCatA K (.ref a) (.ref b) H Q := by
  have k2 := r2
  have k1 := r1
  obtain _ | _ | _ | _ | _ | @⟨_, xs, _, ha, na, hw, hr⟩ := r1
  obtain _ | _ | _ | _ | _ | @⟨_, ys, _, hb, nb, hw2, hr2⟩ := r2
  have l1 := hr.length
  have l2 := hr2.length
  have hs := sl
  refine ⟨a, b, xs, ys, rfl, rfl, SqT.of ha, SqT.of hb, by omega, fun e => ?_, fun _ e => ?_, fun _ _ t nt => ?_⟩
  · subst e
    cases ds with
    | nil => exact q _ _ (Same.rfl' H) g k2
    | cons _ _ => cases l1
  · subst e
    cases es with
    | nil => rw [List.append_nil] at q; exact q _ _ (Same.rfl' H) g k1
    | cons _ _ => cases l2
  · exact q _ _ (same_new nt _) (g.new nt) (.tup upd_same (g.ne nt).symm (by rw [List.length_append]; omega) ((hr.append hr2).same (same_new nt _)))
end
/-! ### how deep and wide, what its texts are -/
def fit : Nat → PyData → Prop
  | 0, .tuple _ => False
  | n + 1, .tuple ds => ds.length ≤ 3000 ∧ ∀ d ∈ ds, fit n d
  | _, _ => True
inductive Her (P : Str → Prop) : PyData → Prop
  | tup {ds : List PyData} : (∀ d ∈ ds, Her P d) → Her P (.tuple ds)
  | str {z : Str} : P z → Her P (.str z)
  | non : Her P .none
  | bl (b : Bool) : Her P (.bool b)
  | int (i : Int) : Her P (.int i)
  | lst (ds : List PyData) : Her P (.list ds)
theorem Her.mem {P : Str → Prop} {ds : List PyData} (h : Her P (.tuple ds)) : ∀ d ∈ ds, Her P d := by
  cases h with
  | tup h => exact h
theorem Her.cut {P : Str → Prop} {ds : List PyData} (h : Her P (.tuple ds)) (lo hi : Option Int) : Her P (.tuple (cutD ds lo hi)) := .tup fun d m => h.mem d (cutD_mem m)
theorem Her.app {P : Str → Prop} {ds es : List PyData} (h : Her P (.tuple ds)) (k : Her P (.tuple es)) : Her P (.tuple (ds ++ es)) := .tup fun d m => by
  rcases List.mem_append.mp m with m | m
  · exact h.mem d m
  · exact k.mem d m
theorem Her.one {P : Str → Prop} {d : PyData} (h : Her P d) : Her P (.tuple [d]) := .tup fun e m => by rw [List.mem_singleton.mp m]; exact h
/-- one level less, if there is one -/
def spv (sp : Nat → Sp) (n : Nat) : Sp := fun vs H Q E => ∃ m, n = m + 1 ∧ sp m vs H Q E
/-- a thing spoilt: some data, its texts from the two -/
def sp_spoilt (n : Nat) : Sp := fun vs H Q _ => ∃ (p : Addr) (c : Int) (v o : V) (d e : PyData), vs = [.ref p, v, o] ∧ Bag p c H ∧ Rp p H v d ∧ Rp p H o e ∧ fit n d ∧
  ∀ v' d' H', Rp p H' v' d' → (∀ P, Her P d → Her P e → Her P d') → But p H H' → Bag p c H' → Q v' H'
def sp_bag (K : PySem.W.Frag) : Sp := fun vs H Q _ => ∃ (a : Addr) (ns : List Int) (k : Nat), vs = [.ref a, .int k] ∧ SqL K H a (ns.map V.int) ∧ ∀ p H', H p = none → Same H H' → Bag p k H' → Q (.ref p) H'
def sp_draw : Sp := fun vs H Q _ => ∃ (p : Addr) (c m : Int), vs = [.ref p, .int m] ∧ Bag p c H ∧ 0 < m ∧ m.natAbs < 2 ^ 100 ∧ ∀ r H', 0 ≤ r → r < m → But p H H' → Bag p c H' → Q (.int r) H'
/-- an int at least 1 and at most 10 ** 12 -/
def sp_pos : Sp := fun vs H Q _ => ∃ (p : Addr) (c : Int), vs = [.ref p] ∧ Bag p c H ∧ ∀ r H', 1 ≤ r → r ≤ 1000000000000 → But p H H' → Bag p c H' → Q (.int r) H'
end Mus
namespace Mus
open PySem L2
/-- no list in it -/
inductive NoL : PyData → Prop
  | tup {ds : List PyData} : (∀ d ∈ ds, NoL d) → NoL (.tuple ds)
  | str (z : Str) : NoL (.str z)
  | non : NoL .none
  | bl (b : Bool) : NoL (.bool b)
  | int (i : Int) : NoL (.int i)
theorem NoL.mem {ds : List PyData} (h : NoL (.tuple ds)) : ∀ d ∈ ds, NoL d := by
  cases h with
  | tup h => exact h
theorem NoL.two {a b : PyData} (h : NoL a) (k : NoL b) : NoL (.tuple [a, b]) := .tup fun d m => by
  rcases List.mem_cons.mp m with rfl | m
  · exact h
  · rw [List.mem_singleton.mp m]; exact k
theorem NoL.three {a b c : PyData} (h : NoL a) (k : NoL b) (l : NoL c) : NoL (.tuple [a, b, c]) := .tup fun d m => by
  rcases List.mem_cons.mp m with rfl | m
  · exact h
  · rcases List.mem_cons.mp m with rfl | m
    · exact k
    · rw [List.mem_singleton.mp m]; exact l
mutual
theorem Rp.upL {p D : Addr} {H H' : Hp} {ys : List V} (hD : H D = some (.lst ys)) (k : ∀ b o, H b = some o → b ≠ p → b ≠ D → H' b = some o) : ∀ {v : V} {d : PyData}, Rp p H v d → NoL d → Rp p H' v d
  | _, _, .non, _ => .non
  | _, _, .bl b, _ => .bl b
  | _, _, .int i, _ => .int i
  | _, _, .str x, _ => .str x
  | _, _, .lst h n r, z => nomatch z
  | _, _, .tup h n l r, z => .tup (k _ _ h n (ne_of h hD (by intro z; cases z))) n l (Rps.upL hD k r z.mem)
theorem Rps.upL {p D : Addr} {H H' : Hp} {ys : List V} (hD : H D = some (.lst ys)) (k : ∀ b o, H b = some o → b ≠ p → b ≠ D → H' b = some o) : ∀ {vs : List V} {ds : List PyData}, Rps p H vs ds → (∀ d ∈ ds, NoL d) → Rps p H' vs ds
  | _, _, .nil, _ => .nil
  | _, _, .cons a b, z => .cons (Rp.upL hD k a (z _ List.mem_cons_self)) (Rps.upL hD k b fun d m => z d (List.mem_cons_of_mem _ m))
end
/-- a change at the list at D -/
theorem Rps.updL {p D : Addr} {H : Hp} {ys : List V} {o : HO} (hD : H D = some (.lst ys)) {vs : List V} {ds : List PyData} (r : Rps p H vs ds) (z : ∀ d ∈ ds, NoL d) : Rps p (upd H D o) vs ds :=
  r.upL hD (fun b o h _ n => by rw [upd_ne n]; exact h) z
theorem Rp.updL {p D : Addr} {H : Hp} {ys : List V} {o : HO} (hD : H D = some (.lst ys)) {v : V} {d : PyData} (r : Rp p H v d) (z : NoL d) : Rp p (upd H D o) v d :=
  r.upL hD (fun b o h _ n => by rw [upd_ne n]; exact h) z
end Mus

set_option maxRecDepth 100000
set_option maxHeartbeats 4000000
/-! Dicts whose keys are nested tuples: {}, d[k], d[k] = v, d.get(k, x), k in d. -/
namespace Mus
open PySem PySem.Spec PyProof.Rows L2
/-! ### keys -/
mutual
inductive NK (H : Hp) : V → NestedKey → Prop
  | non : NK H .non .none
  | int (i : Int) : NK H (.int i) (.num i)
  | str (x : Str) : NK H (.str x) (.text x)
  | tup {a : Addr} {xs : List V} {ks : List NestedKey} : H a = some (.tup xs) → NKs H xs ks → NK H (.ref a) (.tup ks)
inductive NKs (H : Hp) : List V → List NestedKey → Prop
  | nil : NKs H [] []
  | cons {v : V} {vs : List V} {k : NestedKey} {ks : List NestedKey} : NK H v k → NKs H vs ks → NKs H (v :: vs) (k :: ks)
end
mutual
theorem NK.mono {H H' : Hp} (t : ∀ b xs, H b = some (.tup xs) → H' b = some (.tup xs)) : ∀ {v : V} {k : NestedKey}, NK H v k → NK H' v k
  | _, _, .non => .non
  | _, _, .int i => .int i
  | _, _, .str x => .str x
  | _, _, .tup h r => .tup (t _ _ h) (r.mono t)
theorem NKs.mono {H H' : Hp} (t : ∀ b xs, H b = some (.tup xs) → H' b = some (.tup xs)) : ∀ {vs : List V} {ks : List NestedKey}, NKs H vs ks → NKs H' vs ks
  | _, _, .nil => .nil
  | _, _, .cons a b => .cons (a.mono t) (b.mono t)
end
mutual
theorem NK.is {P : Program} {w : World} {H : Hp} {h : Heap} (ok : HOk P w H h) : ∀ {v : V} {k : NestedKey} {u : Value}, NK H v k → RelV v u → NestedIs h k u
  | _, _, _, .non, r => by cases (show _ = Value.none from r); exact .none
  | _, _, _, .int i, r => by obtain ⟨t, rfl⟩ := (show ∃ t, _ = Value.int i t from r); exact .int i t
  | _, _, _, .str x, r => by obtain ⟨t, rfl⟩ := (show ∃ t, _ = Value.str x t from r); exact .text x t
  | _, _, _, .tup (a := a) (xs := xs) e q, r => by
    cases (show _ = Value.ref a from r)
    obtain ⟨_, its, rv, o, h1, h2, n, h3⟩ := (show ObjOk P w H h a (.tup xs) from ok a _ e)
    exact .tup h1 h2 h3 (by simpa using NKs.all ok q rv)
theorem NKs.all {P : Program} {w : World} {H : Hp} {h : Heap} (ok : HOk P w H h) : ∀ {vs : List V} {ks : List NestedKey} {us : List Value}, NKs H vs ks → Vals vs us → NestedAll h ks us
  | _, _, _, .nil, r => by cases r; exact .nil
  | _, _, _, .cons a b, r => by
    cases r with
    | cons r1 r2 => exact .cons (a.is ok r1) (b.all ok r2)
end
/-! ### the dict -/
abbrev NKV := List (NestedKey × Addr × V)
abbrev KN : NKV → List (NestedKey × Addr × Value) → Prop := Paired fun p q => p.1 = q.1 ∧ p.2.1 = q.2.1 ∧ RelV p.2.2 q.2.2
def ndE (w : World) (x : NestedKey × Addr × Value) : DictEntry := ⟨x.1.hash w, .ref x.2.1, x.2.2⟩
def ndΦ (w : World) (d : Addr) (ks : NKV) : Heap → Prop := fun h => ∃ xs o es ep, KN ks xs ∧ h.get? d = some o ∧ o.ExactDict ∧ o.data = .dict es ep ∧ es.toList = xs.map (ndE w)
def ndO (w : World) (d : Addr) (ks : NKV) : HO := .ext (ndΦ w d ks)
structure Nd (w : World) (H : Hp) (d : Addr) (ks : NKV) : Prop where
  ob : H d = some (ndO w d ks)
  keys : ∀ x ∈ ks, NK H (.ref x.2.1) x.1 ∧ x.1.depth ≤ 8
  one : (ks.map (·.1)).Nodup
  sz : ks.length ≤ sizeLine
  sm : (d == sysModules) = false
def valN (ks : NKV) (k : NestedKey) : Option V := (ks.find? fun x => decide (x.1 = k)).map (·.2.2)
def putN (ks : NKV) (k : NestedKey) (b : Addr) (v : V) : NKV := if (valN ks k).isSome then ks.map (fun x => if x.1 = k then (x.1, x.2.1, v) else x) else ks ++ [(k, b, v)]
theorem KN.val {ks : NKV} {xs : List (NestedKey × Addr × Value)} (r : KN ks xs) (k : NestedKey) : RelO (valN ks k) ((atKey xs k).map (·.2)) := by
  unfold valN atKey
  induction r with
  | nil => exact trivial
  | @cons p q ps qs h t ih =>
    rw [List.find?_cons, List.find?_cons]
    by_cases e : p.1 = k
    · have e2 : q.1 = k := h.1 ▸ e
      simp only [e, e2, decide_true]
      exact h.2.2
    · have e2 : ¬ q.1 = k := h.1 ▸ e
      simp only [e, e2, decide_false]
      exact ih
theorem KN.fsts {ks : NKV} {xs : List (NestedKey × Addr × Value)} (r : KN ks xs) : ks.map (·.1) = xs.map (·.1) := by
  induction r with
  | nil => rfl
  | cons h t ih => rw [List.map_cons, List.map_cons, ih, h.1]
theorem KN.repl {ks : NKV} {xs : List (NestedKey × Addr × Value)} (r : KN ks xs) (k : NestedKey) {v : V} {u : Value} (rv : RelV v u) : KN (ks.map fun x => if x.1 = k then (x.1, x.2.1, v) else x) (xs.map (putAt k u)) := by
  induction r with
  | nil => exact .nil
  | @cons p q ps qs h t ih =>
    refine .cons ?_ ih
    unfold putAt
    dsimp only
    by_cases e : p.1 = k
    · have e2 : q.1 = k := h.1 ▸ e
      rw [if_pos e, if_pos e2]
      exact ⟨h.1, h.2.1, rv⟩
    · have e2 : ¬ q.1 = k := h.1 ▸ e
      rw [if_neg e, if_neg e2]
      exact h
theorem KN.put {ks : NKV} {xs : List (NestedKey × Addr × Value)} (r : KN ks xs) (k : NestedKey) (b : Addr) {v : V} {u : Value} (rv : RelV v u) : KN (putN ks k b v) (storedH xs k b u) := by
  have e : (valN ks k).isSome = (atKey xs k).isSome := by rw [(r.val k).isSome_eq, Option.isSome_map]
  unfold putN storedH
  rw [e]
  by_cases q : (atKey xs k).isSome = true
  · rw [if_pos q, if_pos q]; exact r.repl k rv
  · rw [if_neg q, if_neg q]; exact Paired.snoc r ⟨rfl, rfl, rv⟩
theorem KN.mem {ks : NKV} {xs : List (NestedKey × Addr × Value)} (r : KN ks xs) {F : NestedKey → Addr → Prop} (h : ∀ x ∈ ks, F x.1 x.2.1) : ∀ x ∈ xs, F x.1 x.2.1 := by
  induction r with
  | nil => intro x hx; exact nomatch hx
  | @cons p q ps qs hq t ih =>
    intro x hx
    rcases List.mem_cons.mp hx with e | hx
    · subst e
      rw [← hq.1, ← hq.2.1]
      exact h p List.mem_cons_self
    · exact ih (fun y hy => h y (List.mem_cons_of_mem _ hy)) x hx
theorem putN_len (ks : NKV) (k : NestedKey) (b : Addr) (v : V) : (putN ks k b v).length ≤ ks.length + 1 := by
  unfold putN
  split
  · rw [List.length_map]; omega
  · rw [List.length_append]; exact Nat.le_refl _
theorem putN_keys {ks : NKV} {k : NestedKey} {b : Addr} {v : V} {F : NestedKey → Addr → Prop} (h : ∀ x ∈ ks, F x.1 x.2.1) (hk : F k b) : ∀ x ∈ putN ks k b v, F x.1 x.2.1 := by
  intro x hx
  unfold putN at hx
  split at hx
  · obtain ⟨y, hy, rfl⟩ := List.mem_map.mp hx
    split
    · exact h y hy
    · exact h y hy
  · rcases List.mem_append.mp hx with hx | hx
    · exact h x hx
    · rw [List.mem_singleton.mp hx]; exact hk
theorem valN_none {ks : NKV} {k : NestedKey} (h : valN ks k = none) : k ∉ ks.map (·.1) := fun m => by
  obtain ⟨x, hx, e⟩ := List.mem_map.mp m
  unfold valN at h
  rw [Option.map_eq_none_iff, List.find?_eq_none] at h
  exact h x hx (by simpa using e)
theorem putN_one {ks : NKV} {k : NestedKey} {b : Addr} {v : V} (h : (ks.map (·.1)).Nodup) : ((putN ks k b v).map (·.1)).Nodup := by
  unfold putN
  split
  · have e : (ks.map fun x => if x.1 = k then (x.1, x.2.1, v) else x).map (·.1) = ks.map (·.1) := by
      rw [List.map_map]
      refine List.map_congr_left fun x _ => ?_
      show (if x.1 = k then (x.1, x.2.1, v) else x).1 = x.1
      split <;> rfl
    rw [e]; exact h
  · rename_i q
    have q : valN ks k = none := by cases e : valN ks k with | none => rfl | some _ => rw [e] at q; exact absurd rfl q
    rw [List.map_append, List.nodup_append]
    refine ⟨h, by simp, fun x hx y hy e => ?_⟩
    rw [List.map_singleton, List.mem_singleton] at hy
    have hy : y = k := hy
    exact valN_none q (by rw [← hy, ← e]; exact hx)
theorem Nd.mono {w : World} {H H' : Hp} {d : Addr} {ks : NKV} (n : Nd w H d ks) (ho : H' d = some (ndO w d ks)) (t : ∀ b xs, H b = some (.tup xs) → H' b = some (.tup xs)) : Nd w H' d ks :=
  ⟨ho, fun x hx => ⟨(n.keys x hx).1.mono t, (n.keys x hx).2⟩, n.one, n.sz, n.sm⟩
theorem Nd.same {w : World} {H H' : Hp} {d : Addr} {ks : NKV} (n : Nd w H d ks) (s : Same H H') : Nd w H' d ks := n.mono (s _ _ n.ob) fun _ _ h => s _ _ h
section
variable {X : Cx} {pins : List (Addr × Obj)} {σ : L2.St} {H : Hp} {s : Shared} {a b : Addr} {v : V} {u r : Value} {A : Around} {E : Value → Shared → Prop} {ks : NKV} {k : NestedKey}
theorem Nd.heap (I : Inv X pins σ H s) (n : Nd X.w H a ks) : ∃ xs, KN ks xs ∧ s.heap.DictOfH (nestedKind X.prog X.w) a xs := by
  obtain ⟨⟨xs, o, es, ep, rel, h1, h2, h3, h4⟩, _⟩ := (show ObjOk X.prog X.w H s.heap a (ndO X.w a ks) from I.hok a _ n.ob)
  exact ⟨xs, rel, o, es, ep, h1, h2, h3, h4, rel.mem (F := fun k b => (nestedKind X.prog X.w).is s.heap k b) fun x hx => ⟨(n.keys x hx).1.is I.hok rfl, (n.keys x hx).2⟩, rel.fsts ▸ n.one⟩
theorem nd_room (hu : A.units + 64 < cLine) : (nestedKind X.prog X.w).room A.in1 := by
  show A.in1.units + 8 < cLine
  have : A.in1.units = A.units + 1 := rfl
  omega
/-- what the dict at a holds at the key at b -/
def NGet (w : World) (H : Hp) (a b : Addr) (o : Option V) : Prop := ∃ ks k, Nd w H a ks ∧ NK H (.ref b) k ∧ k.depth ≤ 8 ∧ o = valN ks k
theorem n_getItem {Q : Value → Shared → Prop} (hu : A.units + 64 < cLine) (I : Inv X pins σ H s) (g : NGet X.w H a b (some v)) (h : ∀ w' s', Inv X pins σ H s' → RelV v w' → Q w' s') :
    wpAny (model X.prog X.w) A (getItem (.ref a) (.ref b)) Q E s := by
  obtain ⟨ks, k, n, nk, dk, l⟩ := g
  obtain ⟨xs, rel, dd⟩ := n.heap I
  obtain ⟨w', hw, rw'⟩ := RelO.some_of (v := v) (o := (atKey xs k).map (·.2)) (by rw [l]; exact rel.val k)
  obtain ⟨p, hp, hp2⟩ := Option.map_eq_some_iff.mp hw
  refine wpAny_getItem_heap (knd := nestedKind X.prog X.w) (nd_room hu) ⟨nk.is I.hok rfl, dk⟩ dd hp ?_
  rw [hp2]
  exact h w' _ (I.tok _) rw'
theorem n_in {o : Option V} {Q : Value → Shared → Prop} (hu : A.units + 64 < cLine) (I : Inv X pins σ H s) (g : NGet X.w H a b o) (h : ∀ s', Inv X pins σ H s' → Q (.bool o.isSome) s') :
    wpAny (model X.prog X.w) A (compareOp .In (.ref b) (.ref a)) Q E s := by
  obtain ⟨ks, k, n, nk, dk, l⟩ := g
  obtain ⟨xs, rel, dd⟩ := n.heap I
  refine wpAny_in_heap (knd := nestedKind X.prog X.w) (nd_room hu) ⟨nk.is I.hok rfl, dk⟩ n.sm dd ?_
  have q := (rel.val k).isSome_eq
  rw [Option.isSome_map] at q
  rw [← q, ← l]
  exact h _ (I.tok _)
theorem n_notIn {o : Option V} {Q : Value → Shared → Prop} (hu : A.units + 64 < cLine) (I : Inv X pins σ H s) (g : NGet X.w H a b o) (h : ∀ s', Inv X pins σ H s' → Q (.bool (!o.isSome)) s') :
    wpAny (model X.prog X.w) A (compareOp .NotIn (.ref b) (.ref a)) Q E s := by
  obtain ⟨ks, k, n, nk, dk, l⟩ := g
  obtain ⟨xs, rel, dd⟩ := n.heap I
  refine wpAny_notIn_heap (knd := nestedKind X.prog X.w) (nd_room hu) ⟨nk.is I.hok rfl, dk⟩ n.sm dd ?_
  have q := (rel.val k).isSome_eq
  rw [Option.isSome_map] at q
  rw [← q, ← l]
  exact h _ (I.tok _)
theorem n_get2 {o : Option V} {y : V} {Q : Value → Shared → Prop} (hu : A.units + 64 < cLine) (I : Inv X pins σ H s) (g : NGet X.w H a b o) (rd : RelV y r) (h : ∀ w' s', Inv X pins σ H s' → RelV (o.getD y) w' → Q w' s') :
    wpAny (model X.prog X.w) A (call (.builtin "dict.get") [.ref a, .ref b, r]) Q E s := by
  obtain ⟨ks, k, n, nk, dk, l⟩ := g
  obtain ⟨xs, rel, dd⟩ := n.heap I
  refine call_meetsIn PySem.F.slot_dict_get dd.typeIs PySem.F.entry_dict_get (PySem.F.args_dict_get_3 _ _ _) (meetsH_dict_get_default (nestedKind X.prog X.w) a b n.sm r) ⟨nd_room hu, k, xs, ⟨nk.is I.hok rfl, dk⟩, dd, h _ _ (I.tok _) ?_⟩
  rw [l]
  exact (rel.val k).getD rd
/-- the heap behind d[k] = v -/
theorem n_setItem {Q : Unit → Shared → Prop} (hu : A.units + 64 < cLine) (I : Inv X pins σ H s) (n : Nd X.w H a ks) (nk : NK H (.ref b) k) (dk : k.depth ≤ 8) (rv : RelV v r) (h : ∀ s', Inv X pins σ (upd H a (ndO X.w a (putN ks k b v))) s' → Q () s') :
    wpAny (model X.prog X.w) A (setItem (.ref a) (.ref b) r) Q E s := by
  obtain ⟨xs, rel, dd⟩ := n.heap I
  have hz : xs.length ≤ sizeLine := by rw [← Paired.length rel]; exact n.sz
  refine wpAny_setItem_heap (knd := nestedKind X.prog X.w) (hsz := hz) (nd_room hu) ⟨nk.is I.hok rfl, dk⟩ dd fun h' dd' hs => h _ ?_
  obtain ⟨q, es, ep, hq, h2, h3, h4, _, h5⟩ := dd'
  refine d_write I (by rw [n.ob]; exact True.intro) hs ⟨q, hq⟩ ⟨⟨_, q, es, ep, rel.put k b rv, hq, h2, h3, h4⟩, ⟨q, hq⟩, fun h1 h2 p st => ?_⟩
  obtain ⟨ys, o, es', ep', p1, p2, p3⟩ := p
  exact ⟨ys, o, es', ep', p1, st _ p2, p3⟩
theorem Nd.put {w : World} (n : Nd w H a ks) (nk : NK H (.ref b) k) (dk : k.depth ≤ 8) (hl : ks.length < sizeLine) : Nd w (upd H a (ndO w a (putN ks k b v))) a (putN ks k b v) := by
  have t : ∀ c xs, H c = some (.tup xs) → (upd H a (ndO w a (putN ks k b v))) c = some (.tup xs) := fun c xs hc => by
    rw [upd_ne (ne_of hc n.ob (by intro z; cases z))]; exact hc
  exact ⟨upd_same, putN_keys (F := fun k b => NK _ (.ref b) k ∧ k.depth ≤ 8) (fun x hx => ⟨(n.keys x hx).1.mono t, (n.keys x hx).2⟩) ⟨nk.mono t, dk⟩, putN_one n.one, Nat.le_trans (putN_len _ _ _ _) hl, n.sm⟩
end
/-! ### readings and rules -/
def tNNew (w : World) : TE := fun _ H Q => ∀ d, H d = none → (d == sysModules) = false → Q (.ref d) (upd H d (ndO w d []))
def tNGet (w : World) (td ty : TE) : TE := fun σ H Q => td σ H fun x H1 => ty σ H1 fun y H2 => ∃ a b v, x = .ref a ∧ y = .ref b ∧ NGet w H2 a b (some v) ∧ Q v H2
def tNIn (w : World) (ty td : TE) : TE := fun σ H Q => ty σ H fun y H1 => td σ H1 fun x H2 => ∃ a b o, x = .ref a ∧ y = .ref b ∧ NGet w H2 a b o ∧ Q (.bl o.isSome) H2
def tNNotIn (w : World) (ty td : TE) : TE := fun σ H Q => ty σ H fun y H1 => td σ H1 fun x H2 => ∃ a b o, x = .ref a ∧ y = .ref b ∧ NGet w H2 a b o ∧ Q (.bl (!o.isSome)) H2
def sNPut (w : World) (td ty tv : TE) : TS := fun D σ H => tv σ H fun v H1 => td σ H1 fun x H2 => ty σ H2 fun y H3 => ∃ a b ks k, x = .ref a ∧ y = .ref b ∧ Nd w H3 a ks ∧ NK H3 (.ref b) k ∧ k.depth ≤ 8 ∧ D.nx σ (upd H3 a (ndO w a (putN ks k b v)))
def tNGet2 (w : World) (td ty tx : TE) : TE := fun σ H Q => td σ H fun x H1 => ∃ a ks, x = .ref a ∧ Nd w H1 a ks ∧ ty σ H1 fun y H2 => tx σ H2 fun z H3 => ∃ b o, y = .ref b ∧ NGet w H3 a b o ∧ Q (o.getD z) H3
theorem nd_new {w : World} {H : Hp} {d : Addr} (h : (d == sysModules) = false) : Nd w (upd H d (ndO w d [])) d [] :=
  ⟨upd_same, fun x hx => (by cases hx), List.nodup_nil, Nat.zero_le _, h⟩
section
variable {X : Cx} {o i e f value : Expr} {pos pos' apos cpos : Pos} {td ty tv tx : TE}
theorem pe_nnew : PE X (.Dict [] [] pos) (tNNew X.w) := ⟨fun pins s σ H Q I h =>
  wpAny_Dict_empty ⟨.ref s.heap.objs.size, _, I.laid (a := s.heap.objs.size) (o := ndO X.w s.heap.objs.size []) (t' := s.toks) (fun _ _ q => Heap.get?_push_of_some _ q) (Nat.le_refl _)
    ⟨⟨[], _, #[], 0, .nil, Heap.get?_push_size _ rfl, ⟨rfl, rfl, rfl⟩, rfl, rfl⟩, ⟨_, Heap.get?_push_size _ rfl⟩, fun h1 h2 p st => by
      obtain ⟨ys, o, es', ep', p1, p2, p3⟩ := p
      exact ⟨ys, o, es', ep', p1, st _ p2, p3⟩⟩, rfl, h _ (I.hok.fresh (Nat.le_refl _)) (beq_eq_false_iff_ne.mpr (Ne.symm (Nat.ne_of_lt I.big)))⟩⟩
theorem pe_nget (hu : X.A.units + 64 < cLine) (ho : PE X o td) (hi : PE X i ty) (hs : NoSl i) : PE X (.Subscript o i pos) (tNGet X.w td ty) := by
  refine ⟨fun pins s σ H Q I h => ?_⟩
  refine subD_of PySem.F.slot_dict_getitem.lookup hs (thn (ho.run pins s σ H _ I h) fun u s1 ⟨x, H1, I1, rx, q1⟩ => thn (hi.run pins s1 σ H1 _ I1 q1) fun iv s2 ⟨y, H2, I2, ry, a, b, v, ex, ey, g, q2⟩ => ?_)
  subst ex ey
  obtain rfl : u = Value.ref a := rx
  obtain rfl : iv = Value.ref b := ry
  have t : s2.TypeIs (.ref a) "dict" := by
    obtain ⟨ks, k, n, _⟩ := g
    obtain ⟨xs, rel, dd⟩ := n.heap I2
    exact dd.typeIs
  exact ⟨t, n_getItem hu I2 g fun w' s3 I3 rw' => ⟨v, H2, I3, rw', q2⟩⟩
theorem pc_nin (hu : X.A.units + 64 < cLine) (hi : PE X i ty) (ho : PE X o td) : PC X .In i o (tNIn X.w ty td) := by
  refine ⟨fun pins s σ H Q I h => ?_⟩
  refine thn (hi.run pins s σ H _ I h) fun iv s1 ⟨y, H1, I1, ry, q1⟩ => thn (ho.run pins s1 σ H1 _ I1 q1) fun u s2 ⟨x, H2, I2, rx, a, b, ov, ex, ey, g, q2⟩ => ?_
  subst ex ey
  obtain rfl : u = Value.ref a := rx
  obtain rfl : iv = Value.ref b := ry
  exact n_in hu I2 g fun s3 I3 => ⟨.bl ov.isSome, H2, I3, rfl, q2⟩
theorem pc_nnotin (hu : X.A.units + 64 < cLine) (hi : PE X i ty) (ho : PE X o td) : PC X .NotIn i o (tNNotIn X.w ty td) := by
  refine ⟨fun pins s σ H Q I h => ?_⟩
  refine thn (hi.run pins s σ H _ I h) fun iv s1 ⟨y, H1, I1, ry, q1⟩ => thn (ho.run pins s1 σ H1 _ I1 q1) fun u s2 ⟨x, H2, I2, rx, a, b, ov, ex, ey, g, q2⟩ => ?_
  subst ex ey
  obtain rfl : u = Value.ref a := rx
  obtain rfl : iv = Value.ref b := ry
  exact n_notIn hu I2 g fun s3 I3 => ⟨.bl (!ov.isSome), H2, I3, rfl, q2⟩
theorem ps_nput (hu : X.A.units + 64 < cLine) (ho : PE X o td) (hi : PE X i ty) (hv : PE X value tv) (hs : swapsWith value (some (.Subscript o i pos')) pos.line X.env = pure false) :
    PS X (.Assign [.Subscript o i pos'] value pos) (sNPut X.w td ty tv) := by
  refine ⟨fun pins s σ H D I h => ?_⟩
  refine wpAny_Assign_Subscript (thn (hv.run pins s σ H _ I h) fun r s1 ⟨v, H1, I1, rv, q1⟩ => thn (ho.run pins s1 σ H1 _ I1 q1) fun u s2 ⟨x, H2, I2, rx, q2⟩ => thn (hi.run pins s2 σ H2 _ I2 q2) fun iv s3 ⟨y, H3, I3, ry, a, b, ks, k, ex, ey, n, nk, dk, q3⟩ => ?_) hs
  subst ex ey
  obtain rfl : u = Value.ref a := rx
  obtain rfl : iv = Value.ref b := ry
  exact n_setItem hu I3 n nk dk rv fun s4 I4 => ⟨σ, _, I4, q3⟩
theorem pe_nget2 (hu : X.A.units + 64 < cLine) (ho : PE X o td) (he : PE X e ty) (hf : PE X f tx) (m : M2 X o "get" apos e f cpos) : PE X (.Call (.Attribute o "get" apos) [e, f] [] cpos) (tNGet2 X.w td ty tx) := by
  refine ⟨fun pins s σ H Q I h => ?_⟩
  refine wpAny_Call_method m.base m.few m.line PySem.F.plainAttrs_dict PySem.F.slot_dict_get PySem.F.type_dict_get (thn (ho.run pins s σ H _ I h) fun u s1 ⟨x, H1, I1, rx, a, ks, ex, n, q1⟩ => ?_)
  subst ex
  obtain rfl : u = Value.ref a := rx
  obtain ⟨xs, rel, dd⟩ := n.heap I1
  refine ⟨dd.typeIs, fun b q => ?_, ?_⟩
  · cases q
    obtain ⟨ob, _, _, h1, h2, _⟩ := dd
    exact ⟨ob, h1, h2.2.1⟩
  rw [m.trees]
  refine Calls.callWith_builtin rfl (Calls.evalArgs_plain (Calls.spliced_cons (thn (he.run pins s1 σ H1 _ I1 q1) fun iv s2 ⟨y, H2, I2, ry, q2⟩ =>
    Calls.spliced_cons (thn (hf.run pins s2 σ H2 _ I2 q2) fun fv s3 ⟨z, H3, I3, rz, b, ov, ey, g, q3⟩ => Calls.spliced_nil ?_))))
  subst ey
  obtain rfl : iv = Value.ref b := ry
  exact n_get2 hu I3 g rz fun w' s4 I4 rw' => ⟨_, H3, I4, rw', q3⟩
end
end Mus

set_option maxRecDepth 100000
set_option maxHeartbeats 4000000
/-! sorted(x), x a list or a tuple of data of one shape. -/
namespace PySem.W
open PySem PySem.Calls PyProof.Rows
section
variable {prog : Program} {w : World} {A : Around} {E : Value → Shared → Prop} {s : Shared}
/-- the items of a tuple, in a list of their own -/
theorem mus_collect {a : Addr} {vs : List Value} {Q : List Value → Shared → Prop} (ht : s.heap.IsTuple a vs.toArray) (hz : vs.length ≤ sizeLine)
    (h : Q vs { s with heap := (s.heap.push (seqObj "list" #[] 0)).update s.heap.objs.size (Obj.mapSeq (· ++ vs.toArray)) }) : wpAny (model prog w) A (collect (.ref a)) Q E s := by
  obtain ⟨o, e1, e2, n, e3⟩ := id ht
  have f1 : (s.heap.push (seqObj "list" #[] 0)).get? a = some o := Heap.get?_push_of_some _ e1
  have f2 : (s.heap.push (seqObj "list" #[] 0)).get? s.heap.objs.size = some (seqObj "list" #[] 0) := Heap.get?_push_size _ rfl
  have k1 : (Value.type "tuple" == Value.type "list") = false := by decide +kernel
  have k2 : (Value.type "tuple" == Value.type "tuple") = true := by decide +kernel
  unfold collect
  refine wpAny_bind (wpAny_runValue (codeAny_builtin entry_proto_collect' ?_))
  refine wpAny_bind (wpAny_newList (wpAny_pure ⟨Code.quiet_builtin _ (by decide +kernel), codeAny_builtin entry_list_iadd' ?_⟩))
  show wpAny _ _ (Builtin.List.listExtendWith (.ref s.heap.objs.size) (.ref a) (.ref s.heap.objs.size)) _ _ { s with heap := s.heap.push (seqObj "list" #[] 0) }
  unfold Builtin.List.listExtendWith
  refine wpAny_bind (wpAny_typeOf (T := "tuple") ⟨o, f1, e2⟩ ?_)
  rw [if_pos (by rw [k1, k2]; simp)]
  refine wpAny_bind (listItems_at f1 e3 (wpAny_bind (listItems_at (xs := #[]) (n := 0) f2 rfl ?_)))
  rw [if_neg (by simp)]
  refine wpAny_bind (listUpdate_at (xs := #[]) (n := 0) f2 rfl (wpAny_pure ?_) (Nat.zero_le _) (by simp only [Array.size_append, List.size_toArray, List.length_nil]; omega))
  refine wpAny_bind (wpAny_load (get?_update_seq f2 _) ?_)
  have e : ((#[] : Array Value) ++ vs.toArray).toList = vs := by simp
  show wpAny _ _ (pure ((#[] : Array Value) ++ vs.toArray).toList) Q E _
  rw [e]
  exact wpAny_pure h
theorem mus_sortedT {a : Addr} {vs : List Value} {Q : Value → Shared → Prop} (ht : s.heap.IsTuple a vs.toArray) (hL : vs.length ≤ sizeLine)
    (body : ∀ E' : Value → Shared → Prop, wpAny (model prog w) A.in1.in1 (Builtin.«list.sort» ⟨[.ref (s.heap.objs.size + 1)], []⟩) (fun f s' => f = .done (.ret .none) ∧ Q (.ref (s.heap.objs.size + 1)) s') E' { s with heap := copyHeap s.heap vs }) :
    wpAny (model prog w) A (call (.builtin "sorted") [.ref a]) Q E s := by
  have z : ((s.heap.push (seqObj "list" #[] 0)).update s.heap.objs.size (Obj.mapSeq (· ++ vs.toArray))).objs.size = s.heap.objs.size + 1 := (Heap.size_update ..).trans (size_push' ..)
  refine call_function_entry_kw kind_sorted plain_sorted entry_sorted (args_sorted1 _) ?_
  unfold Builtin.«sorted»
  refine wpAny_bind (m := checkCount "sorted" 1 1 _) (wpAny_pure (wpAny_bind (mus_collect ht hL (wpAny_bind (wpAny_newList ?_ hL)))))
  show wpAny _ _ _ _ _ { s with heap := copyHeap s.heap vs }
  rw [z]
  refine wpAny_bind (wpAny_holding (wpAny_call_entry_kw slot_list_sort ⟨_, copyHeap_at s.heap vs, rfl⟩ entry_list_sort ?sorts (args_list_sort _)))
  case sorts =>
    refine wpAny_mono (body _) (fun f s' q => ?_) fun _ _ e => e
    obtain ⟨rfl, q⟩ := q
    exact ⟨_, rfl, wpAny_pure ⟨_, rfl, q⟩⟩
theorem mus_sorted {β : Type} {R : Value → β → Prop} {enc : β → PyData} {bs : List β} {a : Addr} {vs : List Value} {Q : Value → Shared → Prop} (ht : s.heap.IsTuple a vs.toArray) (e : EachIs R vs bs) (er : EachIs (fun v b => ∃ as, Reads s.heap v (enc b) as) vs bs) (hal : AllAlike (bs.map enc)) (hk : Sortable (bs.map enc)) (hL : bs.length ≤ sizeLine)
    (hu : ∀ b, b ∈ bs → A.units + 2 + (enc b).depth < cLine) (h : ∀ out, out.length = bs.length → EachIs R out (bs.mergeSort (dataLe false enc)) → Q (.ref (s.heap.objs.size + 1)) { s with heap := sortedAll s.heap vs (List.toArray out) }) :
    wpAny (model prog w) A (call (.builtin "sorted") [.ref a]) Q E s := by
  have lv : vs.length ≤ sizeLine := e.length ▸ hL
  have er' : EachIs (fun v b => ∃ as, Reads (sortingHeap (copyHeap s.heap vs) (s.heap.objs.size + 1) vs) v (enc b) as) vs bs := er.mono fun _ _ ⟨as, r⟩ => ⟨as, PyProof.Rows.Reads.keeps (fun _ _ => sorting_copy_old) r⟩
  have S := SortsAt.data (prog := prog) (w := w) (A := A.in1.in1) (s := { s with heap := sortingHeap (copyHeap s.heap vs) (s.heap.objs.size + 1) vs }) (each_map (R := fun v d => ∃ as, Reads (sortingHeap (copyHeap s.heap vs) (s.heap.objs.size + 1) vs) v d as) enc er') hal hk (bound_map hu)
  exact mus_sortedT ht lv fun _ => list_sort_vals (s := { s with heap := copyHeap s.heap vs }) (copyHeap_at s.heap vs) S lv ⟨rfl, h _ (by rw [sortVals_length false rfl]; exact e.length) (sortVals_data false e er' hal)⟩
end
end PySem.W
namespace Mus
open PySem PySem.Spec PyProof.Rows L2
def rSortedD (K : PySem.W.Frag) : List V → Hp → VK → Prop := fun vs H Q => ∃ (a : Addr) (xs : List V) (ds : List PyData), vs = [V.ref a] ∧ (SqL K H a xs ∨ SqT K H a xs) ∧ DpAll K H xs ds ∧ PySem.W.AllAlike ds ∧ PySem.W.Sortable ds ∧ (∀ d ∈ ds, d.depth ≤ 20) ∧
  ∀ (ps : List (V × PyData)) p, ps = (xs.zip ds).mergeSort (PySem.W.dataLe false (·.2)) → H p = none → Q (.ref p) (upd H p (.lst (ps.map (·.1))))
theorem each_zip {h : Heap} : ∀ {xs : List V} {ds : List PyData} {vs : List Value}, Vals xs vs → xs.length = ds.length → PySem.W.EachIs (fun v (b : V × PyData) => RelV b.1 v) vs (xs.zip ds)
  | [], [], _, .nil, _ => .nil
  | x :: xs, d :: ds, _, .cons r rs, hl => .cons r (each_zip (h := h) rs (by simpa using hl))
  | [], _ :: _, _, _, hl => by cases hl
  | _ :: _, [], _, _, hl => by cases hl
theorem each_reads {h : Heap} : ∀ {xs : List V} {ds : List PyData} {vs : List Value} {as : List Addr}, xs.length = ds.length → ReadsAll h vs ds as → vs.length = xs.length → PySem.W.EachIs (fun v (b : V × PyData) => ∃ as, Reads h v b.2 as) vs (xs.zip ds)
  | [], [], _, _, _, .nil, _ => .nil
  | x :: xs, d :: ds, _, _, hl, .cons r rs, h2 => .cons ⟨_, r⟩ (each_reads (by simpa using hl) rs (by simpa using h2))
  | [], _ :: _, _, _, hl, _, _ => by cases hl
  | _ :: _, [], _, _, hl, _, _ => by cases hl
theorem vals_of_each : ∀ {ps : List (V × PyData)} {out : List Value}, PySem.W.EachIs (fun v (b : V × PyData) => RelV b.1 v) out ps → Vals (ps.map (·.1)) out
  | _, _, .nil => .nil
  | _, _, .cons r rs => .cons r (vals_of_each rs)
theorem dpAll_len {K : PySem.W.Frag} {H : Hp} : ∀ {xs : List V} {ds : List PyData}, DpAll K H xs ds → xs.length = ds.length
  | _, _, .nil => rfl
  | _, _, .cons _ r => congrArg (· + 1) (dpAll_len r)
section
variable {X : Cx}
theorem cr_sortedD (hu : X.A.units + 64 < cLine) : CallR X (.builtin "sorted") (rSortedD X.K) := by
  intro pins s σ H vs us Q I r h
  obtain ⟨a, xs, ds, rfl, hs, hd, hal, hk, hdep, q⟩ := h
  obtain ⟨u, rfl, ru⟩ := vals1 r
  obtain rfl : u = Value.ref a := ru
  have ll := dpAll_len hd
  have lz : (xs.zip ds).length = ds.length := by rw [List.length_zip, ll, Nat.min_self]
  have em : (xs.zip ds).map (·.2) = ds := List.map_snd_zip (by omega)
  have hu' : ∀ b ∈ xs.zip ds, X.A.units + 2 + b.2.depth < cLine := fun b hb => by
    have := hdep b.2 (by rw [← em]; exact List.mem_map.mpr ⟨b, hb, rfl⟩)
    omega
  have fin : ∀ {vs : List Value}, Vals xs vs → ∀ out, out.length = (xs.zip ds).length → PySem.W.EachIs (fun v (b : V × PyData) => RelV b.1 v) out ((xs.zip ds).mergeSort (PySem.W.dataLe false (·.2))) → EP X pins σ Q (.ref (s.heap.objs.size + 1)) { s with heap := sortedAll s.heap vs (List.toArray out) } := fun {vs} rv out hl he => by
    obtain ⟨n, hn⟩ := sortedAll_at s.heap vs (List.toArray out)
    have nd : H (s.heap.objs.size + 1) = none := I.hok.fresh (Nat.le_succ _)
    have hz : ((xs.zip ds).mergeSort (PySem.W.dataLe false (·.2))).length ≤ sizeLine := by
      rw [List.length_mergeSort, lz, ← ll]
      rcases hs with hs | hs
      · obtain ⟨_, _, _, hz⟩ := I.list hs; exact hz
      · obtain ⟨_, _, _, hz⟩ := I.tuple hs; exact hz
    exact ⟨.ref (s.heap.objs.size + 1), _, I.laid (t' := s.toks) (o := .lst (((xs.zip ds).mergeSort (PySem.W.dataLe false (·.2))).map (·.1))) (fun b o e => sortedAll_old e) (Nat.le_succ _) ⟨by rw [List.length_map]; exact hz, out, n, vals_of_each he, hn⟩, rfl, q _ _ rfl nd⟩
  rcases hs with hs | hs
  · obtain ⟨its, rv, hl, hz⟩ := I.list hs
    obtain ⟨as, ra⟩ := Dp.readsAll I ds xs its hd rv
    exact PySem.W.sorted_data hl.isList (each_zip (h := s.heap) rv ll) (each_reads ll ra rv.length.symm) (by rw [em]; exact hal) (by rw [em]; exact hk) (by rw [lz, ← ll]; exact hz) hu' (fin rv)
  · obtain ⟨its, rv, hl, hz⟩ := I.tuple hs
    obtain ⟨as, ra⟩ := Dp.readsAll I ds xs its hd rv
    exact PySem.W.mus_sorted hl (each_zip (h := s.heap) rv ll) (each_reads ll ra rv.length.symm) (by rw [em]; exact hal) (by rw [em]; exact hk) (by rw [lz, ← ll]; exact hz) hu' (fin rv)
end
end Mus

set_option maxRecDepth 100000
set_option maxHeartbeats 4000000
/-! sorted(d) and d.get(k, x) of a dict whose keys are nested tuples. -/
namespace PySem.W
open PySem PySem.Calls PyProof.Rows
theorem mus_raw {prog : Program} {w : World} {d : Addr} {es : Array DictEntry} {ep : Nat} (lo : (d == sysModules) = false) : KdlSrc prog w "dict" d d es.size (fun i v => ∃ hi : i < es.size, v = es[i].key) (fun h => h.DictRaw d es ep) where
  type := fun _ hm => hm.typeIs
  there := fun _ hm => ⟨let ⟨_, ho, _⟩ := hm; Heap.lt_size ho, let ⟨_, ho, _⟩ := hm; Heap.lt_size ho⟩
  keep := fun _ _ hm hk => hm.at fun o e => hk d (.inl rfl) o e
  notList := by decide
  notTuple := by decide
  hint := fun _ _ _ _ hm hq => kdl_hint_dict hm.typeIs hq
  iter := fun _ _ hh hm => ⟨_, _, (fun _ _ hq => wpAny_pyIter_dict_raw lo hm hq), Walks.rawKeys hh _ d (Nat.ne_of_lt (let ⟨_, ho, _⟩ := hm; Heap.lt_size ho)) es ep, ⟨⟨_, Heap.get?_push_size _ rfl, rfl, rfl⟩, hm.at fun _ e => Heap.get?_push_of_some _ e⟩⟩
end PySem.W
namespace Mus
open PySem PySem.Spec PyProof.Rows L2
def rSortedN (K : PySem.W.Frag) (w : World) : List V → Hp → VK → Prop := fun vs H Q => ∃ (a : Addr) (kvs : NKV) (ds : List PyData), vs = [V.ref a] ∧ Nd w H a kvs ∧ DpAll K H (kvs.map fun x => V.ref x.2.1) ds ∧ PySem.W.AllAlike ds ∧ PySem.W.Sortable ds ∧ (∀ d ∈ ds, d.depth ≤ 20) ∧
  ∀ (ps : List (V × PyData)) p, ps = ((kvs.map fun x => V.ref x.2.1).zip ds).mergeSort (PySem.W.dataLe false (·.2)) → H p = none → Q (.ref p) (upd H p (.lst (ps.map (·.1))))
theorem vals_refs : ∀ kvs : NKV, Vals (kvs.map fun x => V.ref x.2.1) (kvs.map fun x => Value.ref x.2.1)
  | [] => .nil
  | x :: r => .cons rfl (vals_refs r)
theorem KN.ref {ks : NKV} {xs : List (NestedKey × Addr × Value)} (r : KN ks xs) : xs.map (fun x => Value.ref x.2.1) = ks.map fun x => Value.ref x.2.1 := by
  induction r with
  | nil => rfl
  | cons h t ih => rw [List.map_cons, List.map_cons, ih, h.2.1]
section
variable {X : Cx}
theorem cr_sortedN (hc : X.calm = true) (hu : X.A.units + 64 < cLine) : CallR X (.builtin "sorted") (rSortedN X.K X.w) := by
  intro pins s σ H vs us Q I r h
  obtain ⟨a, kvs, ds, rfl, n, hd, hal, hk, hdep, q⟩ := h
  obtain ⟨u, rfl, ru⟩ := vals1 r
  obtain rfl : u = Value.ref a := ru
  obtain ⟨xs, rel, dd⟩ := n.heap I
  obtain ⟨es, ep, raw, hs, hx⟩ := dd.raw
  have hl : es.size = kvs.length := by rw [hs, Paired.length rel]
  have h16 : es.size ≤ sizeLine := by rw [hl]; exact n.sz
  refine Calls.call_function_entry PyProof.Rows.kind_sorted PyProof.Rows.plain_sorted PyProof.Rows.entry_sorted (PyProof.Rows.args_sorted1 _) ?_
  unfold Builtin.«sorted»
  refine wpAny_bind (m := checkCount "sorted" 1 1 _) (wpAny_pure ?_)
  refine wpAny_bind (PySem.W.kdu_collect (A := X.A.in1) (PySem.W.mus_raw n.sm) (I.ok.hd hc) raw h16 fun h' tk acc hk' hacc => ?_)
  have e1 : acc.toList = kvs.map fun x => Value.ref x.2.1 := by
    rw [← rel.ref]
    refine List.ext_getElem? fun j => ?_
    rw [List.getElem?_map]
    cases e : acc.toList[j]? with
    | none =>
      have : acc.toList.length ≤ j := List.getElem?_eq_none_iff.mp e
      rw [Array.length_toList, hacc.1, hs] at this
      rw [List.getElem?_eq_none this]; rfl
    | some v =>
      obtain ⟨hi, rfl⟩ := hacc.2 j v (by rw [← Array.getElem?_toList]; exact e)
      obtain ⟨y, hy, ey, _⟩ := hx j hi
      rw [hy, ey]; rfl
  have rv : Vals (kvs.map fun x => V.ref x.2.1) acc.toList := by rw [e1]; exact vals_refs kvs
  have I1 : Inv X pins σ H { s with heap := h', toks := tk } := I.kept hk'
  have ll := dpAll_len hd
  have lz : ((kvs.map fun x => V.ref x.2.1).zip ds).length = ds.length := by rw [List.length_zip, ll, Nat.min_self]
  have em : ((kvs.map fun x => V.ref x.2.1).zip ds).map (·.2) = ds := List.map_snd_zip (by omega)
  have la : acc.toList.length = ds.length := by rw [← rv.length]; exact ll
  have hL : acc.toList.length ≤ sizeLine := by rw [Array.length_toList, hacc.1]; exact h16
  obtain ⟨as, ra⟩ := Dp.readsAll I1 ds _ _ hd rv
  refine wpAny_bind (wpAny_newList ?_ hL)
  have hoL : (h'.push (seqObj "list" acc.toList.toArray 0)).get? h'.objs.size = some (seqObj "list" acc.toList.toArray 0) := Heap.get?_push_size _ rfl
  show wpAny _ _ _ _ _ { s with heap := h'.push (seqObj "list" acc.toList.toArray 0), toks := tk }
  have old : ∀ b o, h'.get? b = some o → (PySem.W.sortingHeap (h'.push (seqObj "list" acc.toList.toArray 0)) h'.objs.size acc.toList).get? b = some o := fun b o e => PySem.W.sortingHeap_old (Nat.ne_of_lt (Heap.lt_size e)) (Heap.get?_push_of_some _ e)
  have er : PySem.W.EachIs (fun v (b : V × PyData) => ∃ as, Reads (PySem.W.sortingHeap (h'.push (seqObj "list" acc.toList.toArray 0)) h'.objs.size acc.toList) v b.2 as) acc.toList ((kvs.map fun x => V.ref x.2.1).zip ds) :=
    (each_reads ll ra rv.length.symm).mono fun _ _ ⟨as, r⟩ => ⟨as, PyProof.Rows.Reads.keeps old r⟩
  have hu' : ∀ b ∈ (kvs.map fun x => V.ref x.2.1).zip ds, X.A.in1.in1.units + b.2.depth < cLine := fun b hb => by
    have := hdep b.2 (by rw [← em]; exact List.mem_map.mpr ⟨b, hb, rfl⟩)
    have e : X.A.in1.in1.units = X.A.units + 2 := rfl
    omega
  have S := PySem.W.SortsAt.data (prog := X.prog) (w := X.w) (A := X.A.in1.in1) (s := { s with heap := PySem.W.sortingHeap (h'.push (seqObj "list" acc.toList.toArray 0)) h'.objs.size acc.toList, toks := tk }) (PySem.W.each_map (R := fun v d => ∃ as, Reads _ v d as) (fun b : V × PyData => b.2) er) (by rw [em]; exact hal) (by rw [em]; exact hk) (PySem.W.bound_map hu')
  have he := PySem.W.sortVals_data false (each_zip (h := h') rv ll) er (by rw [em]; exact hal)
  refine wpAny_bind (wpAny_holding (wpAny_call_entry PyProof.Rows.slot_list_sort ⟨_, hoL, rfl⟩ PyProof.Rows.entry_list_sort
    (PySem.W.list_sort_vals (s := { s with heap := h'.push (seqObj "list" acc.toList.toArray 0), toks := tk }) hoL S hL ⟨_, rfl, ?_⟩) (PyProof.Rows.args_list_sort _)))
  generalize PySem.W.sortVals _ false acc.toList acc.toList = out at he ⊢
  obtain ⟨e', he'⟩ := PyProof.Rows.sortedHeap_at (vs := acc.toList) (out := out.toArray) hoL
  refine wpAny_pure ⟨_, rfl, .ref h'.objs.size, upd H h'.objs.size (.lst ((((kvs.map fun x => V.ref x.2.1).zip ds).mergeSort (PySem.W.dataLe false (·.2))).map (·.1))), I1.laid (t' := tk) (fun b u e => ?_) (Nat.le_refl _)
    (show ObjOk X.prog X.w _ _ _ (.lst _) from ⟨?_, out, e', vals_of_each he, he'⟩), rfl, q _ _ rfl (I1.hok.fresh (Nat.le_refl _))⟩
  · have hb : b < h'.objs.size := Heap.lt_size e
    rw [PyProof.Rows.sortedHeap_old (Nat.ne_of_lt hb) (by rw [size_push']; exact Nat.lt_succ_of_lt hb)]
    exact Heap.get?_push_of_some _ e
  · rw [List.length_map, List.length_mergeSort, lz, ← la]; exact hL
end
end Mus

set_option maxRecDepth 100000
set_option maxHeartbeats 4000000
/-! Data stand where a thing that is no list and no tuple changes. -/
namespace Mus
open PySem L2
mutual
theorem Rp.upN {p D : Addr} {H : Hp} {o : HO} (h1 : ∀ xs, H D ≠ some (.lst xs)) (h2 : ∀ xs, H D ≠ some (.tup xs)) : ∀ {v : V} {d : PyData}, Rp p H v d → Rp p (upd H D o) v d
  | _, _, .non => .non
  | _, _, .bl b => .bl b
  | _, _, .int i => .int i
  | _, _, .str x => .str x
  | _, _, .lst h n r => .lst (by rw [upd_ne fun z => h1 _ (by rw [← z]; exact h)]; exact h) n (Rps.upN h1 h2 r)
  | _, _, .tup h n l r => .tup (by rw [upd_ne fun z => h2 _ (by rw [← z]; exact h)]; exact h) n l (Rps.upN h1 h2 r)
theorem Rps.upN {p D : Addr} {H : Hp} {o : HO} (h1 : ∀ xs, H D ≠ some (.lst xs)) (h2 : ∀ xs, H D ≠ some (.tup xs)) : ∀ {vs : List V} {ds : List PyData}, Rps p H vs ds → Rps p (upd H D o) vs ds
  | _, _, .nil => .nil
  | _, _, .cons a b => .cons (Rp.upN h1 h2 a) (Rps.upN h1 h2 b)
end
theorem rp_tup {p t : Addr} {c : Int} {H : Hp} {vs : List V} {ds : List PyData} (g : Bag p c H) (nt : H t = none) (r : Rps p H vs ds) (hl : vs.length ≤ 100000 := by exact Nat.le_of_ble_eq_true rfl) : Rp p (upd H t (.tup vs)) (.ref t) (.tuple ds) :=
  .tup upd_same (g.ne nt).symm hl (r.same (same_new nt _))
theorem atI_intsU {ns : List Int} {r : Int} (h0 : 0 ≤ r) (h1 : r < ns.length) : ∃ x, x ∈ ns ∧ atI (ns.map V.int) r = some (.int x) := by
  have hi : r.toNat < ns.length := by omega
  refine ⟨ns[r.toNat], List.getElem_mem _, at_int h0 ?_⟩
  rw [List.getElem?_map, List.getElem?_eq_getElem hi]; rfl
/-- one of the listed values -/
theorem atI_mem {xs : List V} {r : Int} (h0 : 0 ≤ r) (h1 : r < xs.length) : ∃ x, x ∈ xs ∧ atI xs r = some x := by
  have hi : r.toNat < xs.length := by omega
  exact ⟨xs[r.toNat], List.getElem_mem _, at_int h0 (List.getElem?_eq_getElem hi)⟩
end Mus

set_option maxRecDepth 100000
set_option maxHeartbeats 4000000
/-! View ids as data and as keys; their order; lists sorted by them. -/
namespace Mus
open PySem PySem.Spec PyProof.Rows L2
def vKey (k i l : Int) : NestedKey := .tup [.num k, .tup [.num i, .num l]]
def vD (k i l : Int) : PyData := .tuple [.int k, .tuple [.int i, .int l]]
mutual
def kD : NestedKey → PyData
  | .none => .none
  | .num i => .int i
  | .text x => .str x
  | .tup ks => .tuple (kDs ks)
def kDs : List NestedKey → List PyData
  | [] => []
  | k :: ks => kD k :: kDs ks
end
theorem kD_v (k i l : Int) : kD (vKey k i l) = vD k i l := rfl
theorem vKey_depth (k i l : Int) : (vKey k i l).depth ≤ 8 := by simp [vKey, NestedKey.depth, NestedKey.depthAll]
theorem vKey_inj {k i l k' i' l' : Int} (h : vKey k i l = vKey k' i' l') : k = k' ∧ i = i' ∧ l = l' := by
  injection h with h
  injection h with h1 h2
  injection h1 with h1
  injection h2 with h2 _
  injection h2 with h2
  injection h2 with h2 h3
  injection h2 with h2
  injection h3 with h3 _
  injection h3 with h3
  exact ⟨h1, h2, h3⟩
theorem nk_vid {p : Addr} {H : Hp} {a : Addr} {k i l : Int} (h : Rp p H (.ref a) (vD k i l)) : NK H (.ref a) (vKey k i l) := by
  obtain _ | _ | _ | _ | _ | @⟨_, xs, _, ha, _, _, hr⟩ := h
  obtain _ | ⟨h1, _ | ⟨h2, hn⟩⟩ := hr
  cases hn
  cases h1
  obtain _ | _ | _ | _ | _ | @⟨b, ys, _, hb, _, _, hr2⟩ := h2
  obtain _ | ⟨h3, _ | ⟨h4, hn⟩⟩ := hr2
  cases hn
  cases h3
  cases h4
  exact .tup ha (.cons (.int _) (.cons (.tup hb (.cons (.int _) (.cons (.int _) .nil))) .nil))
theorem v_alike (k i l k' i' l' : Int) : PySem.W.alike (vD k i l) (vD k' i' l') = true := rfl
theorem v_depth (k i l : Int) : (vD k i l).depth ≤ 20 := by simp [vD, PyData.depth, PyData.depthAll]
/-- the order of view ids -/
def vLt (k i l k' i' l' : Int) : Bool := decide (k < k' ∨ k = k' ∧ (i < i' ∨ i = i' ∧ l < l'))
theorem v_lt (k i l k' i' l' : Int) : PySem.W.dataLt (vD k i l) (vD k' i' l') = vLt k i l k' i' l' := by
  unfold vD vLt
  rw [PySem.W.dataLt_pair rfl rfl, PySem.W.dataLt_ii, PySem.W.dataLt_int]
  have e1 : PyData.eqv (.int k) (.int k') = decide (k = k') := rfl
  have e2 : PyData.eqv (.tuple [.int i, .int l]) (.tuple [.int i', .int l']) = (decide (i = i') && decide (l = l')) := by
    show (decide (i = i') && (decide (l = l') && true)) = _
    rw [Bool.and_true]
  rw [e1, e2]
  by_cases h1 : k = k'
  · subst h1
    by_cases h2 : i = i'
    · subst h2
      by_cases h3 : l = l'
      · subst h3; simp
      · simp [h3]
    · simp [h2]
  · simp [h1]
theorem valN_mem {ks : NKV} {x : NestedKey × Addr × V} (h : (ks.map (·.1)).Nodup) (hx : x ∈ ks) : valN ks x.1 = some x.2.2 := by
  induction ks with
  | nil => cases hx
  | cons y ys ih =>
    rw [List.map_cons, List.nodup_cons] at h
    unfold valN
    rw [List.find?_cons]
    rcases List.mem_cons.mp hx with rfl | hx
    · simp
    · have ne : ¬ y.1 = x.1 := fun e => h.1 (by rw [e]; exact List.mem_map.mpr ⟨x, hx, rfl⟩)
      rw [decide_eq_false ne]
      exact ih h.2 hx
theorem putN_all {ks : NKV} {k : NestedKey} {b : Addr} {v : V} {A : NestedKey → Addr → Prop} {B : V → Prop} (h : ∀ x ∈ ks, A x.1 x.2.1 ∧ B x.2.2) (hk : A k b) (hv : B v) : ∀ x ∈ putN ks k b v, A x.1 x.2.1 ∧ B x.2.2 := by
  intro x hx
  unfold putN at hx
  split at hx
  · obtain ⟨y, hy, rfl⟩ := List.mem_map.mp hx
    split
    · exact ⟨(h y hy).1, hv⟩
    · exact h y hy
  · rcases List.mem_append.mp hx with hx | hx
    · exact h x hx
    · rw [List.mem_singleton.mp hx]; exact ⟨hk, hv⟩
/-- the entries, sorted by their keys -/
theorem sort_split {kvs : NKV} {ps : List (V × PyData)} (e : ps = ((kvs.map fun x => V.ref x.2.1).zip (kvs.map fun x => kD x.1)).mergeSort (PySem.W.dataLe false (·.2))) :
    ∃ ys : NKV, ys.Perm kvs ∧ ps.map (·.1) = ys.map (fun x => V.ref x.2.1) ∧ ys = kvs.mergeSort fun a b => !(PySem.W.dataLt (kD b.1) (kD a.1)) := by
  refine ⟨_, List.mergeSort_perm _ _, ?_, rfl⟩
  have z : (kvs.map fun x => V.ref x.2.1).zip (kvs.map fun x => kD x.1) = kvs.map fun x => (V.ref x.2.1, kD x.1) := List.zip_map' ..
  rw [e, z, ← List.map_mergeSort (r := fun a b => !(PySem.W.dataLt (kD b.1) (kD a.1))) (fun _ _ _ _ => rfl), List.map_map]
  rfl
theorem v_sorted {kvs : NKV} (h : ∀ x ∈ kvs, ∃ k i l, x.1 = vKey k i l) (n : (kvs.map (·.1)).Nodup) : (kvs.mergeSort fun a b => !(PySem.W.dataLt (kD b.1) (kD a.1))).Pairwise fun a b => PySem.W.dataLt (kD a.1) (kD b.1) = true := by
  have P : (kvs.mergeSort fun a b => !(PySem.W.dataLt (kD b.1) (kD a.1))).Perm kvs := List.mergeSort_perm _ _
  have S : (kvs.mergeSort fun a b => !(PySem.W.dataLt (kD b.1) (kD a.1))).Pairwise fun a b => (!(PySem.W.dataLt (kD b.1) (kD a.1))) = true := by
    refine List.pairwise_mergeSort (fun a b c h1 h2 => ?_) (fun a b => ?_) _
    · simp only [Bool.not_eq_true'] at h1 h2 ⊢
      cases e : PySem.W.dataLt (kD c.1) (kD a.1) with
      | false => rfl
      | true =>
        by_cases h3 : PySem.W.dataLt (kD b.1) (kD c.1) = true
        · have := PyProof.Rows.lex_trans _ _ _ h3 e
          rw [show PyProof.Rows.lexLt PyProof.Rows.itemOrd _ _ = PySem.W.dataLt (kD b.1) (kD a.1) from rfl, h1] at this
          cases this
        · have h3 : PySem.W.dataLt (kD b.1) (kD c.1) = false := by simpa using h3
          have e2 := PyProof.Rows.lex_total _ _ h2 h3
          have : PySem.W.dataLt (kD c.1) (kD a.1) = PySem.W.dataLt (kD b.1) (kD a.1) := by unfold PySem.W.dataLt; rw [e2]
          rw [this, h1] at e; cases e
    · cases e : PySem.W.dataLt (kD b.1) (kD a.1) with
      | false => rfl
      | true =>
        cases e2 : PySem.W.dataLt (kD a.1) (kD b.1) with
        | false => rfl
        | true =>
          have := PyProof.Rows.lex_trans _ _ _ e e2
          rw [PyProof.Rows.lex_irrefl] at this
          cases this
  have N : (kvs.mergeSort fun a b => !(PySem.W.dataLt (kD b.1) (kD a.1))).Pairwise fun a b => a.1 ≠ b.1 := by
    have : ((kvs.mergeSort fun a b => !(PySem.W.dataLt (kD b.1) (kD a.1))).map (·.1)).Nodup := (P.map _).nodup_iff.mpr n
    exact List.pairwise_map.mp this
  refine (S.and N).imp_of_mem fun {a b} ha hb ⟨h1, h2⟩ => ?_
  obtain ⟨k, i, l, ea⟩ := h a (P.mem_iff.mp ha)
  obtain ⟨k', i', l', eb⟩ := h b (P.mem_iff.mp hb)
  rw [ea, eb] at h1 h2 ⊢
  rw [kD_v, kD_v, v_lt] at h1 ⊢
  unfold vLt at h1 ⊢
  have ne : ¬ (k = k' ∧ i = i' ∧ l = l') := fun ⟨e1, e2, e3⟩ => h2 (by rw [e1, e2, e3])
  simp only [Bool.not_eq_true', decide_eq_false_iff_not, decide_eq_true_eq] at h1 ⊢
  omega
end Mus

set_option maxRecDepth 100000
set_option maxHeartbeats 4000000
/-! in, not in: data in a list or a tuple of data. -/
namespace Mus
open PySem PySem.Spec PyProof.Rows L2
def rInDD (K : PySem.W.Frag) (f : Bool → Bool) : R2 := fun x y H Q => ∃ d ds, Dp K H x d ∧ (Dp K H y (.list ds) ∨ Dp K H y (.tuple ds)) ∧ d.canLay0 = true ∧ PyData.canLayAll0 ds = true ∧ d.depth ≤ 20 ∧ Q (.bl (f (ds.any fun z => PyData.eqv z d))) H
section
variable {X : Cx}
theorem op_inDD (hu : X.A.units + 64 < cLine) : OpR X (compareOp .In) (rInDD X.K id) := by
  intro pins s σ H x y v u Q I rx ry h
  obtain ⟨d, ds, hd, hs, cd, cs, dp, q⟩ := h
  obtain ⟨as, r1⟩ := Dp.reads I d x v hd rx
  have hr : X.A.units + 1 + min (PyData.depthAll ds) d.depth < cLine := by
    have : min (PyData.depthAll ds) d.depth ≤ d.depth := Nat.min_le_right _ _
    omega
  rcases hs with hs | hs
  · obtain ⟨bs, r2⟩ := Dp.reads I _ y u hs ry
    exact SeqAt.in_list_reads r2 r1 cs cd hr ⟨.bl _, H, I, rfl, q⟩
  · obtain ⟨bs, r2⟩ := Dp.reads I _ y u hs ry
    exact SeqAt.in_tuple_reads r2 r1 cs cd hr ⟨.bl _, H, I, rfl, q⟩
theorem op_notInDD (hu : X.A.units + 64 < cLine) : OpR X (compareOp .NotIn) (rInDD X.K not) := by
  intro pins s σ H x y v u Q I rx ry h
  obtain ⟨d, ds, hd, hs, cd, cs, dp, q⟩ := h
  obtain ⟨as, r1⟩ := Dp.reads I d x v hd rx
  have hr : X.A.units + 1 + min (PyData.depthAll ds) d.depth < cLine := by
    have : min (PyData.depthAll ds) d.depth ≤ d.depth := Nat.min_le_right _ _
    omega
  rcases hs with hs | hs
  · obtain ⟨bs, r2⟩ := Dp.reads I _ y u hs ry
    exact SeqAt.notIn_list_reads r2 r1 cs cd hr ⟨.bl _, H, I, rfl, q⟩
  · obtain ⟨bs, r2⟩ := Dp.reads I _ y u hs ry
    exact SeqAt.notIn_tuple_reads r2 r1 cs cd hr ⟨.bl _, H, I, rfl, q⟩
end
end Mus

set_option maxRecDepth 100000
set_option maxHeartbeats 4000000
/-! Data without lists, wherever it stands; frames: what a call may have changed. -/
namespace Mus
open PySem PySem.Spec PyProof.Rows L2
mutual
inductive TD (H : Hp) : V → PyData → Prop
  | non : TD H .non .none
  | bl (b : Bool) : TD H (.bl b) (.bool b)
  | int (i : Int) : TD H (.int i) (.int i)
  | str (x : Str) : TD H (.str x) (.str x)
  | tup {a : Addr} {xs : List V} {ds : List PyData} : H a = some (.tup xs) → xs.length ≤ 100000 → TDs H xs ds → TD H (.ref a) (.tuple ds)
inductive TDs (H : Hp) : List V → List PyData → Prop
  | nil : TDs H [] []
  | cons {v : V} {vs : List V} {d : PyData} {ds : List PyData} : TD H v d → TDs H vs ds → TDs H (v :: vs) (d :: ds)
end
/-- tuples stay -/
def TupK (H H' : Hp) : Prop := ∀ b xs, H b = some (.tup xs) → H' b = some (.tup xs)
theorem TupK.refl (H : Hp) : TupK H H := fun _ _ h => h
theorem TupK.trans {H H1 H2 : Hp} (a : TupK H H1) (b : TupK H1 H2) : TupK H H2 := fun c xs h => b c xs (a c xs h)
theorem TupK.of {H H' : Hp} (s : Same H H') : TupK H H' := fun b xs h => s b _ h
theorem tupK_upd {H : Hp} {D : Addr} {o : HO} (h : ∀ xs, H D ≠ some (.tup xs)) : TupK H (upd H D o) := fun b xs e => by
  rw [upd_ne fun z => h xs (by rw [← z]; exact e)]; exact e
mutual
theorem TD.mono {H H' : Hp} (k : TupK H H') : ∀ {v : V} {d : PyData}, TD H v d → TD H' v d
  | _, _, .non => .non
  | _, _, .bl b => .bl b
  | _, _, .int i => .int i
  | _, _, .str x => .str x
  | _, _, .tup h l r => .tup (k _ _ h) l (r.mono k)
theorem TDs.mono {H H' : Hp} (k : TupK H H') : ∀ {vs : List V} {ds : List PyData}, TDs H vs ds → TDs H' vs ds
  | _, _, .nil => .nil
  | _, _, .cons a r => .cons (a.mono k) (r.mono k)
end
theorem TD.same {H H' : Hp} {v : V} {d : PyData} (h : TD H v d) (s : Same H H') : TD H' v d := h.mono (TupK.of s)
theorem TDs.same {H H' : Hp} {vs : List V} {ds : List PyData} (h : TDs H vs ds) (s : Same H H') : TDs H' vs ds := h.mono (TupK.of s)
mutual
theorem TD.dp {K : PySem.W.Frag} {H : Hp} : ∀ {v : V} {d : PyData}, TD H v d → Dp K H v d
  | _, _, .non => .non
  | _, _, .bl b => .bl b
  | _, _, .int i => .int i
  | _, _, .str x => .str x
  | _, _, .tup h _ r => .tup (SqT.of h) r.dp
theorem TDs.dp {K : PySem.W.Frag} {H : Hp} : ∀ {vs : List V} {ds : List PyData}, TDs H vs ds → DpAll K H vs ds
  | _, _, .nil => .nil
  | _, _, .cons a r => .cons a.dp r.dp
end
mutual
/-- none of it at p, where no tuple stands -/
theorem TD.rp {p : Addr} {H : Hp} (hp : ∀ xs, H p ≠ some (.tup xs)) : ∀ {v : V} {d : PyData}, TD H v d → Rp p H v d
  | _, _, .non => .non
  | _, _, .bl b => .bl b
  | _, _, .int i => .int i
  | _, _, .str x => .str x
  | _, _, .tup h l r => .tup h (fun z => hp _ (z ▸ h)) l (r.rp hp)
theorem TDs.rp {p : Addr} {H : Hp} (hp : ∀ xs, H p ≠ some (.tup xs)) : ∀ {vs : List V} {ds : List PyData}, TDs H vs ds → Rps p H vs ds
  | _, _, .nil => .nil
  | _, _, .cons a r => .cons (a.rp hp) (r.rp hp)
end
theorem TDs.length {H : Hp} : ∀ {vs : List V} {ds : List PyData}, TDs H vs ds → vs.length = ds.length
  | _, _, .nil => rfl
  | _, _, .cons _ r => congrArg (· + 1) r.length
theorem TDs.append {H : Hp} : ∀ {vs : List V} {ds : List PyData} {us : List V} {es : List PyData}, TDs H vs ds → TDs H us es → TDs H (vs ++ us) (ds ++ es)
  | _, _, _, _, .nil, r => r
  | _, _, _, _, .cons a b, r => .cons a (b.append r)
theorem TDs.at {H : Hp} : ∀ {vs : List V} {ds : List PyData} {i : Nat} {y : V}, TDs H vs ds → vs[i]? = some y → ∃ d, ds[i]? = some d ∧ TD H y d
  | _, _, _, _, .nil, h => by cases h
  | _, _, 0, _, .cons a b, h => by cases h; exact ⟨_, rfl, a⟩
  | _, _, i + 1, _, .cons a b, h => b.at (i := i) h
theorem TDs.get {H : Hp} : ∀ {vs : List V} {ds : List PyData} {i : Nat} {d : PyData}, TDs H vs ds → ds[i]? = some d → ∃ y, vs[i]? = some y ∧ TD H y d
  | _, _, _, _, .nil, h => by cases h
  | _, _, 0, _, .cons a b, h => by cases h; exact ⟨_, rfl, a⟩
  | _, _, i + 1, _, .cons a b, h => b.get (i := i) h
theorem TDs.take {H : Hp} : ∀ {vs : List V} {ds : List PyData} (n : Nat), TDs H vs ds → TDs H (vs.take n) (ds.take n)
  | _, _, 0, _ => .nil
  | _, _, n + 1, .nil => .nil
  | _, _, n + 1, .cons a q => .cons a (q.take n)
theorem TDs.drop {H : Hp} : ∀ {vs : List V} {ds : List PyData} (n : Nat), TDs H vs ds → TDs H (vs.drop n) (ds.drop n)
  | _, _, 0, r => r
  | _, _, n + 1, .nil => .nil
  | _, _, n + 1, .cons a q => q.drop n
theorem TDs.cut {H : Hp} {vs : List V} {ds : List PyData} (r : TDs H vs ds) (lo hi : Option Int) : TDs H (cutV vs lo hi) (cutD ds lo hi) := by
  unfold cutV cutD
  rw [r.length]
  exact (r.drop _).take _
/-! ### frames -/
/-- of what stood in H all but what is at fp is as it was; fp' is of fp or new; tuples stay -/
structure Fr (fp fp' : List Addr) (H H' : Hp) : Prop where
  k : ∀ b o, H b = some o → b ∉ fp → H' b = some o
  n : ∀ b ∈ fp', b ∈ fp ∨ H b = none
  t : TupK H H'
  s : ∀ b, H' b = none → H b = none
theorem Fr.refl (fp : List Addr) (H : Hp) : Fr fp fp H H := ⟨fun _ _ h _ => h, fun _ h => .inl h, TupK.refl H, fun _ h => h⟩
theorem Fr.of {fp : List Addr} {H H' : Hp} (s : Same H H') : Fr fp fp H H' := ⟨fun b o h _ => s b o h, fun _ h => .inl h, TupK.of s, fun b h => by
  cases e : H b with
  | none => rfl
  | some o => rw [s b o e] at h; cases h⟩
theorem Fr.trans {fp fp1 fp2 : List Addr} {H H1 H2 : Hp} (a : Fr fp fp1 H H1) (b : Fr fp1 fp2 H1 H2) : Fr fp fp2 H H2 := by
  refine ⟨fun c o h n => b.k c o (a.k c o h n) fun m => ?_, fun c m => ?_, a.t.trans b.t, fun c h => a.s c (b.s c h)⟩
  · rcases a.n c m with z | z
    · exact n z
    · rw [h] at z; cases z
  · rcases b.n c m with z | z
    · exact a.n c z
    · by_cases q : c ∈ fp
      · exact .inl q
      · cases e : H c with
        | none => exact .inr rfl
        | some o => rw [a.k c o e q] at z; cases z
theorem Fr.same {fp : List Addr} {H H' : Hp} (f : Fr [] fp H H') : Same H H' := fun b o h => f.k b o h List.not_mem_nil
theorem fr_upd {fp : List Addr} {H : Hp} {p : Addr} {o0 o : HO} (hp : p ∈ fp) (ho : H p = some o0) (nt : ∀ xs, o0 ≠ .tup xs) : Fr fp fp H (upd H p o) :=
  ⟨fun b u e n => by rw [upd_ne (show b ≠ p from fun z => n (by rw [z]; exact hp))]; exact e, fun _ h => .inl h, tupK_upd fun xs e => nt xs (Option.some.inj (ho.symm.trans e)), fun b h => by
    by_cases z : b = p
    · rw [z, upd_same] at h; cases h
    · rwa [upd_ne z] at h⟩
theorem fr_new {fp : List Addr} {H : Hp} {p : Addr} {o : HO} (ho : H p = none) : Fr fp (p :: fp) H (upd H p o) :=
  ⟨fun b u e n => by rw [upd_ne (ne_of_none e ho)]; exact e, fun b h => by
    rcases List.mem_cons.mp h with rfl | h
    · exact .inr ho
    · exact .inl h, tupK_upd fun xs e => (by rw [ho] at e; cases e), fun b h => by
    by_cases z : b = p
    · rw [z, upd_same] at h; cases h
    · rwa [upd_ne z] at h⟩
theorem Fr.sub {fp fp1 fp2 : List Addr} {H H' : Hp} (f : Fr fp fp1 H H') (h : ∀ b ∈ fp2, b ∈ fp1) : Fr fp fp2 H H' := ⟨f.k, fun b m => f.n b (h b m), f.t, f.s⟩
theorem Fr.wide {fp fp0 fp1 : List Addr} {H H' : Hp} (f : Fr fp fp1 H H') (h : ∀ b ∈ fp, b ∈ fp0) : Fr fp0 (fp0 ++ fp1) H H' :=
  ⟨fun b o e n => f.k b o e fun m => n (h b m), fun b m => by
    rcases List.mem_append.mp m with m | m
    · exact .inl m
    · exact (f.n b m).imp (h b) id, f.t, f.s⟩
/-! ### members, ids, messages -/
abbrev Mem := Int × Int
abbrev Vid := Int × Mem
abbrev Msg := Mem × Int × Str
abbrev Cst := Int × Str
def eM (m : Mem) : PyData := .tuple [.int m.1, .int m.2]
def eV (v : Vid) : PyData := .tuple [.int v.1, eM v.2]
def eG (g : Msg) : PyData := .tuple [eM g.1, .int g.2.1, .str g.2.2]
def eC (c : Cst) : PyData := .tuple [.int c.1, .str c.2]
def eMs (ms : List Mem) : PyData := .tuple (ms.map eM)
def kM (m : Mem) : NestedKey := .tup [.num m.1, .num m.2]
theorem kM_inj {a b : Mem} (h : kM a = kM b) : a = b := by
  injection h with h
  injection h with h1 h2
  injection h1 with h1
  injection h2 with h2 _
  injection h2 with h2
  exact Prod.ext h1 h2
theorem kM_depth (m : Mem) : (kM m).depth ≤ 8 := by simp [kM, NestedKey.depth, NestedKey.depthAll]
theorem TD.mem {H : Hp} {v : V} {m : Mem} (h : TD H v (eM m)) : ∃ a, v = .ref a ∧ H a = some (.tup [.int m.1, .int m.2]) := by
  cases h with
  | tup h _ r =>
    obtain _ | ⟨h1, _ | ⟨h2, hn⟩⟩ := r
    cases hn; cases h1; cases h2
    exact ⟨_, rfl, h⟩
theorem TD.vid {H : Hp} {v : V} {m : Vid} (h : TD H v (eV m)) : ∃ a u, v = .ref a ∧ H a = some (.tup [.int m.1, u]) ∧ TD H u (eM m.2) := by
  cases h with
  | tup h _ r =>
    obtain _ | ⟨h1, _ | ⟨h2, hn⟩⟩ := r
    cases hn; cases h1
    exact ⟨_, _, rfl, h, h2⟩
theorem TD.msg {H : Hp} {v : V} {g : Msg} (h : TD H v (eG g)) : ∃ a u, v = .ref a ∧ H a = some (.tup [u, .int g.2.1, .str g.2.2]) ∧ TD H u (eM g.1) := by
  cases h with
  | tup h _ r =>
    obtain _ | ⟨h1, _ | ⟨h2, _ | ⟨h3, hn⟩⟩⟩ := r
    cases hn; cases h2; cases h3
    exact ⟨_, _, rfl, h, h1⟩
theorem TD.cst {H : Hp} {v : V} {c : Cst} (h : TD H v (eC c)) : ∃ a, v = .ref a ∧ H a = some (.tup [.int c.1, .str c.2]) := by
  cases h with
  | tup h _ r =>
    obtain _ | ⟨h1, _ | ⟨h2, hn⟩⟩ := r
    cases hn; cases h1; cases h2
    exact ⟨_, rfl, h⟩
theorem td_mem {H : Hp} {a : Addr} {m : Mem} (h : H a = some (.tup [.int m.1, .int m.2])) : TD H (.ref a) (eM m) := .tup h (by show 2 ≤ 100000; decide) (.cons (.int _) (.cons (.int _) .nil))
theorem td_msg {H : Hp} {a : Addr} {u : V} {g : Msg} (h : H a = some (.tup [u, .int g.2.1, .str g.2.2])) (hu : TD H u (eM g.1)) : TD H (.ref a) (eG g) := .tup h (by show 3 ≤ 100000; decide) (.cons hu (.cons (.int _) (.cons (.str _) .nil)))
theorem td_cst {H : Hp} {a : Addr} {c : Cst} (h : H a = some (.tup [.int c.1, .str c.2])) : TD H (.ref a) (eC c) := .tup h (by show 2 ≤ 100000; decide) (.cons (.int _) (.cons (.str _) .nil))
theorem TD.nk {H : Hp} {v : V} {m : Mem} (h : TD H v (eM m)) : ∃ a, v = .ref a ∧ NK H (.ref a) (kM m) := by
  obtain ⟨a, rfl, h2⟩ := h.mem
  exact ⟨a, rfl, .tup h2 (.cons (.int _) (.cons (.int _) .nil))⟩
theorem eM_eqv (a b : Mem) : PyData.eqv (eM a) (eM b) = decide (a = b) := by
  show (decide (a.1 = b.1) && (decide (a.2 = b.2) && true)) = _
  rw [Bool.and_true, ← Bool.decide_and]
  exact decide_eq_decide.mpr ⟨fun h => Prod.ext h.1 h.2, fun h => by rw [h]; exact ⟨rfl, rfl⟩⟩
theorem eV_eqv (a b : Vid) : PyData.eqv (eV a) (eV b) = decide (a = b) := by
  show (decide (a.1 = b.1) && (PyData.eqv (eM a.2) (eM b.2) && true)) = _
  rw [Bool.and_true, eM_eqv, ← Bool.decide_and]
  exact decide_eq_decide.mpr ⟨fun h => Prod.ext h.1 h.2, fun h => by rw [h]; exact ⟨rfl, rfl⟩⟩
theorem eM_lay (m : Mem) : (eM m).canLay0 = true ∧ (eM m).depth = 1 ∧ SeqAt.shaped (eM m) = true := by
  refine ⟨rfl, by simp [eM, PyData.depth, PyData.depthAll], ?_⟩
  simp [eM, SeqAt.shaped, PyData.canLay0, PyData.canLayAll0, PyData.depth, PyData.depthAll]
theorem eV_lay (v : Vid) : (eV v).canLay0 = true ∧ (eV v).depth = 2 ∧ SeqAt.shaped (eV v) = true := by
  refine ⟨rfl, by simp [eV, eM, PyData.depth, PyData.depthAll], ?_⟩
  simp [eV, eM, SeqAt.shaped, PyData.canLay0, PyData.canLayAll0, PyData.depth, PyData.depthAll]
theorem eMs_lay : ∀ ms : List Mem, PyData.canLayAll0 (ms.map eM) = true
  | [] => rfl
  | m :: ms => by show ((eM m).canLay0 && PyData.canLayAll0 (ms.map eM)) = true; rw [(eM_lay m).1, eMs_lay ms]; rfl
theorem eMs_any (ms : List Mem) (m : Mem) : ((ms.map eM).any fun z => PyData.eqv z (eM m)) = decide (m ∈ ms) := by
  rw [List.any_map, Bool.eq_iff_iff, List.any_eq_true, decide_eq_true_eq]
  constructor
  · rintro ⟨x, hx, h⟩
    have h : decide (x = m) = true := by rw [← eM_eqv]; exact h
    rw [← of_decide_eq_true h]; exact hx
  · intro h
    exact ⟨m, h, by show PyData.eqv (eM m) (eM m) = true; rw [eM_eqv]; simp⟩
section
variable {K : PySem.W.Frag} {H : Hp} {x y : V} {a b : Mem} {Q : VK}
theorem rd_eqM (hx : TD H x (eM a)) (hy : TD H y (eM b)) (q : Q (.bl (decide (a = b))) H) : rEqD K x y H Q :=
  ⟨_, _, hx.dp, hy.dp, (eM_lay a).2.2, (eM_lay b).2.2, by rw [eM_eqv]; exact q⟩
theorem rd_neM (hx : TD H x (eM a)) (hy : TD H y (eM b)) (q : Q (.bl (!decide (a = b))) H) : rNeD K x y H Q :=
  ⟨_, _, hx.dp, hy.dp, (eM_lay a).2.2, (eM_lay b).2.2, by rw [eM_eqv]; exact q⟩
theorem rd_neV {a b : Vid} (hx : TD H x (eV a)) (hy : TD H y (eV b)) (q : Q (.bl (!decide (a = b))) H) : rNeD K x y H Q :=
  ⟨_, _, hx.dp, hy.dp, (eV_lay a).2.2, (eV_lay b).2.2, by rw [eV_eqv]; exact q⟩
theorem rd_eqV {a b : Vid} (hx : TD H x (eV a)) (hy : TD H y (eV b)) (q : Q (.bl (decide (a = b))) H) : rEqD K x y H Q :=
  ⟨_, _, hx.dp, hy.dp, (eV_lay a).2.2, (eV_lay b).2.2, by rw [eV_eqv]; exact q⟩
theorem rd_inMs {ms : List Mem} {f : Bool → Bool} (hx : TD H x (eM a)) (hy : TD H y (eMs ms)) (q : Q (.bl (f (decide (a ∈ ms)))) H) : rInDD K f x y H Q :=
  ⟨_, _, hx.dp, .inr hy.dp, (eM_lay a).1, eMs_lay ms, by rw [(eM_lay a).2.1]; decide, by rw [eMs_any]; exact q⟩
theorem rd_inMl {ms : List Mem} {l : Addr} {vs : List V} {f : Bool → Bool} (hx : TD H x (eM a)) (hl : H l = some (.lst vs)) (hv : TDs H vs (ms.map eM)) (q : Q (.bl (f (decide (a ∈ ms)))) H) : rInDD K f x (.ref l) H Q :=
  ⟨_, _, hx.dp, .inl (.lst (SqL.of hl) hv.dp), (eM_lay a).1, eMs_lay ms, by rw [(eM_lay a).2.1]; decide, by rw [eMs_any]; exact q⟩
end
end Mus

set_option maxRecDepth 100000
set_option maxHeartbeats 4000000
/-! Events, and the first fault of each kind. -/
namespace Mus
open PySem L2
inductive Ev where
  | vw (t : Int) (m : Mem) (v : Vid) (ms : List Mem)
  | ct (t : Int) (m : Mem) (v : Vid) (i : Int) (p : Str)
  | dl (t : Int) (m : Mem) (v : Vid) (g : Msg)
  | cr (t : Int) (n : Int)
def eE : Ev → PyData
  | .vw t m v ms => .tuple [.str "view", .int t, eM m, eV v, eMs ms]
  | .ct t m v i p => .tuple [.str "cast", .int t, eM m, eV v, .int i, .str p]
  | .dl t m v g => .tuple [.str "deliver", .int t, eM m, eV v, eG g]
  | .cr t n => .tuple [.str "crash", .int t, .int n]
/-- the last view of m -/
def vwS (m : Mem) (o : Option Vid) : Ev → Option Vid
  | .vw _ m' v _ => if m' = m then some v else o
  | _ => o
def vwOf (m : Mem) (es : List Ev) : Option Vid := es.foldl (vwS m) none
theorem vwOf_snoc (m : Mem) (es : List Ev) (e : Ev) : vwOf m (es ++ [e]) = vwS m (vwOf m es) e := by
  unfold vwOf
  rw [List.foldl_append]; rfl
def dlS (m : Mem) (v : Vid) : Ev → Option Msg
  | .dl _ m' v' g => if m' = m ∧ v' = v then some g else none
  | _ => none
/-- what m delivered in v -/
def logOf (m : Mem) (v : Vid) (es : List Ev) : List Msg := es.filterMap (dlS m v)
def ctS (m : Mem) (v : Vid) : Ev → Option Cst
  | .ct _ m' v' i p => if m' = m ∧ v' = v then some (i, p) else none
  | _ => none
def castsOf (m : Mem) (v : Vid) (es : List Ev) : List Cst := es.filterMap (ctS m v)
theorem logOf_snoc (m : Mem) (v : Vid) (es : List Ev) (e : Ev) : logOf m v (es ++ [e]) = logOf m v es ++ (dlS m v e).toList := by
  unfold logOf
  rw [List.filterMap_append]
  cases h : dlS m v e <;> simp [List.filterMap, h]
theorem castsOf_snoc (m : Mem) (v : Vid) (es : List Ev) (e : Ev) : castsOf m v (es ++ [e]) = castsOf m v es ++ (ctS m v e).toList := by
  unfold castsOf
  rw [List.filterMap_append]
  cases h : ctS m v e <;> simp [List.filterMap, h]
theorem logOf_len (m : Mem) (v : Vid) (es : List Ev) : (logOf m v es).length ≤ es.length := List.length_filterMap_le _ _
theorem castsOf_len (m : Mem) (v : Vid) (es : List Ev) : (castsOf m v es).length ≤ es.length := List.length_filterMap_le _ _
/-- the first of what f finds, f told what came before -/
def firstF {α : Type} (f : List Ev → Ev → Option α) : List Ev → List Ev → Option α
  | _, [] => none
  | pre, e :: r => match f pre e with
    | some x => some x
    | none => firstF f (pre ++ [e]) r
theorem firstF_at {α : Type} {f : List Ev → Ev → Option α} {es : List Ev} {i : Nat} {e : Ev} (h : es[i]? = some e) : firstF f (es.take i) (es.drop i) = match f (es.take i) e with
    | some x => some x
    | none => firstF f (es.take (i + 1)) (es.drop (i + 1)) := by
  obtain ⟨hi, rfl⟩ := List.getElem?_eq_some_iff.mp h
  rw [List.drop_eq_getElem_cons hi, List.take_add_one, h]
  rfl
theorem take_snoc {α : Type} {es : List α} {i : Nat} {e : α} (h : es[i]? = some e) : es.take (i + 1) = es.take i ++ [e] := by
  rw [List.take_add_one, h]; rfl
/-! ### views -/
def othB (v : Vid) (ms : List Mem) : Ev → Bool
  | .vw _ _ v' ms' => decide (v' = v ∧ ms' ≠ ms)
  | _ => false
def fView (pre : List Ev) : Ev → Option PyData
  | .vw _ m v ms => if m ∉ ms then some (.tuple [.str "stranger", eM m, eV v]) else if pre.any (othB v ms) = true then some (.tuple [.str "lists", eM m, eV v]) else match vwOf m pre with
    | some old => if v.1 ≤ old.1 then some (.tuple [.str "falls", eM m, eV v]) else none
    | none => none
  | _ => none
/-! ### deliveries -/
def ctB (s : Mem) (v : Vid) (i : Int) (p : Str) : Ev → Bool
  | .ct _ m' v' i' p' => decide (m' = s ∧ v' = v ∧ i' = i ∧ p' = p)
  | _ => false
def cntM (s : Mem) (L : List Msg) : Nat := (L.filter fun g => decide (g.1 = s)).length
def fDel (pre : List Ev) : Ev → Option PyData
  | .dl _ m v g => if vwOf m pre ≠ some v then some (.tuple [.str "view", eM m, eG g]) else if pre.any (ctB g.1 v g.2.1 g.2.2) = false then some (.tuple [.str "uncast", eM m, eG g])
    else if g.2.1 ≠ (cntM g.1 (logOf m v pre) : Nat) + 1 then some (.tuple [.str "index", eM m, eG g]) else none
  | _ => none
/-! ### causes -/
def ciB (s : Mem) (v : Vid) (i : Int) : Ev → Bool
  | .ct _ m' v' i' _ => decide (m' = s ∧ v' = v ∧ i' = i)
  | _ => false
def fCause (all : List Ev) (pre : List Ev) : Ev → Option PyData
  | .dl _ m v g => match all.findIdx? (ciB g.1 v g.2.1) with
    | some j => if (logOf g.1 v (all.take j)).all (fun c => decide (c ∈ logOf m v pre)) = true then none else some (.tuple [.str "cause", eM m, eG g])
    | none => none
  | _ => none
/-! ### together -/
def tgS (v : Vid) (old : Vid) (pre : List Ev) : Ev → Option (Mem × List Msg)
  | .vw _ m v' _ => if v' = v ∧ vwOf m pre = some old then some (m, logOf m old pre) else none
  | _ => none
def fTog (pre : List Ev) : Ev → Option PyData
  | .vw _ m v _ => match vwOf m pre with
    | none => none
    | some old => match firstF (tgS v old) [] pre with
      | none => none
      | some (m1, l1) => if l1 ≠ logOf m old pre then some (.tuple [.str "apart", eM m1, eM m, eV v]) else none
  | _ => none
/-! ### own -/
def fOwn (pre : List Ev) : Ev → Option PyData
  | .vw _ m _ _ => match vwOf m pre with
    | none => none
    | some old => if (castsOf m old pre).all (fun c => decide (((m, c.1, c.2) : Msg) ∈ logOf m old pre)) = true then none else some (.tuple [.str "own", eM m, eV old])
  | _ => none
/-- faults, all told -/
def faults (es : List Ev) : List (Option PyData) := [firstF fView [] es, firstF fDel [] es, firstF (fCause es) [] es, firstF fTog [] es, firstF fOwn [] es]
end Mus

set_option maxRecDepth 100000
set_option maxHeartbeats 4000000
namespace Mus
open PySem PySem.Spec PyProof.Rows L2
theorem valN_put {ks : NKV} {k k' : NestedKey} {b : Addr} {v : V} : valN (putN ks k b v) k' = if k' = k then some v else valN ks k' := by
  have rep : ∀ ks : NKV, (valN ks k).isSome → valN (ks.map fun x => if x.1 = k then (x.1, x.2.1, v) else x) k' = if k' = k then some v else valN ks k' := by
    intro ks
    induction ks with
    | nil => intro h; cases h
    | cons y ys ih =>
      intro h
      unfold valN at h ih ⊢
      rw [List.map_cons, List.find?_cons, List.find?_cons]
      rw [List.find?_cons] at h
      by_cases e : y.1 = k
      · simp only [e, if_true]
        by_cases e2 : k = k'
        · simp [e2]
        · have e3 : ¬ k' = k := fun z => e2 z.symm
          simp only [decide_eq_false e2, if_neg e3]
          have nomem : ∀ zs : NKV, (zs.map fun x => if x.1 = k then (x.1, x.2.1, v) else x).find? (fun x => decide (x.1 = k')) = zs.find? (fun x => decide (x.1 = k')) := by
            intro zs
            induction zs with
            | nil => rfl
            | cons z zs ih2 =>
              rw [List.map_cons, List.find?_cons, List.find?_cons]
              by_cases e4 : z.1 = k
              · simp [e4, e2, ih2]
              · simp [e4, ih2]
          rw [nomem]
      · simp only [e, if_false]
        simp only [e, decide_false] at h
        by_cases e2 : y.1 = k'
        · have e3 : ¬ k' = k := fun z => e (e2.trans z)
          simp [e2, e3]
        · simp only [decide_eq_false e2]
          exact ih h
  have app : ∀ ks : NKV, valN ks k = none → valN (ks ++ [(k, b, v)]) k' = if k' = k then some v else valN ks k' := by
    intro ks
    induction ks with
    | nil =>
      intro _
      unfold valN
      by_cases e : k' = k
      · simp [e]
      · have e3 : ¬ k = k' := fun z => e z.symm
        simp [e, e3]
    | cons y ys ih =>
      intro h
      unfold valN at h ih ⊢
      rw [List.find?_cons] at h
      rw [List.cons_append, List.find?_cons, List.find?_cons]
      by_cases e : y.1 = k
      · simp [e] at h
      · simp only [e, decide_false] at h
        by_cases e2 : y.1 = k'
        · have e3 : ¬ k' = k := fun z => e (e2.trans z)
          simp [e2, e3]
        · simp only [decide_eq_false e2]
          exact ih h
  unfold putN
  cases h : valN ks k with
  | none => simp only [Option.isSome_none]; exact app ks h
  | some x => simp only [Option.isSome_some, if_true]; exact rep ks (by rw [h]; rfl)
theorem putN_len' (ks : NKV) (k : NestedKey) (b : Addr) (v : V) : (putN ks k b v).length = if (valN ks k).isSome then ks.length else ks.length + 1 := by
  unfold putN
  split
  · rw [List.length_map]
  · rw [List.length_append]; rfl
end Mus

set_option maxRecDepth 100000
set_option maxHeartbeats 4000000
/-! Dicts keyed by nested tuples: get with one argument, setdefault; data as keys; what such a dict holds, as a function. -/
namespace Mus
open PySem PySem.Spec PyProof.Rows L2
section
variable {X : Cx} {pins : List (Addr × Obj)} {σ : L2.St} {H : Hp} {s : Shared} {a b : Addr} {v : V} {u r : Value} {A : Around} {E : Value → Shared → Prop} {ks : NKV} {k : NestedKey}
theorem n_get1 {o : Option V} {Q : Value → Shared → Prop} (hu : A.units + 64 < cLine) (I : Inv X pins σ H s) (g : NGet X.w H a b o) (h : ∀ w' s', Inv X pins σ H s' → RelV (o.getD .non) w' → Q w' s') :
    wpAny (model X.prog X.w) A (call (.builtin "dict.get") [.ref a, .ref b]) Q E s := by
  obtain ⟨ks, k, n, nk, dk, l⟩ := g
  obtain ⟨xs, rel, dd⟩ := n.heap I
  refine call_meetsIn PySem.F.slot_dict_get dd.typeIs PySem.F.entry_dict_get (PySem.F.args_dict_get_2 _ _) (meetsH_dict_get (nestedKind X.prog X.w) a b n.sm) ⟨nd_room hu, k, xs, ⟨nk.is I.hok rfl, dk⟩, dd, h _ _ (I.tok _) ?_⟩
  rw [l]
  exact (rel.val k).getD rfl
theorem n_setd {z : V} {f : Value} {Q : Value → Shared → Prop} (hu : A.units + 64 < cLine) (I : Inv X pins σ H s) (n : Nd X.w H a ks) (nk : NK H (.ref b) k) (dk : k.depth ≤ 8) (rz : RelV z f)
    (h1 : ∀ v, valN ks k = some v → ∀ w' s', Inv X pins σ H s' → RelV v w' → Q w' s') (h2 : valN ks k = none → ∀ s', Inv X pins σ (upd H a (ndO X.w a (putN ks k b z))) s' → Q f s') :
    wpAny (model X.prog X.w) A (call (.builtin "dict.setdefault") [.ref a, .ref b, f]) Q E s := by
  obtain ⟨xs, rel, dd⟩ := n.heap I
  have hz : xs.length ≤ sizeLine := by rw [← Paired.length rel]; exact n.sz
  have rv := rel.val k
  refine call_setdefault_heap (knd := nestedKind X.prog X.w) (hsz := hz) (nd_room hu) ⟨nk.is I.hok rfl, dk⟩ n.sm dd (fun p hp => ?_) (fun hn h' dd' hs => ?_)
  · rw [hp] at rv
    cases e : valN ks k with
    | none => rw [e] at rv; exact rv.elim
    | some v =>
      rw [e] at rv
      exact h1 v e _ _ (I.tok _) rv
  · have e : valN ks k = none := by
      rw [hn] at rv
      cases e : valN ks k with
      | none => rfl
      | some v => rw [e] at rv; exact rv.elim
    refine h2 e _ ?_
    obtain ⟨q, es, ep, hq, h2, h3, h4, _, h5⟩ := dd'
    refine d_write I (by rw [n.ob]; exact True.intro) hs ⟨q, hq⟩ ⟨⟨_, q, es, ep, rel.put k b rz, hq, h2, h3, h4⟩, ⟨q, hq⟩, fun h1 h2 p st => ?_⟩
    obtain ⟨ys, o, es', ep', p1, p2, p3⟩ := p
    exact ⟨ys, o, es', ep', p1, st _ p2, p3⟩
end
def tNGet1 (w : World) (td ty : TE) : TE := fun σ H Q => td σ H fun x H1 => ∃ a ks, x = .ref a ∧ Nd w H1 a ks ∧ ty σ H1 fun y H2 => ∃ b o, y = .ref b ∧ NGet w H2 a b o ∧ Q (o.getD .non) H2
def tNSetd (w : World) (td ty tx : TE) : TE := fun σ H Q => td σ H fun x H1 => ∃ a ks0, x = .ref a ∧ Nd w H1 a ks0 ∧ ty σ H1 fun y H2 => tx σ H2 fun z H3 => ∃ b ks k, y = .ref b ∧ Nd w H3 a ks ∧ NK H3 (.ref b) k ∧ k.depth ≤ 8 ∧
  (∀ v, valN ks k = some v → Q v H3) ∧ (valN ks k = none → Q z (upd H3 a (ndO w a (putN ks k b z))))
section
variable {X : Cx} {o i e f value : Expr} {pos pos' apos cpos : Pos} {td ty tv tx : TE}
theorem pe_nget1 (hu : X.A.units + 64 < cLine) (ho : PE X o td) (he : PE X e ty) (m : M1 X o "get" apos e cpos) : PE X (.Call (.Attribute o "get" apos) [e] [] cpos) (tNGet1 X.w td ty) := by
  refine ⟨fun pins s σ H Q I h => ?_⟩
  refine wpAny_Call_method m.base m.few m.line PySem.F.plainAttrs_dict PySem.F.slot_dict_get PySem.F.type_dict_get (thn (ho.run pins s σ H _ I h) fun u s1 ⟨x, H1, I1, rx, a, ks, ex, n, q1⟩ => ?_)
  subst ex
  obtain rfl : u = Value.ref a := rx
  obtain ⟨xs, rel, dd⟩ := n.heap I1
  refine ⟨dd.typeIs, fun b q => ?_, ?_⟩
  · cases q
    obtain ⟨ob, _, _, h1, h2, _⟩ := dd
    exact ⟨ob, h1, h2.2.1⟩
  rw [m.trees]
  refine Calls.callWith_builtin rfl (Calls.evalArgs_plain (Calls.spliced_cons (thn (he.run pins s1 σ H1 _ I1 q1) fun iv s2 ⟨y, H2, I2, ry, b, ov, ey, g, q2⟩ => Calls.spliced_nil ?_)))
  subst ey
  obtain rfl : iv = Value.ref b := ry
  exact n_get1 hu I2 g fun w' s4 I4 rw' => ⟨_, H2, I4, rw', q2⟩
theorem pe_nsetd (hu : X.A.units + 64 < cLine) (ho : PE X o td) (he : PE X e ty) (hf : PE X f tx) (m : M2 X o "setdefault" apos e f cpos) : PE X (.Call (.Attribute o "setdefault" apos) [e, f] [] cpos) (tNSetd X.w td ty tx) := by
  refine ⟨fun pins s σ H Q I h => ?_⟩
  refine wpAny_Call_method m.base m.few m.line PySem.F.plainAttrs_dict PySem.F.slot_dict_setdefault PySem.F.type_dict_setdefault (thn (ho.run pins s σ H _ I h) fun u s1 ⟨x, H1, I1, rx, a, ks0, ex, n, q1⟩ => ?_)
  subst ex
  obtain rfl : u = Value.ref a := rx
  obtain ⟨xs, rel, dd⟩ := n.heap I1
  refine ⟨dd.typeIs, fun b q => ?_, ?_⟩
  · cases q
    obtain ⟨ob, _, _, h1, h2, _⟩ := dd
    exact ⟨ob, h1, h2.2.1⟩
  rw [m.trees]
  refine Calls.callWith_builtin rfl (Calls.evalArgs_plain (Calls.spliced_cons (thn (he.run pins s1 σ H1 _ I1 q1) fun iv s2 ⟨y, H2, I2, ry, q2⟩ =>
    Calls.spliced_cons (thn (hf.run pins s2 σ H2 _ I2 q2) fun fv s3 ⟨z, H3, I3, rz, b, ks, k, ey, n3, nk, dk, q3, q4⟩ => Calls.spliced_nil ?_))))
  subst ey
  obtain rfl : iv = Value.ref b := ry
  exact n_setd hu I3 n3 nk dk rz (fun v hv w' s4 I4 rw' => ⟨v, _, I4, rw', q3 v hv⟩) fun hn s4 I4 => ⟨z, _, I4, rz, q4 hn⟩
end
/-! ### data as keys -/
mutual
def kOf : PyData → NestedKey
  | .int i => .num i
  | .str x => .text x
  | .tuple ds => .tup (kOfs ds)
  | _ => .none
def kOfs : List PyData → List NestedKey
  | [] => []
  | d :: ds => kOf d :: kOfs ds
end
mutual
/-- ints, texts, None and tuples of them -/
def pln : PyData → Bool
  | .int _ => true
  | .str _ => true
  | .none => true
  | .tuple ds => plns ds
  | _ => false
def plns : List PyData → Bool
  | [] => true
  | d :: ds => pln d && plns ds
end
mutual
theorem TD.nkD {H : Hp} : ∀ {v : V} {d : PyData}, TD H v d → pln d = true → NK H v (kOf d)
  | _, _, .non, _ => .non
  | _, _, .bl b, h => by cases h
  | _, _, .int i, _ => .int i
  | _, _, .str x, _ => .str x
  | _, _, .tup h l r, hp => .tup h (TDs.nkD r hp)
theorem TDs.nkD {H : Hp} : ∀ {vs : List V} {ds : List PyData}, TDs H vs ds → plns ds = true → NKs H vs (kOfs ds)
  | _, _, .nil, _ => .nil
  | _, _, .cons a r, hp => by
    have hp : (pln _ && plns _) = true := hp
    rw [Bool.and_eq_true] at hp
    exact .cons (TD.nkD a hp.1) (TDs.nkD r hp.2)
end
mutual
theorem kOf_inj : ∀ {d e : PyData}, pln d = true → pln e = true → kOf d = kOf e → d = e
  | .int i, .int j, _, _, h => by injection h with h; rw [h]
  | .str x, .str y, _, _, h => by injection h with h; rw [h]
  | .none, .none, _, _, _ => rfl
  | .tuple ds, .tuple es, hd, he, h => by injection h with h; rw [kOfs_inj hd he h]
  | .int _, .str _, _, _, h => by cases h
  | .int _, .none, _, _, h => by cases h
  | .int _, .tuple _, _, _, h => by cases h
  | .str _, .int _, _, _, h => by cases h
  | .str _, .none, _, _, h => by cases h
  | .str _, .tuple _, _, _, h => by cases h
  | .none, .int _, _, _, h => by cases h
  | .none, .str _, _, _, h => by cases h
  | .none, .tuple _, _, _, h => by cases h
  | .tuple _, .int _, _, _, h => by cases h
  | .tuple _, .str _, _, _, h => by cases h
  | .tuple _, .none, _, _, h => by cases h
theorem kOfs_inj : ∀ {ds es : List PyData}, plns ds = true → plns es = true → kOfs ds = kOfs es → ds = es
  | [], [], _, _, _ => rfl
  | [], _ :: _, _, _, h => by cases h
  | _ :: _, [], _, _, h => by cases h
  | d :: ds, e :: es, hd, he, h => by
    have hd : (pln d && plns ds) = true := hd
    have he : (pln e && plns es) = true := he
    rw [Bool.and_eq_true] at hd he
    have h : kOf d :: kOfs ds = kOf e :: kOfs es := h
    injection h with h1 h2
    rw [kOf_inj hd.1 he.1 h1, kOfs_inj hd.2 he.2 h2]
end
/-! ### what such a dict holds -/
def OR {α : Type} (R : V → α → Prop) : Option V → Option α → Prop
  | some v, some x => R v x
  | none, none => True
  | _, _ => False
theorem OR.imp {α : Type} {R S : V → α → Prop} (f : ∀ v x, R v x → S v x) : ∀ {o : Option V} {p : Option α}, OR R o p → OR S o p
  | some _, some _, h => f _ _ h
  | none, none, _ => trivial
  | some _, none, h => h
  | none, some _, h => h
theorem OR.iss {α : Type} {R : V → α → Prop} : ∀ {o : Option V} {p : Option α}, OR R o p → o.isSome = p.isSome
  | some _, some _, _ => rfl
  | none, none, _ => rfl
  | some _, none, h => h.elim
  | none, some _, h => h.elim
/-- the dict at d holds g, by keys key -/
structure NM {κ α : Type} (w : World) (H : Hp) (d : Addr) (n : Nat) (key : κ → NestedKey) (R : V → α → Prop) (g : κ → Option α) : Prop where
  ex : ∃ ks, Nd w H d ks ∧ ks.length ≤ n ∧ (∀ x, OR R (valN ks (key x)) (g x)) ∧ ∀ k, (∀ x, k ≠ key x) → valN ks k = none
section
variable {κ α : Type} {w : World} {H H' : Hp} {d b : Addr} {n m : Nat} {key : κ → NestedKey} {R S : V → α → Prop} {g : κ → Option α}
theorem NM.mono (h : NM w H d n key R g) (e : H' d = H d) (t : TupK H H') (f : ∀ v x, R v x → S v x) (l : n ≤ m) : NM w H' d m key S g := by
  obtain ⟨ks, n1, n2, n3, n4⟩ := h.ex
  exact ⟨ks, n1.mono (by rw [e]; exact n1.ob) t, Nat.le_trans n2 l, fun x => (n3 x).imp f, n4⟩
theorem NM.ndo (h : NM w H d n key R g) : ∃ ks, H d = some (ndO w d ks) := by
  obtain ⟨ks, n1, _⟩ := h.ex
  exact ⟨ks, n1.ob⟩
theorem NM.ne_lst (h : NM w H d n key R g) {c : Addr} {xs : List V} (hc : H c = some (.lst xs)) : c ≠ d := fun z => by
  obtain ⟨ks, e⟩ := h.ndo
  rw [z, e] at hc; cases hc
theorem nm_new (h : (d == sysModules) = false) : NM w (upd H d (ndO w d [])) d 0 key R fun _ => none :=
  ⟨[], nd_new h, Nat.le_refl _, fun x => trivial, fun k _ => rfl⟩
/-- what stands at key x now -/
def setM {κ α : Type} [DecidableEq κ] (g : κ → Option α) (x : κ) (a : α) : κ → Option α := fun y => if y = x then some a else g y
theorem NM.put [DecidableEq κ] {ks : NKV} {x : κ} {v : V} {a : α} (inj : ∀ x y, key x = key y → x = y) (n1 : Nd w H d ks) (n2 : ks.length ≤ n) (n3 : ∀ x, OR R (valN ks (key x)) (g x)) (n4 : ∀ k, (∀ x, k ≠ key x) → valN ks k = none)
    (hk : NK H (.ref b) (key x)) (dk : (key x).depth ≤ 8) (hl : n < 1000000) (hv : S v a) (f : ∀ v x, R v x → S v x) : NM w (upd H d (ndO w d (putN ks (key x) b v))) d (n + 1) key S (setM g x a) := by
  have hs := sl
  refine ⟨_, n1.put hk dk (by omega), Nat.le_trans (putN_len _ _ _ _) (by omega), fun y => ?_, fun k hn => ?_⟩
  · rw [valN_put]
    unfold setM
    by_cases e : y = x
    · rw [e, if_pos rfl, if_pos rfl]; exact hv
    · rw [if_neg e, if_neg fun z => e (inj _ _ z)]
      exact (n3 y).imp f
  · rw [valN_put, if_neg (hn x)]
    exact n4 k hn
theorem NM.get {x : κ} (h : NM w H d n key R g) (hk : NK H (.ref b) (key x)) (dk : (key x).depth ≤ 8) : ∃ o, NGet w H d b o ∧ OR R o (g x) := by
  obtain ⟨ks, n1, _, n3, _⟩ := h.ex
  exact ⟨_, ⟨ks, _, n1, hk, dk, rfl⟩, n3 x⟩
theorem NM.getN {k : NestedKey} (h : NM w H d n key R g) (hk : NK H (.ref b) k) (dk : k.depth ≤ 8) (hn : ∀ x, k ≠ key x) : NGet w H d b none := by
  obtain ⟨ks, n1, _, _, n4⟩ := h.ex
  exact ⟨ks, k, n1, hk, dk, (n4 k hn).symm⟩
end
end Mus

set_option maxRecDepth 100000
set_option maxHeartbeats 4000000
namespace Mus
open PySem PySem.Spec PyProof.Rows L2
/-! ### equality of plain data -/
mutual
theorem pln_eqv : ∀ {d e : PyData}, pln d = true → pln e = true → (PyData.eqv d e = true ↔ d = e)
  | .int i, .int j, _, _ => by
    show (i == j) = true ↔ _
    rw [beq_iff_eq]
    exact ⟨fun h => by rw [h], fun h => by injection h⟩
  | .str x, .str y, _, _ => by
    show (x == y) = true ↔ _
    rw [beq_iff_eq]
    exact ⟨fun h => by rw [h], fun h => by injection h⟩
  | .none, .none, _, _ => ⟨fun _ => rfl, fun _ => rfl⟩
  | .tuple ds, .tuple es, hd, he => by
    show PyData.eqvAll ds es = true ↔ _
    rw [plns_eqv hd he]
    exact ⟨fun h => by rw [h], fun h => by injection h⟩
  | .int _, .str _, _, _ => ⟨fun h => (by cases h), fun h => (by cases h)⟩
  | .int _, .none, _, _ => ⟨fun h => (by cases h), fun h => (by cases h)⟩
  | .int _, .tuple _, _, _ => ⟨fun h => (by cases h), fun h => (by cases h)⟩
  | .str _, .int _, _, _ => ⟨fun h => (by cases h), fun h => (by cases h)⟩
  | .str _, .none, _, _ => ⟨fun h => (by cases h), fun h => (by cases h)⟩
  | .str _, .tuple _, _, _ => ⟨fun h => (by cases h), fun h => (by cases h)⟩
  | .none, .int _, _, _ => ⟨fun h => (by cases h), fun h => (by cases h)⟩
  | .none, .str _, _, _ => ⟨fun h => (by cases h), fun h => (by cases h)⟩
  | .none, .tuple _, _, _ => ⟨fun h => (by cases h), fun h => (by cases h)⟩
  | .tuple _, .int _, _, _ => ⟨fun h => (by cases h), fun h => (by cases h)⟩
  | .tuple _, .str _, _, _ => ⟨fun h => (by cases h), fun h => (by cases h)⟩
  | .tuple _, .none, _, _ => ⟨fun h => (by cases h), fun h => (by cases h)⟩
theorem plns_eqv : ∀ {ds es : List PyData}, plns ds = true → plns es = true → (PyData.eqvAll ds es = true ↔ ds = es)
  | [], [], _, _ => ⟨fun _ => rfl, fun _ => rfl⟩
  | [], _ :: _, _, _ => ⟨fun h => (by cases h), fun h => (by cases h)⟩
  | _ :: _, [], _, _ => ⟨fun h => (by cases h), fun h => (by cases h)⟩
  | d :: ds, e :: es, hd, he => by
    have hd : (pln d && plns ds) = true := hd
    have he : (pln e && plns es) = true := he
    rw [Bool.and_eq_true] at hd he
    show (PyData.eqv d e && PyData.eqvAll ds es) = true ↔ _
    rw [Bool.and_eq_true, pln_eqv hd.1 he.1, plns_eqv hd.2 he.2, List.cons.injEq]
end
theorem eqv_dec {d e : PyData} {p : Prop} [Decidable p] (hd : pln d = true) (he : pln e = true) (h : d = e ↔ p) : PyData.eqv d e = decide p := by
  rw [Bool.eq_iff_iff, decide_eq_true_eq, pln_eqv hd he, h]
theorem eM_inj {a b : Mem} (h : eM a = eM b) : a = b := by
  unfold eM at h
  injection h with h
  injection h with h1 h
  injection h with h2 _
  injection h1 with h1
  injection h2 with h2
  exact Prod.ext h1 h2
theorem eV_inj {a b : Vid} (h : eV a = eV b) : a = b := by
  unfold eV at h
  injection h with h
  injection h with h1 h
  injection h with h2 _
  injection h1 with h1
  exact Prod.ext h1 (eM_inj h2)
theorem eG_inj {a b : Msg} (h : eG a = eG b) : a = b := by
  unfold eG at h
  injection h with h
  injection h with h1 h
  injection h with h2 h
  injection h with h3 _
  injection h2 with h2
  injection h3 with h3
  exact Prod.ext (eM_inj h1) (Prod.ext h2 h3)
theorem map_inj {α : Type} {f : α → PyData} (hf : ∀ a b, f a = f b → a = b) : ∀ {l m : List α}, l.map f = m.map f → l = m
  | [], [], _ => rfl
  | [], _ :: _, h => by cases h
  | _ :: _, [], h => by cases h
  | a :: l, b :: m, h => by
    rw [List.map_cons, List.map_cons, List.cons.injEq] at h
    rw [hf _ _ h.1, map_inj hf h.2]
theorem eMs_inj {a b : List Mem} (h : eMs a = eMs b) : a = b := by
  unfold eMs at h
  injection h with h
  exact map_inj (fun _ _ => eM_inj) h
theorem eM_pln (m : Mem) : pln (eM m) = true := rfl
theorem eV_pln (v : Vid) : pln (eV v) = true := rfl
theorem eG_pln (g : Msg) : pln (eG g) = true := rfl
theorem plns_map {α : Type} {f : α → PyData} (hf : ∀ a, pln (f a) = true) : ∀ l : List α, plns (l.map f) = true
  | [] => rfl
  | a :: l => by
    show (pln (f a) && plns (l.map f)) = true
    rw [hf a, plns_map hf l]; rfl
theorem eMs_pln (ms : List Mem) : pln (eMs ms) = true := plns_map eM_pln ms
/-! ### laid, and how deep -/
theorem lay_map {α : Type} {f : α → PyData} {n : Nat} (h : ∀ a, (f a).canLay0 = true ∧ (f a).depth ≤ n) : ∀ l : List α, PyData.canLayAll0 (l.map f) = true ∧ PyData.depthAll (l.map f) ≤ n
  | [] => ⟨rfl, Nat.zero_le _⟩
  | a :: l => by
    have i := lay_map h l
    have j := h a
    rw [List.map_cons]
    refine ⟨by simp [PyData.canLayAll0, i.1, j.1], ?_⟩
    simp [PyData.depthAll]
    omega
theorem shaped_of {d : PyData} (h : d.canLay0 = true) (l : d.depth ≤ 10) : SeqAt.shaped d = true := by
  unfold SeqAt.shaped
  rw [Bool.and_eq_true, decide_eq_true_eq]
  exact ⟨h, by omega⟩
theorem eMs_sh (ms : List Mem) : SeqAt.shaped (eMs ms) = true := by
  have h := lay_map (f := eM) (n := 1) (fun m => ⟨(eM_lay m).1, by rw [(eM_lay m).2.1]; exact Nat.le_refl _⟩) ms
  refine shaped_of (by simp [eMs, PyData.canLay0, h.1]) ?_
  unfold eMs
  have := h.2
  simp [PyData.depth]
  omega
/-! ### events in the heap -/
theorem TD.evw {H : Hp} {v : V} {t : Int} {m : Mem} {vid : Vid} {ms : List Mem} (h : TD H v (eE (.vw t m vid ms))) : ∃ b x y z, v = .ref b ∧ H b = some (.tup [.str "view", .int t, x, y, z]) ∧ TD H x (eM m) ∧ TD H y (eV vid) ∧ TD H z (eMs ms) := by
  unfold eE at h
  obtain _ | _ | _ | _ | @⟨b, xs, _, hb, _, r⟩ := h
  obtain _ | @⟨_, _, _, _, r1, r⟩ := r
  obtain _ | @⟨_, _, _, _, r2, r⟩ := r
  obtain _ | @⟨_, _, _, _, r3, r⟩ := r
  obtain _ | @⟨_, _, _, _, r4, r⟩ := r
  obtain _ | @⟨_, _, _, _, r5, r⟩ := r
  cases r; cases r1; cases r2
  exact ⟨b, _, _, _, rfl, hb, r3, r4, r5⟩
theorem TD.ect {H : Hp} {v : V} {t i : Int} {m : Mem} {vid : Vid} {p : Str} (h : TD H v (eE (.ct t m vid i p))) : ∃ b x y, v = .ref b ∧ H b = some (.tup [.str "cast", .int t, x, y, .int i, .str p]) ∧ TD H x (eM m) ∧ TD H y (eV vid) := by
  unfold eE at h
  obtain _ | _ | _ | _ | @⟨b, xs, _, hb, _, r⟩ := h
  obtain _ | @⟨_, _, _, _, r1, r⟩ := r
  obtain _ | @⟨_, _, _, _, r2, r⟩ := r
  obtain _ | @⟨_, _, _, _, r3, r⟩ := r
  obtain _ | @⟨_, _, _, _, r4, r⟩ := r
  obtain _ | @⟨_, _, _, _, r5, r⟩ := r
  obtain _ | @⟨_, _, _, _, r6, r⟩ := r
  cases r; cases r1; cases r2; cases r5; cases r6
  exact ⟨b, _, _, rfl, hb, r3, r4⟩
theorem TD.edl {H : Hp} {v : V} {t : Int} {m : Mem} {vid : Vid} {g : Msg} (h : TD H v (eE (.dl t m vid g))) : ∃ b x y z, v = .ref b ∧ H b = some (.tup [.str "deliver", .int t, x, y, z]) ∧ TD H x (eM m) ∧ TD H y (eV vid) ∧ TD H z (eG g) := by
  unfold eE at h
  obtain _ | _ | _ | _ | @⟨b, xs, _, hb, _, r⟩ := h
  obtain _ | @⟨_, _, _, _, r1, r⟩ := r
  obtain _ | @⟨_, _, _, _, r2, r⟩ := r
  obtain _ | @⟨_, _, _, _, r3, r⟩ := r
  obtain _ | @⟨_, _, _, _, r4, r⟩ := r
  obtain _ | @⟨_, _, _, _, r5, r⟩ := r
  cases r; cases r1; cases r2
  exact ⟨b, _, _, _, rfl, hb, r3, r4, r5⟩
theorem TD.ecr {H : Hp} {v : V} {t n : Int} (h : TD H v (eE (.cr t n))) : ∃ b, v = .ref b ∧ H b = some (.tup [.str "crash", .int t, .int n]) := by
  unfold eE at h
  obtain _ | _ | _ | _ | @⟨b, xs, _, hb, _, r⟩ := h
  obtain _ | @⟨_, _, _, _, r1, r⟩ := r
  obtain _ | @⟨_, _, _, _, r2, r⟩ := r
  obtain _ | @⟨_, _, _, _, r3, r⟩ := r
  cases r; cases r1; cases r2; cases r3
  exact ⟨b, rfl, hb⟩
theorem TDs.map_at {α : Type} {f : α → PyData} {H : Hp} {us : List V} {l : List α} {i : Nat} {v : V} (h : TDs H us (l.map f)) (hi : us[i]? = some v) : ∃ x, l[i]? = some x ∧ TD H v (f x) := by
  obtain ⟨d, hd, td⟩ := h.at hi
  rw [List.getElem?_map] at hd
  cases e : l[i]? with
  | none => rw [e] at hd; cases hd
  | some x => rw [e] at hd; cases hd; exact ⟨x, rfl, td⟩
theorem fView_vw (pre : List Ev) (t : Int) (m : Mem) (v : Vid) (ms : List Mem) : fView pre (.vw t m v ms) = if m ∉ ms then some (.tuple [.str "stranger", eM m, eV v]) else if pre.any (othB v ms) = true then some (.tuple [.str "lists", eM m, eV v]) else match vwOf m pre with
    | some old => if v.1 ≤ old.1 then some (.tuple [.str "falls", eM m, eV v]) else none
    | none => none := rfl
theorem fDel_dl (pre : List Ev) (t : Int) (m : Mem) (v : Vid) (g : Msg) : fDel pre (.dl t m v g) = if vwOf m pre ≠ some v then some (.tuple [.str "view", eM m, eG g]) else if pre.any (ctB g.1 v g.2.1 g.2.2) = false then some (.tuple [.str "uncast", eM m, eG g])
    else if g.2.1 ≠ (cntM g.1 (logOf m v pre) : Nat) + 1 then some (.tuple [.str "index", eM m, eG g]) else none := rfl
theorem fCause_dl (all pre : List Ev) (t : Int) (m : Mem) (v : Vid) (g : Msg) : fCause all pre (.dl t m v g) = match all.findIdx? (ciB g.1 v g.2.1) with
    | some j => if (logOf g.1 v (all.take j)).all (fun c => decide (c ∈ logOf m v pre)) = true then none else some (.tuple [.str "cause", eM m, eG g])
    | none => none := rfl
theorem fTog_vw (pre : List Ev) (t : Int) (m : Mem) (v : Vid) (ms : List Mem) : fTog pre (.vw t m v ms) = match vwOf m pre with
    | none => none
    | some old => match firstF (tgS v old) [] pre with
      | none => none
      | some (m1, l1) => if l1 ≠ logOf m old pre then some (.tuple [.str "apart", eM m1, eM m, eV v]) else none := rfl
theorem fOwn_vw (pre : List Ev) (t : Int) (m : Mem) (v : Vid) (ms : List Mem) : fOwn pre (.vw t m v ms) = match vwOf m pre with
    | none => none
    | some old => if (castsOf m old pre).all (fun c => decide (((m, c.1, c.2) : Msg) ∈ logOf m old pre)) = true then none else some (.tuple [.str "own", eM m, eV old]) := rfl
theorem vwOf_vw (m' : Mem) (pre : List Ev) (t : Int) (m : Mem) (v : Vid) (ms : List Mem) : vwOf m' (pre ++ [.vw t m v ms]) = if m = m' then some v else vwOf m' pre := vwOf_snoc _ _ _
/-! ### words that differ -/
theorem w_vc : V.str "view" ≠ .str "cast" := fun h => absurd (V.str.inj h) (by decide +kernel)
theorem w_vd : V.str "view" ≠ .str "deliver" := fun h => absurd (V.str.inj h) (by decide +kernel)
theorem w_cv : V.str "cast" ≠ .str "view" := fun h => absurd (V.str.inj h) (by decide +kernel)
theorem w_cd : V.str "cast" ≠ .str "deliver" := fun h => absurd (V.str.inj h) (by decide +kernel)
theorem w_dv : V.str "deliver" ≠ .str "view" := fun h => absurd (V.str.inj h) (by decide +kernel)
theorem w_dc : V.str "deliver" ≠ .str "cast" := fun h => absurd (V.str.inj h) (by decide +kernel)
theorem w_xv : V.str "crash" ≠ .str "view" := fun h => absurd (V.str.inj h) (by decide +kernel)
theorem w_xc : V.str "crash" ≠ .str "cast" := fun h => absurd (V.str.inj h) (by decide +kernel)
theorem w_xd : V.str "crash" ≠ .str "deliver" := fun h => absurd (V.str.inj h) (by decide +kernel)
/-! ### keys -/
def kMm (m : Mem) : NestedKey := kOf (eM m)
def kVv (v : Vid) : NestedKey := kOf (eV v)
theorem kMm_inj (a b : Mem) (h : kMm a = kMm b) : a = b := eM_inj (kOf_inj (eM_pln a) (eM_pln b) h)
theorem kVv_inj (a b : Vid) (h : kVv a = kVv b) : a = b := eV_inj (kOf_inj (eV_pln a) (eV_pln b) h)
theorem kMm_depth (m : Mem) : (kMm m).depth ≤ 8 := by simp [kMm, kOf, kOfs, eM, NestedKey.depth, NestedKey.depthAll]
theorem kVv_depth (v : Vid) : (kVv v).depth ≤ 8 := by simp [kVv, kOf, kOfs, eV, eM, NestedKey.depth, NestedKey.depthAll]
theorem TD.nkM {H : Hp} {v : V} {m : Mem} (h : TD H v (eM m)) : ∃ a, v = .ref a ∧ NK H (.ref a) (kMm m) := by
  have := h.nkD (eM_pln m)
  obtain _ | _ | _ | _ | @⟨a, xs, _, _, _, _⟩ := h
  exact ⟨a, rfl, this⟩
theorem TD.nkV {H : Hp} {v : V} {m : Vid} (h : TD H v (eV m)) : ∃ a, v = .ref a ∧ NK H (.ref a) (kVv m) := by
  have := h.nkD (eV_pln m)
  obtain _ | _ | _ | _ | @⟨a, xs, _, _, _, _⟩ := h
  exact ⟨a, rfl, this⟩
theorem TD.int_fst {H : Hp} {v : V} {d : PyData} {k : Int} {e : PyData} (h : TD H v (.tuple [.int k, e])) : ∃ b u, v = .ref b ∧ H b = some (.tup [.int k, u]) ∧ TD H u e := by
  obtain _ | _ | _ | _ | @⟨b, xs, _, hb, _, r⟩ := h
  obtain _ | @⟨_, _, _, _, r1, r⟩ := r
  obtain _ | @⟨_, _, _, _, r2, r⟩ := r
  cases r; cases r1
  exact ⟨b, _, rfl, hb, r2⟩
/-- the payloads are texts that data may hold -/
def EvOk : Ev → Prop
  | .ct _ _ _ _ p => PyData.strOk p = true
  | .dl _ _ _ g => PyData.strOk g.2.2 = true
  | .vw _ _ _ ms => ms.length ≤ 100
  | .cr _ _ => True
/-- a fault is told -/
def sp_fault (f : List Ev → Option PyData) : Sp := fun vs H Q _ => ∃ (a : Addr) (us : List V) (es : List Ev), vs = [.ref a] ∧ H a = some (.lst us) ∧ TDs H us (es.map eE) ∧ (∀ e ∈ es, EvOk e) ∧ es.length ≤ 30 ∧ ∀ v H', Same H H' → TD H' v ((f es).getD .none) → Q v H'
theorem td3 {H : Hp} {t : Addr} {z : Str} {x y : V} {d e : PyData} (nt : H t = none) (hx : TD H x d) (hy : TD H y e) : TD (upd H t (.tup [.str z, x, y])) (.ref t) (.tuple [.str z, d, e]) :=
  .tup upd_same (by show 3 ≤ 100000; decide) (.cons (.str z) (.cons (hx.same (same_new nt _)) (.cons (hy.same (same_new nt _)) .nil)))
theorem td4 {H : Hp} {t : Addr} {z : Str} {x y u : V} {d e f : PyData} (nt : H t = none) (hx : TD H x d) (hy : TD H y e) (hu : TD H u f) : TD (upd H t (.tup [.str z, x, y, u])) (.ref t) (.tuple [.str z, d, e, f]) :=
  .tup upd_same (by show 4 ≤ 100000; decide) (.cons (.str z) (.cons (hx.same (same_new nt _)) (.cons (hy.same (same_new nt _)) (.cons (hu.same (same_new nt _)) .nil))))
/-! ### more keys -/
theorem kOf_enc {κ : Type} {enc : κ → PyData} (hp : ∀ x, pln (enc x) = true) (hi : ∀ x y, enc x = enc y → x = y) (x y : κ) (h : kOf (enc x) = kOf (enc y)) : x = y := hi _ _ (kOf_inj (hp x) (hp y) h)
abbrev CK := Mem × Vid × Int × Str
def eCK (x : CK) : PyData := .tuple [eM x.1, eV x.2.1, .int x.2.2.1, .str x.2.2.2]
def kCK (x : CK) : NestedKey := kOf (eCK x)
theorem kCK_inj : ∀ x y : CK, kCK x = kCK y → x = y := kOf_enc (enc := eCK) (fun _ => rfl) fun x y h => by
  unfold eCK at h
  injection h with h
  injection h with h1 h
  injection h with h2 h
  injection h with h3 h
  injection h with h4 h
  injection h3 with h3
  injection h4 with h4
  exact Prod.ext (eM_inj h1) (Prod.ext (eV_inj h2) (Prod.ext h3 h4))
theorem kCK_depth (x : CK) : (kCK x).depth ≤ 8 := by simp [kCK, eCK, kOf, kOfs, eV, eM, NestedKey.depth, NestedKey.depthAll]
abbrev NK3 := Mem × Vid × Mem
def eN3 (x : NK3) : PyData := .tuple [eM x.1, eV x.2.1, eM x.2.2]
def kN3 (x : NK3) : NestedKey := kOf (eN3 x)
theorem kN3_inj : ∀ x y : NK3, kN3 x = kN3 y → x = y := kOf_enc (enc := eN3) (fun _ => rfl) fun x y h => by
  unfold eN3 at h
  injection h with h
  injection h with h1 h
  injection h with h2 h
  injection h with h3 h
  exact Prod.ext (eM_inj h1) (Prod.ext (eV_inj h2) (eM_inj h3))
theorem kN3_depth (x : NK3) : (kN3 x).depth ≤ 8 := by simp [kN3, eN3, kOf, kOfs, eV, eM, NestedKey.depth, NestedKey.depthAll]
abbrev MV := Mem × Vid
def eMV (x : MV) : PyData := .tuple [eM x.1, eV x.2]
def kMV (x : MV) : NestedKey := kOf (eMV x)
theorem kMV_inj : ∀ x y : MV, kMV x = kMV y → x = y := kOf_enc (enc := eMV) (fun _ => rfl) fun x y h => by
  unfold eMV at h
  injection h with h
  injection h with h1 h
  injection h with h2 h
  exact Prod.ext (eM_inj h1) (eV_inj h2)
theorem kMV_depth (x : MV) : (kMV x).depth ≤ 8 := by simp [kMV, eMV, kOf, kOfs, eV, eM, NestedKey.depth, NestedKey.depthAll]
abbrev MVI := Mem × Vid × Int
def eMVI (x : MVI) : PyData := .tuple [eM x.1, eV x.2.1, .int x.2.2]
def kMVI (x : MVI) : NestedKey := kOf (eMVI x)
theorem kMVI_inj : ∀ x y : MVI, kMVI x = kMVI y → x = y := kOf_enc (enc := eMVI) (fun _ => rfl) fun x y h => by
  unfold eMVI at h
  injection h with h
  injection h with h1 h
  injection h with h2 h
  injection h with h3 h
  injection h3 with h3
  exact Prod.ext (eM_inj h1) (Prod.ext (eV_inj h2) h3)
theorem kMVI_depth (x : MVI) : (kMVI x).depth ≤ 8 := by simp [kMVI, eMVI, kOf, kOfs, eV, eM, NestedKey.depth, NestedKey.depthAll]
def kGg (g : Msg) : NestedKey := kOf (eG g)
theorem kGg_inj : ∀ x y : Msg, kGg x = kGg y → x = y := kOf_enc (enc := eG) (fun _ => rfl) fun x y h => eG_inj h
theorem kGg_depth (g : Msg) : (kGg g).depth ≤ 8 := by simp [kGg, kOf, kOfs, eG, eM, NestedKey.depth, NestedKey.depthAll]
abbrev VV := Vid × Vid
def eVV (x : VV) : PyData := .tuple [eV x.1, eV x.2]
def kVV (x : VV) : NestedKey := kOf (eVV x)
theorem kVV_inj : ∀ x y : VV, kVV x = kVV y → x = y := kOf_enc (enc := eVV) (fun _ => rfl) fun x y h => by
  unfold eVV at h
  injection h with h
  injection h with h1 h
  injection h with h2 h
  exact Prod.ext (eV_inj h1) (eV_inj h2)
theorem kVV_depth (x : VV) : (kVV x).depth ≤ 8 := by simp [kVV, eVV, kOf, kOfs, eV, eM, NestedKey.depth, NestedKey.depthAll]
abbrev MVG := Mem × Vid × Msg
def eMVG (x : MVG) : PyData := .tuple [eM x.1, eV x.2.1, eG x.2.2]
def kMVG (x : MVG) : NestedKey := kOf (eMVG x)
theorem kMVG_inj : ∀ x y : MVG, kMVG x = kMVG y → x = y := kOf_enc (enc := eMVG) (fun _ => rfl) fun x y h => by
  unfold eMVG at h
  injection h with h
  injection h with h1 h
  injection h with h2 h
  injection h with h3 h
  exact Prod.ext (eM_inj h1) (Prod.ext (eV_inj h2) (eG_inj h3))
theorem kMVG_depth (x : MVG) : (kMVG x).depth ≤ 8 := by simp [kMVG, eMVG, kOf, kOfs, eV, eM, eG, NestedKey.depth, NestedKey.depthAll]
/-- a key made anew -/
theorem nk_tup {H : Hp} {t : Addr} {xs : List V} {ds : List PyData} (nt : H t = none) (r : TDs H xs ds) (hp : plns ds = true) : NK (upd H t (.tup xs)) (.ref t) (kOf (.tuple ds)) :=
  .tup upd_same ((TDs.nkD r hp).mono fun b xs h => same_new nt _ _ _ h)
end Mus

set_option maxRecDepth 100000
set_option maxHeartbeats 4000000
/-! Methods and makers of own classes, as DefOk is for defs. -/
namespace Mus
open PySem L2
structure MethOk (P : Program) (w : World) (K : PySem.W.Frag) (mg : Str → Option Value) (base : Heap) (CX : CXT) (C : Addr) (x : Str) (ps : List Str) (k : Nat) (sp : Sp) where
  f : Addr
  fd : FuncData
  G : FnOk P w K mg base CX k f fd ps sp
  m : Meth K C x f
  b : Binds K fd ps []
structure MethAt (K : PySem.W.Frag) (C : Addr) (x qual : Str) (ps : List Str) (st : Stmt) where
  f : Addr
  fd : FuncData
  F : Fun K x qual st f fd
  m : Meth K C x f
  b : Binds K fd ps []
def MethAt.ok {P : Program} {w : World} {K : PySem.W.Frag} {mg : Str → Option Value} {base : Heap} {CX : CXT} {C : Addr} {x qual : Str} {ps : List Str} {st : Stmt} {k : Nat} {sp : Sp} (d : MethAt K C x qual ps st) (h : ∀ {f : Addr} {fd : FuncData}, Fun K x qual st f fd → FnOk P w K mg base CX k f fd ps sp) : MethOk P w K mg base CX C x ps k sp :=
  ⟨d.f, d.fd, h d.F, d.m, d.b⟩
/-- a class whose __init__ keeps the promise -/
structure MkOk (P : Program) (w : World) (K : PySem.W.Frag) (mg : Str → Option Value) (base : Heap) (C : Addr) (x : Str) (ps : List Str) (k : Nat) (sp : Sp) where
  f : Addr
  fd : FuncData
  G : FnOk P w K mg base CX0 k f fd ps sp
  M : Mk K C f
  g : mg x = some (.ref C)
  b : Binds K fd ps []
def MethAt.mk' {P : Program} {w : World} {K : PySem.W.Frag} {mg : Str → Option Value} {base : Heap} {C : Addr} {x : Str} {qual : Str} {ps : List Str} {st : Stmt} {k : Nat} {sp : Sp} (d : MethAt K C "__init__" qual ps st) (hm : PySem.W.makesIn K C = true) (hk : PySem.W.keepIn K (.ref C) = true) (g : mg x = some (.ref C))
    (h : ∀ {f : Addr} {fd : FuncData}, Fun K "__init__" qual st f fd → FnOk P w K mg base CX0 k f fd ps sp) : MkOk P w K mg base C x ps k sp :=
  ⟨d.f, d.fd, h d.F, ⟨hm, d.m.at_, d.m.fn, hk⟩, g, d.b⟩
section
variable {X : Cx} {C : Addr} {x m : Str} {ps : List Str} {j k : Nat} {sp : Sp} {o e : Expr} {es : List Expr} {to : TE} {t : TA} {p pos apos : Pos}
theorem pmeth {pl : Sem Bool} (c : MethOk X.prog X.w X.K X.mg X.base CX0 C m ps j sp) (cl : Cls X.K C) (ho : PE X o to) (hr : Room k X.A) (ha : PA X (e :: es) t) (hj : j ≤ k := by first | decide | omega)
    (st0 : starEach (e :: es) X.env = (false, eval e X.env) :: starEach es X.env := by rfl) (pl0 : (backTo pos (starEach es X.env)).any (·.1) = false := by rfl)
    (ht : eval (.Call (.Attribute o m apos) (e :: es) [] pos) X.env = (do
      let v ← eval o X.env; standAt apos.atName; let (f, one) ← holding [v] (getMethod v m pl)
      callWith pos f one (backTo pos (starEach (e :: es) X.env)) (backToKw pos (keywordEach [] X.env))) := by rfl) :
    PE X (.Call (.Attribute o m apos) (e :: es) [] pos) (tMeth C m sp [] E0 to t) := pe_meth ho cl c.m c.G (hr.mono hj) c.b .nil pass0 ha st0 pl0 ht
theorem pmeth0 {pl : Sem Bool} (c : MethOk X.prog X.w X.K X.mg X.base CX0 C m ps j sp) (cl : Cls X.K C) (ho : PE X o to) (hr : Room k X.A) (hj : j ≤ k := by first | decide | omega)
    (ht : eval (.Call (.Attribute o m apos) [] [] pos) X.env = (do
      let v ← eval o X.env; standAt apos.atName; let (f, one) ← holding [v] (getMethod v m pl)
      callWith pos f one (backTo pos (starEach [] X.env)) (backToKw pos (keywordEach [] X.env))) := by rfl) :
    PE X (.Call (.Attribute o m apos) [] [] pos) (tMeth C m sp [] E0 to tNil) := pe_meth0 ho cl c.m c.G (hr.mono hj) c.b .nil pass0 ht
theorem pmake (c : MkOk X.prog X.w X.K X.mg X.base C x ps j sp) (hr : Room k X.A) (ha : PA X (e :: es) t) (hj : j + 1 ≤ k := by first | decide | omega) (hg : Gl X x := by rfl)
    (d0 : (x == ("__debug__" : Str)) = false := by decide) (st0 : starEach (e :: es) X.env = (false, eval e X.env) :: starEach es X.env := by rfl) (pl0 : (backTo pos (starEach es X.env)).any (·.1) = false := by rfl) :
    PE X (.Call (.Name x p) (e :: es) [] pos) (tMake C sp [] E0 t) := pe_make c.M c.G (hr.mono hj) hg c.g c.b .nil pass0 ha d0 st0 pl0
theorem pmake0 (c : MkOk X.prog X.w X.K X.mg X.base C x ps j sp) (hr : Room k X.A) (hj : j + 1 ≤ k := by first | decide | omega) (hg : Gl X x := by rfl) (d0 : (x == ("__debug__" : Str)) = false := by decide) :
    PE X (.Call (.Name x p) [] [] pos) (tMake C sp [] E0 tNil) := pe_make0 c.M c.G (hr.mono hj) hg c.g c.b .nil pass0 d0
end
end Mus

set_option maxRecDepth 100000
set_option maxHeartbeats 4000000
/-! Errors of the program's own: made without arguments, let out by methods. -/
namespace Mus
open PySem PySem.Spec PyProof.Rows L2
section
variable {X : Cx} {C : Addr} {bmB : List Value} {B newId initId : String}
theorem pmk_own0 {x : Str} {p pos : Pos} (F : ExcBaseFacts B newId initId bmB) (q : PySem.W.excIn X.K C bmB newId = true) (gC : X.mg x = some (.ref C)) (kC : PySem.W.keepIn X.K (.ref C) = true) (r : Raises X (.ref C)) (hg : Gl X x := by rfl)
    (hdb : (x == ("__debug__" : Str)) = false := by decide) : PMk X (.Call (.Name x p) [] [] pos) (fun _ H Q => Q (.ref C) none H) := by
  intro pins s σ H Q I h
  refine wpAny_Call_Name_kw (ld_glob I hg gC ?_ hdb)
  refine PySem.W.callWith_K0 I.kIn kC ?_
  show wpAny _ _ (call (.ref C) []) _ _ _
  obtain ⟨mem, g, dw, tn, io⟩ := s
  obtain ⟨chain, N, nm0, qn, bs, hdct, sn, sub, ab, col, dd, k0, k1, k2, k3, k5, mN, cC, hN, hni, T⟩ := exc_obj I.kIn q
  exact wpAny_call_exc_subT F T cC hN hni (fun h' a hm => mk_of I hm r h (I.hok.gone hm.new)) (by show 0 ≤ sizeLine; rw [sizeLine_eq]; omega)
end
section
variable {X : Cx} {C : Addr} {x m : Str} {ps : List Str} {j k : Nat} {sp : Sp} {o e : Expr} {es : List Expr} {to : TE} {t : TA} {p pos apos : Pos} {W : WX} {E : XK}
/-- o.m(e, ..), what it lets out leaves this def, too -/
theorem pmethE {pl : Sem Bool} (c : MethOk X.prog X.w X.K X.mg X.base (L2.CX X.prog X.w) C m ps j sp) (cl : Cls X.K C) (tk : Takes X W) (hW : ∀ cls d σ H, E cls d H → W cls d σ H) (ho : PE X o to) (hr : Room k X.A) (ha : PA X (e :: es) t) (hj : j ≤ k := by first | decide | omega)
    (st0 : starEach (e :: es) X.env = (false, eval e X.env) :: starEach es X.env := by rfl) (pl0 : (backTo pos (starEach es X.env)).any (·.1) = false := by rfl)
    (ht : eval (.Call (.Attribute o m apos) (e :: es) [] pos) X.env = (do
      let v ← eval o X.env; standAt apos.atName; let (f, one) ← holding [v] (getMethod v m pl)
      callWith pos f one (backTo pos (starEach (e :: es) X.env)) (backToKw pos (keywordEach [] X.env))) := by rfl) :
    PE X (.Call (.Attribute o m apos) (e :: es) [] pos) (tMeth C m sp [] E to t) := pe_meth ho cl c.m c.G (hr.mono hj) c.b .nil (passes_call tk hW) ha st0 pl0 ht
theorem pmethE0 {pl : Sem Bool} (c : MethOk X.prog X.w X.K X.mg X.base (L2.CX X.prog X.w) C m ps j sp) (cl : Cls X.K C) (tk : Takes X W) (hW : ∀ cls d σ H, E cls d H → W cls d σ H) (ho : PE X o to) (hr : Room k X.A) (hj : j ≤ k := by first | decide | omega)
    (ht : eval (.Call (.Attribute o m apos) [] [] pos) X.env = (do
      let v ← eval o X.env; standAt apos.atName; let (f, one) ← holding [v] (getMethod v m pl)
      callWith pos f one (backTo pos (starEach [] X.env)) (backToKw pos (keywordEach [] X.env))) := by rfl) :
    PE X (.Call (.Attribute o m apos) [] [] pos) (tMeth C m sp [] E to tNil) := pe_meth0 ho cl c.m c.G (hr.mono hj) c.b .nil (passes_call tk hW) ht
/-- f(e, ..), the same of a def -/
theorem pcallE (c : DefOk X.prog X.w X.K X.mg X.base (L2.CX X.prog X.w) x ps j sp) (tk : Takes X W) (hW : ∀ cls d σ H, E cls d H → W cls d σ H) (hr : Room k X.A) (ha : PA X (e :: es) t) (hj : j ≤ k := by first | decide | omega) (hg : Gl X x := by rfl)
    (db0 : (x == ("__debug__" : Str)) = false := by decide) (st0 : starEach (e :: es) X.env = (false, eval e X.env) :: starEach es X.env := by rfl) (pl0 : (backTo pos (starEach es X.env)).any (·.1) = false := by rfl) :
    PE X (.Call (.Name x p) (e :: es) [] pos) (tCall sp [] E t) := pe_call c.G (hr.mono hj) hg c.m c.kp c.b .nil (passes_call tk hW) ha db0 st0 pl0
end
end Mus

set_option maxRecDepth 100000
set_option maxHeartbeats 4000000
/-! Calls whose errors are caught where the slots stand. -/
namespace Mus
open PySem PySem.Spec PyProof.Rows L2
/-! ### calls in a try's body -/
def tMethA (C : Addr) (m : Str) (sp : Sp) (E : L2.St → XK) (ta : TE) (t : TA) : TE := fun σ H Q => ta σ H fun x H1 => ∃ a dx fs, x = .ref a ∧ H1 a = some (.ins C dx fs) ∧ fs.lookup m = none ∧ t σ H1 fun vs H2 => sp (x :: vs) H2 Q (E σ)
section
variable {X : Cx} {C : Addr} {x m : Str} {ps : List Str} {j k : Nat} {sp : Sp} {o e : Expr} {es : List Expr} {to : TE} {t : TA} {p pos apos : Pos} {W : WX}
theorem pmethA {pl : Sem Bool} (c : MethOk X.prog X.w X.K X.mg X.base (L2.CX X.prog X.w) C m ps j sp) (cl : Cls X.K C) (tk : Takes X W) (ho : PE X o to) (hr : Room k X.A) (ha : PA X (e :: es) t) (hj : j ≤ k := by first | decide | omega)
    (st0 : starEach (e :: es) X.env = (false, eval e X.env) :: starEach es X.env := by rfl) (pl0 : (backTo pos (starEach es X.env)).any (·.1) = false := by rfl)
    (ht : eval (.Call (.Attribute o m apos) (e :: es) [] pos) X.env = (do
      let v ← eval o X.env; standAt apos.atName; let (f, one) ← holding [v] (getMethod v m pl)
      callWith pos f one (backTo pos (starEach (e :: es) X.env)) (backToKw pos (keywordEach [] X.env))) := by rfl) :
    PE X (.Call (.Attribute o m apos) (e :: es) [] pos) (tMethA C m sp (WE W) to t) := by
  refine ⟨fun pins s σ H Q I h => ?_⟩
  refine PySem.W.methodCall_KW (pl := pl) (thn (ho.run pins s σ H _ I h) fun u s1 ⟨x, H1, I1, rx, a, dx, fs, ex, ea, l, q⟩ => ?_) ht
  subst ex
  obtain rfl : u = Value.ref a := rx
  refine getmeth_ok I1 ea cl c.m l ?_
  refine PySem.W.callWith_K (first := [.ref a]) (h₀ := X.base) I.ok.mod.kin c.m.kp (thn (ha.run pos pins s1 σ H1 _ I1 q) fun us s2 ⟨vs, H2, I2, r, q2⟩ => ⟨I2.kIn, ?_⟩) st0 pl0
  exact run_fnS (us := .ref a :: us) (vs := .ref a :: vs) c.G (hr.mono hj) c.b (passAt tk σ) I2 (.cons rfl r) q2
theorem pmethA0 {pl : Sem Bool} (c : MethOk X.prog X.w X.K X.mg X.base (L2.CX X.prog X.w) C m ps j sp) (cl : Cls X.K C) (tk : Takes X W) (ho : PE X o to) (hr : Room k X.A) (hj : j ≤ k := by first | decide | omega)
    (ht : eval (.Call (.Attribute o m apos) [] [] pos) X.env = (do
      let v ← eval o X.env; standAt apos.atName; let (f, one) ← holding [v] (getMethod v m pl)
      callWith pos f one (backTo pos (starEach [] X.env)) (backToKw pos (keywordEach [] X.env))) := by rfl) :
    PE X (.Call (.Attribute o m apos) [] [] pos) (tMethA C m sp (WE W) to tNil) := by
  refine ⟨fun pins s σ H Q I h => ?_⟩
  refine PySem.W.methodCall_KW (pl := pl) (thn (ho.run pins s σ H _ I h) fun u s1 ⟨x, H1, I1, rx, a, dx, fs, ex, ea, l, q⟩ => ?_) ht
  subst ex
  obtain rfl : u = Value.ref a := rx
  refine getmeth_ok I1 ea cl c.m l ?_
  refine PySem.W.callWith_K0 (first := [.ref a]) I1.kIn c.m.kp ?_
  exact run_fnS (us := [.ref a]) (vs := [.ref a]) c.G (hr.mono hj) c.b (passAt tk σ) I1 (.cons rfl .nil) q
theorem pcallA (c : DefOk X.prog X.w X.K X.mg X.base (L2.CX X.prog X.w) x ps j sp) (tk : Takes X W) (hr : Room k X.A) (ha : PA X (e :: es) t) (hj : j ≤ k := by first | decide | omega) (hg : Gl X x := by rfl)
    (db0 : (x == ("__debug__" : Str)) = false := by decide) (st0 : starEach (e :: es) X.env = (false, eval e X.env) :: starEach es X.env := by rfl) (pl0 : (backTo pos (starEach es X.env)).any (·.1) = false := by rfl) :
    PE X (.Call (.Name x p) (e :: es) [] pos) (tCallS sp (WE W) t) := pe_callS c.G (hr.mono hj) hg c.m c.kp c.b (fun σ => passAt tk σ) ha db0 st0 pl0
end
end Mus

set_option maxRecDepth 100000
set_option maxHeartbeats 4000000
/-! The same rules, so that Lean finds the inner readings: they may name what they don't depend on. -/
namespace Mus
open PySem PySem.Spec PyProof.Rows L2
def s00 : Shared := {}
def h00 : Hp := fun _ => none
def o00 : Obj := default
def x00 : Value → Shared → Prop := fun _ _ => False
section
variable {X : Cx} {x n : Str} {c : Value} {i : Nat} {body suite : List Stmt} {b₀ : Stmt} {np pos pos' : Pos} {tb : WX → List (Addr × Obj) → (Value → Shared → Prop) → TS} {ts : Addr → Obj → Value → Option Addr → List (Addr × Obj) → TS} {Wout : WX}
theorem ps_tryAs (hs : X.stack = X.env :: X.outer) (hf : X.env.frame = some X.env.locals) (hN : X.N.Nodup) (hi : X.N[i]? = some n) (hln : X.env.kindOf n = some .local) (hc : Names X x c) (tk : Takes X Wout)
    (hb : ∀ W pn xe, Takes (X.tr pn xe) W → PassesOwn (model X.prog X.w) X.A X.env xe → PSs (X.tr pn xe) body (tb W pn xe)) (hsu : ∀ a oe cls d pn, Zc cls d oe → (∃ vs, oe.data = .fields vs) → PSs (X.suite a ((a, oe) :: pn)) (b₀ :: suite) (ts a oe cls d pn))
    (i1 : ∀ W pn xe, tb W pn xe = tb W [] x00 := by intros; rfl) (i2 : ∀ a oe cls d pn, ts a oe cls d pn = ts a o00 cls d [] := by intros; rfl) :
    PS X (.Try body [.ExceptHandler (some (.Name x np)) (some n) (b₀ :: suite) pos'] [] [] pos) (fun D σ H => tb (wAs X.K c i (fun a cls d => ts a o00 cls d []) Wout D) [] x00 D σ H) :=
  ps_try_as (tb := fun W => tb W [] x00) hs hf hN hi hln hc tk (fun W pn xe t p => i1 W pn xe ▸ hb W pn xe t p) fun a oe cls d pn z f => i2 a oe cls d pn ▸ hsu a oe cls d pn z f
end
section
variable {X : Cx} {body : List Stmt} {h₀ : ExceptHandler} {hds : List ExceptHandler} {l : List (Value × (Addr → Value → Option Addr → TS))} {pos : Pos} {tb : WX → List (Addr × Obj) → (Value → Shared → Prop) → TS} {Wout : WX}
theorem ps_tryX (hs : X.stack = X.env :: X.outer) (hf : X.env.frame = some X.env.locals) (tk : Takes X Wout)
    (hb : ∀ W pn xe, Takes (X.tr pn xe) W → PassesOwn (model X.prog X.w) X.A X.env xe → PSs (X.tr pn xe) body (tb W pn xe)) (hh : HdsOk X (h₀ :: hds) l) (i1 : ∀ W pn xe, tb W pn xe = tb W [] x00 := by intros; rfl) :
    PS X (.Try body (h₀ :: hds) [] [] pos) (fun D σ H => tb (wMany X.K Wout D l) [] x00 D σ H) :=
  ps_try_many (tb := fun W => tb W [] x00) hs hf tk (fun W pn xe t p => i1 W pn xe ▸ hb W pn xe t p) hh
theorem hd_one {x : Str} {c : Value} {ts : Addr → Obj → Value → Option Addr → List (Addr × Obj) → TS} {b₀ : Stmt} {suite : List Stmt} {np pos' : Pos} (hc : Names X x c)
    (hsu : ∀ a oe cls d pn, Zc cls d oe → (∃ vs, oe.data = .fields vs) → PSs (X.suite a ((a, oe) :: pn)) (b₀ :: suite) (ts a oe cls d pn)) (r : HdsOk X hds l) (i2 : ∀ a oe cls d pn, ts a oe cls d pn = ts a o00 cls d [] := by intros; rfl) :
    HdsOk X (.ExceptHandler (some (.Name x np)) none (b₀ :: suite) pos' :: hds) ((c, fun a cls d => ts a o00 cls d []) :: l) :=
  .cons hc (fun a oe cls d pn z f => i2 a oe cls d pn ▸ hsu a oe cls d pn z f) r
end
section
variable {X : Cx} {elt tg iter : Expr} {ifs : List Expr} {scope : Scope} {own : List (Str × Nat)} {pos : Pos} {wi : TI} {g : Shared → Hp → Addr → List (Str × Addr) → List Addr → TG} {tt : Shared → Hp → Addr → List (Str × Addr) → List Addr → TT} {te : Shared → Hp → Addr → List (Str × Addr) → List Addr → TE}
theorem pe_lcX (hc : X.calm = true) (hN : X.N.Nodup) (hi : PI X tg iter wi) (ok : BlkOk X.N X.env.scope scope own)
    (hg : ∀ (s : Shared) (H : Hp) (C : Addr) (cl : List (Str × Addr)) (fp : List Addr), PG (X.blk s H scope (compEnvC scope cl C X.env) fp) tg (g s H C cl fp)) (ht : ∀ (s : Shared) (H : Hp) (C : Addr) (cl : List (Str × Addr)) (fp : List Addr), PTs (X.blk s H scope (compEnvC scope cl C X.env) fp) ifs (tt s H C cl fp))
    (he : ∀ (s : Shared) (H : Hp) (C : Addr) (cl : List (Str × Addr)) (fp : List Addr), PE (X.blk s H scope (compEnvC scope cl C X.env) fp) elt (te s H C cl fp)) (hs : ∀ x, foldedSetIterable iter X.env x = pure x := by intro _; rfl)
    (i1 : ∀ s H C cl fp, g s H C cl fp = g s00 h00 0 [] [] := by intros; rfl) (i2 : ∀ s H C cl fp, tt s H C cl fp = tt s00 h00 0 [] [] := by intros; rfl) (i3 : ∀ s H C cl fp, te s H C cl fp = te s00 h00 0 [] [] := by intros; rfl) :
    PE X (.ListComp elt [⟨tg, iter, ifs, 0⟩] scope pos) (tLc wi (g s00 h00 0 [] []) (tt s00 h00 0 [] []) (te s00 h00 0 [] []) (own.map (·.2))) :=
  pe_lc hc hN hi ok (fun s H C cl fp => i1 s H C cl fp ▸ hg s H C cl fp) (fun s H C cl fp => i2 s H C cl fp ▸ ht s H C cl fp) (fun s H C cl fp => i3 s H C cl fp ▸ he s H C cl fp) hs
theorem ps_setLcX {i : Nat} {y : Str} {py : Pos} {spos : Pos} (hc : X.calm = true) (hN : X.N.Nodup) (hy : X.N[i]? = some y) (hyl : X.env.scope.names.lookup y = some .local)
    (hsw : swapsWith (.ListComp elt [⟨tg, iter, ifs, 0⟩] scope pos) (some (.Name y py)) spos.line X.env = pure true) (hi : PI X tg iter wi) (ok : BlkOk X.N X.env.scope scope own)
    (hg : ∀ (s : Shared) (H : Hp) (C : Addr) (cl : List (Str × Addr)) (fp : List Addr), PG (X.blk s H scope (compEnvC scope cl C X.env) fp) tg (g s H C cl fp)) (ht : ∀ (s : Shared) (H : Hp) (C : Addr) (cl : List (Str × Addr)) (fp : List Addr), PTs (X.blk s H scope (compEnvC scope cl C X.env) fp) ifs (tt s H C cl fp))
    (he : ∀ (s : Shared) (H : Hp) (C : Addr) (cl : List (Str × Addr)) (fp : List Addr), PE (X.blk s H scope (compEnvC scope cl C X.env) fp) elt (te s H C cl fp)) (hs : ∀ x, foldedSetIterable iter X.env x = pure x := by intro _; rfl)
    (i1 : ∀ s H C cl fp, g s H C cl fp = g s00 h00 0 [] [] := by intros; rfl) (i2 : ∀ s H C cl fp, tt s H C cl fp = tt s00 h00 0 [] [] := by intros; rfl) (i3 : ∀ s H C cl fp, te s H C cl fp = te s00 h00 0 [] [] := by intros; rfl) :
    PS X (.Assign [.Name y py] (.ListComp elt [⟨tg, iter, ifs, 0⟩] scope pos) spos) (tAsg (tLc wi (g s00 h00 0 [] []) (tt s00 h00 0 [] []) (te s00 h00 0 [] []) (own.map (·.2))) (gName i)) :=
  ps_setLc hc hN hy hyl hsw hi ok (fun s H C cl fp => i1 s H C cl fp ▸ hg s H C cl fp) (fun s H C cl fp => i2 s H C cl fp ▸ ht s H C cl fp) (fun s H C cl fp => i3 s H C cl fp ▸ he s H C cl fp) hs
end
end Mus

set_option maxRecDepth 100000
set_option maxHeartbeats 4000000
/-! comprehensions with two sources; their readings are found by Lean. -/
namespace Mus
open PySem PySem.Spec PyProof.Rows L2
section
variable {X : Cx} {elt tg iter tg1 iter1 : Expr} {ifs ifs1 : List Expr} {scope : Scope} {own : List (Str × Nat)} {vs1 : List Nat} {pos : Pos} {wi : TI} {g g1 : Shared → Hp → Addr → List (Str × Addr) → List Addr → TG} {tt tt1 : Shared → Hp → Addr → List (Str × Addr) → List Addr → TT} {te : Shared → Hp → Addr → List (Str × Addr) → List Addr → TE} {wi1 : Shared → Hp → Addr → List (Str × Addr) → List Addr → TI}
theorem pe_lc2X (hc : X.calm = true) (hN : X.N.Nodup) (hi : PI X tg iter wi) (ok : BlkOk X.N X.env.scope scope own) (hv : ∀ i ∈ vs1, i ∈ own.map (·.2))
    (hg : ∀ (s : Shared) (H : Hp) (C : Addr) (cl : List (Str × Addr)) (fp : List Addr), PG (X.blk s H scope (compEnvC scope cl C X.env) fp) tg (g s H C cl fp)) (ht : ∀ (s : Shared) (H : Hp) (C : Addr) (cl : List (Str × Addr)) (fp : List Addr), PTs (X.blk s H scope (compEnvC scope cl C X.env) fp) ifs (tt s H C cl fp))
    (hi1 : ∀ (s : Shared) (H : Hp) (C : Addr) (cl : List (Str × Addr)) (fp : List Addr), PI (X.blk s H scope (compEnvC scope cl C X.env) fp) tg1 iter1 (wi1 s H C cl fp))
    (hg1 : ∀ (s : Shared) (H : Hp) (C : Addr) (cl : List (Str × Addr)) (fp : List Addr), PG (X.blk s H scope (compEnvC scope cl C X.env) fp) tg1 (g1 s H C cl fp)) (ht1 : ∀ (s : Shared) (H : Hp) (C : Addr) (cl : List (Str × Addr)) (fp : List Addr), PTs (X.blk s H scope (compEnvC scope cl C X.env) fp) ifs1 (tt1 s H C cl fp))
    (he : ∀ (s : Shared) (H : Hp) (C : Addr) (cl : List (Str × Addr)) (fp : List Addr), PE (X.blk s H scope (compEnvC scope cl C X.env) fp) elt (te s H C cl fp)) (hs : ∀ x, foldedSetIterable iter X.env x = pure x := by intro _; rfl) (hs1 : ∀ env x, foldedSetIterable iter1 env x = pure x := by intro _ _; rfl)
    (i1 : ∀ s H C cl fp, g s H C cl fp = g s00 h00 0 [] [] := by intros; rfl) (i2 : ∀ s H C cl fp, tt s H C cl fp = tt s00 h00 0 [] [] := by intros; rfl) (i3 : ∀ s H C cl fp, te s H C cl fp = te s00 h00 0 [] [] := by intros; rfl)
    (i4 : ∀ s H C cl fp, wi1 s H C cl fp = wi1 s00 h00 0 [] [] := by intros; rfl) (i5 : ∀ s H C cl fp, g1 s H C cl fp = g1 s00 h00 0 [] [] := by intros; rfl) (i6 : ∀ s H C cl fp, tt1 s H C cl fp = tt1 s00 h00 0 [] [] := by intros; rfl) :
    PE X (.ListComp elt [⟨tg, iter, ifs, 0⟩, ⟨tg1, iter1, ifs1, 0⟩] scope pos) (tLc2 wi (g s00 h00 0 [] []) (tt s00 h00 0 [] []) (wi1 s00 h00 0 [] []) (g1 s00 h00 0 [] []) (tt1 s00 h00 0 [] []) (te s00 h00 0 [] []) (own.map (·.2)) vs1) :=
  pe_lc2 hc hN hi ok hv (fun s H C cl fp => i1 s H C cl fp ▸ hg s H C cl fp) (fun s H C cl fp => i2 s H C cl fp ▸ ht s H C cl fp) (fun s H C cl fp => i4 s H C cl fp ▸ hi1 s H C cl fp) (fun s H C cl fp => i5 s H C cl fp ▸ hg1 s H C cl fp) (fun s H C cl fp => i6 s H C cl fp ▸ ht1 s H C cl fp) (fun s H C cl fp => i3 s H C cl fp ▸ he s H C cl fp) hs hs1
end
end Mus

set_option maxRecDepth 100000
set_option maxHeartbeats 4000000
namespace Mus
open PySem L2
local macro_rules | `(tactic| walk_at "rd") => `(tactic| first
  | refine ⟨_, rfl, ?_⟩ | refine ⟨(True.intro : True), ?_⟩
  | refine ⟨_, _, rfl, rfl, (⟨by decide, by decide, by decide⟩ : CPow _ _), ?_⟩
  | refine ⟨_, _, rfl, rfl, (⟨by decide, by decide⟩ : CDiv _ _), ?_⟩
  | refine ⟨_, _, rfl, rfl, (by show (0 : Int) < _; decide), ?_⟩
  | refine ⟨_, _, rfl, rfl, ?_⟩ | refine ⟨rfl, ?_⟩ | refine iteT ?_ | refine iteF ?_ | refine ⟨_, _, rfl, ?_⟩ | refine .inl ⟨_, rfl, ?_⟩
  | refine ⟨_, _, _, _, _, rfl, (by assumption), (by assumption), (by assumption), rfl, ?_⟩ | refine ⟨_, _, _, _, rfl, rfl, SqT.of (by assumption), rfl, ?_⟩ | refine ⟨_, _, rfl, SqT.of (by assumption), rfl, ?_⟩
  | refine ⟨_, _, _, _, _, rfl, .ty _, Rp.ty (by assumption), kit_int _, ?_⟩ | refine ⟨_, _, _, _, _, rfl, .ty _, Rp.ty (by assumption), kit_bool _, ?_⟩
  | refine ⟨_, _, _, _, _, rfl, .ty _, Rp.ty (by assumption), kit_str _, ?_⟩ | refine ⟨_, _, _, _, _, rfl, .ty _, Rp.ty (by assumption), kit_tup _, ?_⟩)
local macro_rules | `(tactic| walk_at "cal") => `(tactic| first
  | refine ⟨_, _, _, _, _, rfl, (by assumption), ?_⟩ | refine ⟨_, _, _, _, _, rfl, (by assumption), (by assumption), ?_⟩)
local macro_rules | `(tactic| walk_at "sq") => `(tactic| first
  | refine ⟨_, _, rfl, Or.inr (SqT.of (by assumption)), ?_⟩ | refine ⟨_, _, _, _, rfl, rfl, SqT.of (by assumption), rfl, ?_⟩)
local macro_rules | `(tactic| walk_at "rds") => `(tactic| repeat first | walk_at "rd" | walk_at "cal" | walk_at "sq")
local macro_rules | `(tactic| walk_at "ze") => `(tactic| repeat first
  | exact zes_nil | exact ze_bl | exact ze_str | exact ze_non | apply zes_cons | apply ze_tup | apply ze_lst | apply ze_cat | exact di_c | exact di_v rfl | apply di_opC | apply di_op | apply di_neg | apply ze_i | (refine (⟨?_, ?_, ?_⟩ : CPow _ _) <;> decide) | exact Nat.le_of_ble_eq_true rfl | exact ze_varD rfl (by assumption))
local macro_rules | `(tactic| walk_at "rdz") => `(tactic| repeat (fail_if_success (first | show tLst _ _ _ _ | show tAsg (tLst _) _ _ _ _ | show tSeq (tAsg (tLst _) _) _ _ _ _)); first | walk_at "rd" | walk_at "cal" | walk_at "sq")
def top (i : Nat) : Stmt := PySem.Challenge.pw_mustercall_k61_judge_by_pairs.main.body.getD i (.Pass ⟨0, 0, 0, 0⟩)
structure Tx (mg : Str → Option Value) : Prop where
  b_len : mg "len" = none
  b_int : mg "int" = none
  b_str : mg "str" = none
  b_list : mg "list" = none
  b_range : mg "range" = none
  b_abs : mg "abs" = none
  b_isinstance : mg "isinstance" = none
/-- the first list of a view -/
def LsOk (pre : List Ev) (g : Vid → Option (List Mem)) : Prop := (∀ t m v ms, Ev.vw t m v ms ∈ pre → g v = some ms) ∧ ∀ v ms, g v = some ms → ∃ t m, Ev.vw t m v ms ∈ pre
theorem LsOk.other {pre : List Ev} {g : Vid → Option (List Mem)} (h : LsOk pre g) {e : Ev} (he : ∀ t m v ms, e ≠ .vw t m v ms) : LsOk (pre ++ [e]) g := by
  refine ⟨fun t m v ms hm => ?_, fun v ms hg => ?_⟩
  · rcases List.mem_append.mp hm with hm | hm
    · exact h.1 t m v ms hm
    · exact absurd (List.mem_singleton.mp hm).symm (he t m v ms)
  · obtain ⟨t, m, hm⟩ := h.2 v ms hg
    exact ⟨t, m, List.mem_append_left _ hm⟩
theorem LsOk.old {pre : List Ev} {g : Vid → Option (List Mem)} (h : LsOk pre g) {t : Int} {m : Mem} {v : Vid} {ms : List Mem} (hg : g v = some ms) : LsOk (pre ++ [.vw t m v ms]) g := by
  refine ⟨fun t' m' v' ms' hm => ?_, fun v' ms' hg' => ?_⟩
  · rcases List.mem_append.mp hm with hm | hm
    · exact h.1 t' m' v' ms' hm
    · have := List.mem_singleton.mp hm
      injection this with _ _ e1 e2
      rw [e1, e2]; exact hg
  · obtain ⟨t, m, hm⟩ := h.2 v' ms' hg'
    exact ⟨t, m, List.mem_append_left _ hm⟩
theorem LsOk.new {pre : List Ev} {g : Vid → Option (List Mem)} (h : LsOk pre g) {t : Int} {m : Mem} {v : Vid} {ms : List Mem} (hg : g v = none) : LsOk (pre ++ [.vw t m v ms]) (setM g v ms) := by
  refine ⟨fun t' m' v' ms' hm => ?_, fun v' ms' hg' => ?_⟩
  · unfold setM
    rcases List.mem_append.mp hm with hm | hm
    · have e := h.1 t' m' v' ms' hm
      rw [if_neg (fun z => by rw [z, hg] at e; cases e)]
      exact e
    · have := List.mem_singleton.mp hm
      injection this with _ _ e1 e2
      rw [e1, if_pos rfl, e2]
  · unfold setM at hg'
    split at hg'
    · rename_i e
      cases hg'
      exact ⟨t, m, by rw [e]; exact List.mem_append_right _ (List.mem_singleton.mpr rfl)⟩
    · obtain ⟨t, m, hm⟩ := h.2 v' ms' hg'
      exact ⟨t, m, List.mem_append_left _ hm⟩
theorem oth_any {pre : List Ev} {v : Vid} {ms : List Mem} : pre.any (othB v ms) = true ↔ ∃ t m ms', Ev.vw t m v ms' ∈ pre ∧ ms' ≠ ms := by
  rw [List.any_eq_true]
  constructor
  · rintro ⟨e, he, h⟩
    cases e <;> first | (cases h; done) | skip
    rename_i t m v' ms'
    have h : decide (v' = v ∧ ms' ≠ ms) = true := h
    rw [decide_eq_true_eq] at h
    obtain ⟨rfl, hne⟩ := h
    exact ⟨t, m, ms', he, hne⟩
  · rintro ⟨t, m, ms', he, h⟩
    exact ⟨_, he, decide_eq_true ⟨rfl, h⟩⟩
section
variable {P : Program} {w : World} {K : PySem.W.Frag} {mg : Str → Option Value} {base : Heap}
theorem rd_notInMs {H : Hp} {x y : V} {a : Mem} {ms : List Mem} {Q : VK} (hx : TD H x (eM a)) (hy : TD H y (eMs ms)) (q : Q (.bl (!decide (a ∈ ms))) H) : rInDD K not x y H Q := rd_inMs hx hy q
abbrev s_view_fault : Stmt := top 1
abbrev N_view_fault : List Str := ["events", "lists", "numbers", "event", "member", "view_id", "members"]
abbrev P_view_fault : List Str := ["events"]
theorem sc_view_fault : FnScope N_view_fault P_view_fault (defScope s_view_fault) := ⟨rfl, rfl, rfl, by decide +kernel, rfl, by decide +kernel, by decide +kernel⟩
theorem ok_view_fault {f : Addr} {fd : FuncData} (T : Tx mg) (F : Fun K "view_fault" "view_fault" s_view_fault f fd) : FnOk P w K mg base CX0 (1) f fd P_view_fault (sp_fault fun es => firstF fView [] es) := by
  have nd := sc_view_fault.nd
  refine F.ok sc_view_fault (fun vs H Q E h => ?_) (fun cdv A outer s H vs Q E hr h => ?_)
  · obtain ⟨_, _, _, rfl, _⟩ := h
    rfl
  · obtain ⟨a, us, es, rfl, ha, hr0, hok, hlen, q⟩ := h
    have hs := sl
    refine ⟨_, (pss_cons (ps_set (i := 1) nd rfl (Or.inl rfl) pe_nnew)
      (pss_cons (ps_set (i := 2) nd rfl (Or.inl rfl) pe_nnew)
      (pss_cons (ps_for PassesOwn.never rfl (pi_list (pv 0)) (pg_name (i := 3) nd rfl (Or.inl rfl))
        (pss_cons (ps_if (pt_cmpR op_ne (pe_ix ix_tup (pv 3) pe_int (fun _ _ => rfl)) pe_str (nomark _))
          (pss_one ps_continue)
          pss_nil)
        (pss_cons (ps_asg (pe_slice sl_tupA (pv 3) (po_some pe_int) po_none) (pg_tup (by rfl) (pgs_cons (pg_name (i := 4) nd rfl (Or.inl rfl)) (pgs_cons (pg_name (i := 5) nd rfl (Or.inl rfl)) (pgs_cons (pg_name (i := 6) nd rfl (Or.inl rfl)) pgs_nil)))))
        (pss_cons (ps_if (pt_cmpR (op_notInDD hr.units) (pv 4) (pv 6) (by rfl))
          (pss_one (ps_ret (pe_tup (pa_cons pe_str (pa_cons (pv 4) (pa_cons (pv 5) pa_nil))))))
          pss_nil)
        (C8.pss_cut (ps_if (pt_cmpR (op_neD hr.units) (pe_nsetd hr.units (pv 1) (pv 5) (pv 6) ⟨rfl, rfl, rfl, rfl⟩) (pv 6) (nomark _))
          (pss_one (ps_ret (pe_tup (pa_cons pe_str (pa_cons (pv 4) (pa_cons (pv 5) pa_nil))))))
          pss_nil)
        (pss_cons (ps_if (PW.pt (pw_and (pt_cmp (pc_nin hr.units (pv 4) (pv 2))) (pw_and1 (pt_cmpR op_le (pe_ix ix_tup (pv 5) pe_int (fun _ _ => rfl)) (pe_nget hr.units (pv 2) (pv 4) (fun _ _ => rfl)) (nomark _)))))
          (pss_one (ps_ret (pe_tup (pa_cons pe_str (pa_cons (pv 4) (pa_cons (pv 5) pa_nil))))))
          pss_nil)
        (pss_one (ps_nput hr.units (pv 2) (pv 4) (pe_ix ix_tup (pv 5) pe_int (fun _ _ => rfl)) rfl))))))))
      (pss_one (ps_ret pe_non))))), ?_⟩
    refine fun d1 nd1 sd1 => ?_
    refine fun d2 nd2 sd2 => ?_
    have nd2 : (upd H d1 (ndO w d1 [])) d2 = none := nd2
    have s1 := same_new nd1 (ndO w d1 [])
    have s2 := same_new nd2 (ndO w d2 [])
    have e12 : d1 ≠ d2 := ne_of_none upd_same nd2
    have lx := hr0.length
    rw [List.length_map] at lx
    have f2 : H d2 = none := by rwa [upd_ne e12.symm] at nd2
    refine ⟨_, rfl, a, rfl, ⟨_, SqL.of (s2 _ _ (s1 _ _ ha))⟩, for_list (K := K) (a := a) (xs := us) (fun i σ H' => ∃ (x3 x4 x5 x6 : Option V) (g1 : Vid → Option (List Mem)), σ = [some (.ref a), some (.ref d1), some (.ref d2), x3, x4, x5, x6] ∧ Same H H' ∧ NM w H' d1 i kVv (fun v ms => TD H' v (eMs ms)) g1 ∧ LsOk (es.take i) g1 ∧
      NM w H' d2 i kMm (fun v n => v = .int n) (fun m => (vwOf m (es.take i)).map (·.1)) ∧ firstF fView (es.take i) (es.drop i) = firstF fView [] es) ?_ ?_ ?_ ?_⟩
    · refine ⟨_, _, _, _, fun _ => none, rfl, s1.trans s2, ?_, ⟨fun t m v ms h => (by rw [List.take_zero] at h; cases h), fun v ms h => (by cases h)⟩, nm_new sd2, rfl⟩
      exact NM.mono (n := 0) (nm_new (R := fun v ms => TD _ v (eMs ms)) sd1) (by rw [upd_ne e12]; rfl) (TupK.of s2) (fun v ms h => h.same s2) (Nat.le_refl _)
    · rintro i σ H' _ ⟨_, _, _, _, _, rfl, s3, _⟩
      exact SqL.of (s3 _ _ ha)
    · rintro i v σ H1 hx ⟨x3, x4, x5, x6, g1, rfl, s3, N1, L1, N2, hF⟩
      obtain ⟨e, he, td0⟩ := hr0.map_at hx
      have td := td0.same s3
      have hi : i < es.length := (List.getElem?_eq_some_iff.mp he).1
      have hiu : i < us.length := by omega
      rw [firstF_at he] at hF
      have tk := take_snoc he
      cases e with
      | ct t m v' j p =>
        obtain ⟨b, x, y, rfl, hb, _⟩ := td.ect
        walk_at "rds"
        refine ⟨_, _, _, _, g1, rfl, s3, N1.mono rfl (TupK.refl _) (fun _ _ h => h) (Nat.le_succ i), ?_, ?_, hF⟩
        · rw [tk]; exact L1.other fun _ _ _ _ z => by cases z
        · rw [tk]
          have ev : (fun m' => (vwOf m' (es.take i ++ [Ev.ct t m v' j p])).map (·.1)) = fun m' => (vwOf m' (es.take i)).map (·.1) := by
            funext m'; rw [vwOf_snoc]; rfl
          rw [ev]
          exact N2.mono rfl (TupK.refl _) (fun _ _ h => h) (Nat.le_succ i)
      | dl t m v' g =>
        obtain ⟨b, x, y, z, rfl, hb, _⟩ := td.edl
        walk_at "rds"
        refine ⟨_, _, _, _, g1, rfl, s3, N1.mono rfl (TupK.refl _) (fun _ _ h => h) (Nat.le_succ i), ?_, ?_, hF⟩
        · rw [tk]; exact L1.other fun _ _ _ _ z => by cases z
        · rw [tk]
          have ev : (fun m' => (vwOf m' (es.take i ++ [Ev.dl t m v' g])).map (·.1)) = fun m' => (vwOf m' (es.take i)).map (·.1) := by
            funext m'; rw [vwOf_snoc]; rfl
          rw [ev]
          exact N2.mono rfl (TupK.refl _) (fun _ _ h => h) (Nat.le_succ i)
      | cr t n =>
        obtain ⟨b, rfl, hb⟩ := td.ecr
        walk_at "rds"
        refine ⟨_, _, _, _, g1, rfl, s3, N1.mono rfl (TupK.refl _) (fun _ _ h => h) (Nat.le_succ i), ?_, ?_, hF⟩
        · rw [tk]; exact L1.other fun _ _ _ _ z => by cases z
        · rw [tk]
          have ev : (fun m' => (vwOf m' (es.take i ++ [Ev.cr t n])).map (·.1)) = fun m' => (vwOf m' (es.take i)).map (·.1) := by
            funext m'; rw [vwOf_snoc]; rfl
          rw [ev]
          exact N2.mono rfl (TupK.refl _) (fun _ _ h => h) (Nat.le_succ i)
      | vw t m vid ms =>
        obtain ⟨b, x, y, z, rfl, hb, hx1, hy1, hz1⟩ := td.evw
        walk_at "rds"
        refine ⟨b, _, rfl, SqT.of hb, fun z => absurd z.1 (by show ¬ HT.sIx 5 0 (some 2) = 0; decide), fun _ t' nt => ?_⟩
        have ec : cutV [V.str "view", .int t, x, y, z] (some 2) none = [x, y, z] := rfl
        rw [ec]
        have st := same_new nt (.tup [x, y, z])
        have htt : (upd H1 t' (.tup [x, y, z])) t' = some (.tup [x, y, z]) := upd_same
        have N1' : NM w (upd H1 t' (.tup [x, y, z])) d1 i kVv (fun v ms => TD (upd H1 t' (.tup [x, y, z])) v (eMs ms)) g1 := by
          obtain ⟨ks, ek⟩ := N1.ndo
          exact N1.mono (by rw [upd_ne (ne_of_none ek nt)]) (TupK.of st) (fun v ms h => h.same st) (Nat.le_refl _)
        have N2' : NM w (upd H1 t' (.tup [x, y, z])) d2 i kMm (fun v n => v = .int n) (fun m => (vwOf m (es.take i)).map (·.1)) := by
          obtain ⟨ks, ek⟩ := N2.ndo
          exact N2.mono (by rw [upd_ne (ne_of_none ek nt)]) (TupK.of st) (fun v ms h => h) (Nat.le_refl _)
        have s4 := s3.trans st
        have hx4 := hx1.same st
        have hy4 := hy1.same st
        have hz4 := hz1.same st
        clear N1 N2 hx1 hy1 hz1 s3 td
        generalize upd H1 t' (.tup [x, y, z]) = H4 at *
        refine ⟨t', _, rfl, SqT.of htt, rfl, x, _, rfl, y, _, rfl, z, _, rfl, rfl, ?_⟩
        walk_at "rds"
        refine rd_notInMs hx4 hz4 ?_
        have fin : ∀ (X : PyData) (H' : Hp) (v : V), fView (es.take i) (.vw t m vid ms) = some X → Same H H' → TD H' v X → Q v H' := fun X H' v e s h => by
          rw [e] at hF
          have hF : some X = firstF fView [] es := hF
          have q1 : TD H' v ((firstF fView [] es).getD .none) → Q v H' := q v H' s
          rw [← hF] at q1
          exact q1 h
        refine ⟨_, rfl, iB (fun hm => ?_) (fun hm => ?_)⟩
        · walk_at "rds"
          refine ⟨by show 3 ≤ sizeLine; omega, fun t2 nt2 => ?_⟩
          refine fin _ _ _ ?_ (s4.trans (same_new nt2 _)) (td3 nt2 hx4 hy4)
          have hm : m ∉ ms := by simpa using hm
          rw [fView_vw, if_pos hm]
        · have hm : m ∈ ms := by simpa using hm
          obtain ⟨ks, k1, k2, k3, k4⟩ := N1'.ex
          obtain ⟨yb, rfl, nky⟩ := hy4.nkV
          refine ⟨fun σ' H' => ∃ g1', σ' = [some (.ref a), some (.ref d1), some (.ref d2), some (.ref b), some x, some (.ref yb), some z] ∧ Same H H' ∧ NM w H' d1 (i + 1) kVv (fun v ms => TD H' v (eMs ms)) g1' ∧ LsOk (es.take (i + 1)) g1' ∧
            NM w H' d2 i kMm (fun v n => v = .int n) (fun m => (vwOf m (es.take i)).map (·.1)) ∧ TD H' x (eM m) ∧ TD H' (.ref yb) (eV vid) ∧ (es.take i).any (othB vid ms) = false, ?_, ?_⟩
          · refine ⟨_, rfl, d1, ks, rfl, k1, _, rfl, _, rfl, yb, ks, kVv vid, rfl, k1, nky, kVv_depth _, fun v0 hv0 => ?_, fun hn => ?_⟩
            · have ho := k3 vid
              rw [hv0] at ho
              cases hg : g1 vid with
              | none => rw [hg] at ho; exact ho.elim
              | some ms0 =>
                rw [hg] at ho
                have ho : TD H4 v0 (eMs ms0) := ho
                refine ⟨_, rfl, eMs ms0, eMs ms, ho.dp, hz4.dp, eMs_sh _, eMs_sh _, ?_⟩
                rw [eqv_dec (p := ms0 = ms) (eMs_pln _) (eMs_pln _) ⟨eMs_inj, fun h => by rw [h]⟩]
                by_cases e : ms0 = ms
                · subst e
                  walk_at "rds"
                  refine nF rfl ?_
                  refine ⟨g1, rfl, s4, N1'.mono rfl (TupK.refl _) (fun _ _ h => h) (Nat.le_succ i), by rw [tk]; exact L1.old hg, N2', hx4, hy4, ?_⟩
                  rw [Bool.eq_false_iff]
                  intro z
                  obtain ⟨t5, m5, ms5, h5, ne⟩ := oth_any.mp z
                  have := L1.1 _ _ _ _ h5
                  rw [hg] at this
                  cases this
                  exact ne rfl
                · walk_at "rds"
                  refine nT e ?_
                  walk_at "rds"
                  refine ⟨by show 3 ≤ sizeLine; omega, fun t2 nt2 => ?_⟩
                  refine fin _ _ _ ?_ (s4.trans (same_new nt2 _)) (td3 nt2 hx4 hy4)
                  obtain ⟨t5, m5, h5⟩ := L1.2 _ _ hg
                  rw [fView_vw, if_neg (fun z => z hm), if_pos (oth_any.mpr ⟨t5, m5, ms0, h5, e⟩)]
            · have ho := k3 vid
              rw [hn] at ho
              have hg : g1 vid = none := by
                cases hg : g1 vid with
                | none => rfl
                | some ms0 => rw [hg] at ho; exact ho.elim
              have eu : (upd H4 d1 (ndO w d1 (putN ks (kVv vid) yb z))) d2 = H4 d2 := upd_ne e12.symm
              have ku : TupK H4 (upd H4 d1 (ndO w d1 (putN ks (kVv vid) yb z))) := tupK_upd fun xs e => by rw [k1.ob] at e; cases e
              have fd1 : H d1 = none := nd1
              have hz5 := hz4.mono ku
              have N15 : NM w (upd H4 d1 (ndO w d1 (putN ks (kVv vid) yb z))) d1 (i + 1) kVv (fun v ms => TD (upd H4 d1 (ndO w d1 (putN ks (kVv vid) yb z))) v (eMs ms)) (setM g1 vid ms) :=
                NM.put kVv_inj k1 k2 k3 k4 nky (kVv_depth _) (by omega) hz5 fun v ms h => h.mono ku
              refine ⟨_, rfl, eMs ms, eMs ms, hz5.dp, hz5.dp, eMs_sh _, eMs_sh _, ?_⟩
              rw [eqv_dec (p := ms = ms) (eMs_pln _) (eMs_pln _) ⟨eMs_inj, fun h => by rw [h]⟩]
              walk_at "rds"
              refine nF rfl ?_
              refine ⟨setM g1 vid ms, rfl, fun c o hc => by rw [upd_ne (ne_of_none hc fd1)]; exact s4 _ _ hc, N15, by rw [tk]; exact L1.new hg, N2'.mono eu ku (fun _ _ h => h) (Nat.le_refl _), hx4.mono ku, hy4.mono ku, ?_⟩
              rw [Bool.eq_false_iff]
              intro z
              obtain ⟨t5, m5, ms5, h5, ne⟩ := oth_any.mp z
              have := L1.1 _ _ _ _ h5
              rw [hg] at this
              cases this
          · rintro σ' H5 ⟨g1', rfl, s5, N15, L15, N25, hx5, hy5, hoth⟩
            obtain ⟨xb, rfl, nkx⟩ := hx5.nkM
            obtain ⟨o, hget, ho⟩ := N25.get nkx (kMm_depth _)
            have hyv : ∃ u, H5 yb = some (.tup [.int vid.1, u]) := by
              obtain ⟨b', u, e, hb', _⟩ := hy5.vid
              cases e
              exact ⟨u, hb'⟩
            obtain ⟨u, hyb⟩ := hyv
            have put : ∀ (hF' : fView (es.take i) (.vw t m vid ms) = none) (ks : NKV), Nd w H5 d2 ks → ks.length ≤ i → (∀ x, OR (fun v n => v = V.int n) (valN ks (kMm x)) ((vwOf x (es.take i)).map (·.1))) → (∀ k, (∀ x, k ≠ kMm x) → valN ks k = none) →
                ∃ (x3 x4 x5 x6 : Option V) (g1 : Vid → Option (List Mem)), [some (V.ref a), some (.ref d1), some (.ref d2), some (.ref b), some (.ref xb), some (.ref yb), some z] = [some (.ref a), some (.ref d1), some (.ref d2), x3, x4, x5, x6] ∧ Same H (upd H5 d2 (ndO w d2 (putN ks (kMm m) xb (.int vid.1)))) ∧
                  NM w (upd H5 d2 (ndO w d2 (putN ks (kMm m) xb (.int vid.1)))) d1 (i + 1) kVv (fun v ms => TD (upd H5 d2 (ndO w d2 (putN ks (kMm m) xb (.int vid.1)))) v (eMs ms)) g1 ∧ LsOk (es.take (i + 1)) g1 ∧
                  NM w (upd H5 d2 (ndO w d2 (putN ks (kMm m) xb (.int vid.1)))) d2 (i + 1) kMm (fun v n => v = .int n) (fun m => (vwOf m (es.take (i + 1))).map (·.1)) ∧ firstF fView (es.take (i + 1)) (es.drop (i + 1)) = firstF fView [] es := by
              intro hF' ks k1 k2 k3 k4
              have ku : TupK H5 (upd H5 d2 (ndO w d2 (putN ks (kMm m) xb (.int vid.1)))) := tupK_upd fun xs e => by rw [k1.ob] at e; cases e
              rw [hF'] at hF
              refine ⟨_, _, _, _, g1', rfl, fun c o hc => by rw [upd_ne (ne_of_none hc f2)]; exact s5 _ _ hc, N15.mono (upd_ne e12) ku (fun v ms h => h.mono ku) (Nat.le_refl _), L15, ?_, hF⟩
              have ev : (fun m' => (vwOf m' (es.take (i + 1))).map (·.1)) = setM (fun m' => (vwOf m' (es.take i)).map (·.1)) m vid.1 := by
                funext m'
                rw [tk, vwOf_vw]
                unfold setM
                by_cases e : m' = m
                · rw [if_pos e, if_pos e.symm]; rfl
                · rw [if_neg e, if_neg fun z => e (Eq.symm z)]
              rw [ev]
              exact NM.put kMm_inj k1 k2 k3 k4 nkx (kMm_depth _) (by omega) rfl fun v n h => h
            refine ⟨_, rfl, _, rfl, d2, xb, o, rfl, rfl, hget, ?_⟩
            cases hv : vwOf m (es.take i) with
            | none =>
              rw [hv] at ho
              obtain rfl : o = none := by
                cases o with
                | none => rfl
                | some _ => exact ho.elim
              walk_at "rds"
              obtain ⟨ks, k1, k2, k3, k4⟩ := N25.ex
              refine ⟨d2, xb, ks, kMm m, rfl, rfl, k1, nkx, kMm_depth _, ?_⟩
              exact put (by rw [fView_vw, if_neg (fun z => z hm), if_neg (by rw [hoth]; exact Bool.false_ne_true), hv]) ks k1 k2 k3 k4
            | some old =>
              rw [hv] at ho
              obtain rfl : o = some (.int old.1) := by
                cases o with
                | none => exact ho.elim
                | some v => rw [show v = V.int old.1 from ho]
              walk_at "rds"
              refine ⟨d2, xb, .int old.1, rfl, rfl, hget, ?_⟩
              walk_at "rds"
              by_cases hle : vid.1 ≤ old.1
              · refine dT hle ?_
                walk_at "rds"
                refine ⟨by show 3 ≤ sizeLine; omega, fun t2 nt2 => ?_⟩
                refine fin _ _ _ ?_ (s5.trans (same_new nt2 _)) (td3 nt2 hx5 hy5)
                rw [fView_vw, if_neg (fun z => z hm), if_neg (by rw [hoth]; exact Bool.false_ne_true), hv]
                exact if_pos hle
              · refine dF hle ?_
                walk_at "rds"
                obtain ⟨ks, k1, k2, k3, k4⟩ := N25.ex
                refine ⟨d2, xb, ks, kMm m, rfl, rfl, k1, nkx, kMm_depth _, ?_⟩
                refine put ?_ ks k1 k2 k3 k4
                rw [fView_vw, if_neg (fun z => z hm), if_neg (by rw [hoth]; exact Bool.false_ne_true), hv]
                exact if_neg hle
    · rintro σ H1 ⟨x3, x4, x5, x6, g1, rfl, s3, N1, L1, N2, hF⟩
      have eN : firstF fView [] es = none := by
        rw [← hF, lx, List.drop_length]; rfl
      have q1 : TD H1 .non ((firstF fView [] es).getD .none) → Q .non H1 := q .non H1 s3
      rw [eN] at q1
      exact q1 .non
end
end Mus

set_option maxRecDepth 100000
set_option maxHeartbeats 4000000
namespace Mus
open PySem L2
local macro_rules | `(tactic| walk_at "rd") => `(tactic| first
  | refine ⟨_, rfl, ?_⟩ | refine ⟨(True.intro : True), ?_⟩
  | refine ⟨_, _, rfl, rfl, (⟨by decide, by decide, by decide⟩ : CPow _ _), ?_⟩
  | refine ⟨_, _, rfl, rfl, (⟨by decide, by decide⟩ : CDiv _ _), ?_⟩
  | refine ⟨_, _, rfl, rfl, (by show (0 : Int) < _; decide), ?_⟩
  | refine ⟨_, _, rfl, rfl, ?_⟩ | refine ⟨rfl, ?_⟩ | refine iteT ?_ | refine iteF ?_ | refine ⟨_, _, rfl, ?_⟩ | refine .inl ⟨_, rfl, ?_⟩
  | refine ⟨_, _, _, _, _, rfl, (by assumption), (by assumption), (by assumption), rfl, ?_⟩ | refine ⟨_, _, _, _, rfl, rfl, SqT.of (by assumption), rfl, ?_⟩ | refine ⟨_, _, rfl, SqT.of (by assumption), rfl, ?_⟩
  | refine ⟨_, _, _, _, _, rfl, .ty _, Rp.ty (by assumption), kit_int _, ?_⟩ | refine ⟨_, _, _, _, _, rfl, .ty _, Rp.ty (by assumption), kit_bool _, ?_⟩
  | refine ⟨_, _, _, _, _, rfl, .ty _, Rp.ty (by assumption), kit_str _, ?_⟩ | refine ⟨_, _, _, _, _, rfl, .ty _, Rp.ty (by assumption), kit_tup _, ?_⟩)
local macro_rules | `(tactic| walk_at "cal") => `(tactic| first
  | refine ⟨_, _, _, _, _, rfl, (by assumption), ?_⟩ | refine ⟨_, _, _, _, _, rfl, (by assumption), (by assumption), ?_⟩)
local macro_rules | `(tactic| walk_at "sq") => `(tactic| first
  | refine ⟨_, _, rfl, Or.inr (SqT.of (by assumption)), ?_⟩ | refine ⟨_, _, _, _, rfl, rfl, SqT.of (by assumption), rfl, ?_⟩)
local macro_rules | `(tactic| walk_at "rds") => `(tactic| repeat first | walk_at "rd" | walk_at "cal" | walk_at "sq")
local macro_rules | `(tactic| walk_at "ze") => `(tactic| repeat first
  | exact zes_nil | exact ze_bl | exact ze_str | exact ze_non | apply zes_cons | apply ze_tup | apply ze_lst | apply ze_cat | exact di_c | exact di_v rfl | apply di_opC | apply di_op | apply di_neg | apply ze_i | (refine (⟨?_, ?_, ?_⟩ : CPow _ _) <;> decide) | exact Nat.le_of_ble_eq_true rfl | exact ze_varD rfl (by assumption))
local macro_rules | `(tactic| walk_at "rdz") => `(tactic| repeat (fail_if_success (first | show tLst _ _ _ _ | show tAsg (tLst _) _ _ _ _ | show tSeq (tAsg (tLst _) _) _ _ _ _)); first | walk_at "rd" | walk_at "cal" | walk_at "sq")
/-- casts told so far -/
def ctG (pre : List Ev) (x : CK) : Option Unit := if pre.any (ctB x.1 x.2.1 x.2.2.1 x.2.2.2) = true then some () else none
theorem any_snoc {α : Type} (p : α → Bool) (l : List α) (a : α) : (l ++ [a]).any p = (l.any p || p a) := by rw [List.any_append]; simp
theorem ctG_other {pre : List Ev} {e : Ev} (h : ∀ x : CK, ctB x.1 x.2.1 x.2.2.1 x.2.2.2 e = false) : ctG (pre ++ [e]) = ctG pre := by
  funext x
  unfold ctG
  rw [any_snoc, h x, Bool.or_false]
theorem ctG_cast {pre : List Ev} {t i : Int} {m : Mem} {v : Vid} {p : Str} : ctG (pre ++ [.ct t m v i p]) = setM (ctG pre) (m, v, i, p) () := by
  funext x
  unfold ctG setM
  rw [any_snoc]
  have e : ctB x.1 x.2.1 x.2.2.1 x.2.2.2 (.ct t m v i p) = decide (x = (m, v, i, p)) := by
    show decide (m = x.1 ∧ v = x.2.1 ∧ i = x.2.2.1 ∧ p = x.2.2.2) = _
    refine decide_eq_decide.mpr ⟨fun ⟨a, b, c, d⟩ => ?_, fun h => by rw [h]; exact ⟨rfl, rfl, rfl, rfl⟩⟩
    rw [a, b, c, d]
  rw [e]
  by_cases h : x = (m, v, i, p)
  · rw [decide_eq_true h, Bool.or_true, if_pos rfl, if_pos h]
  · rw [decide_eq_false h, Bool.or_false, if_neg h]
theorem cntM_snoc (s : Mem) (L : List Msg) (g : Msg) : cntM s (L ++ [g]) = cntM s L + if g.1 = s then 1 else 0 := by
  unfold cntM
  rw [List.filter_append, List.length_append]
  by_cases h : g.1 = s
  · rw [if_pos h, List.filter_cons_of_pos (by rw [decide_eq_true h])]; rfl
  · rw [if_neg h, List.filter_cons_of_neg (by rw [decide_eq_false h]; exact Bool.false_ne_true)]; rfl
theorem logOf_dl (m' : Mem) (v' : Vid) (pre : List Ev) (t : Int) (m : Mem) (v : Vid) (g : Msg) : logOf m' v' (pre ++ [.dl t m v g]) = if m = m' ∧ v = v' then logOf m' v' pre ++ [g] else logOf m' v' pre := by
  rw [logOf_snoc]
  unfold dlS
  by_cases h : m = m' ∧ v = v'
  · simp only [if_pos h]; rfl
  · simp only [if_neg h]; exact List.append_nil _
section
variable {P : Program} {w : World} {K : PySem.W.Frag} {mg : Str → Option Value} {base : Heap}
theorem NM.frame {κ α : Type} {w : World} {H H' : Hp} {d : Addr} {n m : Nat} {key : κ → NestedKey} {R S : V → α → Prop} {g : κ → Option α} (h : NM w H d n key R g) (s : Same H H') (f : ∀ v x, R v x → S v x) (l : n ≤ m) : NM w H' d m key S g := by
  obtain ⟨ks, ek⟩ := h.ndo
  exact h.mono ((s _ _ ek).trans ek.symm) (TupK.of s) f l
def oVd (p : Option Vid) : PyData := (p.map eV).getD .none
theorem oVd_or {H : Hp} {o : Option V} {p : Option Vid} (h : OR (fun v x => TD H v (eV x)) o p) : TD H (o.getD .non) (oVd p) := by
  cases o <;> cases p <;> first | exact h | exact h.elim | exact .non
theorem oVd_pln (p : Option Vid) : pln (oVd p) = true := by cases p <;> rfl
theorem oVd_sh (p : Option Vid) : SeqAt.shaped (oVd p) = true := by
  cases p with
  | none => rfl
  | some v => exact (eV_lay v).2.2
theorem oVd_eq {p : Option Vid} {v : Vid} : oVd p = eV v ↔ p = some v := by
  cases p with
  | none => exact ⟨fun h => (by cases h), fun h => (by cases h)⟩
  | some u => exact ⟨fun h => by rw [eV_inj h], fun h => by cases h; rfl⟩
/-- the state of deliver_fault -/
structure Dv (w : World) (H0 H : Hp) (d1 d2 d3 : Addr) (pre : List Ev) (n : Nat) (g3 : NK3 → Option Nat) : Prop where
  s : Same H0 H
  n1 : NM w H d1 n kMm (fun v x => TD H v (eV x)) fun m => vwOf m pre
  n2 : NM w H d2 n kCK (fun _ _ => True) (ctG pre)
  n3 : NM w H d3 n kN3 (fun v x => v = .int (x : Nat)) g3
  c3 : ∀ m v s, (g3 (m, v, s)).getD 0 = cntM s (logOf m v pre)
theorem Dv.same {H0 H H' : Hp} {d1 d2 d3 : Addr} {pre : List Ev} {n : Nat} {g3 : NK3 → Option Nat} (D : Dv w H0 H d1 d2 d3 pre n g3) (s : Same H H') : Dv w H0 H' d1 d2 d3 pre n g3 :=
  ⟨D.s.trans s, D.n1.frame s (fun v x h => h.same s) (Nat.le_refl _), D.n2.frame s (fun _ _ h => h) (Nat.le_refl _), D.n3.frame s (fun _ _ h => h) (Nat.le_refl _), D.c3⟩
abbrev s_deliver_fault : Stmt := top 2
abbrev N_deliver_fault : List Str := ["events", "views", "casts", "counts", "event", "member", "view_id", "message", "sender", "index", "payload", "count"]
abbrev P_deliver_fault : List Str := ["events"]
theorem sc_deliver_fault : FnScope N_deliver_fault P_deliver_fault (defScope s_deliver_fault) := ⟨rfl, rfl, rfl, by decide +kernel, rfl, by decide +kernel, by decide +kernel⟩
theorem ok_deliver_fault {f : Addr} {fd : FuncData} (T : Tx mg) (F : Fun K "deliver_fault" "deliver_fault" s_deliver_fault f fd) : FnOk P w K mg base CX0 (1) f fd P_deliver_fault (sp_fault fun es => firstF fDel [] es) := by
  have nd := sc_deliver_fault.nd
  refine F.ok sc_deliver_fault (fun vs H Q E h => ?_) (fun cdv A outer s H vs Q E hr h => ?_)
  · obtain ⟨_, _, _, rfl, _⟩ := h
    rfl
  · obtain ⟨a, us, es, rfl, ha, hr0, hok, hlen, q⟩ := h
    have hs := sl
    refine ⟨_, (pss_cons (ps_set (i := 1) nd rfl (Or.inl rfl) pe_nnew)
      (pss_cons (ps_set (i := 2) nd rfl (Or.inl rfl) pe_nnew)
      (pss_cons (ps_set (i := 3) nd rfl (Or.inl rfl) pe_nnew)
      (pss_cons (ps_for PassesOwn.never rfl (pi_list (pv 0)) (pg_name (i := 4) nd rfl (Or.inl rfl))
        (pss_one (ps_if (pt_cmpR op_eq (pe_ix ix_tup (pv 4) pe_int (fun _ _ => rfl)) pe_str (nomark _))
          (pss_one (ps_nput hr.units (pv 1) (pe_ix ix_tup (pv 4) pe_int (fun _ _ => rfl)) (pe_ix ix_tup (pv 4) pe_int (fun _ _ => rfl)) rfl))
          (pss_one (ps_if (pt_cmpR op_eq (pe_ix ix_tup (pv 4) pe_int (fun _ _ => rfl)) pe_str (nomark _))
            (pss_one (ps_nput hr.units (pv 2) (pe_slice sl_tupA (pv 4) (po_some pe_int) po_none) pe_bl rfl))
            (pss_one (ps_if (pt_cmpR op_eq (pe_ix ix_tup (pv 4) pe_int (fun _ _ => rfl)) pe_str (nomark _))
              (pss_cons (ps_asg (pe_slice sl_tupA (pv 4) (po_some pe_int) po_none) (pg_tup (by rfl) (pgs_cons (pg_name (i := 5) nd rfl (Or.inl rfl)) (pgs_cons (pg_name (i := 6) nd rfl (Or.inl rfl)) (pgs_cons (pg_name (i := 7) nd rfl (Or.inl rfl)) pgs_nil)))))
              (pss_cons (ps_asg (pv 7) (pg_tup (by rfl) (pgs_cons (pg_name (i := 8) nd rfl (Or.inl rfl)) (pgs_cons (pg_name (i := 9) nd rfl (Or.inl rfl)) (pgs_cons (pg_name (i := 10) nd rfl (Or.inl rfl)) pgs_nil)))))
              (pss_cons (ps_if (pt_cmpR (op_neD hr.units) (pe_nget1 hr.units (pv 1) (pv 5) ⟨rfl, rfl, rfl, rfl⟩) (pv 6) (nomark _))
                (pss_one (ps_ret (pe_tup (pa_cons pe_str (pa_cons (pv 5) (pa_cons (pv 7) pa_nil))))))
                pss_nil)
              (pss_cons (ps_if (pt_cmp (pc_nnotin hr.units (pe_tup (pa_cons (pv 8) (pa_cons (pv 6) (pa_cons (pv 9) (pa_cons (pv 10) pa_nil))))) (pv 2)))
                (pss_one (ps_ret (pe_tup (pa_cons pe_str (pa_cons (pv 5) (pa_cons (pv 7) pa_nil))))))
                pss_nil)
              (pss_cons (ps_set (i := 11) nd rfl (Or.inl rfl) (pe_nget2 hr.units (pv 3) (pe_tup (pa_cons (pv 5) (pa_cons (pv 6) (pa_cons (pv 8) pa_nil)))) pe_int ⟨rfl, rfl, rfl, rfl⟩))
              (pss_cons (ps_if (pt_cmpR op_ne (pv 9) (pe_op op_add (pv 11) pe_int) (nomark _))
                (pss_one (ps_ret (pe_tup (pa_cons pe_str (pa_cons (pv 5) (pa_cons (pv 7) pa_nil))))))
                pss_nil)
              (pss_one (ps_nput hr.units (pv 3) (pe_tup (pa_cons (pv 5) (pa_cons (pv 6) (pa_cons (pv 8) pa_nil)))) (pe_op op_add (pv 11) pe_int) rfl))))))))
              pss_nil)))))))
      (pss_one (ps_ret pe_non)))))), ?_⟩
    refine fun d1 nd1 sd1 => ?_
    refine fun d2 nd2 sd2 => ?_
    refine fun d3 nd3 sd3 => ?_
    have nd2 : (upd H d1 (ndO w d1 [])) d2 = none := nd2
    have nd3 : (upd (upd H d1 (ndO w d1 [])) d2 (ndO w d2 [])) d3 = none := nd3
    have s1 := same_new nd1 (ndO w d1 [])
    have s2 := same_new nd2 (ndO w d2 [])
    have s3 := same_new nd3 (ndO w d3 [])
    have e12 : d1 ≠ d2 := ne_of_none upd_same nd2
    have e23 : d2 ≠ d3 := ne_of_none upd_same nd3
    have e13 : d1 ≠ d3 := ne_of_none (s2 _ _ upd_same) nd3
    have f2 : H d2 = none := by rwa [upd_ne e12.symm] at nd2
    have f3 : H d3 = none := by rwa [upd_ne e23.symm, upd_ne e13.symm] at nd3
    have lx := hr0.length
    rw [List.length_map] at lx
    have D0 : Dv w H (upd (upd (upd H d1 (ndO w d1 [])) d2 (ndO w d2 [])) d3 (ndO w d3 [])) d1 d2 d3 [] 0 fun _ => none :=
      ⟨s1.trans (s2.trans s3), NM.frame (nm_new (R := fun v x => TD _ v (eV x)) sd1) (s2.trans s3) (fun v x h => h.same (s2.trans s3)) (Nat.le_refl _), NM.frame (nm_new sd2) s3 (fun _ _ h => h) (Nat.le_refl _), nm_new sd3, fun _ _ _ => rfl⟩
    refine ⟨_, rfl, a, rfl, ⟨_, SqL.of ((s1.trans (s2.trans s3)) _ _ ha)⟩, for_list (K := K) (a := a) (xs := us) (fun i σ H' => ∃ (x4 x5 x6 x7 x8 x9 x10 x11 : Option V) (g3 : NK3 → Option Nat), σ = [some (.ref a), some (.ref d1), some (.ref d2), some (.ref d3), x4, x5, x6, x7, x8, x9, x10, x11] ∧ Dv w H H' d1 d2 d3 (es.take i) i g3 ∧ firstF fDel (es.take i) (es.drop i) = firstF fDel [] es) ?_ ?_ ?_ ?_⟩
    · exact ⟨_, _, _, _, _, _, _, _, _, rfl, D0, rfl⟩
    · rintro i σ H' _ ⟨_, _, _, _, _, _, _, _, _, rfl, D, _⟩
      exact SqL.of (D.s _ _ ha)
    · clear D0
      rintro i v σ H1 hx ⟨x4, x5, x6, x7, x8, x9, x10, x11, g3, rfl, D, hF⟩
      obtain ⟨e, he, td0⟩ := hr0.map_at hx
      have td := td0.same D.s
      have hi : i < es.length := (List.getElem?_eq_some_iff.mp he).1
      rw [firstF_at he] at hF
      have tk := take_snoc he
      cases e with
      | cr t n =>
        obtain ⟨b, rfl, hb⟩ := td.ecr
        walk_at "rds"
        refine ⟨_, _, _, _, _, _, _, _, g3, rfl, ⟨D.s, ?_, ?_, D.n3.mono rfl (TupK.refl _) (fun _ _ h => h) (Nat.le_succ i), ?_⟩, hF⟩
        · rw [tk]
          have ev : (fun m' => vwOf m' (es.take i ++ [Ev.cr t n])) = fun m' => vwOf m' (es.take i) := by funext m'; rw [vwOf_snoc]; rfl
          rw [ev]
          exact D.n1.mono rfl (TupK.refl _) (fun _ _ h => h) (Nat.le_succ i)
        · rw [tk, ctG_other fun _ => rfl]
          exact D.n2.mono rfl (TupK.refl _) (fun _ _ h => h) (Nat.le_succ i)
        · intro m v s
          rw [tk, logOf_snoc, D.c3]
          exact congrArg (cntM s) (List.append_nil _).symm
      | vw t m vid ms =>
        obtain ⟨b, x, y, z, rfl, hb, hx1, hy1, hz1⟩ := td.evw
        obtain ⟨xb, rfl, nkx⟩ := hx1.nkM
        obtain ⟨ks, k1, k2, k3, k4⟩ := D.n1.ex
        walk_at "rds"
        refine ⟨d1, xb, ks, kMm m, rfl, rfl, k1, nkx, kMm_depth _, ?_⟩
        have ku : TupK H1 (upd H1 d1 (ndO w d1 (putN ks (kMm m) xb y))) := tupK_upd fun xs e => by rw [k1.ob] at e; cases e
        have fd1 : H d1 = none := nd1
        refine ⟨_, _, _, _, _, _, _, _, g3, rfl, ⟨fun c o hc => by rw [upd_ne (ne_of_none hc fd1)]; exact D.s _ _ hc, ?_, ?_, D.n3.mono (upd_ne e13.symm) ku (fun _ _ h => h) (Nat.le_succ i), ?_⟩, hF⟩
        · rw [tk]
          have ev : (fun m' => vwOf m' (es.take i ++ [Ev.vw t m vid ms])) = setM (fun m' => vwOf m' (es.take i)) m vid := by
            funext m'
            rw [vwOf_vw]
            unfold setM
            by_cases e : m' = m
            · rw [if_pos e, if_pos e.symm]
            · rw [if_neg e, if_neg fun z => e (Eq.symm z)]
          rw [ev]
          exact NM.put kMm_inj k1 k2 k3 k4 nkx (kMm_depth _) (by omega) (hy1.mono ku) fun v x h => h.mono ku
        · rw [tk, ctG_other fun _ => rfl]
          exact D.n2.mono (upd_ne e12.symm) ku (fun _ _ h => h) (Nat.le_succ i)
        · intro m v s
          rw [tk, logOf_snoc, D.c3]
          exact congrArg (cntM s) (List.append_nil _).symm
      | ct t m vid j p =>
        obtain ⟨b, x, y, rfl, hb, hx1, hy1⟩ := td.ect
        walk_at "rds"
        refine ⟨b, _, rfl, SqT.of hb, fun z => absurd z.1 (by show ¬ HT.sIx 6 0 (some 2) = 0; decide), fun _ t' nt => ?_⟩
        have ec : cutV [V.str "cast", .int t, x, y, .int j, .str p] (some 2) none = [x, y, .int j, .str p] := rfl
        rw [ec]
        have D2 := D.same (same_new nt (.tup [x, y, .int j, .str p]))
        have nk : NK (upd H1 t' (.tup [x, y, .int j, .str p])) (.ref t') (kCK (m, vid, j, p)) := nk_tup nt (.cons hx1 (.cons hy1 (.cons (.int _) (.cons (.str _) .nil)))) rfl
        generalize upd H1 t' (.tup [x, y, .int j, .str p]) = H2 at *
        obtain ⟨ks, k1, k2, k3, k4⟩ := D2.n2.ex
        refine ⟨d2, t', ks, kCK (m, vid, j, p), rfl, rfl, k1, nk, kCK_depth _, ?_⟩
        have ku : TupK H2 (upd H2 d2 (ndO w d2 (putN ks (kCK (m, vid, j, p)) t' (.bl true)))) := tupK_upd fun xs e => by rw [k1.ob] at e; cases e
        refine ⟨_, _, _, _, _, _, _, _, g3, rfl, ⟨fun c o hc => by rw [upd_ne (ne_of_none hc f2)]; exact D2.s _ _ hc, ?_, ?_, D2.n3.mono (upd_ne e23.symm) ku (fun _ _ h => h) (Nat.le_succ i), ?_⟩, hF⟩
        · rw [tk]
          have ev : (fun m' => vwOf m' (es.take i ++ [Ev.ct t m vid j p])) = fun m' => vwOf m' (es.take i) := by funext m'; rw [vwOf_snoc]; rfl
          rw [ev]
          exact D2.n1.mono (upd_ne e12) ku (fun _ _ h => h.mono ku) (Nat.le_succ i)
        · rw [tk, ctG_cast]
          exact NM.put kCK_inj k1 k2 k3 k4 nk (kCK_depth _) (by omega) trivial fun _ _ h => h
        · intro m v s
          rw [tk, logOf_snoc, D2.c3]
          exact congrArg (cntM s) (List.append_nil _).symm
      | dl t m vid g =>
        obtain ⟨b, x, y, z, rfl, hb, hx1, hy1, hz1⟩ := td.edl
        obtain ⟨s0, i0, p0⟩ := g
        walk_at "rds"
        refine ⟨b, _, rfl, SqT.of hb, fun z => absurd z.1 (by show ¬ HT.sIx 5 0 (some 2) = 0; decide), fun _ t' nt => ?_⟩
        have ec : cutV [V.str "deliver", .int t, x, y, z] (some 2) none = [x, y, z] := rfl
        rw [ec]
        have st := same_new nt (.tup [x, y, z])
        have htt : (upd H1 t' (.tup [x, y, z])) t' = some (.tup [x, y, z]) := upd_same
        have D2 := D.same st
        have hx2 := hx1.same st
        have hy2 := hy1.same st
        have hz2 := hz1.same st
        clear hx1 hy1 hz1 D td
        generalize upd H1 t' (.tup [x, y, z]) = H2 at *
        refine ⟨t', _, rfl, SqT.of htt, rfl, x, _, rfl, y, _, rfl, z, _, rfl, rfl, ?_⟩
        obtain ⟨zb, u, rfl, hzb, hu⟩ := hz2.msg
        refine ⟨_, rfl, zb, _, rfl, SqT.of hzb, rfl, u, _, rfl, .int i0, _, rfl, .str p0, _, rfl, rfl, ?_⟩
        obtain ⟨xb, rfl, nkx⟩ := hx2.nkM
        have fin : ∀ (X : PyData) (H' : Hp) (v : V), fDel (es.take i) (.dl t m vid (s0, i0, p0)) = some X → Same H H' → TD H' v X → Q v H' := fun X H' v e s h => by
          rw [e] at hF
          have hF : some X = firstF fDel [] es := hF
          have q1 : TD H' v ((firstF fDel [] es).getD .none) → Q v H' := q v H' s
          rw [← hF] at q1
          exact q1 h
        obtain ⟨ks, k1, _⟩ := D2.n1.ex
        obtain ⟨o, hget, ho⟩ := D2.n1.get nkx (kMm_depth _)
        refine ⟨_, rfl, d1, ks, rfl, k1, _, rfl, xb, o, rfl, hget, _, rfl, ?_⟩
        have td1 := oVd_or ho
        refine ⟨oVd (vwOf m (es.take i)), eV vid, td1.dp, hy2.dp, oVd_sh _, (eV_lay vid).2.2, ?_⟩
        rw [eqv_dec (p := vwOf m (es.take i) = some vid) (oVd_pln _) (eV_pln _) oVd_eq]
        by_cases hv : vwOf m (es.take i) = some vid
        · rw [decide_eq_true hv]
          walk_at "rds"
          refine ⟨by show 4 ≤ sizeLine; omega, fun t3 nt3 => ?_⟩
          have s3' := same_new nt3 (.tup [u, y, .int i0, .str p0])
          have nk : NK (upd H2 t3 (.tup [u, y, .int i0, .str p0])) (.ref t3) (kCK (s0, vid, i0, p0)) := nk_tup nt3 (.cons hu (.cons hy2 (.cons (.int _) (.cons (.str _) .nil)))) rfl
          have D3 := D2.same s3'
          have hx3 := hx2.same s3'
          have hy3 := hy2.same s3'
          have hz3 := hz2.same s3'
          have hu3 := hu.same s3'
          have nkx3 := nkx.mono fun b xs h => s3' _ _ h
          clear hx2 hy2 hz2 hu D2 nkx td1 ho hget k1
          generalize upd H2 t3 (.tup [u, y, .int i0, .str p0]) = H3 at *
          obtain ⟨o2, hget2, ho2⟩ := D3.n2.get nk (kCK_depth _)
          refine ⟨_, rfl, d2, t3, o2, rfl, rfl, hget2, ?_⟩
          have ei : o2.isSome = (es.take i).any (ctB s0 vid i0 p0) := by
            rw [ho2.iss]
            unfold ctG
            cases (es.take i).any (ctB s0 vid i0 p0) <;> rfl
          rw [ei]
          cases hc : (es.take i).any (ctB s0 vid i0 p0) with
          | false =>
            walk_at "rds"
            refine ⟨by show 3 ≤ sizeLine; omega, fun t4 nt4 => ?_⟩
            refine fin _ _ _ ?_ (D3.s.trans (same_new nt4 _)) (td3 nt4 hx3 hz3)
            rw [fDel_dl, if_neg (fun z => z hv), if_pos hc]
          | true =>
            walk_at "rds"
            obtain ⟨ks3, k31, _⟩ := D3.n3.ex
            refine ⟨d3, ks3, rfl, k31, ?_⟩
            walk_at "rds"
            refine ⟨by show 3 ≤ sizeLine; omega, fun t4 nt4 => ?_⟩
            have s4' := same_new nt4 (.tup [.ref xb, y, u])
            have nk4 : NK (upd H3 t4 (.tup [.ref xb, y, u])) (.ref t4) (kN3 (m, vid, s0)) := nk_tup nt4 (.cons hx3 (.cons hy3 (.cons hu3 .nil))) rfl
            have D4 := D3.same s4'
            have hx4 := hx3.same s4'
            have hy4 := hy3.same s4'
            have hz4 := hz3.same s4'
            have hu4 := hu3.same s4'
            clear hx3 hy3 hz3 hu3 D3 nkx3 k31 hget2 ho2 ei nk
            generalize upd H3 t4 (.tup [.ref xb, y, u]) = H4 at *
            obtain ⟨o3, hget3, ho3⟩ := D4.n3.get nk4 (kN3_depth _)
            refine ⟨t4, o3, rfl, hget3, ?_⟩
            have ec3 : o3.getD (.int 0) = .int (cntM s0 (logOf m vid (es.take i)) : Nat) := by
              rw [← D4.c3]
              cases o3 <;> cases h3 : g3 (m, vid, s0) <;> rw [h3] at ho3 <;> first | exact ho3.elim | rfl | exact ho3
            rw [ec3]
            walk_at "rds"
            by_cases hidx : i0 = (cntM s0 (logOf m vid (es.take i)) : Nat) + 1
            · refine nF (by rw [hidx]) ?_
              walk_at "rds"
              refine ⟨by show 3 ≤ sizeLine; omega, fun t5 nt5 => ?_⟩
              have s5' := same_new nt5 (.tup [.ref xb, y, u])
              have nk5 : NK (upd H4 t5 (.tup [.ref xb, y, u])) (.ref t5) (kN3 (m, vid, s0)) := nk_tup nt5 (.cons hx4 (.cons hy4 (.cons hu4 .nil))) rfl
              have D5 := D4.same s5'
              generalize upd H4 t5 (.tup [.ref xb, y, u]) = H5 at *
              obtain ⟨ks5, k51, k52, k53, k54⟩ := D5.n3.ex
              refine ⟨d3, t5, ks5, kN3 (m, vid, s0), rfl, rfl, k51, nk5, kN3_depth _, ?_⟩
              have ku : TupK H5 (upd H5 d3 (ndO w d3 (putN ks5 (kN3 (m, vid, s0)) t5 (.int ((cntM s0 (logOf m vid (es.take i)) : Nat) + 1))))) := tupK_upd fun xs e => by rw [k51.ob] at e; cases e
              have hFn : fDel (es.take i) (.dl t m vid (s0, i0, p0)) = none := by
                rw [fDel_dl, if_neg (fun z => z hv), if_neg (by rw [hc]; exact Bool.noConfusion), if_neg (fun z => z hidx)]
              rw [hFn] at hF
              refine ⟨_, _, _, _, _, _, _, _, setM g3 (m, vid, s0) (cntM s0 (logOf m vid (es.take i)) + 1), rfl, ⟨fun c o hc => by rw [upd_ne (ne_of_none hc f3)]; exact D5.s _ _ hc, ?_, ?_, ?_, ?_⟩, hF⟩
              · rw [tk]
                have ev : (fun m' => vwOf m' (es.take i ++ [Ev.dl t m vid (s0, i0, p0)])) = fun m' => vwOf m' (es.take i) := by funext m'; rw [vwOf_snoc]; rfl
                rw [ev]
                exact D5.n1.mono (upd_ne e13) ku (fun _ _ h => h.mono ku) (Nat.le_succ i)
              · rw [tk, ctG_other fun _ => rfl]
                exact D5.n2.mono (upd_ne e23) ku (fun _ _ h => h) (Nat.le_succ i)
              · exact NM.put kN3_inj k51 k52 k53 k54 nk5 (kN3_depth _) (by omega) (by rw [Int.natCast_succ]) fun _ _ h => h
              · intro m' v' s'
                rw [tk, logOf_dl]
                unfold setM
                by_cases h1 : (m', v', s') = (m, vid, s0)
                · rw [if_pos h1]
                  injection h1 with e1 h1
                  injection h1 with e2 e3
                  rw [e1, e2, e3, if_pos ⟨rfl, rfl⟩, cntM_snoc, if_pos rfl]; rfl
                · rw [if_neg h1, D5.c3]
                  by_cases h2 : m = m' ∧ vid = v'
                  · rw [if_pos h2, cntM_snoc, if_neg (fun z => h1 (by rw [h2.1, h2.2, ← z])), Nat.add_zero]
                  · rw [if_neg h2]
            · refine nT (fun z => hidx (V.int.inj z)) ?_
              walk_at "rds"
              refine ⟨by show 3 ≤ sizeLine; omega, fun t5 nt5 => ?_⟩
              refine fin _ _ _ ?_ (D4.s.trans (same_new nt5 _)) (td3 nt5 hx4 hz4)
              rw [fDel_dl, if_neg (fun z => z hv), if_neg (by rw [hc]; exact Bool.noConfusion), if_pos hidx]
        · rw [decide_eq_false hv]
          walk_at "rds"
          refine ⟨by show 3 ≤ sizeLine; omega, fun t3 nt3 => ?_⟩
          refine fin _ _ _ ?_ (D2.s.trans (same_new nt3 _)) (td3 nt3 hx2 hz2)
          rw [fDel_dl, if_pos hv]
    · rintro σ H1 ⟨x4, x5, x6, x7, x8, x9, x10, x11, g3, rfl, D, hF⟩
      have eN : firstF fDel [] es = none := by
        rw [← hF, lx, List.drop_length]; rfl
      have q1 : TD H1 .non ((firstF fDel [] es).getD .none) → Q .non H1 := q .non H1 D.s
      rw [eN] at q1
      exact q1 .non
end
end Mus

set_option maxRecDepth 100000
set_option maxHeartbeats 4000000
namespace Mus
open PySem L2
local macro_rules | `(tactic| walk_at "rd") => `(tactic| first
  | refine ⟨_, rfl, ?_⟩ | refine ⟨(True.intro : True), ?_⟩
  | refine ⟨_, _, rfl, rfl, (⟨by decide, by decide, by decide⟩ : CPow _ _), ?_⟩
  | refine ⟨_, _, rfl, rfl, (⟨by decide, by decide⟩ : CDiv _ _), ?_⟩
  | refine ⟨_, _, rfl, rfl, (by show (0 : Int) < _; decide), ?_⟩
  | refine ⟨_, _, rfl, rfl, ?_⟩ | refine ⟨rfl, ?_⟩ | refine iteT ?_ | refine iteF ?_ | refine ⟨_, _, rfl, ?_⟩ | refine .inl ⟨_, rfl, ?_⟩
  | refine ⟨_, _, _, _, _, rfl, (by assumption), (by assumption), (by assumption), rfl, ?_⟩ | refine ⟨_, _, _, _, rfl, rfl, SqT.of (by assumption), rfl, ?_⟩ | refine ⟨_, _, rfl, SqT.of (by assumption), rfl, ?_⟩
  | refine ⟨_, _, _, _, _, rfl, .ty _, Rp.ty (by assumption), kit_int _, ?_⟩ | refine ⟨_, _, _, _, _, rfl, .ty _, Rp.ty (by assumption), kit_bool _, ?_⟩
  | refine ⟨_, _, _, _, _, rfl, .ty _, Rp.ty (by assumption), kit_str _, ?_⟩ | refine ⟨_, _, _, _, _, rfl, .ty _, Rp.ty (by assumption), kit_tup _, ?_⟩)
local macro_rules | `(tactic| walk_at "cal") => `(tactic| first
  | refine ⟨_, _, _, _, _, rfl, (by assumption), ?_⟩ | refine ⟨_, _, _, _, _, rfl, (by assumption), (by assumption), ?_⟩)
local macro_rules | `(tactic| walk_at "sq") => `(tactic| first
  | refine ⟨_, _, rfl, Or.inr (SqT.of (by assumption)), ?_⟩ | refine ⟨_, _, _, _, rfl, rfl, SqT.of (by assumption), rfl, ?_⟩)
local macro_rules | `(tactic| walk_at "rds") => `(tactic| repeat first | walk_at "rd" | walk_at "cal" | walk_at "sq")
local macro_rules | `(tactic| walk_at "ze") => `(tactic| repeat first
  | exact zes_nil | exact ze_bl | exact ze_str | exact ze_non | apply zes_cons | apply ze_tup | apply ze_lst | apply ze_cat | exact di_c | exact di_v rfl | apply di_opC | apply di_op | apply di_neg | apply ze_i | (refine (⟨?_, ?_, ?_⟩ : CPow _ _) <;> decide) | exact Nat.le_of_ble_eq_true rfl | exact ze_varD rfl (by assumption))
local macro_rules | `(tactic| walk_at "rdz") => `(tactic| repeat (fail_if_success (first | show tLst _ _ _ _ | show tAsg (tLst _) _ _ _ _ | show tSeq (tAsg (tLst _) _) _ _ _ _)); first | walk_at "rd" | walk_at "cal" | walk_at "sq")
/-! ### a dict of lists of messages -/
structure Lg (w : World) (H0 H : Hp) (d n : Nat) (L : MV → List Msg) : Prop where
  ex : ∃ adr : MV → Option Addr, NM w H d n kMV (fun v (l : Addr) => v = .ref l) adr ∧ (∀ x l, adr x = some l → H0 l = none ∧ ∃ vs, H l = some (.lst vs) ∧ TDs H vs ((L x).map eG)) ∧ (∀ x, adr x = none → L x = []) ∧ ∀ x y l, adr x = some l → adr y = some l → x = y
theorem Lg.frame {w : World} {H0 H H' : Hp} {d n m : Nat} {L : MV → List Msg} (h : Lg w H0 H d n L) (e1 : H' d = H d) (e2 : ∀ b vs, H b = some (.lst vs) → H' b = H b) (t : TupK H H') (l : n ≤ m) : Lg w H0 H' d m L := by
  obtain ⟨adr, a1, a2, a3, a4⟩ := h.ex
  refine ⟨adr, a1.mono e1 t (fun _ _ h => h) l, fun x l hx => ?_, a3, a4⟩
  obtain ⟨f, vs, h1, h2⟩ := a2 x l hx
  exact ⟨f, vs, (e2 _ _ h1).trans h1, h2.mono t⟩
theorem Lg.same {w : World} {H0 H H' : Hp} {d n m : Nat} {L : MV → List Msg} (h : Lg w H0 H d n L) (s : Same H H') (l : n ≤ m) : Lg w H0 H' d m L := by
  obtain ⟨adr, a1, _⟩ := h.ex
  obtain ⟨ks, ek⟩ := a1.ndo
  exact h.frame ((s _ _ ek).trans ek.symm) (fun b vs hb => (s _ _ hb).trans hb.symm) (TupK.of s) l
theorem lg_new {w : World} {H0 H : Hp} {d : Addr} (h : (d == sysModules) = false) : Lg w H0 (upd H d (ndO w d [])) d 0 fun _ => [] :=
  ⟨fun _ => none, nm_new h, fun x l z => (by cases z), fun _ _ => rfl, fun x y l z => by cases z⟩
def addL (L : MV → List Msg) (x : MV) (g : Msg) : MV → List Msg := fun y => if y = x then L y ++ [g] else L y
/-- d.setdefault(x, []).append(g): the key at t, the new list at l5 -/
theorem Lg.setd {w : World} {K : PySem.W.Frag} {H0 Hp' H : Hp} {d n t l5 : Addr} {L : MV → List Msg} {x : MV} {v : V} {g : Msg} {R : Hp → Prop} (h : Lg w H0 Hp' d n L) (hss : Same Hp' H) (n5 : Hp' l5 = none) (hk : NK H (.ref t) (kMV x)) (h5 : H l5 = some (.lst [])) (f5 : H0 l5 = none)
    (fd : H0 d = none) (hv : TD H v (eG g)) (hn : n < 1000000) (hl : ∀ x, (L x).length ≤ 1000)
    (q : ∀ H', Lg w H0 H' d (n + 1) (addL L x g) → (∀ b o, H b = some o → b ≠ d → (∀ vs, o ≠ .lst vs) → H' b = some o) → (∀ b o, H0 b = some o → H b = some o → H' b = some o) → TupK H H' → R H') :
    ∃ ks k, Nd w H d ks ∧ NK H (.ref t) k ∧ k.depth ≤ 8 ∧ (∀ u, valN ks k = some u → tyV K "list" u H ∧ ∃ (l : Addr) (xs : List V), u = .ref l ∧ H l = some (.lst xs) ∧ xs.length < sizeLine ∧ R (upd H l (.lst (xs ++ [v])))) ∧
      (valN ks k = none → ∃ H1, H1 = upd H d (ndO w d (putN ks k t (.ref l5))) ∧ tyV K "list" (.ref l5) H1 ∧ H1 l5 = some (.lst []) ∧ R (upd H1 l5 (.lst ([] ++ [v])))) := by
  have hs := sl
  obtain ⟨adr, a1, a2, a3, a4⟩ := h.ex
  have hn5 : ∀ y, adr y ≠ some l5 := fun y z => by
    obtain ⟨_, _, e, _⟩ := a2 y l5 z
    rw [n5] at e; cases e
  have a1 : NM w H d n kMV (fun v (l : Addr) => v = .ref l) adr := a1.frame hss (fun _ _ h => h) (Nat.le_refl _)
  have a2 : ∀ x l, adr x = some l → H0 l = none ∧ ∃ vs, H l = some (.lst vs) ∧ TDs H vs ((L x).map eG) := fun x l hx => by
    obtain ⟨f, vs, e1, e2⟩ := a2 x l hx
    exact ⟨f, vs, hss _ _ e1, e2.mono (TupK.of hss)⟩
  obtain ⟨ks, k1, k2, k3, k4⟩ := a1.ex
  refine ⟨ks, kMV x, k1, hk, kMV_depth _, fun u hu => ?_, fun hnone => ?_⟩
  · have ho := k3 x
    rw [hu] at ho
    cases hx : adr x with
    | none => rw [hx] at ho; exact ho.elim
    | some l =>
      rw [hx] at ho
      obtain rfl : u = .ref l := ho
      obtain ⟨f, vs, e1, e2⟩ := a2 x l hx
      have ll := e2.length
      rw [List.length_map] at ll
      have := hl x
      have ld : l ≠ d := fun z => by rw [z, k1.ob] at e1; cases e1
      have tk : TupK H (upd H l (.lst (vs ++ [v]))) := tupK_upd fun xs e => by rw [e1] at e; cases e
      refine ⟨.inl ⟨rfl, _, SqL.of e1⟩, l, vs, rfl, e1, by omega, q _ ⟨adr, a1.mono (upd_ne (Ne.symm ld)) tk (fun _ _ h => h) (Nat.le_succ n), fun y l' hy => ?_, fun y hy => ?_, a4⟩ (fun b o hb hd ho => ?_) (fun b o h0 hb => ?_) tk⟩
      · obtain ⟨f', vs', e1', e2'⟩ := a2 y l' hy
        refine ⟨f', ?_⟩
        unfold addL
        by_cases e : y = x
        · subst e
          rw [hx] at hy
          cases hy
          rw [if_pos rfl]
          exact ⟨_, upd_same, by rw [List.map_append]; exact (e2.mono tk).append (.cons (hv.mono tk) .nil)⟩
        · rw [if_neg e]
          exact ⟨vs', by rw [upd_ne (show l' ≠ l from fun z => e (a4 _ _ _ hy (by rw [z]; exact hx)))]; exact e1', e2'.mono tk⟩
      · unfold addL
        rw [if_neg (fun z => by rw [z, hx] at hy; cases hy)]
        exact a3 y hy
      · rw [upd_ne (fun z => by rw [z, e1] at hb; exact ho _ (Option.some.inj hb).symm)]; exact hb
      · rw [upd_ne (fun z => by rw [z, f] at h0; cases h0)]; exact hb
  · have ho := k3 x
    rw [hnone] at ho
    have hx : adr x = none := by
      cases hx : adr x with
      | none => rfl
      | some l => rw [hx] at ho; exact ho.elim
    have d5 : l5 ≠ d := fun z => by rw [z, k1.ob] at h5; cases h5
    have tk : TupK H (upd H d (ndO w d (putN ks (kMV x) t (.ref l5)))) := tupK_upd fun xs e => by rw [k1.ob] at e; cases e
    have h51 : (upd H d (ndO w d (putN ks (kMV x) t (.ref l5)))) l5 = some (.lst []) := by rw [upd_ne d5]; exact h5
    have tk2 : TupK (upd H d (ndO w d (putN ks (kMV x) t (.ref l5)))) (upd (upd H d (ndO w d (putN ks (kMV x) t (.ref l5)))) l5 (.lst ([] ++ [v]))) := tupK_upd fun xs e => by rw [h51] at e; cases e
    have tk3 := tk.trans tk2
    have N1 : NM w (upd H d (ndO w d (putN ks (kMV x) t (.ref l5)))) d (n + 1) kMV (fun v (l : Addr) => v = .ref l) (setM adr x l5) := NM.put kMV_inj k1 k2 k3 k4 hk (kMV_depth _) hn rfl fun _ _ h => h
    refine ⟨_, rfl, .inl ⟨rfl, _, SqL.of h51⟩, h51, q _ ⟨setM adr x l5, N1.mono (upd_ne (Ne.symm d5)) tk2 (fun _ _ h => h) (Nat.le_refl _), fun y l' hy => ?_, fun y hy => ?_, fun y y' l' hy hy' => ?_⟩ (fun b o hb hd ho => ?_) (fun b o h0 hb => ?_) tk3⟩
    · unfold setM at hy
      unfold addL
      split at hy
      · rename_i e
        cases hy
        subst e
        refine ⟨f5, ?_⟩
        rw [if_pos rfl, a3 _ hx]
        exact ⟨_, upd_same, .cons (hv.mono tk3) .nil⟩
      · rename_i e
        obtain ⟨f', vs', e1', e2'⟩ := a2 y l' hy
        rw [if_neg e]
        have n5 : l' ≠ l5 := fun z => hn5 y (by rw [hy, z])
        exact ⟨f', vs', by rw [upd_ne n5, upd_ne (fun z => by rw [z, k1.ob] at e1'; cases e1')]; exact e1', e2'.mono tk3⟩
    · unfold setM at hy
      unfold addL
      split at hy
      · cases hy
      · rename_i e
        rw [if_neg e]
        exact a3 y hy
    · unfold setM at hy hy'
      split at hy
      · rename_i e
        split at hy'
        · rename_i e'
          rw [e, e']
        · cases hy
          exact absurd hy' (hn5 y')
      · split at hy'
        · cases hy'
          exact absurd hy (hn5 y)
        · exact a4 _ _ _ hy hy'
    · rw [upd_ne (fun z => by rw [z, h5] at hb; exact ho _ (Option.some.inj hb).symm), upd_ne hd]; exact hb
    · rw [upd_ne (fun z => by rw [z, f5] at h0; cases h0), upd_ne (fun z => by rw [z, fd] at h0; cases h0)]; exact hb
end Mus

set_option maxRecDepth 100000
set_option maxHeartbeats 4000000
namespace Mus
open PySem L2
local macro_rules | `(tactic| walk_at "rd") => `(tactic| first
  | refine ⟨_, rfl, ?_⟩ | refine ⟨(True.intro : True), ?_⟩
  | refine ⟨_, _, rfl, rfl, (⟨by decide, by decide, by decide⟩ : CPow _ _), ?_⟩
  | refine ⟨_, _, rfl, rfl, (⟨by decide, by decide⟩ : CDiv _ _), ?_⟩
  | refine ⟨_, _, rfl, rfl, (by show (0 : Int) < _; decide), ?_⟩
  | refine ⟨_, _, rfl, rfl, ?_⟩ | refine ⟨rfl, ?_⟩ | refine iteT ?_ | refine iteF ?_ | refine ⟨_, _, rfl, ?_⟩ | refine .inl ⟨_, rfl, ?_⟩
  | refine ⟨_, _, _, _, _, rfl, (by assumption), (by assumption), (by assumption), rfl, ?_⟩ | refine ⟨_, _, _, _, rfl, rfl, SqT.of (by assumption), rfl, ?_⟩ | refine ⟨_, _, rfl, SqT.of (by assumption), rfl, ?_⟩
  | refine ⟨_, _, _, _, _, rfl, .ty _, Rp.ty (by assumption), kit_int _, ?_⟩ | refine ⟨_, _, _, _, _, rfl, .ty _, Rp.ty (by assumption), kit_bool _, ?_⟩
  | refine ⟨_, _, _, _, _, rfl, .ty _, Rp.ty (by assumption), kit_str _, ?_⟩ | refine ⟨_, _, _, _, _, rfl, .ty _, Rp.ty (by assumption), kit_tup _, ?_⟩)
local macro_rules | `(tactic| walk_at "cal") => `(tactic| first
  | refine ⟨_, _, _, _, _, rfl, (by assumption), ?_⟩ | refine ⟨_, _, _, _, _, rfl, (by assumption), (by assumption), ?_⟩)
local macro_rules | `(tactic| walk_at "sq") => `(tactic| first
  | refine ⟨_, _, rfl, Or.inr (SqT.of (by assumption)), ?_⟩ | refine ⟨_, _, _, _, rfl, rfl, SqT.of (by assumption), rfl, ?_⟩)
local macro_rules | `(tactic| walk_at "rds") => `(tactic| repeat first | walk_at "rd" | walk_at "cal" | walk_at "sq")
local macro_rules | `(tactic| walk_at "ze") => `(tactic| repeat first
  | exact zes_nil | exact ze_bl | exact ze_str | exact ze_non | apply zes_cons | apply ze_tup | apply ze_lst | apply ze_cat | exact di_c | exact di_v rfl | apply di_opC | apply di_op | apply di_neg | apply ze_i | (refine (⟨?_, ?_, ?_⟩ : CPow _ _) <;> decide) | exact Nat.le_of_ble_eq_true rfl | exact ze_varD rfl (by assumption))
local macro_rules | `(tactic| walk_at "rdz") => `(tactic| repeat (fail_if_success (first | show tLst _ _ _ _ | show tAsg (tLst _) _ _ _ _ | show tSeq (tAsg (tLst _) _) _ _ _ _)); first | walk_at "rd" | walk_at "cal" | walk_at "sq")
/-- how long the log was at the first cast with each index -/
def lenOf (pre : List Ev) (x : MVI) : Option Nat := (pre.findIdx? (ciB x.1 x.2.1 x.2.2)).map fun j => (logOf x.1 x.2.1 (pre.take j)).length
theorem lenOf_snoc (pre : List Ev) (e : Ev) (x : MVI) : lenOf (pre ++ [e]) x = (lenOf pre x).or (if ciB x.1 x.2.1 x.2.2 e = true then some (logOf x.1 x.2.1 pre).length else none) := by
  unfold lenOf
  rw [List.findIdx?_append]
  cases h : pre.findIdx? (ciB x.1 x.2.1 x.2.2) with
  | some j =>
    obtain ⟨hj, _⟩ := List.findIdx?_eq_some_iff_findIdx_eq.mp h
    show some (logOf x.1 x.2.1 ((pre ++ [e]).take j)).length = some _
    rw [List.take_append_of_le_length (by omega)]
  | none =>
    show ((([e].findIdx? (ciB x.1 x.2.1 x.2.2)).map (· + pre.length))).map _ = _
    rw [List.findIdx?_cons]
    by_cases hc : ciB x.1 x.2.1 x.2.2 e = true
    · rw [if_pos hc, if_pos hc]
      show some (logOf x.1 x.2.1 ((pre ++ [e]).take (0 + pre.length))).length = some _
      rw [Nat.zero_add, List.take_left]
    · rw [if_neg hc, if_neg hc]; rfl
theorem lenOf_other {pre : List Ev} {e : Ev} (h : ∀ x : MVI, ciB x.1 x.2.1 x.2.2 e = false) : lenOf (pre ++ [e]) = lenOf pre := by
  funext x
  rw [lenOf_snoc, h x]
  cases lenOf pre x <;> rfl
theorem lenOf_cast {pre : List Ev} {t i : Int} {m : Mem} {v : Vid} {p : Str} : lenOf (pre ++ [.ct t m v i p]) = match lenOf pre (m, v, i) with
    | some _ => lenOf pre
    | none => setM (lenOf pre) (m, v, i) (logOf m v pre).length := by
  have e : ∀ x : MVI, ciB x.1 x.2.1 x.2.2 (.ct t m v i p) = decide (x = (m, v, i)) := fun x => by
    show decide (m = x.1 ∧ v = x.2.1 ∧ i = x.2.2) = _
    refine decide_eq_decide.mpr ⟨fun ⟨a, b, c⟩ => ?_, fun h => by rw [h]; exact ⟨rfl, rfl, rfl⟩⟩
    rw [a, b, c]
  cases h : lenOf pre (m, v, i) with
  | some n =>
    funext x
    dsimp only
    rw [lenOf_snoc, e x]
    by_cases hx : x = (m, v, i)
    · rw [hx, h]; rfl
    · rw [decide_eq_false hx]
      cases lenOf pre x <;> rfl
  | none =>
    funext x
    dsimp only
    rw [lenOf_snoc, e x]
    unfold setM
    by_cases hx : x = (m, v, i)
    · rw [hx, h, decide_eq_true rfl, if_pos rfl, if_pos rfl]; rfl
    · rw [decide_eq_false hx, if_neg hx]
      cases lenOf pre x <;> rfl
def logL (pre : List Ev) : MV → List Msg := fun x => logOf x.1 x.2 pre
theorem logL_dl {pre : List Ev} {t : Int} {m : Mem} {v : Vid} {g : Msg} : logL (pre ++ [.dl t m v g]) = addL (logL pre) (m, v) g := by
  funext x
  unfold logL addL
  rw [logOf_dl]
  by_cases h : x = (m, v)
  · rw [if_pos h, if_pos (by rw [h]; exact ⟨rfl, rfl⟩)]
  · rw [if_neg h, if_neg (fun z => h (by rw [z.1, z.2]))]
theorem logL_other {pre : List Ev} {e : Ev} (h : ∀ m v, dlS m v e = none) : logL (pre ++ [e]) = logL pre := by
  funext x
  unfold logL
  rw [logOf_snoc, h]
  exact List.append_nil _
/-- what logs.get((member, view_id), []) gives -/
theorem Lg.get {w : World} {H0 H : Hp} {d n t l : Addr} {L : MV → List Msg} {x : MV} (h : Lg w H0 H d n L) (hk : NK H (.ref t) (kMV x)) (h5 : H l = some (.lst [])) : ∃ o b vs, NGet w H d t o ∧ o.getD (.ref l) = .ref b ∧ H b = some (.lst vs) ∧ TDs H vs ((L x).map eG) := by
  obtain ⟨adr, a1, a2, a3, a4⟩ := h.ex
  obtain ⟨o, h1, h2⟩ := a1.get hk (kMV_depth _)
  cases hx : adr x with
  | none =>
    rw [hx] at h2
    cases o with
    | none => exact ⟨none, l, [], h1, rfl, h5, by rw [a3 x hx]; exact .nil⟩
    | some v => exact h2.elim
  | some b =>
    rw [hx] at h2
    cases o with
    | none => exact h2.elim
    | some v =>
      obtain rfl : v = .ref b := h2
      obtain ⟨_, vs, e1, e2⟩ := a2 x b hx
      exact ⟨_, b, vs, h1, rfl, e1, e2⟩
/-- d.setdefault(x, v) where d holds ints -/
theorem NM.setd {κ : Type} [DecidableEq κ] {w : World} {H : Hp} {d n t : Addr} {key : κ → NestedKey} {g : κ → Option Nat} {x : κ} {a : Nat} {R : V → Hp → Prop} (inj : ∀ x y, key x = key y → x = y) (h : NM w H d n key (fun v x => v = .int (x : Nat)) g) (hk : NK H (.ref t) (key x)) (dk : (key x).depth ≤ 8) (hn : n < 1000000)
    (q1 : ∀ m, g x = some m → R (.int (m : Nat)) H) (q2 : ∀ H', g x = none → NM w H' d (n + 1) key (fun v x => v = .int (x : Nat)) (setM g x a) → (∀ b o, H b = some o → b ≠ d → H' b = some o) → TupK H H' → R (.int (a : Nat)) H') :
    ∃ ks k, Nd w H d ks ∧ NK H (.ref t) k ∧ k.depth ≤ 8 ∧ (∀ u, valN ks k = some u → R u H) ∧ (valN ks k = none → R (.int (a : Nat)) (upd H d (ndO w d (putN ks k t (.int (a : Nat)))))) := by
  obtain ⟨ks, k1, k2, k3, k4⟩ := h.ex
  have ho := k3 x
  refine ⟨ks, key x, k1, hk, dk, fun u hu => ?_, fun hnone => ?_⟩
  · rw [hu] at ho
    cases hx : g x with
    | none => rw [hx] at ho; exact ho.elim
    | some m =>
      rw [hx] at ho
      obtain rfl : u = .int (m : Nat) := ho
      exact q1 m hx
  · rw [hnone] at ho
    have hx : g x = none := by
      cases hx : g x with
      | none => rfl
      | some m => rw [hx] at ho; exact ho.elim
    exact q2 _ hx (NM.put inj k1 k2 k3 k4 hk dk hn rfl fun _ _ h => h) (fun b o hb hd => by rw [upd_ne hd]; exact hb) (tupK_upd fun xs e => by rw [k1.ob] at e; cases e)
def sp_logs (w : World) : Sp := fun vs H Q _ => ∃ (a : Addr) (us : List V) (es : List Ev), vs = [.ref a] ∧ H a = some (.lst us) ∧ TDs H us (es.map eE) ∧ es.length ≤ 30 ∧
  ∀ t d1 d2 H', Same H H' → H' t = some (.tup [.ref d1, .ref d2]) → H d1 = none → H d2 = none → Lg w H H' d1 30 (logL es) → NM w H' d2 30 kMVI (fun v x => v = .int (x : Nat)) (lenOf es) → Q (.ref t) H'
section
variable {P : Program} {w : World} {K : PySem.W.Frag} {mg : Str → Option Value} {base : Heap}
/-- the state of _logs_and_lengths -/
structure Ll (w : World) (H0 H : Hp) (d1 d2 : Addr) (pre : List Ev) (n : Nat) : Prop where
  s : Same H0 H
  n1 : Lg w H0 H d1 n (logL pre)
  n2 : NM w H d2 n kMVI (fun v x => v = .int (x : Nat)) (lenOf pre)
theorem Ll.same {H0 H H' : Hp} {d1 d2 : Addr} {pre : List Ev} {n : Nat} (D : Ll w H0 H d1 d2 pre n) (s : Same H H') : Ll w H0 H' d1 d2 pre n :=
  ⟨D.s.trans s, D.n1.same s (Nat.le_refl _), D.n2.frame s (fun _ _ h => h) (Nat.le_refl _)⟩
abbrev s__logs_and_lengths : Stmt := top 4
abbrev N__logs_and_lengths : List Str := ["events", "logs", "lengths", "event", "member", "view_id", "message", "index", "_"]
abbrev P__logs_and_lengths : List Str := ["events"]
theorem sc__logs_and_lengths : FnScope N__logs_and_lengths P__logs_and_lengths (defScope s__logs_and_lengths) := ⟨rfl, rfl, rfl, by decide +kernel, rfl, by decide +kernel, by decide +kernel⟩
theorem ok__logs_and_lengths {f : Addr} {fd : FuncData} (T : Tx mg) (F : Fun K "_logs_and_lengths" "_logs_and_lengths" s__logs_and_lengths f fd) : FnOk P w K mg base CX0 (1) f fd P__logs_and_lengths (sp_logs w) := by
  have nd := sc__logs_and_lengths.nd
  refine F.ok sc__logs_and_lengths (fun vs H Q E h => ?_) (fun cdv A outer s H vs Q E hr h => ?_)
  · obtain ⟨_, _, _, rfl, _⟩ := h
    rfl
  · obtain ⟨a, us, es, rfl, ha, hr0, hlen, q⟩ := h
    have hs := sl
    refine ⟨_, (pss_cons (ps_set (i := 1) nd rfl (Or.inl rfl) pe_nnew)
      (pss_cons (ps_set (i := 2) nd rfl (Or.inl rfl) pe_nnew)
      (pss_cons (ps_for PassesOwn.never rfl (pi_list (pv 0)) (pg_name (i := 3) nd rfl (Or.inl rfl))
        (pss_one (ps_if (pt_cmpR op_eq (pe_ix ix_tup (pv 3) pe_int (fun _ _ => rfl)) pe_str (nomark _))
          (pss_cons (ps_asg (pe_slice sl_tupA (pv 3) (po_some pe_int) po_none) (pg_tup (by rfl) (pgs_cons (pg_name (i := 4) nd rfl (Or.inl rfl)) (pgs_cons (pg_name (i := 5) nd rfl (Or.inl rfl)) (pgs_cons (pg_name (i := 6) nd rfl (Or.inl rfl)) pgs_nil)))))
          (pss_one (ps_expr (pe_bm PySem.F.plainAttrs_list PySem.F.slot_list_append PySem.F.type_list_append mt_append (pe_nsetd hr.units (pv 1) (pe_tup (pa_cons (pv 4) (pa_cons (pv 5) pa_nil))) (pe_lst pa_nil) ⟨rfl, rfl, rfl, rfl⟩) (pa_cons (pv 6) pa_nil)))))
          (pss_one (ps_if (pt_cmpR op_eq (pe_ix ix_tup (pv 3) pe_int (fun _ _ => rfl)) pe_str (nomark _))
            (pss_cons (ps_asg (pe_slice sl_tupA (pv 3) (po_some pe_int) po_none) (pg_tup (by rfl) (pgs_cons (pg_name (i := 4) nd rfl (Or.inl rfl)) (pgs_cons (pg_name (i := 5) nd rfl (Or.inl rfl)) (pgs_cons (pg_name (i := 7) nd rfl (Or.inl rfl)) (pgs_cons (pg_name (i := 8) nd rfl (Or.inl rfl)) pgs_nil))))))
            (pss_one (ps_expr (pe_nsetd hr.units (pv 2) (pe_tup (pa_cons (pv 4) (pa_cons (pv 5) (pa_cons (pv 7) pa_nil)))) (pe_callB call_len_seq (by rfl) T.b_len (by decide +kernel) (pa_cons (pe_nget2 hr.units (pv 1) (pe_tup (pa_cons (pv 4) (pa_cons (pv 5) pa_nil))) (pe_lst pa_nil) ⟨rfl, rfl, rfl, rfl⟩) pa_nil)) ⟨rfl, rfl, rfl, rfl⟩))))
            pss_nil)))))
      (pss_one (ps_ret (pe_tup (pa_cons (pv 1) (pa_cons (pv 2) pa_nil)))))))), ?_⟩
    refine fun d1 nd1 sd1 => ?_
    refine fun d2 nd2 sd2 => ?_
    have nd2 : (upd H d1 (ndO w d1 [])) d2 = none := nd2
    have s1 := same_new nd1 (ndO w d1 [])
    have s2 := same_new nd2 (ndO w d2 [])
    have e12 : d1 ≠ d2 := ne_of_none upd_same nd2
    have f2 : H d2 = none := by rwa [upd_ne e12.symm] at nd2
    have lx := hr0.length
    rw [List.length_map] at lx
    have D0 : Ll w H (upd (upd H d1 (ndO w d1 [])) d2 (ndO w d2 [])) d1 d2 [] 0 :=
      ⟨s1.trans s2, Lg.same (lg_new sd1) s2 (Nat.le_refl _), nm_new sd2⟩
    refine ⟨_, rfl, a, rfl, ⟨_, SqL.of ((s1.trans s2) _ _ ha)⟩, for_list (K := K) (a := a) (xs := us) (fun i σ H' => ∃ (x3 x4 x5 x6 x7 x8 : Option V), σ = [some (.ref a), some (.ref d1), some (.ref d2), x3, x4, x5, x6, x7, x8] ∧ Ll w H H' d1 d2 (es.take i) i) ?_ ?_ ?_ ?_⟩
    · exact ⟨_, _, _, _, _, _, rfl, D0⟩
    · rintro i σ H' _ ⟨_, _, _, _, _, _, rfl, D⟩
      exact SqL.of (D.s _ _ ha)
    · clear D0
      rintro i v σ H1 hx ⟨x3, x4, x5, x6, x7, x8, rfl, D⟩
      obtain ⟨e, he, td0⟩ := hr0.map_at hx
      have td := td0.same D.s
      have hi : i < es.length := (List.getElem?_eq_some_iff.mp he).1
      have tk := take_snoc he
      cases e with
      | cr t n =>
        obtain ⟨b, rfl, hb⟩ := td.ecr
        walk_at "rds"
        refine ⟨_, _, _, _, _, _, rfl, ⟨D.s, ?_, ?_⟩⟩
        · rw [tk, logL_other fun _ _ => rfl]
          exact D.n1.same (Same.refl _) (Nat.le_succ i)
        · rw [tk, lenOf_other fun _ => rfl]
          exact D.n2.frame (Same.refl _) (fun _ _ h => h) (Nat.le_succ i)
      | vw t m vid ms =>
        obtain ⟨b, x, y, z, rfl, hb, hx1, hy1, hz1⟩ := td.evw
        walk_at "rds"
        refine ⟨_, _, _, _, _, _, rfl, ⟨D.s, ?_, ?_⟩⟩
        · rw [tk, logL_other fun _ _ => rfl]
          exact D.n1.same (Same.refl _) (Nat.le_succ i)
        · rw [tk, lenOf_other fun _ => rfl]
          exact D.n2.frame (Same.refl _) (fun _ _ h => h) (Nat.le_succ i)
      | ct t m vid j p =>
        obtain ⟨b, x, y, rfl, hb, hx1, hy1⟩ := td.ect
        walk_at "rds"
        refine ⟨b, _, rfl, SqT.of hb, fun z => absurd z.1 (by show ¬ HT.sIx 6 0 (some 2) = 0; decide), fun _ t' nt => ?_⟩
        have ec : cutV [V.str "cast", .int t, x, y, .int j, .str p] (some 2) none = [x, y, .int j, .str p] := rfl
        rw [ec]
        have st := same_new nt (.tup [x, y, .int j, .str p])
        have htt : (upd H1 t' (.tup [x, y, .int j, .str p])) t' = some (.tup [x, y, .int j, .str p]) := upd_same
        have D2 := D.same st
        have hx2 := hx1.same st
        have hy2 := hy1.same st
        clear hx1 hy1 D td
        generalize upd H1 t' (.tup [x, y, .int j, .str p]) = H2 at *
        refine ⟨t', _, rfl, SqT.of htt, rfl, x, _, rfl, y, _, rfl, .int j, _, rfl, .str p, _, rfl, rfl, ?_⟩
        obtain ⟨ks, k1, _⟩ := D2.n2.ex
        refine ⟨_, rfl, d2, ks, rfl, k1, ?_⟩
        walk_at "rds"
        refine ⟨by show 3 ≤ sizeLine; omega, fun t3 nt3 => ?_⟩
        have s3' := same_new nt3 (.tup [x, y, .int j])
        have nk3 : NK (upd H2 t3 (.tup [x, y, .int j])) (.ref t3) (kMVI (m, vid, j)) := nk_tup nt3 (.cons hx2 (.cons hy2 (.cons (.int _) .nil))) rfl
        have D3 := D2.same s3'
        have hx3 := hx2.same s3'
        have hy3 := hy2.same s3'
        clear hx2 hy2 D2 k1
        generalize upd H2 t3 (.tup [x, y, .int j]) = H3 at *
        obtain ⟨adr, a1, _⟩ := D3.n1.ex
        obtain ⟨ks, k1, _⟩ := a1.ex
        refine ⟨_, rfl, d1, ks, rfl, k1, ?_⟩
        walk_at "rds"
        refine ⟨by show 2 ≤ sizeLine; omega, fun t4 nt4 => ?_⟩
        have s4' := same_new nt4 (.tup [x, y])
        have nk4 : NK (upd H3 t4 (.tup [x, y])) (.ref t4) (kMV (m, vid)) := nk_tup nt4 (.cons hx3 (.cons hy3 .nil)) rfl
        have nk3 := nk3.mono fun b xs h => s4' _ _ h
        have D4 := D3.same s4'
        clear hx3 hy3 D3 k1
        generalize upd H3 t4 (.tup [x, y]) = H4 at *
        walk_at "rds"
        refine ⟨by show 0 ≤ sizeLine; omega, fun l5 nl5 => ?_⟩
        have s5' := same_new nl5 (.lst [])
        have h5 : (upd H4 l5 (.lst [])) l5 = some (.lst []) := upd_same
        have nk4 := nk4.mono fun b xs h => s5' _ _ h
        have nk3 := nk3.mono fun b xs h => s5' _ _ h
        have D5 := D4.same s5'
        clear D4
        generalize upd H4 l5 (.lst []) = H5 at *
        obtain ⟨o, b5, vs, hget, ho, hb5, hvs⟩ := D5.n1.get nk4 h5
        refine ⟨t4, o, rfl, hget, ?_⟩
        rw [ho]
        walk_at "rds"
        refine ⟨b5, vs, rfl, .inl (SqL.of hb5), ?_⟩
        have ll := hvs.length
        rw [List.length_map] at ll
        rw [ll]
        obtain ⟨ks, k, g1, g2, g3, g4, g5⟩ := NM.setd (R := fun _ H' => Ll w H H' d1 d2 (es.take (i + 1)) (i + 1)) (a := (logOf m vid (es.take i)).length) kMVI_inj D5.n2 nk3 (kMVI_depth _) (show i < 1000000 by omega) (fun m0 hm => by
            refine ⟨D5.s, ?_, ?_⟩
            · rw [tk, logL_other fun _ _ => rfl]
              exact D5.n1.same (Same.refl _) (Nat.le_succ i)
            · rw [tk, lenOf_cast, hm]
              exact D5.n2.frame (Same.refl _) (fun _ _ h => h) (Nat.le_succ i)) fun H' hnone q1 q2 q3 => by
            refine ⟨fun c o hc => q2 c o (D5.s _ _ hc) (ne_of_none hc f2), ?_, ?_⟩
            · rw [tk, logL_other fun _ _ => rfl]
              obtain ⟨adr, a1, _⟩ := D5.n1.ex
              obtain ⟨ks2, e2⟩ := a1.ndo
              obtain ⟨ks3, e3⟩ := D5.n2.ndo
              exact D5.n1.frame ((q2 _ _ e2 e12).trans e2.symm) (fun b vs hb => (q2 _ _ hb (fun z => by rw [z, e3] at hb; cases hb)).trans hb.symm) q3 (Nat.le_succ i)
            · rw [tk, lenOf_cast, hnone]
              exact q1
        refine ⟨t3, ks, k, rfl, g1, g2, g3, fun u hu => ?_, fun hu => ?_⟩
        · exact ⟨_, _, _, _, _, _, rfl, g4 u hu⟩
        · exact ⟨_, _, _, _, _, _, rfl, g5 hu⟩
      | dl t m vid g =>
        obtain ⟨b, x, y, z, rfl, hb, hx1, hy1, hz1⟩ := td.edl
        obtain ⟨s0, i0, p0⟩ := g
        walk_at "rds"
        refine ⟨b, _, rfl, SqT.of hb, fun z => absurd z.1 (by show ¬ HT.sIx 5 0 (some 2) = 0; decide), fun _ t' nt => ?_⟩
        have ec : cutV [V.str "deliver", .int t, x, y, z] (some 2) none = [x, y, z] := rfl
        rw [ec]
        have st := same_new nt (.tup [x, y, z])
        have htt : (upd H1 t' (.tup [x, y, z])) t' = some (.tup [x, y, z]) := upd_same
        have D2 := D.same st
        have hx2 := hx1.same st
        have hy2 := hy1.same st
        have hz2 := hz1.same st
        clear hx1 hy1 hz1 D td
        generalize upd H1 t' (.tup [x, y, z]) = H2 at *
        refine ⟨t', _, rfl, SqT.of htt, rfl, x, _, rfl, y, _, rfl, z, _, rfl, rfl, ?_⟩
        obtain ⟨adr, a1, _⟩ := D2.n1.ex
        obtain ⟨ks, k1, _⟩ := a1.ex
        refine ⟨_, rfl, d1, ks, rfl, k1, ?_⟩
        walk_at "rds"
        refine ⟨by show 2 ≤ sizeLine; omega, fun t3 nt3 => ?_⟩
        have s3' := same_new nt3 (.tup [x, y])
        have nk3 : NK (upd H2 t3 (.tup [x, y])) (.ref t3) (kMV (m, vid)) := nk_tup nt3 (.cons hx2 (.cons hy2 .nil)) rfl
        have D3 := D2.same s3'
        have hz3 := hz2.same s3'
        clear hx2 hy2 hz2 D2 k1
        generalize upd H2 t3 (.tup [x, y]) = H3 at *
        walk_at "rds"
        refine ⟨by show 0 ≤ sizeLine; omega, fun l5 nl5 => ?_⟩
        have s5' := same_new nl5 (.lst [])
        have h5 : (upd H3 l5 (.lst [])) l5 = some (.lst []) := upd_same
        have nk5 := nk3.mono fun b xs h => s5' _ _ h
        have D5 := D3.same s5'
        have hz5 := hz3.same s5'
        have hn5 : H l5 = none := by
          cases e : H l5 with
          | none => rfl
          | some o => rw [D3.s _ _ e] at nl5; cases nl5
        obtain ⟨ks, k, g1, g2, g3, g4, g5⟩ := Lg.setd (K := K) (R := fun H' => Ll w H H' d1 d2 (es.take (i + 1)) (i + 1)) D3.n1 s5' nl5 nk5 h5 hn5 nd1 hz5 (show i < 1000000 by omega) (fun x => by
          have := logOf_len x.1 x.2 (es.take i)
          have := List.length_take_le i es
          unfold logL
          omega) fun H' q1 q2 q3 q4 => by
            refine ⟨fun c o hc => q3 c o hc (D5.s _ _ hc), by rw [tk, logL_dl]; exact q1, ?_⟩
            rw [tk, lenOf_other fun _ => rfl]
            obtain ⟨ks2, e2⟩ := D5.n2.ndo
            exact D5.n2.mono ((q2 _ _ e2 (Ne.symm e12) (fun vs z => by cases z)).trans e2.symm) q4 (fun _ _ h => h) (Nat.le_succ i)
        refine ⟨t3, ks, k, rfl, g1, g2, g3, fun u hu => ?_, fun hu => ?_⟩
        · obtain ⟨g6, l, xs, rfl, g7, g8, g9⟩ := g4 u hu
          refine ⟨g6, ?_⟩
          walk_at "rds"
          exact ⟨l, xs, _, rfl, rfl, g7, g8, ⟨_, _, _, _, _, _, rfl, g9⟩⟩
        · obtain ⟨H6, rfl, g6, g7, g8⟩ := g5 hu
          refine ⟨g6, ?_⟩
          walk_at "rds"
          exact ⟨l5, [], _, rfl, rfl, g7, by show 0 < sizeLine; omega, ⟨_, _, _, _, _, _, rfl, g8⟩⟩
    · rintro σ H1 ⟨x3, x4, x5, x6, x7, x8, rfl, D⟩
      rw [lx, List.take_length] at D
      walk_at "rds"
      refine ⟨by show 2 ≤ sizeLine; omega, fun t nt => ?_⟩
      exact q t d1 d2 _ (D.s.trans (same_new nt _)) upd_same nd1 f2 (D.n1.same (same_new nt _) (by omega)) (D.n2.frame (same_new nt _) (fun _ _ h => h) (by omega))
end
end Mus

set_option maxRecDepth 100000
set_option maxHeartbeats 4000000
namespace Mus
open PySem L2
local macro_rules | `(tactic| walk_at "rd") => `(tactic| first
  | refine ⟨_, rfl, ?_⟩ | refine ⟨(True.intro : True), ?_⟩
  | refine ⟨_, _, rfl, rfl, (⟨by decide, by decide, by decide⟩ : CPow _ _), ?_⟩
  | refine ⟨_, _, rfl, rfl, (⟨by decide, by decide⟩ : CDiv _ _), ?_⟩
  | refine ⟨_, _, rfl, rfl, (by show (0 : Int) < _; decide), ?_⟩
  | refine ⟨_, _, rfl, rfl, ?_⟩ | refine ⟨rfl, ?_⟩ | refine iteT ?_ | refine iteF ?_ | refine ⟨_, _, rfl, ?_⟩ | refine .inl ⟨_, rfl, ?_⟩
  | refine ⟨_, _, _, _, _, rfl, (by assumption), (by assumption), (by assumption), rfl, ?_⟩ | refine ⟨_, _, _, _, rfl, rfl, SqT.of (by assumption), rfl, ?_⟩ | refine ⟨_, _, rfl, SqT.of (by assumption), rfl, ?_⟩
  | refine ⟨_, _, _, _, _, rfl, .ty _, Rp.ty (by assumption), kit_int _, ?_⟩ | refine ⟨_, _, _, _, _, rfl, .ty _, Rp.ty (by assumption), kit_bool _, ?_⟩
  | refine ⟨_, _, _, _, _, rfl, .ty _, Rp.ty (by assumption), kit_str _, ?_⟩ | refine ⟨_, _, _, _, _, rfl, .ty _, Rp.ty (by assumption), kit_tup _, ?_⟩)
local macro_rules | `(tactic| walk_at "cal") => `(tactic| first
  | refine ⟨_, _, _, _, _, rfl, (by assumption), ?_⟩ | refine ⟨_, _, _, _, _, rfl, (by assumption), (by assumption), ?_⟩)
local macro_rules | `(tactic| walk_at "sq") => `(tactic| first
  | refine ⟨_, _, rfl, Or.inr (SqT.of (by assumption)), ?_⟩ | refine ⟨_, _, _, _, rfl, rfl, SqT.of (by assumption), rfl, ?_⟩)
local macro_rules | `(tactic| walk_at "rds") => `(tactic| repeat first | walk_at "rd" | walk_at "cal" | walk_at "sq")
local macro_rules | `(tactic| walk_at "ze") => `(tactic| repeat first
  | exact zes_nil | exact ze_bl | exact ze_str | exact ze_non | apply zes_cons | apply ze_tup | apply ze_lst | apply ze_cat | exact di_c | exact di_v rfl | apply di_opC | apply di_op | apply di_neg | apply ze_i | (refine (⟨?_, ?_, ?_⟩ : CPow _ _) <;> decide) | exact Nat.le_of_ble_eq_true rfl | exact ze_varD rfl (by assumption))
local macro_rules | `(tactic| walk_at "rdz") => `(tactic| repeat (fail_if_success (first | show tLst _ _ _ _ | show tAsg (tLst _) _ _ _ _ | show tSeq (tAsg (tLst _) _) _ _ _ _)); first | walk_at "rd" | walk_at "cal" | walk_at "sq")
abbrev MSV := Mem × Mem × Vid
def eMSV (x : MSV) : PyData := .tuple [eM x.1, eM x.2.1, eV x.2.2]
def kMSV (x : MSV) : NestedKey := kOf (eMSV x)
theorem kMSV_inj : ∀ x y : MSV, kMSV x = kMSV y → x = y := kOf_enc (enc := eMSV) (fun _ => rfl) fun x y h => by
  unfold eMSV at h
  injection h with h
  injection h with h1 h
  injection h with h2 h
  injection h with h3 h
  exact Prod.ext (eM_inj h1) (Prod.ext (eM_inj h2) (eV_inj h3))
theorem kMSV_depth (x : MSV) : (kMSV x).depth ≤ 8 := by simp [kMSV, eMSV, kOf, kOfs, eV, eM, NestedKey.depth, NestedKey.depthAll]
/-- the messages a dict holds as keys -/
def memO (l : List Msg) (g : Msg) : Option Unit := if g ∈ l then some () else none
theorem memO_snoc (l : List Msg) (g : Msg) : memO (l ++ [g]) = setM (memO l) g () := by
  funext x
  show (if x ∈ l ++ [g] then some () else none) = if x = g then some () else if x ∈ l then some () else none
  by_cases h : x = g
  · rw [if_pos h, if_pos (by rw [h]; exact List.mem_append_right _ List.mem_cons_self)]
  · rw [if_neg h]
    by_cases h2 : x ∈ l
    · rw [if_pos h2, if_pos (List.mem_append_left _ h2)]
    · rw [if_neg h2, if_neg (fun z => (List.mem_append.mp z).elim h2 fun z => h (List.mem_singleton.mp z))]
theorem memO_iss (l : List Msg) (g : Msg) : (memO l g).isSome = decide (g ∈ l) := by
  unfold memO
  by_cases h : g ∈ l
  · rw [if_pos h, decide_eq_true h]; rfl
  · rw [if_neg h, decide_eq_false h]; rfl
/-- a dict of dicts of messages -/
structure Dd (w : World) (H0 H : Hp) (d n : Nat) (L : MV → List Msg) (adr : MV → Option Addr) : Prop where
  nm : NM w H d n kMV (fun v (l : Addr) => v = .ref l) adr
  at_ : ∀ x l, adr x = some l → H0 l = none ∧ l ≠ d ∧ NM w H l n kGg (fun _ _ => True) (memO (L x))
  non : ∀ x, adr x = none → L x = []
  inj : ∀ x y l, adr x = some l → adr y = some l → x = y
theorem Dd.frame {w : World} {H0 H H' : Hp} {d n m : Nat} {L : MV → List Msg} {adr : MV → Option Addr} (h : Dd w H0 H d n L adr) (e1 : H' d = H d) (e2 : ∀ x b, adr x = some b → H' b = H b) (t : TupK H H') (l : n ≤ m) : Dd w H0 H' d m L adr :=
  ⟨h.nm.mono e1 t (fun _ _ h => h) l, fun x b hx => ⟨(h.at_ x b hx).1, (h.at_ x b hx).2.1, (h.at_ x b hx).2.2.mono (e2 x b hx) t (fun _ _ h => h) l⟩, h.non, h.inj⟩
theorem Dd.same {w : World} {H0 H H' : Hp} {d n m : Nat} {L : MV → List Msg} {adr : MV → Option Addr} (h : Dd w H0 H d n L adr) (s : Same H H') (l : n ≤ m) : Dd w H0 H' d m L adr := by
  obtain ⟨ks, ek⟩ := h.nm.ndo
  refine h.frame ((s _ _ ek).trans ek.symm) (fun x b hx => ?_) (TupK.of s) l
  obtain ⟨ks, ek⟩ := (h.at_ x b hx).2.2.ndo
  exact (s _ _ ek).trans ek.symm
theorem dd_new {w : World} {H0 H : Hp} {d : Addr} (h : (d == sysModules) = false) : Dd w H0 (upd H d (ndO w d [])) d 0 (fun _ => []) fun _ => none :=
  ⟨nm_new h, fun x l z => (by cases z), fun _ _ => rfl, fun x y l z => by cases z⟩
/-- d.setdefault(x, {}): the key at t, the new dict at l5 -/
theorem Dd.setd {w : World} {H0 Hp' H : Hp} {d n t l5 : Addr} {L : MV → List Msg} {adr : MV → Option Addr} {x : MV} {R : V → Hp → Prop} (h : Dd w H0 Hp' d n L adr) (hss : Same Hp' H) (n5 : Hp' l5 = none) (hk : NK H (.ref t) (kMV x)) (h5 : NM w H l5 0 kGg (fun _ _ => True) (fun _ => (none : Option Unit))) (f5 : H0 l5 = none) (fd : H0 d = none) (hn : n < 1000000)
    (q : ∀ H' adr' l, adr' x = some l → (adr x = some l ∨ l = l5) → Dd w H0 H' d (n + 1) L adr' → (∀ y, y ≠ x → adr' y = adr y) → (∀ b o, H b = some o → b ≠ d → H' b = some o) → TupK H H' → R (.ref l) H') :
    ∃ ks k, Nd w H d ks ∧ NK H (.ref t) k ∧ k.depth ≤ 8 ∧ (∀ u, valN ks k = some u → R u H) ∧ (valN ks k = none → R (.ref l5) (upd H d (ndO w d (putN ks k t (.ref l5))))) := by
  have hn5 : ∀ y, adr y ≠ some l5 := fun y z => by
    obtain ⟨ks, ek⟩ := (h.at_ y l5 z).2.2.ndo
    rw [n5] at ek; cases ek
  have hd5 : l5 ≠ d := fun z => by
    obtain ⟨ks, ek⟩ := h.nm.ndo
    rw [← z, n5] at ek; cases ek
  have h := h.same hss (Nat.le_refl n)
  obtain ⟨ks, k1, k2, k3, k4⟩ := h.nm.ex
  have ho := k3 x
  refine ⟨ks, kMV x, k1, hk, kMV_depth _, fun u hu => ?_, fun hnone => ?_⟩
  · rw [hu] at ho
    cases hx : adr x with
    | none => rw [hx] at ho; exact ho.elim
    | some l =>
      rw [hx] at ho
      obtain rfl : u = .ref l := ho
      exact q H adr l hx (.inl hx) (h.same (Same.refl _) (Nat.le_succ n)) (fun _ _ => rfl) (fun _ _ h _ => h) (TupK.refl _)
  · rw [hnone] at ho
    have hx : adr x = none := by
      cases hx : adr x with
      | none => rfl
      | some l => rw [hx] at ho; exact ho.elim
    have tk : TupK H (upd H d (ndO w d (putN ks (kMV x) t (.ref l5)))) := tupK_upd fun xs e => by rw [k1.ob] at e; cases e
    have N1 : NM w (upd H d (ndO w d (putN ks (kMV x) t (.ref l5)))) d (n + 1) kMV (fun v (l : Addr) => v = .ref l) (setM adr x l5) := NM.put kMV_inj k1 k2 k3 k4 hk (kMV_depth _) hn rfl fun _ _ h => h
    refine q _ (setM adr x l5) l5 (if_pos rfl) (.inr rfl) ⟨N1, fun y l hy => ?_, fun y hy => ?_, fun y y' l hy hy' => ?_⟩ (fun y hy => if_neg hy) (fun b o hb hd => by rw [upd_ne hd]; exact hb) tk
    · unfold setM at hy
      split at hy
      · rename_i e
        cases hy
        rw [e, h.non x hx]
        exact ⟨f5, hd5, h5.mono (upd_ne hd5) tk (fun _ _ h => h) (Nat.zero_le _)⟩
      · have a := h.at_ y l hy
        exact ⟨a.1, a.2.1, a.2.2.mono (upd_ne a.2.1) tk (fun _ _ h => h) (Nat.le_succ n)⟩
    · unfold setM at hy
      split at hy
      · cases hy
      · exact h.non y hy
    · unfold setM at hy hy'
      split at hy
      · rename_i e
        split at hy'
        · rename_i e'
          rw [e, e']
        · cases hy
          exact absurd hy' (hn5 y')
      · split at hy'
        · cases hy'
          exact absurd hy (hn5 y)
        · exact h.inj _ _ _ hy hy'
/-- mine[message] = True -/
theorem Dd.put {w : World} {H0 H : Hp} {d n l b : Addr} {L : MV → List Msg} {adr : MV → Option Addr} {x : MV} {g : Msg} {ks : NKV} (h : Dd w H0 H d n L adr) (hx : adr x = some l) (n1 : Nd w H l ks) (n2 : ks.length ≤ n) (n3 : ∀ x', OR (fun _ _ => True) (valN ks (kGg x')) (memO (L x) x')) (n4 : ∀ k, (∀ x, k ≠ kGg x) → valN ks k = none)
    (hk : NK H (.ref b) (kGg g)) (hn : n < 1000000) : Dd w H0 (upd H l (ndO w l (putN ks (kGg g) b (.bl true)))) d (n + 1) (addL L x g) adr := by
  have tk : TupK H (upd H l (ndO w l (putN ks (kGg g) b (.bl true)))) := tupK_upd fun xs e => by rw [n1.ob] at e; cases e
  have hl := (h.at_ x l hx).2.1
  refine ⟨h.nm.mono (upd_ne (Ne.symm hl)) tk (fun _ _ h => h) (Nat.le_succ n), fun y l' hy => ?_, fun y hy => ?_, h.inj⟩
  · have a := h.at_ y l' hy
    refine ⟨a.1, a.2.1, ?_⟩
    unfold addL
    by_cases e : y = x
    · subst e
      rw [hx] at hy
      cases hy
      rw [if_pos rfl, memO_snoc]
      exact NM.put kGg_inj n1 n2 n3 n4 hk (kGg_depth _) hn trivial fun _ _ h => h
    · rw [if_neg e]
      exact a.2.2.mono (upd_ne (show l' ≠ l from fun z => e (h.inj _ _ _ hy (by rw [z]; exact hx)))) tk (fun _ _ h => h) (Nat.le_succ n)
  · unfold addL
    rw [if_neg (fun z => by rw [z, hx] at hy; cases hy)]
    exact h.non y hy
section
variable {P : Program} {w : World} {K : PySem.W.Frag} {mg : Str → Option Value} {base : Heap}
/-- the state of cause_fault -/
structure Cs (w : World) (H0 H : Hp) (d1 d2 d3 d4 : Addr) (es pre : List Ev) (n n' : Nat) (adr : MV → Option Addr) (gP : MSV → Option Nat) : Prop where
  s : Same H0 H
  n1 : Lg w H0 H d1 30 (logL es)
  n2 : NM w H d2 30 kMVI (fun v x => v = .int (x : Nat)) (lenOf es)
  n3 : Dd w H0 H d3 n' (logL pre) adr
  n4 : NM w H d4 n kMSV (fun v x => v = .int (x : Nat)) gP
  e3 : ∀ x, adr x ≠ some d4 ∧ adr x ≠ some d2 ∧ adr x ≠ some d1
  p4 : ∀ m s v k, gP (m, s, v) = some k → ∀ c ∈ (logOf s v es).take k, c ∈ logOf m v pre
theorem Cs.same {H0 H H' : Hp} {d1 d2 d3 d4 : Addr} {es pre : List Ev} {n n' : Nat} {adr : MV → Option Addr} {gP : MSV → Option Nat} (D : Cs w H0 H d1 d2 d3 d4 es pre n n' adr gP) (s : Same H H') : Cs w H0 H' d1 d2 d3 d4 es pre n n' adr gP :=
  ⟨D.s.trans s, D.n1.same s (Nat.le_refl _), D.n2.frame s (fun _ _ h => h) (Nat.le_refl _), D.n3.same s (Nat.le_refl _), D.n4.frame s (fun _ _ h => h) (Nat.le_refl _), D.e3, D.p4⟩
/-- an event that delivers nothing -/
theorem Cs.skip {H0 H : Hp} {d1 d2 d3 d4 : Addr} {es pre : List Ev} {e : Ev} {n n' : Nat} {adr : MV → Option Addr} {gP : MSV → Option Nat} (D : Cs w H0 H d1 d2 d3 d4 es pre n n' adr gP) (h : ∀ m v, dlS m v e = none) : Cs w H0 H d1 d2 d3 d4 es (pre ++ [e]) (n + 1) (n' + 2) adr gP := by
  have e1 : ∀ m v, logOf m v (pre ++ [e]) = logOf m v pre := fun m v => by rw [logOf_snoc, h]; exact List.append_nil _
  exact ⟨D.s, D.n1, D.n2, by rw [logL_other h]; exact D.n3.same (Same.refl _) (Nat.le_add_right n' 2), D.n4.frame (Same.refl _) (fun _ _ h => h) (Nat.le_succ n), D.e3, fun m s v k hk c hc => by rw [e1]; exact D.p4 m s v k hk c hc⟩
theorem take_logOf (m : Mem) (v : Vid) (es : List Ev) (j : Nat) : (logOf m v es).take (logOf m v (es.take j)).length = logOf m v (es.take j) := by
  have e : logOf m v es = logOf m v (es.take j) ++ logOf m v (es.drop j) := by
    unfold logOf
    rw [← List.filterMap_append, List.take_append_drop]
  rw [e, List.take_left]
theorem fCause_len (es pre : List Ev) (t : Int) (m : Mem) (v : Vid) (g : Msg) : fCause es pre (.dl t m v g) = if ∀ c ∈ (logOf g.1 v es).take ((lenOf es (g.1, v, g.2.1)).getD 0), c ∈ logOf m v pre then none else some (.tuple [.str "cause", eM m, eG g]) := by
  rw [fCause_dl]
  unfold lenOf
  dsimp only
  cases h : es.findIdx? (ciB g.1 v g.2.1) with
  | none =>
    rw [if_pos]
    intro c hc
    rw [show (Option.map (fun j => (logOf g.1 v (es.take j)).length) none).getD 0 = 0 from rfl, List.take_zero] at hc
    cases hc
  | some j =>
    rw [show (Option.map (fun j => (logOf g.1 v (es.take j)).length) (some j)).getD 0 = (logOf g.1 v (es.take j)).length from rfl, take_logOf]
    dsimp only
    by_cases h2 : ∀ c ∈ logOf g.1 v (es.take j), c ∈ logOf m v pre
    · rw [if_pos h2, if_pos (List.all_eq_true.mpr fun c hc => decide_eq_true (h2 c hc))]
    · rw [if_neg h2, if_neg fun z => h2 fun c hc => of_decide_eq_true (List.all_eq_true.mp z c hc)]
theorem lenOf_le (es : List Ev) (x : MVI) : (lenOf es x).getD 0 ≤ (logOf x.1 x.2.1 es).length := by
  unfold lenOf
  cases h : es.findIdx? (ciB x.1 x.2.1 x.2.2) with
  | none => exact Nat.zero_le _
  | some j =>
    have := congrArg List.length (take_logOf x.1 x.2.1 es j)
    rw [List.length_take] at this
    show (logOf x.1 x.2.1 (es.take j)).length ≤ _
    omega
abbrev s_cause_fault : Stmt := top 3
abbrev N_cause_fault : List Str := ["events", "logs", "lengths", "delivered", "passed", "event", "member", "view_id", "message", "sender", "index", "_", "mine", "log", "wanted", "known"]
abbrev P_cause_fault : List Str := ["events"]
theorem sc_cause_fault : FnScope N_cause_fault P_cause_fault (defScope s_cause_fault) := ⟨rfl, rfl, rfl, by decide +kernel, rfl, by decide +kernel, by decide +kernel⟩
theorem ok_cause_fault {f : Addr} {fd : FuncData} (T : Tx mg) (c__logs_and_lengths : DefOk P w K mg base CX0 "_logs_and_lengths" P__logs_and_lengths 1 (sp_logs w))(F : Fun K "cause_fault" "cause_fault" s_cause_fault f fd) : FnOk P w K mg base CX0 (2) f fd P_cause_fault (sp_fault fun es => firstF (fCause es) [] es) := by
  have nd := sc_cause_fault.nd
  refine F.ok sc_cause_fault (fun vs H Q E h => ?_) (fun cdv A outer s H vs Q E hr h => ?_)
  · obtain ⟨_, _, _, rfl, _⟩ := h
    rfl
  · obtain ⟨a, us, es, rfl, ha, hr0, hok, hlen, q⟩ := h
    have hs := sl
    refine ⟨_, (pss_cons (ps_asg (pcall c__logs_and_lengths hr (pa_cons (pv 0) pa_nil)) (pg_tup (by rfl) (pgs_cons (pg_name (i := 1) nd rfl (Or.inl rfl)) (pgs_cons (pg_name (i := 2) nd rfl (Or.inl rfl)) pgs_nil))))
      (pss_cons (ps_set (i := 3) nd rfl (Or.inl rfl) pe_nnew)
      (pss_cons (ps_set (i := 4) nd rfl (Or.inl rfl) pe_nnew)
      (pss_cons (ps_for PassesOwn.never rfl (pi_list (pv 0)) (pg_name (i := 5) nd rfl (Or.inl rfl))
        (pss_cons (ps_if (pt_cmpR op_ne (pe_ix ix_tup (pv 5) pe_int (fun _ _ => rfl)) pe_str (nomark _))
          (pss_one ps_continue)
          pss_nil)
        (pss_cons (ps_asg (pe_slice sl_tupA (pv 5) (po_some pe_int) po_none) (pg_tup (by rfl) (pgs_cons (pg_name (i := 6) nd rfl (Or.inl rfl)) (pgs_cons (pg_name (i := 7) nd rfl (Or.inl rfl)) (pgs_cons (pg_name (i := 8) nd rfl (Or.inl rfl)) pgs_nil)))))
        (pss_cons (ps_asg (pv 8) (pg_tup (by rfl) (pgs_cons (pg_name (i := 9) nd rfl (Or.inl rfl)) (pgs_cons (pg_name (i := 10) nd rfl (Or.inl rfl)) (pgs_cons (pg_name (i := 11) nd rfl (Or.inl rfl)) pgs_nil)))))
        (C8.pss_cut (ps_set (i := 12) nd rfl (Or.inl rfl) (pe_nsetd hr.units (pv 3) (pe_tup (pa_cons (pv 6) (pa_cons (pv 7) pa_nil))) pe_nnew ⟨rfl, rfl, rfl, rfl⟩))
        (pss_cons (ps_set (i := 13) nd rfl (Or.inl rfl) (pe_nget2 hr.units (pv 1) (pe_tup (pa_cons (pv 9) (pa_cons (pv 7) pa_nil))) (pe_lst pa_nil) ⟨rfl, rfl, rfl, rfl⟩))
        (pss_cons (ps_set (i := 14) nd rfl (Or.inl rfl) (pe_nget2 hr.units (pv 2) (pe_tup (pa_cons (pv 9) (pa_cons (pv 7) (pa_cons (pv 10) pa_nil)))) pe_int ⟨rfl, rfl, rfl, rfl⟩))
        (pss_cons (ps_set (i := 15) nd rfl (Or.inl rfl) (pe_nget2 hr.units (pv 4) (pe_tup (pa_cons (pv 6) (pa_cons (pv 9) (pa_cons (pv 7) pa_nil)))) pe_int ⟨rfl, rfl, rfl, rfl⟩))
        (pss_cons (ps_while PassesOwn.never (PW.pt (pw_and (pt_cmpR op_lt (pv 15) (pv 14) (nomark _)) (pw_and1 (pt_cmp (pc_nin hr.units (pe_ix ix_list (pv 13) (pv 15) (fun _ _ => rfl)) (pv 12))))))
          (pss_one (ps_aug (i := 15) nd rfl (Or.inl rfl) pe_int ip_add)))
        (pss_cons (ps_if (pt_cmpR op_lt (pv 15) (pv 14) (nomark _))
          (pss_one (ps_ret (pe_tup (pa_cons pe_str (pa_cons (pv 6) (pa_cons (pv 8) pa_nil))))))
          pss_nil)
        (pss_cons (ps_nput hr.units (pv 4) (pe_tup (pa_cons (pv 6) (pa_cons (pv 9) (pa_cons (pv 7) pa_nil)))) (pv 15) rfl)
        (pss_one (ps_nput hr.units (pv 12) (pv 8) pe_bl rfl)))))))))))))
      (pss_one (ps_ret pe_non)))))), ?_⟩
    walk_at "rds"
    refine ⟨a, us, es, rfl, ha, hr0, hlen, fun t d1 d2 H1 s1 ht f1 f2 L1 L2 => ?_⟩
    walk_at "rds"
    refine fun d3 nd3 sd3 => ?_
    refine fun d4 nd4 sd4 => ?_
    have nd4 : (upd H1 d3 (ndO w d3 [])) d4 = none := nd4
    have s3 := same_new nd3 (ndO w d3 [])
    have s4 := same_new nd4 (ndO w d4 [])
    have e34 : d3 ≠ d4 := ne_of_none upd_same nd4
    have nd41 : H1 d4 = none := by rwa [upd_ne e34.symm] at nd4
    have bk : ∀ c, H1 c = none → H c = none := fun c hc => by
      cases e : H c with
      | none => rfl
      | some o => rw [s1 _ _ e] at hc; cases hc
    have f3 := bk d3 nd3
    have f4 := bk d4 nd41
    have lx := hr0.length
    rw [List.length_map] at lx
    obtain ⟨adr0, a01, _⟩ := L1.ex
    obtain ⟨ks01, e01⟩ := a01.ndo
    obtain ⟨ks02, e02⟩ := L2.ndo
    have e13 : d1 ≠ d3 := ne_of_none e01 nd3
    have e14 : d1 ≠ d4 := ne_of_none e01 nd41
    have e23 : d2 ≠ d3 := ne_of_none e02 nd3
    have e24 : d2 ≠ d4 := ne_of_none e02 nd41
    have D0 : Cs w H (upd (upd H1 d3 (ndO w d3 [])) d4 (ndO w d4 [])) d1 d2 d3 d4 es [] 0 0 (fun _ => none) fun _ => none :=
      ⟨s1.trans (s3.trans s4), L1.same (s3.trans s4) (Nat.le_refl _), L2.frame (s3.trans s4) (fun _ _ h => h) (Nat.le_refl _), Dd.same (dd_new sd3) s4 (Nat.le_refl _), nm_new sd4, fun x => ⟨(fun z => by cases z), (fun z => by cases z), (fun z => by cases z)⟩, fun m s v k z => by cases z⟩
    refine ⟨_, rfl, a, rfl, ⟨_, SqL.of ((s1.trans (s3.trans s4)) _ _ ha)⟩, for_list (K := K) (a := a) (xs := us) (fun i σ H' => ∃ (x5 x6 x7 x8 x9 x10 x11 x12 x13 x14 x15 : Option V) (adr : MV → Option Addr) (gP : MSV → Option Nat), σ = [some (.ref a), some (.ref d1), some (.ref d2), some (.ref d3), some (.ref d4), x5, x6, x7, x8, x9, x10, x11, x12, x13, x14, x15] ∧ Cs w H H' d1 d2 d3 d4 es (es.take i) i (2 * i) adr gP ∧ firstF (fCause es) (es.take i) (es.drop i) = firstF (fCause es) [] es) ?_ ?_ ?_ ?_⟩
    · exact ⟨_, _, _, _, _, _, _, _, _, _, _, _, _, rfl, D0, rfl⟩
    · rintro i σ H' _ ⟨_, _, _, _, _, _, _, _, _, _, _, _, _, rfl, D, _⟩
      exact SqL.of (D.s _ _ ha)
    · clear D0
      rintro i v σ H1 hx ⟨x5, x6, x7, x8, x9, x10, x11, x12, x13, x14, x15, adr, gP, rfl, D, hF⟩
      obtain ⟨e, he, td0⟩ := hr0.map_at hx
      have td := td0.same D.s
      have hi : i < es.length := (List.getElem?_eq_some_iff.mp he).1
      rw [firstF_at he] at hF
      have tk := take_snoc he
      have l2 : 2 * (i + 1) = 2 * i + 2 := by omega
      cases e with
      | cr t n =>
        obtain ⟨b, rfl, hb⟩ := td.ecr
        walk_at "rds"
        exact ⟨_, _, _, _, _, _, _, _, _, _, _, adr, gP, rfl, by rw [tk, l2]; exact D.skip fun _ _ => rfl, hF⟩
      | vw t m vid ms =>
        obtain ⟨b, x, y, z, rfl, hb, hx1, hy1, hz1⟩ := td.evw
        walk_at "rds"
        exact ⟨_, _, _, _, _, _, _, _, _, _, _, adr, gP, rfl, by rw [tk, l2]; exact D.skip fun _ _ => rfl, hF⟩
      | ct t m vid j p =>
        obtain ⟨b, x, y, rfl, hb, hx1, hy1⟩ := td.ect
        walk_at "rds"
        exact ⟨_, _, _, _, _, _, _, _, _, _, _, adr, gP, rfl, by rw [tk, l2]; exact D.skip fun _ _ => rfl, hF⟩
      | dl t m vid g =>
        obtain ⟨b, x, y, z, rfl, hb, hx1, hy1, hz1⟩ := td.edl
        obtain ⟨s0, i0, p0⟩ := g
        walk_at "rds"
        refine ⟨b, _, rfl, SqT.of hb, fun z => absurd z.1 (by show ¬ HT.sIx 5 0 (some 2) = 0; decide), fun _ t' nt => ?_⟩
        have ec : cutV [V.str "deliver", .int t, x, y, z] (some 2) none = [x, y, z] := rfl
        rw [ec]
        have st := same_new nt (.tup [x, y, z])
        have htt : (upd H1 t' (.tup [x, y, z])) t' = some (.tup [x, y, z]) := upd_same
        have D2 := D.same st
        have hx2 := hx1.same st
        have hy2 := hy1.same st
        have hz2 := hz1.same st
        clear hx1 hy1 hz1 D td
        generalize upd H1 t' (.tup [x, y, z]) = H2 at *
        refine ⟨t', _, rfl, SqT.of htt, rfl, x, _, rfl, y, _, rfl, z, _, rfl, rfl, ?_⟩
        obtain ⟨zb, u, rfl, hzb, hu⟩ := hz2.msg
        refine ⟨_, rfl, zb, _, rfl, SqT.of hzb, rfl, u, _, rfl, .int i0, _, rfl, .str p0, _, rfl, rfl, ?_⟩
        have fin : ∀ (X : PyData) (H' : Hp) (v : V), fCause es (es.take i) (.dl t m vid (s0, i0, p0)) = some X → Same H H' → TD H' v X → Q v H' := fun X H' v e s h => by
          rw [e] at hF
          have hF : some X = firstF (fCause es) [] es := hF
          have q1 : TD H' v ((firstF (fCause es) [] es).getD .none) → Q v H' := q v H' s
          rw [← hF] at q1
          exact q1 h
        refine ⟨fun σ' H' => ∃ adr' l, σ' = [some (.ref a), some (.ref d1), some (.ref d2), some (.ref d3), some (.ref d4), some (.ref b), some x, some y, some (.ref zb), some u, some (.int i0), some (.str p0), some (.ref l), x13, x14, x15] ∧ adr' (m, vid) = some l ∧ Cs w H H' d1 d2 d3 d4 es (es.take i) i (2 * i + 1) adr' gP ∧ TD H' x (eM m) ∧ TD H' y (eV vid) ∧ TD H' (.ref zb) (eG (s0, i0, p0)) ∧ TD H' u (eM s0), ?_, ?_⟩
        · obtain ⟨ks, k1, _⟩ := D2.n3.nm.ex
          refine ⟨_, rfl, d3, ks, rfl, k1, ?_⟩
          walk_at "rds"
          refine ⟨by show 2 ≤ sizeLine; omega, fun t3 nt3 => ?_⟩
          have s3' := same_new nt3 (.tup [x, y])
          have nk3 : NK (upd H2 t3 (.tup [x, y])) (.ref t3) (kMV (m, vid)) := nk_tup nt3 (.cons hx2 (.cons hy2 .nil)) rfl
          have D3 := D2.same s3'
          have hx3 := hx2.same s3'
          have hy3 := hy2.same s3'
          have hz3 := hz2.same s3'
          have hu3 := hu.same s3'
          clear hx2 hy2 hz2 hu D2 k1
          generalize upd H2 t3 (.tup [x, y]) = H3 at *
          refine fun l5 nl5 sd5 => ?_
          have nl5 : H3 l5 = none := nl5
          have s5' := same_new nl5 (ndO w l5 [])
          have h5 : NM w (upd H3 l5 (ndO w l5 [])) l5 0 kGg (fun _ _ => True) (fun _ => (none : Option Unit)) := nm_new sd5
          have nk5 := nk3.mono fun b xs h => s5' _ _ h
          have D5 := D3.same s5'
          have hx5 := hx3.same s5'
          have hy5 := hy3.same s5'
          have hz5 := hz3.same s5'
          have hu5 := hu3.same s5'
          have hn5 : H l5 = none := by
            cases e : H l5 with
            | none => rfl
            | some o => rw [D3.s _ _ e] at nl5; cases nl5
          obtain ⟨adr0, a01, _⟩ := D3.n1.ex
          obtain ⟨ks01, e01⟩ := a01.ndo
          obtain ⟨ks02, e02⟩ := D3.n2.ndo
          obtain ⟨ks03, e03⟩ := D3.n3.nm.ndo
          obtain ⟨ks04, e04⟩ := D3.n4.ndo
          obtain ⟨ks, k, g1, g2, g3, g4, g5⟩ := Dd.setd (R := fun v H' => ∃ adr' l, v = .ref l ∧ adr' (m, vid) = some l ∧ Cs w H H' d1 d2 d3 d4 es (es.take i) i (2 * i + 1) adr' gP ∧ TD H' x (eM m) ∧ TD H' y (eV vid) ∧ TD H' (.ref zb) (eG (s0, i0, p0)) ∧ TD H' u (eM s0)) D3.n3 s5' nl5 nk5 h5 hn5 f3 (show 2 * i < 1000000 by omega) fun H' adr' l' q1 q2 q3 q4 q5 q6 => by
            refine ⟨adr', l', rfl, q1, ⟨fun c o hc => q5 c o (D5.s _ _ hc) (ne_of_none hc f3), D5.n1.frame ((q5 _ _ (s5' _ _ e01) e13).trans (s5' _ _ e01).symm) (fun b vs hb => (q5 _ _ hb (D5.n3.nm.ne_lst hb)).trans hb.symm) q6 (Nat.le_refl _), D5.n2.mono ((q5 _ _ (s5' _ _ e02) e23).trans (s5' _ _ e02).symm) q6 (fun _ _ h => h) (Nat.le_refl _), q3, D5.n4.mono ((q5 _ _ (s5' _ _ e04) (Ne.symm e34)).trans (s5' _ _ e04).symm) q6 (fun _ _ h => h) (Nat.le_refl _), fun x0 => ?_, D3.p4⟩, hx5.mono q6, hy5.mono q6, hz5.mono q6, hu5.mono q6⟩
            by_cases e0 : x0 = (m, vid)
            · rw [e0, q1]
              rcases q2 with q2 | q2
              · rw [← q2]; exact D3.e3 _
              · rw [q2]
                exact ⟨fun z => ne_of_none e04 nl5 (Option.some.inj z).symm, fun z => ne_of_none e02 nl5 (Option.some.inj z).symm, fun z => ne_of_none e01 nl5 (Option.some.inj z).symm⟩
            · rw [q4 _ e0]; exact D3.e3 _
          refine ⟨t3, ks, k, rfl, g1, g2, g3, fun u' hu' => ?_, fun hu' => ?_⟩
          · obtain ⟨adr', l', rfl, g6⟩ := g4 u' hu'
            exact ⟨adr', l', rfl, g6⟩
          · obtain ⟨adr', l', e6, g6⟩ := g5 hu'
            cases e6
            exact ⟨adr', _, rfl, g6⟩
        · rintro σ' H3 ⟨adr3, l, rfl, hl, D3, hx3, hy3, hz3, hu3⟩
          obtain ⟨adr0, a01, _⟩ := D3.n1.ex
          obtain ⟨ks, k1, _⟩ := a01.ex
          walk_at "rds"
          refine ⟨d1, ks, rfl, k1, ?_⟩
          walk_at "rds"
          refine ⟨by show 2 ≤ sizeLine; omega, fun t4 nt4 => ?_⟩
          have s4' := same_new nt4 (.tup [u, y])
          have nk4 : NK (upd H3 t4 (.tup [u, y])) (.ref t4) (kMV (s0, vid)) := nk_tup nt4 (.cons hu3 (.cons hy3 .nil)) rfl
          have D4 := D3.same s4'
          have hx4 := hx3.same s4'
          have hy4 := hy3.same s4'
          have hz4 := hz3.same s4'
          have hu4 := hu3.same s4'
          clear hx3 hy3 hz3 hu3 D3 k1 a01
          generalize upd H3 t4 (.tup [u, y]) = H4 at *
          walk_at "rds"
          refine ⟨by show 0 ≤ sizeLine; omega, fun l5 nl5 => ?_⟩
          have s5' := same_new nl5 (.lst [])
          have h5 : (upd H4 l5 (.lst [])) l5 = some (.lst []) := upd_same
          have nk5 := nk4.mono fun b xs h => s5' _ _ h
          have D5 := D4.same s5'
          have hx5 := hx4.same s5'
          have hy5 := hy4.same s5'
          have hz5 := hz4.same s5'
          have hu5 := hu4.same s5'
          clear hx4 hy4 hz4 hu4 D4
          generalize upd H4 l5 (.lst []) = H5 at *
          obtain ⟨o, b5, vs, hget, ho, hb5, hvs⟩ := D5.n1.get nk5 h5
          refine ⟨t4, o, rfl, hget, ?_⟩
          rw [ho]
          obtain ⟨ks, k1, _⟩ := D5.n2.ex
          walk_at "rds"
          refine ⟨d2, ks, rfl, k1, ?_⟩
          walk_at "rds"
          refine ⟨by show 3 ≤ sizeLine; omega, fun t6 nt6 => ?_⟩
          have s6' := same_new nt6 (.tup [u, y, .int i0])
          have nk6 : NK (upd H5 t6 (.tup [u, y, .int i0])) (.ref t6) (kMVI (s0, vid, i0)) := nk_tup nt6 (.cons hu5 (.cons hy5 (.cons (.int _) .nil))) rfl
          have D6 := D5.same s6'
          have hx6 := hx5.same s6'
          have hy6 := hy5.same s6'
          have hz6 := hz5.same s6'
          have hu6 := hu5.same s6'
          have hb6 := s6' _ _ hb5
          have hvs6 := hvs.mono (TupK.of s6')
          clear hx5 hy5 hz5 hu5 D5 k1 hget
          generalize upd H5 t6 (.tup [u, y, .int i0]) = H6 at *
          obtain ⟨o6, hget6, ho6⟩ := D6.n2.get nk6 (kMVI_depth _)
          refine ⟨t6, o6, rfl, hget6, ?_⟩
          have ew : o6.getD (.int 0) = .int (((lenOf es (s0, vid, i0)).getD 0 : Nat) : Int) := by
            cases o6 <;> cases h3 : lenOf es (s0, vid, i0) <;> rw [h3] at ho6 <;> first | exact ho6.elim | rfl | exact ho6
          rw [ew]
          have hW := lenOf_le es (s0, vid, i0)
          generalize hWe : (lenOf es (s0, vid, i0)).getD 0 = W at *
          obtain ⟨ks, k1, _⟩ := D6.n4.ex
          walk_at "rds"
          refine ⟨d4, ks, rfl, k1, ?_⟩
          walk_at "rds"
          refine ⟨by show 3 ≤ sizeLine; omega, fun t7 nt7 => ?_⟩
          have s7' := same_new nt7 (.tup [x, u, y])
          have nk7 : NK (upd H6 t7 (.tup [x, u, y])) (.ref t7) (kMSV (m, s0, vid)) := nk_tup nt7 (.cons hx6 (.cons hu6 (.cons hy6 .nil))) rfl
          have D7 := D6.same s7'
          have hx7 := hx6.same s7'
          have hy7 := hy6.same s7'
          have hz7 := hz6.same s7'
          have hu7 := hu6.same s7'
          have hb7 := s7' _ _ hb6
          have hvs7 := hvs6.mono (TupK.of s7')
          clear hx6 hy6 hz6 hu6 D6 k1 hget6
          generalize upd H6 t7 (.tup [x, u, y]) = H7 at *
          obtain ⟨o7, hget7, ho7⟩ := D7.n4.get nk7 (kMSV_depth _)
          refine ⟨t7, o7, rfl, hget7, ?_⟩
          have ek : o7.getD (.int 0) = .int (((gP (m, s0, vid)).getD 0 : Nat) : Int) := by
            cases o7 <;> cases h3 : gP (m, s0, vid) <;> rw [h3] at ho7 <;> first | exact ho7.elim | rfl | exact ho7
          rw [ek]
          have hk0 : ∀ c ∈ (logOf s0 vid es).take ((gP (m, s0, vid)).getD 0), c ∈ logOf m vid (es.take i) := by
            cases h3 : gP (m, s0, vid) with
            | none => intro c hc; rw [show (none : Option Nat).getD 0 = 0 from rfl, List.take_zero] at hc; cases hc
            | some k => exact D7.p4 _ _ _ _ h3
          generalize (gP (m, s0, vid)).getD 0 = k0 at *
          walk_at "rds"
          refine ⟨fun j σ' H' => ∃ k : Nat, j = W + 1 - k ∧ H' = H7 ∧ σ' = [some (.ref a), some (.ref d1), some (.ref d2), some (.ref d3), some (.ref d4), some (.ref b), some x, some y, some (.ref zb), some u, some (.int i0), some (.str p0), some (.ref l), some (.ref b5), some (.int (W : Nat)), some (.int (k : Nat))] ∧ ∀ c ∈ (logOf s0 vid es).take k, c ∈ logOf m vid (es.take i), ⟨_, k0, rfl, rfl, rfl, hk0⟩, ?_⟩
          clear hk0 ek ew
          rintro j σ' H' ⟨k, rfl, rfl, rfl, hk⟩
          walk_at "rds"
          have hLen := hvs7.length
          rw [List.length_map] at hLen
          have hLen : vs.length = (logOf s0 vid es).length := hLen
          have exitF : W ≤ k → fCause es (es.take i) (.dl t m vid (s0, i0, p0)) = none := fun h => by
            rw [fCause_len, if_pos]
            intro c hc
            have hc : c ∈ (logOf s0 vid es).take ((lenOf es (s0, vid, i0)).getD 0) := hc
            rw [hWe] at hc
            refine hk c ?_
            have e9 : (logOf s0 vid es).take W = ((logOf s0 vid es).take k).take W := by rw [List.take_take, Nat.min_eq_left h]
            rw [e9] at hc
            exact List.mem_of_mem_take hc
          refine iB (fun hkw => ?_) (fun hkw => ?_)
          · have hkw : k < W := by have := of_decide_eq_true hkw; omega
            have hL : k < (logOf s0 vid es).length := Nat.lt_of_lt_of_le hkw hW
            obtain ⟨c, hc⟩ : ∃ c, (logOf s0 vid es)[k]? = some c := ⟨_, List.getElem?_eq_getElem hL⟩
            obtain ⟨cv, hcv⟩ : ∃ cv, vs[k]? = some cv := ⟨_, List.getElem?_eq_getElem (by omega)⟩
            obtain ⟨c', hc', tdc⟩ := hvs7.map_at hcv
            have hc' : (logOf s0 vid es)[k]? = some c' := hc'
            rw [hc] at hc'
            cases hc'
            obtain ⟨cb, cu, rfl, _, _⟩ := tdc.msg
            have nkc : NK H' (.ref cb) (kGg c) := tdc.nkD (eG_pln c)
            have hmine := (D7.n3.at_ _ _ hl).2.2
            obtain ⟨o8, hget8, ho8⟩ := hmine.get nkc (kGg_depth _)
            refine ⟨_, rfl, _, rfl, ⟨b5, vs, _, _, rfl, rfl, SqL.of hb7, at_int (by omega) (by rw [Int.toNat_natCast]; exact hcv), ?_⟩⟩
            refine ⟨_, rfl, l, cb, o8, rfl, rfl, hget8, ?_⟩
            refine ⟨_, rfl, ?_⟩
            rw [ho8.iss, memO_iss]
            refine iB (fun hin => ?_) (fun hin => ?_)
            · have hin : c ∈ logOf m vid (es.take i) := of_decide_eq_true hin
              refine ⟨fun σ' H'' => ∃ k', k' = k + 1 ∧ H'' = H' ∧ σ' = [some (.ref a), some (.ref d1), some (.ref d2), some (.ref d3), some (.ref d4), some (.ref b), some x, some y, some (.ref zb), some u, some (.int i0), some (.str p0), some (.ref l), some (.ref b5), some (.int (W : Nat)), some (.int ((k' : Nat) : Int))], ?_, ?_⟩
              · rintro σ' H'' ⟨k', rfl, rfl, rfl⟩
                refine ⟨W + 1 - (k + 1), by omega, k + 1, rfl, rfl, rfl, fun c0 hc0 => ?_⟩
                rw [take_snoc hc] at hc0
                rcases List.mem_append.mp hc0 with h | h
                · exact hk _ h
                · rw [List.mem_singleton.mp h]; exact hin
              · walk_at "rds"
                rw [Int.natCast_succ]; rfl
            · have hin : c ∉ logOf m vid (es.take i) := of_decide_eq_false hin
              walk_at "rds"
              refine iB (fun _ => ?_) (fun h => absurd (of_decide_eq_false h) (by omega))
              walk_at "rds"
              refine ⟨by show 3 ≤ sizeLine; omega, fun t9 nt9 => ?_⟩
              refine fin _ _ _ ?_ (D7.s.trans (same_new nt9 _)) (td3 nt9 hx7 hz7)
              rw [fCause_len, if_neg]
              intro z
              refine hin (z c ?_)
              show c ∈ (logOf s0 vid es).take ((lenOf es (s0, vid, i0)).getD 0)
              rw [hWe]
              exact List.mem_iff_getElem?.mpr ⟨k, by rw [List.getElem?_take, if_pos hkw]; exact hc⟩
          · have hkw : W ≤ k := by have := of_decide_eq_false hkw; omega
            walk_at "rds"
            refine iB (fun h => absurd (of_decide_eq_true h) (by omega)) (fun _ => ?_)
            walk_at "rds"
            refine ⟨by show 3 ≤ sizeLine; omega, fun t8 nt8 => ?_⟩
            have s8' := same_new nt8 (.tup [x, u, y])
            have nk8 : NK (upd H' t8 (.tup [x, u, y])) (.ref t8) (kMSV (m, s0, vid)) := nk_tup nt8 (.cons hx7 (.cons hu7 (.cons hy7 .nil))) rfl
            have D8 := D7.same s8'
            have hz8 := hz7.same s8'
            clear D7 hx7 hy7 hz7 hu7 hb7 hvs7 hget7 ho7
            generalize upd H' t8 (.tup [x, u, y]) = H8 at *
            obtain ⟨ks, k1, k2, k3, k4⟩ := D8.n4.ex
            refine ⟨d4, t8, ks, kMSV (m, s0, vid), rfl, rfl, k1, nk8, kMSV_depth _, ?_⟩
            have hFn := exitF hkw
            rw [hFn] at hF
            have N4 := NM.put (S := fun v x => v = V.int (x : Nat)) (a := k) (v := .int (k : Nat)) kMSV_inj k1 k2 k3 k4 nk8 (kMSV_depth _) (show i < 1000000 by omega) rfl fun _ _ h => h
            have k9 : TupK H8 (upd H8 d4 (ndO w d4 (putN ks (kMSV (m, s0, vid)) t8 (.int (k : Nat))))) := tupK_upd fun xs e => by rw [k1.ob] at e; cases e
            have N3 := D8.n3.frame (H' := upd H8 d4 (ndO w d4 (putN ks (kMSV (m, s0, vid)) t8 (.int (k : Nat))))) (upd_ne e34) (fun y b hy => upd_ne fun z => (D8.e3 y).1 (by rw [hy, z])) k9 (Nat.le_refl _)
            have N1 := D8.n1.frame (H' := upd H8 d4 (ndO w d4 (putN ks (kMSV (m, s0, vid)) t8 (.int (k : Nat))))) (upd_ne e14) (fun b vs hb => upd_ne fun z => by rw [z, k1.ob] at hb; cases hb) k9 (Nat.le_refl _)
            have N2 := D8.n2.mono (H' := upd H8 d4 (ndO w d4 (putN ks (kMSV (m, s0, vid)) t8 (.int (k : Nat))))) (upd_ne e24) k9 (fun _ _ h => h) (Nat.le_refl _)
            have hz9 := hz8.mono k9
            have s9 : Same H (upd H8 d4 (ndO w d4 (putN ks (kMSV (m, s0, vid)) t8 (.int (k : Nat))))) := fun c o hc => by rw [upd_ne (ne_of_none hc f4)]; exact D8.s _ _ hc
            have e39 := D8.e3
            have p49 := D8.p4
            clear D8 k1 hz8 nk8 k9
            show sNPut w (tVar 12) (tVar 8) (tC (V.bl true)) _ _ (upd H8 d4 (ndO w d4 (putN ks (kMSV (m, s0, vid)) t8 (.int (k : Nat)))))
            generalize upd H8 d4 (ndO w d4 (putN ks (kMSV (m, s0, vid)) t8 (.int (k : Nat)))) = H9 at *
            obtain ⟨ln, ld, NI⟩ := N3.at_ _ _ hl
            obtain ⟨ks2, j1, j2, j3, j4⟩ := NI.ex
            have nkz : NK H9 (.ref zb) (kGg (s0, i0, p0)) := hz9.nkD (eG_pln _)
            walk_at "rds"
            refine ⟨l, zb, ks2, kGg (s0, i0, p0), rfl, rfl, j1, nkz, kGg_depth _, ?_⟩
            have k10 : TupK H9 (upd H9 l (ndO w l (putN ks2 (kGg (s0, i0, p0)) zb (.bl true)))) := tupK_upd fun xs e => by rw [j1.ob] at e; cases e
            have l1 : d1 ≠ l := fun z => (e39 (m, vid)).2.2 (by rw [hl, z])
            have l2' : d2 ≠ l := fun z => (e39 (m, vid)).2.1 (by rw [hl, z])
            have l4 : d4 ≠ l := fun z => (e39 (m, vid)).1 (by rw [hl, z])
            refine ⟨_, _, _, _, _, _, _, _, _, _, _, adr3, setM gP (m, s0, vid) k, rfl, ⟨fun c o hc => by rw [upd_ne (ne_of_none hc ln)]; exact s9 _ _ hc, N1.frame (upd_ne l1) (fun b vs hb => upd_ne fun z => by rw [z, j1.ob] at hb; cases hb) k10 (Nat.le_refl _), N2.mono (upd_ne l2') k10 (fun _ _ h => h) (Nat.le_refl _), ?_, N4.mono (upd_ne l4) k10 (fun _ _ h => h) (Nat.le_refl _), e39, ?_⟩, hF⟩
            · rw [tk, logL_dl, l2]
              exact N3.put hl j1 j2 j3 j4 nkz (show 2 * i + 1 < 1000000 by omega)
            · intro m' s' v' k' hk' c hc
              have up : ∀ c, c ∈ logOf m' v' (es.take i) → c ∈ logOf m' v' (es.take (i + 1)) := fun c h => by
                rw [tk, logOf_snoc]; exact List.mem_append_left _ h
              unfold setM at hk'
              by_cases h1 : (m', s', v') = (m, s0, vid)
              · rw [if_pos h1] at hk'
                injection h1 with h1 h2
                injection h2 with h2 h3
                cases hk'
                rw [h2, h3] at hc
                refine up c ?_
                rw [h1, h3]
                exact hk c hc
              · rw [if_neg h1] at hk'
                exact up c (p49 _ _ _ _ hk' c hc)
    · rintro σ H1 ⟨x5, x6, x7, x8, x9, x10, x11, x12, x13, x14, x15, adr, gP, rfl, D, hF⟩
      have eN : firstF (fCause es) [] es = none := by
        rw [← hF, lx, List.drop_length]; rfl
      have q1 : TD H1 .non ((firstF (fCause es) [] es).getD .none) → Q .non H1 := q .non H1 D.s
      rw [eN] at q1
      exact q1 .non
end
end Mus

set_option maxRecDepth 100000
set_option maxHeartbeats 4000000
namespace Mus
open PySem L2
local macro_rules | `(tactic| walk_at "rd") => `(tactic| first
  | refine ⟨_, rfl, ?_⟩ | refine ⟨(True.intro : True), ?_⟩
  | refine ⟨_, _, rfl, rfl, (⟨by decide, by decide, by decide⟩ : CPow _ _), ?_⟩
  | refine ⟨_, _, rfl, rfl, (⟨by decide, by decide⟩ : CDiv _ _), ?_⟩
  | refine ⟨_, _, rfl, rfl, (by show (0 : Int) < _; decide), ?_⟩
  | refine ⟨_, _, rfl, rfl, ?_⟩ | refine ⟨rfl, ?_⟩ | refine iteT ?_ | refine iteF ?_ | refine ⟨_, _, rfl, ?_⟩ | refine .inl ⟨_, rfl, ?_⟩
  | refine ⟨_, _, _, _, _, rfl, (by assumption), (by assumption), (by assumption), rfl, ?_⟩ | refine ⟨_, _, _, _, rfl, rfl, SqT.of (by assumption), rfl, ?_⟩ | refine ⟨_, _, rfl, SqT.of (by assumption), rfl, ?_⟩
  | refine ⟨_, _, _, _, _, rfl, .ty _, Rp.ty (by assumption), kit_int _, ?_⟩ | refine ⟨_, _, _, _, _, rfl, .ty _, Rp.ty (by assumption), kit_bool _, ?_⟩
  | refine ⟨_, _, _, _, _, rfl, .ty _, Rp.ty (by assumption), kit_str _, ?_⟩ | refine ⟨_, _, _, _, _, rfl, .ty _, Rp.ty (by assumption), kit_tup _, ?_⟩)
local macro_rules | `(tactic| walk_at "cal") => `(tactic| first
  | refine ⟨_, _, _, _, _, rfl, (by assumption), ?_⟩ | refine ⟨_, _, _, _, _, rfl, (by assumption), (by assumption), ?_⟩)
local macro_rules | `(tactic| walk_at "sq") => `(tactic| first
  | refine ⟨_, _, rfl, Or.inr (SqT.of (by assumption)), ?_⟩ | refine ⟨_, _, _, _, rfl, rfl, SqT.of (by assumption), rfl, ?_⟩)
local macro_rules | `(tactic| walk_at "rds") => `(tactic| repeat first | walk_at "rd" | walk_at "cal" | walk_at "sq")
local macro_rules | `(tactic| walk_at "ze") => `(tactic| repeat first
  | exact zes_nil | exact ze_bl | exact ze_str | exact ze_non | apply zes_cons | apply ze_tup | apply ze_lst | apply ze_cat | exact di_c | exact di_v rfl | apply di_opC | apply di_op | apply di_neg | apply ze_i | (refine (⟨?_, ?_, ?_⟩ : CPow _ _) <;> decide) | exact Nat.le_of_ble_eq_true rfl | exact ze_varD rfl (by assumption))
local macro_rules | `(tactic| walk_at "rdz") => `(tactic| repeat (fail_if_success (first | show tLst _ _ _ _ | show tAsg (tLst _) _ _ _ _ | show tSeq (tAsg (tLst _) _) _ _ _ _)); first | walk_at "rd" | walk_at "cal" | walk_at "sq")
theorem firstF_append {α : Type} (f : List Ev → Ev → Option α) : ∀ (es pre : List Ev) (e : Ev), firstF f pre (es ++ [e]) = (firstF f pre es).or (f (pre ++ es) e)
  | [], pre, e => by
    rw [List.append_nil]
    show (match f pre e with | some x => some x | none => none) = Option.or none (f pre e)
    cases f pre e <;> rfl
  | a :: es, pre, e => by
    show (match f pre a with | some x => some x | none => firstF f (pre ++ [a]) (es ++ [e])) = Option.or (match f pre a with | some x => some x | none => firstF f (pre ++ [a]) es) _
    cases h : f pre a with
    | some x => rfl
    | none =>
      dsimp only
      rw [firstF_append f es (pre ++ [a]) e, List.append_assoc]; rfl
/-- who took a step first, and what it delivered -/
def fstO (pre : List Ev) (x : VV) : Option (Mem × List Msg) := firstF (tgS x.2 x.1) [] pre
theorem fstO_other {pre : List Ev} {e : Ev} (h : ∀ v old, tgS v old pre e = none) : fstO (pre ++ [e]) = fstO pre := by
  funext x
  unfold fstO
  rw [firstF_append, List.nil_append, h]
  cases firstF (tgS x.2 x.1) [] pre <;> rfl
theorem fstO_vw {pre : List Ev} {t : Int} {m : Mem} {v old : Vid} {ms : List Mem} (h : vwOf m pre = some old) : fstO (pre ++ [.vw t m v ms]) = match fstO pre (old, v) with
    | some _ => fstO pre
    | none => setM (fstO pre) (old, v) (m, logOf m old pre) := by
  have e : ∀ x : VV, tgS x.2 x.1 pre (.vw t m v ms) = if x = (old, v) then some (m, logOf m old pre) else none := fun x => by
    show (if v = x.2 ∧ vwOf m pre = some x.1 then some (m, logOf m x.1 pre) else none) = _
    rw [h]
    by_cases hx : x = (old, v)
    · rw [if_pos hx, hx, if_pos ⟨rfl, rfl⟩]
    · rw [if_neg hx, if_neg fun z => hx (by rw [z.1, Option.some.inj z.2])]
  have e2 : ∀ x : VV, fstO (pre ++ [.vw t m v ms]) x = (fstO pre x).or (if x = (old, v) then some (m, logOf m old pre) else none) := fun x => by
    rw [← e x]
    exact firstF_append _ _ _ _
  cases hn : fstO pre (old, v) with
  | some y =>
    funext x
    dsimp only
    rw [e2]
    by_cases hx : x = (old, v)
    · rw [hx, hn]; rfl
    · rw [if_neg hx]; cases fstO pre x <;> rfl
  | none =>
    funext x
    dsimp only
    rw [e2]
    unfold setM
    by_cases hx : x = (old, v)
    · rw [hx, hn, if_pos rfl]; rfl
    · rw [if_neg hx, if_neg hx]; cases fstO pre x <;> rfl
theorem fTog_at {pre : List Ev} {t : Int} {m : Mem} {v old : Vid} {ms : List Mem} (h : vwOf m pre = some old) : fTog pre (.vw t m v ms) = if ((fstO pre (old, v)).getD (m, logOf m old pre)).2 ≠ logOf m old pre then some (.tuple [.str "apart", eM ((fstO pre (old, v)).getD (m, logOf m old pre)).1, eM m, eV v]) else none := by
  rw [fTog_vw, h]
  show (match fstO pre (old, v) with | none => none | some (m1, l1) => if l1 ≠ logOf m old pre then some (PyData.tuple [.str "apart", eM m1, eM m, eV v]) else none) = _
  cases fstO pre (old, v) with
  | none => rw [if_neg]; exact fun z => z rfl
  | some y => rfl
/-! ### a dict of lists of messages, none of them among F -/
structure LgF (w : World) (H0 H : Hp) (d n : Nat) (L : MV → List Msg) (F : Addr → Prop) : Prop where
  ex : ∃ adr : MV → Option Addr, NM w H d n kMV (fun v (l : Addr) => v = .ref l) adr ∧ (∀ x l, adr x = some l → (H0 l = none ∧ ¬ F l) ∧ ∃ vs, H l = some (.lst vs) ∧ TDs H vs ((L x).map eG)) ∧ (∀ x, adr x = none → L x = []) ∧ ∀ x y l, adr x = some l → adr y = some l → x = y
theorem LgF.frame {w : World} {H0 H H' : Hp} {d n m : Nat} {L : MV → List Msg} {F : Addr → Prop} (h : LgF w H0 H d n L F) (e1 : H' d = H d) (e2 : ∀ b vs, H b = some (.lst vs) → H' b = H b) (t : TupK H H') (l : n ≤ m) : LgF w H0 H' d m L F := by
  obtain ⟨adr, a1, a2, a3, a4⟩ := h.ex
  refine ⟨adr, a1.mono e1 t (fun _ _ h => h) l, fun x l hx => ?_, a3, a4⟩
  obtain ⟨f, vs, h1, h2⟩ := a2 x l hx
  exact ⟨f, vs, (e2 _ _ h1).trans h1, h2.mono t⟩
theorem LgF.same {w : World} {H0 H H' : Hp} {d n m : Nat} {L : MV → List Msg} {F : Addr → Prop} (h : LgF w H0 H d n L F) (s : Same H H') (l : n ≤ m) : LgF w H0 H' d m L F := by
  obtain ⟨adr, a1, _⟩ := h.ex
  obtain ⟨ks, ek⟩ := a1.ndo
  exact h.frame ((s _ _ ek).trans ek.symm) (fun b vs hb => (s _ _ hb).trans hb.symm) (TupK.of s) l
theorem lgf_new {w : World} {H0 H : Hp} {d : Addr} {F : Addr → Prop} (h : (d == sysModules) = false) : LgF w H0 (upd H d (ndO w d [])) d 0 (fun _ => []) F :=
  ⟨fun _ => none, nm_new h, fun x l z => (by cases z), fun _ _ => rfl, fun x y l z => by cases z⟩
/-- d.setdefault(x, []).append(g): the key at t, the new list at l5 -/
theorem LgF.setd {w : World} {K : PySem.W.Frag} {H0 Hp' H : Hp} {d n t l5 : Addr} {L : MV → List Msg} {F : Addr → Prop} {x : MV} {v : V} {g : Msg} {R : Hp → Prop} (h : LgF w H0 Hp' d n L F) (hss : Same Hp' H) (n5 : Hp' l5 = none) (hk : NK H (.ref t) (kMV x)) (h5 : H l5 = some (.lst [])) (f5 : H0 l5 = none)
    (fl5 : ¬ F l5) (fd : H0 d = none) (hv : TD H v (eG g)) (hn : n < 1000000) (hl : ∀ x, (L x).length ≤ 1000)
    (q : ∀ H', LgF w H0 H' d (n + 1) (addL L x g) F → (∀ b o, H b = some o → b ≠ d → (∀ vs, o ≠ .lst vs) → H' b = some o) → (∀ b o, H0 b = some o ∨ (F b ∧ b ≠ d) → H b = some o → H' b = some o) → TupK H H' → R H') :
    ∃ ks k, Nd w H d ks ∧ NK H (.ref t) k ∧ k.depth ≤ 8 ∧ (∀ u, valN ks k = some u → tyV K "list" u H ∧ ∃ (l : Addr) (xs : List V), u = .ref l ∧ H l = some (.lst xs) ∧ xs.length < sizeLine ∧ R (upd H l (.lst (xs ++ [v])))) ∧
      (valN ks k = none → ∃ H1, H1 = upd H d (ndO w d (putN ks k t (.ref l5))) ∧ tyV K "list" (.ref l5) H1 ∧ H1 l5 = some (.lst []) ∧ R (upd H1 l5 (.lst ([] ++ [v])))) := by
  have hs := sl
  obtain ⟨adr, a1, a2, a3, a4⟩ := h.ex
  have hn5 : ∀ y, adr y ≠ some l5 := fun y z => by
    obtain ⟨_, _, e, _⟩ := a2 y l5 z
    rw [n5] at e; cases e
  have a1 : NM w H d n kMV (fun v (l : Addr) => v = .ref l) adr := a1.frame hss (fun _ _ h => h) (Nat.le_refl _)
  have a2 : ∀ x l, adr x = some l → (H0 l = none ∧ ¬ F l) ∧ ∃ vs, H l = some (.lst vs) ∧ TDs H vs ((L x).map eG) := fun x l hx => by
    obtain ⟨f, vs, e1, e2⟩ := a2 x l hx
    exact ⟨f, vs, hss _ _ e1, e2.mono (TupK.of hss)⟩
  obtain ⟨ks, k1, k2, k3, k4⟩ := a1.ex
  refine ⟨ks, kMV x, k1, hk, kMV_depth _, fun u hu => ?_, fun hnone => ?_⟩
  · have ho := k3 x
    rw [hu] at ho
    cases hx : adr x with
    | none => rw [hx] at ho; exact ho.elim
    | some l =>
      rw [hx] at ho
      obtain rfl : u = .ref l := ho
      obtain ⟨f, vs, e1, e2⟩ := a2 x l hx
      have ll := e2.length
      rw [List.length_map] at ll
      have := hl x
      have ld : l ≠ d := fun z => by rw [z, k1.ob] at e1; cases e1
      have tk : TupK H (upd H l (.lst (vs ++ [v]))) := tupK_upd fun xs e => by rw [e1] at e; cases e
      refine ⟨.inl ⟨rfl, _, SqL.of e1⟩, l, vs, rfl, e1, by omega, q _ ⟨adr, a1.mono (upd_ne (Ne.symm ld)) tk (fun _ _ h => h) (Nat.le_succ n), fun y l' hy => ?_, fun y hy => ?_, a4⟩ (fun b o hb hd ho => ?_) (fun b o h0 hb => ?_) tk⟩
      · obtain ⟨f', vs', e1', e2'⟩ := a2 y l' hy
        refine ⟨f', ?_⟩
        unfold addL
        by_cases e : y = x
        · subst e
          rw [hx] at hy
          cases hy
          rw [if_pos rfl]
          exact ⟨_, upd_same, by rw [List.map_append]; exact (e2.mono tk).append (.cons (hv.mono tk) .nil)⟩
        · rw [if_neg e]
          exact ⟨vs', by rw [upd_ne (show l' ≠ l from fun z => e (a4 _ _ _ hy (by rw [z]; exact hx)))]; exact e1', e2'.mono tk⟩
      · unfold addL
        rw [if_neg (fun z => by rw [z, hx] at hy; cases hy)]
        exact a3 y hy
      · rw [upd_ne (fun z => by rw [z, e1] at hb; exact ho _ (Option.some.inj hb).symm)]; exact hb
      · rw [upd_ne (fun z => by rw [z] at h0; exact h0.elim (fun e => by rw [f.1] at e; cases e) (fun e => f.2 e.1))]; exact hb
  · have ho := k3 x
    rw [hnone] at ho
    have hx : adr x = none := by
      cases hx : adr x with
      | none => rfl
      | some l => rw [hx] at ho; exact ho.elim
    have d5 : l5 ≠ d := fun z => by rw [z, k1.ob] at h5; cases h5
    have tk : TupK H (upd H d (ndO w d (putN ks (kMV x) t (.ref l5)))) := tupK_upd fun xs e => by rw [k1.ob] at e; cases e
    have h51 : (upd H d (ndO w d (putN ks (kMV x) t (.ref l5)))) l5 = some (.lst []) := by rw [upd_ne d5]; exact h5
    have tk2 : TupK (upd H d (ndO w d (putN ks (kMV x) t (.ref l5)))) (upd (upd H d (ndO w d (putN ks (kMV x) t (.ref l5)))) l5 (.lst ([] ++ [v]))) := tupK_upd fun xs e => by rw [h51] at e; cases e
    have tk3 := tk.trans tk2
    have N1 : NM w (upd H d (ndO w d (putN ks (kMV x) t (.ref l5)))) d (n + 1) kMV (fun v (l : Addr) => v = .ref l) (setM adr x l5) := NM.put kMV_inj k1 k2 k3 k4 hk (kMV_depth _) hn rfl fun _ _ h => h
    refine ⟨_, rfl, .inl ⟨rfl, _, SqL.of h51⟩, h51, q _ ⟨setM adr x l5, N1.mono (upd_ne (Ne.symm d5)) tk2 (fun _ _ h => h) (Nat.le_refl _), fun y l' hy => ?_, fun y hy => ?_, fun y y' l' hy hy' => ?_⟩ (fun b o hb hd ho => ?_) (fun b o h0 hb => ?_) tk3⟩
    · unfold setM at hy
      unfold addL
      split at hy
      · rename_i e
        cases hy
        subst e
        refine ⟨⟨f5, fl5⟩, ?_⟩
        rw [if_pos rfl, a3 _ hx]
        exact ⟨_, upd_same, .cons (hv.mono tk3) .nil⟩
      · rename_i e
        obtain ⟨f', vs', e1', e2'⟩ := a2 y l' hy
        rw [if_neg e]
        have n5 : l' ≠ l5 := fun z => hn5 y (by rw [hy, z])
        exact ⟨f', vs', by rw [upd_ne n5, upd_ne (fun z => by rw [z, k1.ob] at e1'; cases e1')]; exact e1', e2'.mono tk3⟩
    · unfold setM at hy
      unfold addL
      split at hy
      · cases hy
      · rename_i e
        rw [if_neg e]
        exact a3 y hy
    · unfold setM at hy hy'
      split at hy
      · rename_i e
        split at hy'
        · rename_i e'
          rw [e, e']
        · cases hy
          exact absurd hy' (hn5 y')
      · split at hy'
        · cases hy'
          exact absurd hy (hn5 y)
        · exact a4 _ _ _ hy hy'
    · rw [upd_ne (fun z => by rw [z, h5] at hb; exact ho _ (Option.some.inj hb).symm), upd_ne hd]; exact hb
    · rw [upd_ne (fun z => by rw [z] at h0; exact h0.elim (fun e => by rw [f5] at e; cases e) (fun e => fl5 e.1)), upd_ne (fun z => by rw [z] at h0; exact h0.elim (fun e => by rw [fd] at e; cases e) (fun e => e.2 rfl))]; exact hb
/-- what logs.get((member, view_id), []) gives -/
theorem LgF.get {w : World} {H0 H : Hp} {d n t l : Addr} {L : MV → List Msg} {F : Addr → Prop} {x : MV} (h : LgF w H0 H d n L F) (hk : NK H (.ref t) (kMV x)) (h5 : H l = some (.lst [])) : ∃ o b vs, NGet w H d t o ∧ o.getD (.ref l) = .ref b ∧ H b = some (.lst vs) ∧ TDs H vs ((L x).map eG) := by
  obtain ⟨adr, a1, a2, a3, a4⟩ := h.ex
  obtain ⟨o, h1, h2⟩ := a1.get hk (kMV_depth _)
  cases hx : adr x with
  | none =>
    rw [hx] at h2
    cases o with
    | none => exact ⟨none, l, [], h1, rfl, h5, by rw [a3 x hx]; exact .nil⟩
    | some v => exact h2.elim
  | some b =>
    rw [hx] at h2
    cases o with
    | none => exact h2.elim
    | some v =>
      obtain rfl : v = .ref b := h2
      obtain ⟨_, vs, e1, e2⟩ := a2 x b hx
      exact ⟨_, b, vs, h1, rfl, e1, e2⟩
theorem LgF.freeze {w : World} {H0 H H' : Hp} {d n lb : Addr} {L : MV → List Msg} {F : Addr → Prop} (h : LgF w H0 H d n L F) (s : Same H H') (nl : H lb = none) : LgF w H0 H' d n L (fun b => F b ∨ b = lb) := by
  obtain ⟨adr, a1, a2, a3, a4⟩ := h.ex
  refine ⟨adr, a1.frame s (fun _ _ h => h) (Nat.le_refl _), fun x l hx => ?_, a3, a4⟩
  obtain ⟨f, vs, h1, h2⟩ := a2 x l hx
  exact ⟨⟨f.1, fun z => z.elim f.2 fun z => by rw [z, nl] at h1; cases h1⟩, vs, s _ _ h1, h2.mono (TupK.of s)⟩
/-- a first taker and its list -/
def RF (H : Hp) (F : Addr → Prop) (v : V) (x : Mem × List Msg) : Prop := ∃ (tb lb : Addr) (mv : V) (vs : List V), v = .ref tb ∧ H tb = some (.tup [mv, .ref lb]) ∧ TD H mv (eM x.1) ∧ F lb ∧ H lb = some (.lst vs) ∧ TDs H vs (x.2.map eG)
theorem RF.mono {H H' : Hp} {F F' : Addr → Prop} {v : V} {x : Mem × List Msg} (h : RF H F v x) (t : TupK H H') (f : ∀ b vs, F b → H b = some (.lst vs) → H' b = some (.lst vs)) (g : ∀ b, F b → F' b) : RF H' F' v x := by
  obtain ⟨tb, lb, mv, vs, e, h1, h2, h3, h4, h5⟩ := h
  exact ⟨tb, lb, mv, vs, e, t _ _ h1, h2.mono t, g _ h3, f _ _ h3 h4, h5.mono t⟩
end Mus

set_option maxRecDepth 100000
set_option maxHeartbeats 4000000
namespace Mus
open PySem L2
local macro_rules | `(tactic| walk_at "rd") => `(tactic| first
  | refine ⟨_, rfl, ?_⟩ | refine ⟨(True.intro : True), ?_⟩
  | refine ⟨_, _, rfl, rfl, (⟨by decide, by decide, by decide⟩ : CPow _ _), ?_⟩
  | refine ⟨_, _, rfl, rfl, (⟨by decide, by decide⟩ : CDiv _ _), ?_⟩
  | refine ⟨_, _, rfl, rfl, (by show (0 : Int) < _; decide), ?_⟩
  | refine ⟨_, _, rfl, rfl, ?_⟩ | refine ⟨rfl, ?_⟩ | refine iteT ?_ | refine iteF ?_ | refine ⟨_, _, rfl, ?_⟩ | refine .inl ⟨_, rfl, ?_⟩
  | refine ⟨_, _, _, _, _, rfl, (by assumption), (by assumption), (by assumption), rfl, ?_⟩ | refine ⟨_, _, _, _, rfl, rfl, SqT.of (by assumption), rfl, ?_⟩ | refine ⟨_, _, rfl, SqT.of (by assumption), rfl, ?_⟩
  | refine ⟨_, _, _, _, _, rfl, .ty _, Rp.ty (by assumption), kit_int _, ?_⟩ | refine ⟨_, _, _, _, _, rfl, .ty _, Rp.ty (by assumption), kit_bool _, ?_⟩
  | refine ⟨_, _, _, _, _, rfl, .ty _, Rp.ty (by assumption), kit_str _, ?_⟩ | refine ⟨_, _, _, _, _, rfl, .ty _, Rp.ty (by assumption), kit_tup _, ?_⟩)
local macro_rules | `(tactic| walk_at "cal") => `(tactic| first
  | refine ⟨_, _, _, _, _, rfl, (by assumption), ?_⟩ | refine ⟨_, _, _, _, _, rfl, (by assumption), (by assumption), ?_⟩)
local macro_rules | `(tactic| walk_at "sq") => `(tactic| first
  | refine ⟨_, _, rfl, Or.inr (SqT.of (by assumption)), ?_⟩ | refine ⟨_, _, _, _, rfl, rfl, SqT.of (by assumption), rfl, ?_⟩)
local macro_rules | `(tactic| walk_at "rds") => `(tactic| repeat first | walk_at "rd" | walk_at "cal" | walk_at "sq")
local macro_rules | `(tactic| walk_at "ze") => `(tactic| repeat first
  | exact zes_nil | exact ze_bl | exact ze_str | exact ze_non | apply zes_cons | apply ze_tup | apply ze_lst | apply ze_cat | exact di_c | exact di_v rfl | apply di_opC | apply di_op | apply di_neg | apply ze_i | (refine (⟨?_, ?_, ?_⟩ : CPow _ _) <;> decide) | exact Nat.le_of_ble_eq_true rfl | exact ze_varD rfl (by assumption))
local macro_rules | `(tactic| walk_at "rdz") => `(tactic| repeat (fail_if_success (first | show tLst _ _ _ _ | show tAsg (tLst _) _ _ _ _ | show tSeq (tAsg (tLst _) _) _ _ _ _)); first | walk_at "rd" | walk_at "cal" | walk_at "sq")
section
variable {P : Program} {w : World} {K : PySem.W.Frag} {mg : Str → Option Value} {base : Heap}
theorem eGs_sh (l : List Msg) (h : ∀ g ∈ l, PyData.strOk g.2.2 = true) : SeqAt.shaped (.list (l.map eG)) = true := by
  have k : ∀ l : List Msg, (∀ g ∈ l, PyData.strOk g.2.2 = true) → PyData.canLayAll0 (l.map eG) = true ∧ PyData.depthAll (l.map eG) ≤ 2 := by
    intro l
    induction l with
    | nil => exact fun _ => ⟨rfl, Nat.zero_le _⟩
    | cons g l ih =>
      intro h
      have i := ih fun g hg => h g (List.mem_cons_of_mem _ hg)
      have j := h g List.mem_cons_self
      have d := (eM_lay g.1).2.1
      rw [List.map_cons]
      refine ⟨?_, ?_⟩
      · show (PyData.canLay0 (eG g) && _) = true
        rw [i.1, Bool.and_true]
        unfold eG
        show ((eM g.1).canLay0 && (true && (PyData.strOk g.2.2 && true))) = true
        rw [(eM_lay g.1).1, j]; rfl
      · have d2 : (eG g).depth ≤ 2 := by
          unfold eG
          simp only [PyData.depth, PyData.depthAll, d]
          omega
        simp only [PyData.depthAll]
        omega
  have h := k l h
  refine shaped_of (by simp [PyData.canLay0, h.1]) ?_
  have := h.2
  simp [PyData.depth]
  omega
theorem logOf_ok {pre : List Ev} (h : ∀ e ∈ pre, EvOk e) (m : Mem) (v : Vid) : ∀ g ∈ logOf m v pre, PyData.strOk g.2.2 = true := by
  intro g hg
  obtain ⟨e, he, hd⟩ := List.mem_filterMap.mp hg
  have := h e he
  cases e with
  | dl t m' v' g' =>
    unfold dlS at hd
    dsimp only at hd
    split at hd
    · cases hd; exact this
    · cases hd
  | _ => cases hd
theorem firstF_some {α : Type} {f : List Ev → Ev → Option α} {y : α} : ∀ {es pre : List Ev}, firstF f pre es = some y → ∃ pre' e rest, pre ++ es = pre' ++ e :: rest ∧ f pre' e = some y
  | [], pre, h => by cases h
  | e :: es, pre, h => by
    have h : (match f pre e with | some x => some x | none => firstF f (pre ++ [e]) es) = some y := h
    cases he : f pre e with
    | some x =>
      rw [he] at h
      exact ⟨pre, e, es, rfl, he.trans h⟩
    | none =>
      rw [he] at h
      obtain ⟨p, e', r, e1, e2⟩ := firstF_some h
      exact ⟨p, e', r, by rw [← e1, List.append_assoc]; rfl, e2⟩
theorem fstO_ok {pre : List Ev} (h : ∀ e ∈ pre, EvOk e) {x : VV} {y : Mem × List Msg} (hy : fstO pre x = some y) : ∀ g ∈ y.2, PyData.strOk g.2.2 = true := by
  obtain ⟨p, e, r, e1, e2⟩ := firstF_some hy
  rw [List.nil_append] at e1
  cases e with
  | vw t m v ms =>
    have e2 : (if v = x.2 ∧ vwOf m p = some x.1 then some (m, logOf m x.1 p) else none) = some y := e2
    split at e2
    · cases e2
      exact logOf_ok (fun e he => h e (by rw [e1]; exact List.mem_append_left _ he)) _ _
    · cases e2
  | _ => cases e2
theorem fstO_none {pre : List Ev} {t : Int} {m : Mem} {v : Vid} {ms : List Mem} (h : vwOf m pre = none) : fstO (pre ++ [.vw t m v ms]) = fstO pre := by
  funext x
  unfold fstO
  rw [firstF_append, List.nil_append]
  have e : tgS x.2 x.1 pre (.vw t m v ms) = none := by
    show (if v = x.2 ∧ vwOf m pre = some x.1 then some (m, logOf m x.1 pre) else none) = none
    rw [h, if_neg (fun z => by cases z.2)]
  rw [e]
  cases firstF (tgS x.2 x.1) [] pre <;> rfl
theorem eGs_eqv (a b : List Msg) : PyData.eqv (.list (a.map eG)) (.list (b.map eG)) = decide (a = b) := by
  rw [Bool.eq_iff_iff, decide_eq_true_eq]
  show PyData.eqvAll _ _ = true ↔ _
  rw [plns_eqv (plns_map eG_pln a) (plns_map eG_pln b)]
  exact ⟨map_inj fun _ _ => eG_inj, fun h => by rw [h]⟩
/-- the state of together_fault -/
structure Tg (w : World) (H0 H : Hp) (d1 d2 d3 : Addr) (pre pre' : List Ev) (n n' : Nat) (F : Addr → Prop) : Prop where
  s : Same H0 H
  n1 : NM w H d1 n kMm (fun v x => TD H v (eV x)) fun m => vwOf m pre
  n2 : LgF w H0 H d2 n (logL pre) F
  n3 : NM w H d3 n' kVV (RF H F) (fstO pre')
  fF : ∀ b, F b → ∃ vs, H b = some (.lst vs)
theorem Tg.same {H0 H H' : Hp} {d1 d2 d3 : Addr} {pre pre' : List Ev} {n n' : Nat} {F : Addr → Prop} (D : Tg w H0 H d1 d2 d3 pre pre' n n' F) (s : Same H H') : Tg w H0 H' d1 d2 d3 pre pre' n n' F :=
  ⟨D.s.trans s, D.n1.frame s (fun v x h => h.same s) (Nat.le_refl _), D.n2.same s (Nat.le_refl _), D.n3.frame s (fun _ _ h => h.mono (TupK.of s) (fun b vs _ h => s _ _ h) fun _ h => h) (Nat.le_refl _), fun b h => ⟨_, s _ _ (D.fF b h).choose_spec⟩⟩
abbrev s_together_fault : Stmt := top 5
abbrev N_together_fault : List Str := ["events", "views", "logs", "firsts", "event", "member", "view_id", "message", "left", "log", "first", "first_log"]
abbrev P_together_fault : List Str := ["events"]
theorem sc_together_fault : FnScope N_together_fault P_together_fault (defScope s_together_fault) := ⟨rfl, rfl, rfl, by decide +kernel, rfl, by decide +kernel, by decide +kernel⟩
theorem ok_together_fault {f : Addr} {fd : FuncData} (T : Tx mg) (F : Fun K "together_fault" "together_fault" s_together_fault f fd) : FnOk P w K mg base CX0 (1) f fd P_together_fault (sp_fault fun es => firstF fTog [] es) := by
  have nd := sc_together_fault.nd
  refine F.ok sc_together_fault (fun vs H Q E h => ?_) (fun cdv A outer s H vs Q E hr h => ?_)
  · obtain ⟨_, _, _, rfl, _⟩ := h
    rfl
  · obtain ⟨a, us, es, rfl, ha, hr0, hok, hlen, q⟩ := h
    have hs := sl
    refine ⟨_, (pss_cons (ps_set (i := 1) nd rfl (Or.inl rfl) pe_nnew)
      (pss_cons (ps_set (i := 2) nd rfl (Or.inl rfl) pe_nnew)
      (pss_cons (ps_set (i := 3) nd rfl (Or.inl rfl) pe_nnew)
      (pss_cons (ps_for PassesOwn.never rfl (pi_list (pv 0)) (pg_name (i := 4) nd rfl (Or.inl rfl))
        (pss_one (ps_if (pt_cmpR op_eq (pe_ix ix_tup (pv 4) pe_int (fun _ _ => rfl)) pe_str (nomark _))
          (pss_cons (ps_asg (pe_slice sl_tupA (pv 4) (po_some pe_int) po_none) (pg_tup (by rfl) (pgs_cons (pg_name (i := 5) nd rfl (Or.inl rfl)) (pgs_cons (pg_name (i := 6) nd rfl (Or.inl rfl)) (pgs_cons (pg_name (i := 7) nd rfl (Or.inl rfl)) pgs_nil)))))
          (pss_one (ps_expr (pe_bm PySem.F.plainAttrs_list PySem.F.slot_list_append PySem.F.type_list_append mt_append (pe_nsetd hr.units (pv 2) (pe_tup (pa_cons (pv 5) (pa_cons (pv 6) pa_nil))) (pe_lst pa_nil) ⟨rfl, rfl, rfl, rfl⟩) (pa_cons (pv 7) pa_nil)))))
          (pss_one (ps_if (pt_cmpR op_eq (pe_ix ix_tup (pv 4) pe_int (fun _ _ => rfl)) pe_str (nomark _))
            (pss_cons (ps_asg (pe_slice sl_tupA (pv 4) (po_some pe_int) (po_some pe_int)) (pg_tup (by rfl) (pgs_cons (pg_name (i := 5) nd rfl (Or.inl rfl)) (pgs_cons (pg_name (i := 6) nd rfl (Or.inl rfl)) pgs_nil))))
            (C8.pss_cut (ps_if (pt_cmp (pc_nin hr.units (pv 5) (pv 1)))
              (pss_cons (ps_set (i := 8) nd rfl (Or.inl rfl) (pe_nget hr.units (pv 1) (pv 5) (fun _ _ => rfl)))
              (pss_cons (ps_set (i := 9) nd rfl (Or.inl rfl) (pe_callTy call_list_of (by rfl) T.b_list (by decide +kernel) (pa_cons (pe_nget2 hr.units (pv 2) (pe_tup (pa_cons (pv 5) (pa_cons (pv 8) pa_nil))) (pe_lst pa_nil) ⟨rfl, rfl, rfl, rfl⟩) pa_nil)))
              (C8.pss_cut (ps_asg (pe_nsetd hr.units (pv 3) (pe_tup (pa_cons (pv 8) (pa_cons (pv 6) pa_nil))) (pe_tup (pa_cons (pv 5) (pa_cons (pv 9) pa_nil))) ⟨rfl, rfl, rfl, rfl⟩) (pg_tup (by rfl) (pgs_cons (pg_name (i := 10) nd rfl (Or.inl rfl)) (pgs_cons (pg_name (i := 11) nd rfl (Or.inl rfl)) pgs_nil))))
              (pss_one (ps_if (pt_cmpR (op_neD hr.units) (pv 9) (pv 11) (nomark _))
                (pss_one (ps_ret (pe_tup (pa_cons pe_str (pa_cons (pv 10) (pa_cons (pv 5) (pa_cons (pv 6) pa_nil)))))))
                pss_nil)))))
              pss_nil)
            (pss_one (ps_nput hr.units (pv 1) (pv 5) (pv 6) rfl))))
            pss_nil)))))
      (pss_one (ps_ret pe_non)))))), ?_⟩
    refine fun d1 nd1 sd1 => ?_
    refine fun d2 nd2 sd2 => ?_
    refine fun d3 nd3 sd3 => ?_
    have nd2 : (upd H d1 (ndO w d1 [])) d2 = none := nd2
    have nd3 : (upd (upd H d1 (ndO w d1 [])) d2 (ndO w d2 [])) d3 = none := nd3
    have s1 := same_new nd1 (ndO w d1 [])
    have s2 := same_new nd2 (ndO w d2 [])
    have s3 := same_new nd3 (ndO w d3 [])
    have e12 : d1 ≠ d2 := ne_of_none upd_same nd2
    have e23 : d2 ≠ d3 := ne_of_none upd_same nd3
    have e13 : d1 ≠ d3 := ne_of_none (s2 _ _ upd_same) nd3
    have f2 : H d2 = none := by rwa [upd_ne e12.symm] at nd2
    have f3 : H d3 = none := by rwa [upd_ne e23.symm, upd_ne e13.symm] at nd3
    have f1 : H d1 = none := nd1
    have lx := hr0.length
    rw [List.length_map] at lx
    have D0 : Tg w H (upd (upd (upd H d1 (ndO w d1 [])) d2 (ndO w d2 [])) d3 (ndO w d3 [])) d1 d2 d3 [] [] 0 0 fun _ => False :=
      ⟨s1.trans (s2.trans s3), NM.frame (nm_new (R := fun v x => TD _ v (eV x)) sd1) (s2.trans s3) (fun v x h => h.same (s2.trans s3)) (Nat.le_refl _), LgF.same (lgf_new sd2) s3 (Nat.le_refl _), nm_new sd3, fun _ z => z.elim⟩
    refine ⟨_, rfl, a, rfl, ⟨_, SqL.of ((s1.trans (s2.trans s3)) _ _ ha)⟩, for_list (K := K) (a := a) (xs := us) (fun i σ H' => ∃ (x4 x5 x6 x7 x8 x9 x10 x11 : Option V) (F : Addr → Prop), σ = [some (.ref a), some (.ref d1), some (.ref d2), some (.ref d3), x4, x5, x6, x7, x8, x9, x10, x11] ∧ Tg w H H' d1 d2 d3 (es.take i) (es.take i) i i F ∧ firstF fTog (es.take i) (es.drop i) = firstF fTog [] es) ?_ ?_ ?_ ?_⟩
    · exact ⟨_, _, _, _, _, _, _, _, _, rfl, D0, rfl⟩
    · rintro i σ H' _ ⟨_, _, _, _, _, _, _, _, _, rfl, D, _⟩
      exact SqL.of (D.s _ _ ha)
    · clear D0
      rintro i v σ H1 hx ⟨x4, x5, x6, x7, x8, x9, x10, x11, F, rfl, D, hF⟩
      obtain ⟨e, he, td0⟩ := hr0.map_at hx
      have td := td0.same D.s
      have hi : i < es.length := (List.getElem?_eq_some_iff.mp he).1
      rw [firstF_at he] at hF
      have tk := take_snoc he
      cases e with
      | cr t n =>
        obtain ⟨b, rfl, hb⟩ := td.ecr
        walk_at "rds"
        refine ⟨_, _, _, _, _, _, _, _, F, rfl, ⟨D.s, ?_, ?_, ?_, D.fF⟩, hF⟩
        · rw [tk]
          have ev : (fun m' => vwOf m' (es.take i ++ [Ev.cr t n])) = fun m' => vwOf m' (es.take i) := by funext m'; rw [vwOf_snoc]; rfl
          rw [ev]
          exact D.n1.mono rfl (TupK.refl _) (fun _ _ h => h) (Nat.le_succ i)
        · rw [tk, logL_other fun _ _ => rfl]
          exact D.n2.same (Same.refl _) (Nat.le_succ i)
        · rw [tk, fstO_other fun _ _ => rfl]
          exact D.n3.mono rfl (TupK.refl _) (fun _ _ h => h) (Nat.le_succ i)
      | ct t m vid j p =>
        obtain ⟨b, x, y, rfl, hb, hx1, hy1⟩ := td.ect
        walk_at "rds"
        refine ⟨_, _, _, _, _, _, _, _, F, rfl, ⟨D.s, ?_, ?_, ?_, D.fF⟩, hF⟩
        · rw [tk]
          have ev : (fun m' => vwOf m' (es.take i ++ [Ev.ct t m vid j p])) = fun m' => vwOf m' (es.take i) := by funext m'; rw [vwOf_snoc]; rfl
          rw [ev]
          exact D.n1.mono rfl (TupK.refl _) (fun _ _ h => h) (Nat.le_succ i)
        · rw [tk, logL_other fun _ _ => rfl]
          exact D.n2.same (Same.refl _) (Nat.le_succ i)
        · rw [tk, fstO_other fun _ _ => rfl]
          exact D.n3.mono rfl (TupK.refl _) (fun _ _ h => h) (Nat.le_succ i)
      | dl t m vid g =>
        obtain ⟨b, x, y, z, rfl, hb, hx1, hy1, hz1⟩ := td.edl
        walk_at "rds"
        refine ⟨b, _, rfl, SqT.of hb, fun z => absurd z.1 (by show ¬ HT.sIx 5 0 (some 2) = 0; decide), fun _ t' nt => ?_⟩
        have ec : cutV [V.str "deliver", .int t, x, y, z] (some 2) none = [x, y, z] := rfl
        rw [ec]
        have st := same_new nt (.tup [x, y, z])
        have htt : (upd H1 t' (.tup [x, y, z])) t' = some (.tup [x, y, z]) := upd_same
        have D2 := D.same st
        have hx2 := hx1.same st
        have hy2 := hy1.same st
        have hz2 := hz1.same st
        clear hx1 hy1 hz1 D td
        generalize upd H1 t' (.tup [x, y, z]) = H2 at *
        refine ⟨t', _, rfl, SqT.of htt, rfl, x, _, rfl, y, _, rfl, z, _, rfl, rfl, ?_⟩
        obtain ⟨adr, a1, _⟩ := D2.n2.ex
        obtain ⟨ks, k1, _⟩ := a1.ex
        refine ⟨_, rfl, d2, ks, rfl, k1, ?_⟩
        walk_at "rds"
        refine ⟨by show 2 ≤ sizeLine; omega, fun t3 nt3 => ?_⟩
        have s3' := same_new nt3 (.tup [x, y])
        have nk3 : NK (upd H2 t3 (.tup [x, y])) (.ref t3) (kMV (m, vid)) := nk_tup nt3 (.cons hx2 (.cons hy2 .nil)) rfl
        have D3 := D2.same s3'
        have hz3 := hz2.same s3'
        clear hx2 hy2 hz2 D2 k1
        generalize upd H2 t3 (.tup [x, y]) = H3 at *
        walk_at "rds"
        refine ⟨by show 0 ≤ sizeLine; omega, fun l5 nl5 => ?_⟩
        have s5' := same_new nl5 (.lst [])
        have h5 : (upd H3 l5 (.lst [])) l5 = some (.lst []) := upd_same
        have nk5 := nk3.mono fun b xs h => s5' _ _ h
        have D5 := D3.same s5'
        have hz5 := hz3.same s5'
        have hn5 : H l5 = none := by
          cases e : H l5 with
          | none => rfl
          | some o => rw [D3.s _ _ e] at nl5; cases nl5
        have hf5 : ¬ F l5 := fun z => by
          obtain ⟨vs, e⟩ := D3.fF _ z
          rw [nl5] at e; cases e
        obtain ⟨ks, k, g1, g2, g3, g4, g5⟩ := LgF.setd (K := K) (R := fun H' => Tg w H H' d1 d2 d3 (es.take (i + 1)) (es.take (i + 1)) (i + 1) (i + 1) F) D3.n2 s5' nl5 nk5 h5 hn5 hf5 f2 hz5 (show i < 1000000 by omega) (fun x => by
          have := logOf_len x.1 x.2 (es.take i)
          have := List.length_take_le i es
          unfold logL
          omega) fun H' q1 q2 q3 q4 => by
            have nF : ∀ b, F b → b ≠ d2 := fun b hb z => by
              obtain ⟨vs, e⟩ := D5.fF b hb
              obtain ⟨adr, a1, _⟩ := D5.n2.ex
              obtain ⟨ks, ek⟩ := a1.ndo
              rw [z, ek] at e; cases e
            have kF : ∀ b vs, F b → upd H3 l5 (.lst []) b = some (.lst vs) → H' b = some (.lst vs) := fun b vs hb h => q3 b _ (.inr ⟨hb, nF b hb⟩) h
            obtain ⟨ks1, e1⟩ := D5.n1.ndo
            obtain ⟨ks3, e3⟩ := D5.n3.ndo
            refine ⟨fun c o hc => q3 c o (.inl hc) (D5.s _ _ hc), ?_, by rw [tk, logL_dl]; exact q1, ?_, fun b hb => ?_⟩
            · rw [tk]
              have ev : (fun m' => vwOf m' (es.take i ++ [Ev.dl t m vid g])) = fun m' => vwOf m' (es.take i) := by funext m'; rw [vwOf_snoc]; rfl
              rw [ev]
              exact D5.n1.mono ((q2 _ _ e1 e12 (fun vs z => by cases z)).trans e1.symm) q4 (fun _ _ h => h.mono q4) (Nat.le_succ i)
            · rw [tk, fstO_other fun _ _ => rfl]
              exact D5.n3.mono ((q2 _ _ e3 (Ne.symm e23) (fun vs z => by cases z)).trans e3.symm) q4 (fun _ _ h => h.mono q4 kF fun _ h => h) (Nat.le_succ i)
            · obtain ⟨vs, e⟩ := D5.fF b hb
              exact ⟨vs, kF b vs hb e⟩
        refine ⟨t3, ks, k, rfl, g1, g2, g3, fun u hu => ?_, fun hu => ?_⟩
        · obtain ⟨g6, l, xs, rfl, g7, g8, g9⟩ := g4 u hu
          refine ⟨g6, ?_⟩
          walk_at "rds"
          exact ⟨l, xs, _, rfl, rfl, g7, g8, ⟨_, _, _, _, _, _, _, _, F, rfl, g9, hF⟩⟩
        · obtain ⟨H6, rfl, g6, g7, g8⟩ := g5 hu
          refine ⟨g6, ?_⟩
          walk_at "rds"
          exact ⟨l5, [], _, rfl, rfl, g7, by show 0 < sizeLine; omega, ⟨_, _, _, _, _, _, _, _, F, rfl, g8, hF⟩⟩
      | vw t m vid ms =>
        obtain ⟨b, x, y, z, rfl, hb, hx1, hy1, hz1⟩ := td.evw
        walk_at "rds"
        refine ⟨b, _, rfl, SqT.of hb, fun z => absurd z.1 (by show ¬ HT.sIx 5 0 (some 2) = 0; decide), fun _ t' nt => ?_⟩
        have ec : cutV [V.str "view", .int t, x, y, z] (some 2) (some 4) = [x, y] := rfl
        rw [ec]
        have st := same_new nt (.tup [x, y])
        have htt : (upd H1 t' (.tup [x, y])) t' = some (.tup [x, y]) := upd_same
        have D2 := D.same st
        have hx2 := hx1.same st
        have hy2 := hy1.same st
        clear hx1 hy1 hz1 D td hb
        generalize upd H1 t' (.tup [x, y]) = H2 at *
        refine ⟨t', _, rfl, SqT.of htt, rfl, x, _, rfl, y, _, rfl, rfl, ?_⟩
        clear htt
        obtain ⟨xb, rfl, nkx⟩ := hx2.nkM
        have fin : ∀ (X : PyData) (H' : Hp) (v : V), fTog (es.take i) (.vw t m vid ms) = some X → Same H H' → TD H' v X → Q v H' := fun X H' v e s h => by
          rw [e] at hF
          have hF : some X = firstF fTog [] es := hF
          have q1 : TD H' v ((firstF fTog [] es).getD .none) → Q v H' := q v H' s
          rw [← hF] at q1
          exact q1 h
        refine ⟨fun σ' H' => ∃ (x8 x9 x10 x11 : Option V) (F' : Addr → Prop), σ' = [some (.ref a), some (.ref d1), some (.ref d2), some (.ref d3), some (.ref b), some (.ref xb), some y, x7, x8, x9, x10, x11] ∧ Tg w H H' d1 d2 d3 (es.take i) (es.take (i + 1)) i (i + 1) F' ∧ TD H' (.ref xb) (eM m) ∧ TD H' y (eV vid) ∧ fTog (es.take i) (.vw t m vid ms) = none, ?_, ?_⟩
        · obtain ⟨o, hget, ho⟩ := D2.n1.get nkx (kMm_depth _)
          walk_at "rds"
          refine ⟨d1, xb, o, rfl, rfl, hget, ?_⟩
          cases hv : vwOf m (es.take i) with
          | none =>
            rw [hv] at ho
            obtain rfl : o = none := by
              cases o with
              | none => rfl
              | some _ => exact ho.elim
            walk_at "rds"
            refine ⟨_, _, _, _, F, rfl, ⟨D2.s, D2.n1, D2.n2, ?_, D2.fF⟩, hx2, hy2, by rw [fTog_vw, hv]⟩
            rw [tk, fstO_none hv]
            exact D2.n3.frame (Same.refl _) (fun _ _ h => h) (Nat.le_succ i)
          | some old =>
            rw [hv] at ho
            obtain ⟨ov, rfl, hov⟩ : ∃ ov, o = some ov ∧ TD H2 ov (eV old) := by
              cases o with
              | none => exact ho.elim
              | some v => exact ⟨v, rfl, ho⟩
            walk_at "rds"
            refine ⟨d1, xb, ov, rfl, rfl, hget, ?_⟩
            obtain ⟨adr, a1, _⟩ := D2.n2.ex
            obtain ⟨ks, k1, _⟩ := a1.ex
            walk_at "rds"
            refine ⟨d2, ks, rfl, k1, ?_⟩
            walk_at "rds"
            refine ⟨by show 2 ≤ sizeLine; omega, fun t3 nt3 => ?_⟩
            have s3' := same_new nt3 (.tup [.ref xb, ov])
            have nk3 : NK (upd H2 t3 (.tup [.ref xb, ov])) (.ref t3) (kMV (m, old)) := nk_tup nt3 (.cons hx2 (.cons hov .nil)) rfl
            have D3 := D2.same s3'
            have hx3 := hx2.same s3'
            have hy3 := hy2.same s3'
            have hov3 := hov.same s3'
            clear hx2 hy2 hov D2 k1 hget ho nkx a1
            generalize upd H2 t3 (.tup [.ref xb, ov]) = H3 at *
            walk_at "rds"
            refine ⟨by show 0 ≤ sizeLine; omega, fun l5 nl5 => ?_⟩
            have s5' := same_new nl5 (.lst [])
            have h5 : (upd H3 l5 (.lst [])) l5 = some (.lst []) := upd_same
            have nk5 := nk3.mono fun b xs h => s5' _ _ h
            have D5 := D3.same s5'
            have hx5 := hx3.same s5'
            have hy5 := hy3.same s5'
            have hov5 := hov3.same s5'
            clear hx3 hy3 hov3 D3 nk3
            generalize upd H3 l5 (.lst []) = H5 at *
            obtain ⟨o5, b5, vs, hget, ho, hb5, hvs⟩ := D5.n2.get nk5 h5
            refine ⟨t3, o5, rfl, hget, ?_⟩
            rw [ho]
            walk_at "rds"
            refine ⟨b5, vs, rfl, .inl (SqL.of hb5), fun lb nlb => ?_⟩
            have s6' := same_new nlb (.lst vs)
            have h6 : (upd H5 lb (.lst vs)) lb = some (.lst vs) := upd_same
            have D6 := D5.same s6'
            have L6 := D5.n2.freeze s6' nlb
            have hx6 := hx5.same s6'
            have hy6 := hy5.same s6'
            have hov6 := hov5.same s6'
            have hvs6 := hvs.mono (TupK.of s6')
            clear hx5 hy5 hov5 D5 nk5 hget ho hb5 hvs
            generalize upd H5 lb (.lst vs) = H6 at *
            have hvs6 : TDs H6 vs ((logOf m old (es.take i)).map eG) := hvs6
            walk_at "rds"
            have hokp : ∀ e ∈ es.take i, EvOk e := fun e he => hok e (List.mem_of_mem_take he)
            obtain ⟨X, hX⟩ : ∃ X, X = (fstO (es.take i) (old, vid)).getD (m, logOf m old (es.take i)) := ⟨_, rfl⟩
            have hXok : ∀ g ∈ X.2, PyData.strOk g.2.2 = true := by
              cases hg : fstO (es.take i) (old, vid) with
              | none => rw [hX, hg]; exact logOf_ok hokp _ _
              | some X0 => rw [hX, hg]; exact fstO_ok hokp hg
            refine ⟨fun σ' H' => ∃ (mv1 : V) (lb1 : Addr) (vs1 : List V) (F' : Addr → Prop), σ' = [some (.ref a), some (.ref d1), some (.ref d2), some (.ref d3), some (.ref b), some (.ref xb), some y, x7, some ov, some (.ref lb), some mv1, some (.ref lb1)] ∧ Tg w H H' d1 d2 d3 (es.take i) (es.take (i + 1)) i (i + 1) F' ∧ TD H' (.ref xb) (eM m) ∧ TD H' y (eV vid) ∧ H' lb = some (.lst vs) ∧ TDs H' vs ((logOf m old (es.take i)).map eG) ∧ TD H' mv1 (eM X.1) ∧ H' lb1 = some (.lst vs1) ∧ TDs H' vs1 (X.2.map eG), ?_, ?_⟩
            · obtain ⟨ks, k1, _⟩ := D6.n3.ex
              walk_at "rds"
              refine ⟨d3, ks, rfl, k1, ?_⟩
              walk_at "rds"
              refine ⟨by show 2 ≤ sizeLine; omega, fun t7 nt7 => ?_⟩
              have s7' := same_new nt7 (.tup [ov, y])
              have nk7 : NK (upd H6 t7 (.tup [ov, y])) (.ref t7) (kVV (old, vid)) := nk_tup nt7 (.cons hov6 (.cons hy6 .nil)) rfl
              have D7 := D6.same s7'
              have L7 := L6.same s7' (Nat.le_refl _)
              have hx7 := hx6.same s7'
              have hy7 := hy6.same s7'
              have h7 := s7' _ _ h6
              have hvs7 := hvs6.mono (TupK.of s7')
              clear hx6 hy6 hov6 D6 L6 h6 hvs6 k1
              generalize upd H6 t7 (.tup [ov, y]) = H7 at *
              walk_at "rds"
              refine ⟨by show 2 ≤ sizeLine; omega, fun t8 nt8 => ?_⟩
              have s8' := same_new nt8 (.tup [.ref xb, .ref lb])
              have ht8 : (upd H7 t8 (.tup [.ref xb, .ref lb])) t8 = some (.tup [.ref xb, .ref lb]) := upd_same
              have nk8 := nk7.mono fun b xs h => s8' _ _ h
              have D8 := D7.same s8'
              have L8 := L7.same s8' (Nat.le_refl _)
              have hx8 := hx7.same s8'
              have hy8 := hy7.same s8'
              have h8 := s8' _ _ h7
              have hvs8 := hvs7.mono (TupK.of s8')
              clear hx7 hy7 D7 L7 h7 hvs7 nk7
              generalize upd H7 t8 (.tup [.ref xb, .ref lb]) = H8 at *
              obtain ⟨ks, k1, k2, k3, k4⟩ := D8.n3.ex
              have ho := k3 (old, vid)
              refine ⟨t7, ks, kVV (old, vid), rfl, k1, nk8, kVV_depth _, fun u hu => ?_, fun hn => ?_⟩
              · rw [hu] at ho
                cases hg : fstO (es.take i) (old, vid) with
                | none => rw [hg] at ho; exact ho.elim
                | some X0 =>
                  rw [hg] at ho
                  obtain ⟨tb, lb1, mv, vs1, rfl, j1, j2, j3, j4, j5⟩ : RF H8 F u X0 := ho
                  rw [hg] at hX
                  have hX : X = X0 := hX
                  refine ⟨tb, _, rfl, SqT.of j1, rfl, mv, _, rfl, .ref lb1, _, rfl, rfl, ?_⟩
                  refine ⟨mv, lb1, vs1, F, rfl, ⟨D8.s, D8.n1, D8.n2, ?_, D8.fF⟩, hx8, hy8, h8, hvs8, by rw [hX]; exact j2, j4, by rw [hX]; exact j5⟩
                  rw [tk, fstO_vw hv, hg]
                  exact D8.n3.frame (Same.refl _) (fun _ _ h => h) (Nat.le_succ i)
              · rw [hn] at ho
                have hg : fstO (es.take i) (old, vid) = none := by
                  cases hg : fstO (es.take i) (old, vid) with
                  | none => rfl
                  | some X0 => rw [hg] at ho; exact ho.elim
                rw [hg] at hX
                have hX : X = (m, logOf m old (es.take i)) := hX
                have ku : TupK H8 (upd H8 d3 (ndO w d3 (putN ks (kVV (old, vid)) t7 (.ref t8)))) := tupK_upd fun xs e => by rw [k1.ob] at e; cases e
                have kl : ∀ b vs, H8 b = some (.lst vs) → upd H8 d3 (ndO w d3 (putN ks (kVV (old, vid)) t7 (.ref t8))) b = some (.lst vs) := fun b vs h => by
                  rw [upd_ne (fun z => by rw [z, k1.ob] at h; cases h)]; exact h
                have N3 : NM w (upd H8 d3 (ndO w d3 (putN ks (kVV (old, vid)) t7 (.ref t8)))) d3 (i + 1) kVV (RF (upd H8 d3 (ndO w d3 (putN ks (kVV (old, vid)) t7 (.ref t8)))) fun b => F b ∨ b = lb) (setM (fstO (es.take i)) (old, vid) (m, logOf m old (es.take i))) :=
                  NM.put kVV_inj k1 k2 k3 k4 nk8 (kVV_depth _) (by omega) ⟨t8, lb, .ref xb, vs, rfl, ku _ _ ht8, hx8.mono ku, .inr rfl, kl _ _ h8, hvs8.mono ku⟩ fun _ _ h => h.mono ku (fun b vs _ h => kl b vs h) fun _ h => .inl h
                refine ⟨t8, _, rfl, SqT.of (ku _ _ ht8), rfl, .ref xb, _, rfl, .ref lb, _, rfl, rfl, ?_⟩
                refine ⟨.ref xb, lb, vs, fun b => F b ∨ b = lb, rfl, ⟨fun c o hc => by rw [upd_ne (ne_of_none hc f3)]; exact D8.s _ _ hc, D8.n1.mono (upd_ne e13) ku (fun _ _ h => h.mono ku) (Nat.le_refl _), L8.frame (upd_ne e23) (fun b vs hb => (kl b vs hb).trans hb.symm) ku (Nat.le_refl _), ?_, fun b hb => ?_⟩, hx8.mono ku, hy8.mono ku, kl _ _ h8, hvs8.mono ku, by rw [hX]; exact hx8.mono ku, kl _ _ h8, by rw [hX]; exact hvs8.mono ku⟩
                · rw [tk, fstO_vw hv, hg]
                  exact N3
                · rcases hb with hb | hb
                  · obtain ⟨vs, e⟩ := D8.fF b hb
                    exact ⟨vs, kl b vs e⟩
                  · rw [hb]; exact ⟨vs, kl _ _ h8⟩
            · rintro σ' H9 ⟨mv1, lb1, vs1, F', rfl, D9, hx9, hy9, h9, hvs9, hm9, h19, hvs19⟩
              walk_at "rds"
              refine ⟨.list ((logOf m old (es.take i)).map eG), .list (X.2.map eG), .lst (SqL.of h9) hvs9.dp, .lst (SqL.of h19) hvs19.dp, eGs_sh _ (logOf_ok hokp _ _), eGs_sh _ hXok, ?_⟩
              rw [eGs_eqv]
              refine ⟨_, rfl, ?_⟩
              by_cases e : logOf m old (es.take i) = X.2
              · refine nF e ?_
                walk_at "rds"
                refine ⟨hx9, hy9, ?_⟩
                rw [fTog_at hv, ← hX, if_neg (fun z => z e.symm)]
              · refine nT e ?_
                walk_at "rds"
                refine ⟨by show 4 ≤ sizeLine; omega, fun t9 nt9 => ?_⟩
                refine fin _ _ _ ?_ (D9.s.trans (same_new nt9 _)) (td4 nt9 hm9 hx9 hy9)
                rw [fTog_at hv, ← hX, if_pos (fun z => e z.symm)]
        · rintro σ' H5 ⟨x8, x9, x10, x11, F', rfl, D5, hx5, hy5, hFt⟩
          obtain ⟨xb', e0, nkx5⟩ := hx5.nkM
          cases e0
          obtain ⟨ks, k1, k2, k3, k4⟩ := D5.n1.ex
          walk_at "rds"
          refine ⟨d1, xb, ks, kMm m, rfl, rfl, k1, nkx5, kMm_depth _, ?_⟩
          have ku : TupK H5 (upd H5 d1 (ndO w d1 (putN ks (kMm m) xb y))) := tupK_upd fun xs e => by rw [k1.ob] at e; cases e
          rw [hFt] at hF
          have kl : ∀ b vs, H5 b = some (.lst vs) → upd H5 d1 (ndO w d1 (putN ks (kMm m) xb y)) b = some (.lst vs) := fun b vs h => by
            rw [upd_ne (fun z => by rw [z, k1.ob] at h; cases h)]; exact h
          refine ⟨_, _, _, _, _, _, _, _, F', rfl, ⟨fun c o hc => by rw [upd_ne (ne_of_none hc f1)]; exact D5.s _ _ hc, ?_, ?_, ?_, fun b hb => ?_⟩, hF⟩
          · rw [tk]
            have ev : (fun m' => vwOf m' (es.take i ++ [Ev.vw t m vid ms])) = setM (fun m' => vwOf m' (es.take i)) m vid := by
              funext m'
              rw [vwOf_vw]
              unfold setM
              by_cases e : m' = m
              · rw [if_pos e, if_pos e.symm]
              · rw [if_neg e, if_neg fun z => e (Eq.symm z)]
            rw [ev]
            exact NM.put kMm_inj k1 k2 k3 k4 nkx5 (kMm_depth _) (by omega) (hy5.mono ku) fun v x h => h.mono ku
          · rw [tk, logL_other fun _ _ => rfl]
            exact D5.n2.frame (upd_ne e12.symm) (fun b vs hb => (kl b vs hb).trans hb.symm) ku (Nat.le_succ i)
          · exact D5.n3.mono (upd_ne e13.symm) ku (fun _ _ h => h.mono ku (fun b vs _ h => kl b vs h) fun _ h => h) (Nat.le_refl _)
          · obtain ⟨vs, e⟩ := D5.fF b hb
            exact ⟨vs, kl b vs e⟩
    · rintro σ H1 ⟨x4, x5, x6, x7, x8, x9, x10, x11, F, rfl, D, hF⟩
      have eN : firstF fTog [] es = none := by
        rw [← hF, lx, List.drop_length]; rfl
      have q1 : TD H1 .non ((firstF fTog [] es).getD .none) → Q .non H1 := q .non H1 D.s
      rw [eN] at q1
      exact q1 .non
end
end Mus

set_option maxRecDepth 100000
set_option maxHeartbeats 4000000
namespace Mus
open PySem L2
local macro_rules | `(tactic| walk_at "rd") => `(tactic| first
  | refine ⟨_, rfl, ?_⟩ | refine ⟨(True.intro : True), ?_⟩
  | refine ⟨_, _, rfl, rfl, (⟨by decide, by decide, by decide⟩ : CPow _ _), ?_⟩
  | refine ⟨_, _, rfl, rfl, (⟨by decide, by decide⟩ : CDiv _ _), ?_⟩
  | refine ⟨_, _, rfl, rfl, (by show (0 : Int) < _; decide), ?_⟩
  | refine ⟨_, _, rfl, rfl, ?_⟩ | refine ⟨rfl, ?_⟩ | refine iteT ?_ | refine iteF ?_ | refine ⟨_, _, rfl, ?_⟩ | refine .inl ⟨_, rfl, ?_⟩
  | refine ⟨_, _, _, _, _, rfl, (by assumption), (by assumption), (by assumption), rfl, ?_⟩ | refine ⟨_, _, _, _, rfl, rfl, SqT.of (by assumption), rfl, ?_⟩ | refine ⟨_, _, rfl, SqT.of (by assumption), rfl, ?_⟩
  | refine ⟨_, _, _, _, _, rfl, .ty _, Rp.ty (by assumption), kit_int _, ?_⟩ | refine ⟨_, _, _, _, _, rfl, .ty _, Rp.ty (by assumption), kit_bool _, ?_⟩
  | refine ⟨_, _, _, _, _, rfl, .ty _, Rp.ty (by assumption), kit_str _, ?_⟩ | refine ⟨_, _, _, _, _, rfl, .ty _, Rp.ty (by assumption), kit_tup _, ?_⟩)
local macro_rules | `(tactic| walk_at "cal") => `(tactic| first
  | refine ⟨_, _, _, _, _, rfl, (by assumption), ?_⟩ | refine ⟨_, _, _, _, _, rfl, (by assumption), (by assumption), ?_⟩)
local macro_rules | `(tactic| walk_at "sq") => `(tactic| first
  | refine ⟨_, _, rfl, Or.inr (SqT.of (by assumption)), ?_⟩ | refine ⟨_, _, _, _, rfl, rfl, SqT.of (by assumption), rfl, ?_⟩)
local macro_rules | `(tactic| walk_at "rds") => `(tactic| repeat first | walk_at "rd" | walk_at "cal" | walk_at "sq")
local macro_rules | `(tactic| walk_at "ze") => `(tactic| repeat first
  | exact zes_nil | exact ze_bl | exact ze_str | exact ze_non | apply zes_cons | apply ze_tup | apply ze_lst | apply ze_cat | exact di_c | exact di_v rfl | apply di_opC | apply di_op | apply di_neg | apply ze_i | (refine (⟨?_, ?_, ?_⟩ : CPow _ _) <;> decide) | exact Nat.le_of_ble_eq_true rfl | exact ze_varD rfl (by assumption))
local macro_rules | `(tactic| walk_at "rdz") => `(tactic| repeat (fail_if_success (first | show tLst _ _ _ _ | show tAsg (tLst _) _ _ _ _ | show tSeq (tAsg (tLst _) _) _ _ _ _)); first | walk_at "rd" | walk_at "cal" | walk_at "sq")
/-- a dict of lists of messages, with where they lie -/
structure LgA (w : World) (H0 H : Hp) (d n : Nat) (L : MV → List Msg) (adr : MV → Option Addr) : Prop where
  nm : NM w H d n kMV (fun v (l : Addr) => v = .ref l) adr
  at_ : ∀ x l, adr x = some l → H0 l = none ∧ ∃ vs, H l = some (.lst vs) ∧ TDs H vs ((L x).map eG)
  non : ∀ x, adr x = none → L x = []
  inj : ∀ x y l, adr x = some l → adr y = some l → x = y
theorem Lg.adr {w : World} {H0 H : Hp} {d n : Nat} {L : MV → List Msg} (h : Lg w H0 H d n L) : ∃ adr, LgA w H0 H d n L adr := by
  obtain ⟨adr, a1, a2, a3, a4⟩ := h.ex
  exact ⟨adr, a1, a2, a3, a4⟩
theorem LgA.lg {w : World} {H0 H : Hp} {d n : Nat} {L : MV → List Msg} {adr : MV → Option Addr} (h : LgA w H0 H d n L adr) : Lg w H0 H d n L := ⟨adr, h.nm, h.at_, h.non, h.inj⟩
theorem LgA.same {w : World} {H0 H H' : Hp} {d n m : Nat} {L : MV → List Msg} {adr : MV → Option Addr} (h : LgA w H0 H d n L adr) (s : Same H H') (l : n ≤ m) : LgA w H0 H' d m L adr := by
  refine ⟨h.nm.frame s (fun _ _ h => h) l, fun x l hx => ?_, h.non, h.inj⟩
  obtain ⟨f, vs, h1, h2⟩ := h.at_ x l hx
  exact ⟨f, vs, s _ _ h1, h2.mono (TupK.of s)⟩
/-- d.setdefault(x, []): the key at t, the new list at l5 -/
theorem LgA.setd {w : World} {H0 Hp' H : Hp} {d n t l5 : Addr} {L : MV → List Msg} {adr : MV → Option Addr} {x : MV} {R : V → Hp → Prop} (h : LgA w H0 Hp' d n L adr) (hss : Same Hp' H) (n5 : Hp' l5 = none) (hk : NK H (.ref t) (kMV x)) (h5 : H l5 = some (.lst [])) (f5 : H0 l5 = none) (hn : n < 1000000)
    (q : ∀ H' adr' l, adr' x = some l → LgA w H0 H' d (n + 1) L adr' → (∀ b o, H b = some o → b ≠ d → H' b = some o) → TupK H H' → R (.ref l) H') :
    ∃ ks k, Nd w H d ks ∧ NK H (.ref t) k ∧ k.depth ≤ 8 ∧ (∀ u, valN ks k = some u → R u H) ∧ (valN ks k = none → R (.ref l5) (upd H d (ndO w d (putN ks k t (.ref l5))))) := by
  have hn5 : ∀ y, adr y ≠ some l5 := fun y z => by
    obtain ⟨_, _, e, _⟩ := h.at_ y l5 z
    rw [n5] at e; cases e
  have h := h.same hss (Nat.le_refl n)
  obtain ⟨ks, k1, k2, k3, k4⟩ := h.nm.ex
  have ho := k3 x
  refine ⟨ks, kMV x, k1, hk, kMV_depth _, fun u hu => ?_, fun hnone => ?_⟩
  · rw [hu] at ho
    cases hx : adr x with
    | none => rw [hx] at ho; exact ho.elim
    | some l =>
      rw [hx] at ho
      obtain rfl : u = .ref l := ho
      exact q H adr l hx (h.same (Same.refl _) (Nat.le_succ n)) (fun _ _ h _ => h) (TupK.refl _)
  · rw [hnone] at ho
    have hx : adr x = none := by
      cases hx : adr x with
      | none => rfl
      | some l => rw [hx] at ho; exact ho.elim
    have d5 : l5 ≠ d := fun z => by rw [z, k1.ob] at h5; cases h5
    have tk : TupK H (upd H d (ndO w d (putN ks (kMV x) t (.ref l5)))) := tupK_upd fun xs e => by rw [k1.ob] at e; cases e
    have N1 : NM w (upd H d (ndO w d (putN ks (kMV x) t (.ref l5)))) d (n + 1) kMV (fun v (l : Addr) => v = .ref l) (setM adr x l5) := NM.put kMV_inj k1 k2 k3 k4 hk (kMV_depth _) hn rfl fun _ _ h => h
    refine q _ (setM adr x l5) l5 (if_pos rfl) ⟨N1, fun y l hy => ?_, fun y hy => ?_, fun y y' l hy hy' => ?_⟩ (fun b o hb hd => by rw [upd_ne hd]; exact hb) tk
    · unfold setM at hy
      split at hy
      · rename_i e
        cases hy
        rw [e, h.non x hx]
        exact ⟨f5, [], by rw [upd_ne d5]; exact h5, .nil⟩
      · obtain ⟨f, vs, e1, e2⟩ := h.at_ y l hy
        exact ⟨f, vs, by rw [upd_ne (fun z => by rw [z, k1.ob] at e1; cases e1)]; exact e1, e2.mono tk⟩
    · unfold setM at hy
      split at hy
      · cases hy
      · exact h.non y hy
    · unfold setM at hy hy'
      split at hy
      · rename_i e
        split at hy'
        · rename_i e'
          rw [e, e']
        · cases hy
          exact absurd hy' (hn5 y')
      · split at hy'
        · cases hy'
          exact absurd hy (hn5 y)
        · exact h.inj _ _ _ hy hy'
/-- .append(g) -/
theorem LgA.push {w : World} {H0 H : Hp} {d n l : Addr} {L : MV → List Msg} {adr : MV → Option Addr} {x : MV} {v : V} {g : Msg} (h : LgA w H0 H d n L adr) (hx : adr x = some l) (hv : TD H v (eG g)) :
    ∃ vs, H l = some (.lst vs) ∧ vs.length = (L x).length ∧ H0 l = none ∧ Lg w H0 (upd H l (.lst (vs ++ [v]))) d n (addL L x g) ∧ TupK H (upd H l (.lst (vs ++ [v]))) := by
  obtain ⟨f, vs, e1, e2⟩ := h.at_ x l hx
  obtain ⟨ks, k1, _⟩ := h.nm.ex
  have ll := e2.length
  rw [List.length_map] at ll
  have ld : l ≠ d := fun z => by rw [z, k1.ob] at e1; cases e1
  have tk : TupK H (upd H l (.lst (vs ++ [v]))) := tupK_upd fun xs e => by rw [e1] at e; cases e
  refine ⟨vs, e1, ll, f, ⟨adr, h.nm.mono (upd_ne (Ne.symm ld)) tk (fun _ _ h => h) (Nat.le_refl n), fun y l' hy => ?_, fun y hy => ?_, h.inj⟩, tk⟩
  · obtain ⟨f', vs', e1', e2'⟩ := h.at_ y l' hy
    refine ⟨f', ?_⟩
    unfold addL
    by_cases e : y = x
    · subst e
      rw [hx] at hy
      cases hy
      rw [if_pos rfl]
      exact ⟨_, upd_same, by rw [List.map_append]; exact (e2.mono tk).append (.cons (hv.mono tk) .nil)⟩
    · rw [if_neg e]
      exact ⟨vs', by rw [upd_ne (show l' ≠ l from fun z => e (h.inj _ _ _ hy (by rw [z]; exact hx)))]; exact e1', e2'.mono tk⟩
  · unfold addL
    rw [if_neg (fun z => by rw [z, hx] at hy; cases hy)]
    exact h.non y hy
/-- casts, as messages -/
def ctL (pre : List Ev) : MV → List Msg := fun x => (castsOf x.1 x.2 pre).map fun c => (x.1, c.1, c.2)
theorem ctL_other {pre : List Ev} {e : Ev} (h : ∀ m v, ctS m v e = none) : ctL (pre ++ [e]) = ctL pre := by
  funext x
  unfold ctL
  rw [castsOf_snoc, h, Option.toList_none, List.append_nil]
theorem ctL_ct {pre : List Ev} {t i : Int} {m : Mem} {v : Vid} {p : Str} : ctL (pre ++ [.ct t m v i p]) = addL (ctL pre) (m, v) (m, i, p) := by
  funext x
  unfold ctL addL
  rw [castsOf_snoc]
  have e : ctS x.1 x.2 (.ct t m v i p) = if m = x.1 ∧ v = x.2 then some (i, p) else none := rfl
  rw [e]
  by_cases h : x = (m, v)
  · rw [if_pos h, if_pos (by rw [h]; exact ⟨rfl, rfl⟩), h, List.map_append]; rfl
  · rw [if_neg h, if_neg (fun z => h (by rw [z.1, z.2])), Option.toList_none, List.append_nil]
def dlO (pre : List Ev) (x : MVG) : Option Unit := if x.2.2 ∈ logOf x.1 x.2.1 pre then some () else none
theorem dlO_other {pre : List Ev} {e : Ev} (h : ∀ m v, dlS m v e = none) : dlO (pre ++ [e]) = dlO pre := by
  funext x
  unfold dlO
  rw [logOf_snoc, h, Option.toList_none, List.append_nil]
theorem dlO_dl {pre : List Ev} {t : Int} {m : Mem} {v : Vid} {g : Msg} : dlO (pre ++ [.dl t m v g]) = setM (dlO pre) (m, v, g) () := by
  funext x
  unfold dlO setM
  rw [logOf_dl]
  by_cases h : x = (m, v, g)
  · rw [if_pos h, if_pos]
    rw [h, if_pos ⟨rfl, rfl⟩]
    exact List.mem_append_right _ List.mem_cons_self
  · show (if x.2.2 ∈ (if m = x.1 ∧ v = x.2.1 then logOf x.1 x.2.1 pre ++ [g] else logOf x.1 x.2.1 pre) then some () else none) = if x = (m, v, g) then some () else if x.2.2 ∈ logOf x.1 x.2.1 pre then some () else none
    rw [if_neg h]
    by_cases h2 : m = x.1 ∧ v = x.2.1
    · rw [if_pos h2]
      have : x.2.2 ∈ logOf x.1 x.2.1 pre ++ [g] ↔ x.2.2 ∈ logOf x.1 x.2.1 pre := by
        rw [List.mem_append, List.mem_singleton]
        exact ⟨fun z => z.elim id fun z => absurd (by rw [h2.1, h2.2, ← z]) h, .inl⟩
      by_cases h3 : x.2.2 ∈ logOf x.1 x.2.1 pre
      · rw [if_pos h3, if_pos (this.mpr h3)]
      · rw [if_neg h3, if_neg (fun z => h3 (this.mp z))]
    · rw [if_neg h2]
theorem kMV_non (m : Mem) (x : MV) : kOf (.tuple [eM m, .none]) ≠ kMV x := fun h => by
  have h := kOf_inj (d := .tuple [eM m, .none]) (e := eMV x) rfl rfl h
  unfold eMV eV at h
  injection h with h
  injection h with _ h
  injection h with h _
  cases h
section
variable {P : Program} {w : World} {K : PySem.W.Frag} {mg : Str → Option Value} {base : Heap}
/-- the state of own_fault -/
structure Ow (w : World) (H0 H : Hp) (d1 d2 d3 : Addr) (pre : List Ev) (n : Nat) : Prop where
  s : Same H0 H
  n1 : NM w H d1 n kMm (fun v x => TD H v (eV x)) fun m => vwOf m pre
  n2 : Lg w H0 H d2 n (ctL pre)
  n3 : NM w H d3 n kMVG (fun _ _ => True) (dlO pre)
theorem Ow.same {H0 H H' : Hp} {d1 d2 d3 : Addr} {pre : List Ev} {n : Nat} (D : Ow w H0 H d1 d2 d3 pre n) (s : Same H H') : Ow w H0 H' d1 d2 d3 pre n :=
  ⟨D.s.trans s, D.n1.frame s (fun v x h => h.same s) (Nat.le_refl _), D.n2.same s (Nat.le_refl _), D.n3.frame s (fun _ _ h => h) (Nat.le_refl _)⟩
/-- a list of casts, found or made -/
def OwG (w : World) (H0 : Hp) (d1 d2 d3 : Addr) (pre : List Ev) (n : Nat) (m : Mem) (vid : Vid) (x : V) (u : V) (H' : Hp) : Prop := ∃ adr' l, u = V.ref l ∧ adr' (m, vid) = some l ∧ LgA w H0 H' d2 (n + 1) (ctL pre) adr' ∧ Same H0 H' ∧ TD H' x (eM m) ∧ NM w H' d1 n kMm (fun v x => TD H' v (eV x)) (fun m => vwOf m pre) ∧ NM w H' d3 n kMVG (fun _ _ => True) (dlO pre)
theorem OwG.fin {H0 H' : Hp} {d1 d2 d3 : Addr} {pre : List Ev} {n : Nat} {t j : Int} {p : Str} {m : Mem} {vid : Vid} {x u : V} (h : OwG w H0 d1 d2 d3 pre n m vid x u H') (hp : pre.length ≤ 30) : tyV K "list" u H' ∧ ∀ t8, H' t8 = none → ∃ l xs, u = .ref l ∧ (upd H' t8 (.tup [x, .int j, .str p])) l = some (.lst xs) ∧ xs.length < sizeLine ∧ Ow w H0 (upd (upd H' t8 (.tup [x, .int j, .str p])) l (.lst (xs ++ [.ref t8]))) d1 d2 d3 (pre ++ [.ct t m vid j p]) (n + 1) := by
  have hs := sl
  obtain ⟨adr, l, rfl, q1, A, s, hx, n1, n3⟩ := h
  obtain ⟨_, vs0, e0, _⟩ := A.at_ _ _ q1
  refine ⟨.inl ⟨rfl, _, SqL.of e0⟩, fun t8 nt => ?_⟩
  have s8 := same_new nt (.tup [x, .int j, .str p])
  have tm : TD (upd H' t8 (.tup [x, .int j, .str p])) (.ref t8) (eG (m, j, p)) := .tup upd_same (by show 3 ≤ 100000; decide) (.cons (hx.same s8) (.cons (.int _) (.cons (.str _) .nil)))
  obtain ⟨vs, e1, ll, f, G, tk⟩ := (A.same s8 (Nat.le_refl _)).push q1 tm
  have c1 := castsOf_len m vid pre
  have c2 : (ctL pre (m, vid)).length = (castsOf m vid pre).length := List.length_map ..
  have m1 := n1.frame s8 (fun v x h => h.same s8) (Nat.le_refl _)
  have m3 := n3.frame s8 (fun _ _ h => h) (Nat.le_refl _)
  refine ⟨l, vs, rfl, e1, by omega, fun c o hc => by rw [upd_ne (ne_of_none hc f)]; exact s8 _ _ (s _ _ hc), ?_, by rw [ctL_ct]; exact G, ?_⟩
  · have ev : (fun m' => vwOf m' (pre ++ [Ev.ct t m vid j p])) = fun m' => vwOf m' pre := by funext m'; rw [vwOf_snoc]; rfl
    rw [ev]
    exact m1.mono (upd_ne (Ne.symm (m1.ne_lst e1))) tk (fun _ _ h => h.mono tk) (Nat.le_succ n)
  · rw [dlO_other fun _ _ => rfl]
    exact m3.mono (upd_ne (Ne.symm (m3.ne_lst e1))) tk (fun _ _ h => h) (Nat.le_succ n)
theorem Lg.getO {H0 H : Hp} {d n t l : Addr} {L : MV → List Msg} {m : Mem} {p : Option Vid} (h : Lg w H0 H d n L) (hk : NK H (.ref t) (kOf (.tuple [eM m, oVd p]))) (h5 : H l = some (.lst [])) : ∃ o b vs, NGet w H d t o ∧ o.getD (.ref l) = .ref b ∧ H b = some (.lst vs) ∧ TDs H vs (((p.map fun v => L (m, v)).getD []).map eG) := by
  cases p with
  | some old => exact h.get hk h5
  | none =>
    obtain ⟨adr, a1, _⟩ := h.ex
    exact ⟨none, l, [], a1.getN hk (by simp [oVd, kOf, kOfs, eM, NestedKey.depth, NestedKey.depthAll]) (kMV_non m), rfl, h5, .nil⟩
theorem fOwn_at (pre : List Ev) (t : Int) (m : Mem) (v : Vid) (ms : List Mem) : (∀ c ∈ ((vwOf m pre).map fun v => ctL pre (m, v)).getD [], ∃ old, vwOf m pre = some old ∧ c ∈ logOf m old pre) → fOwn pre (.vw t m v ms) = none := by
  intro h
  rw [fOwn_vw]
  cases hv : vwOf m pre with
  | none => rfl
  | some old =>
    dsimp only
    rw [hv] at h
    refine if_pos (List.all_eq_true.mpr fun c hc => decide_eq_true ?_)
    obtain ⟨o, e, h⟩ := h (m, c.1, c.2) (List.mem_map.mpr ⟨c, hc, rfl⟩)
    cases e
    exact h
theorem fOwn_no {pre : List Ev} {t : Int} {m : Mem} {v old : Vid} {ms : List Mem} {c : Msg} (hv : vwOf m pre = some old) (h : c ∈ ctL pre (m, old)) (hn : c ∉ logOf m old pre) : fOwn pre (.vw t m v ms) = some (.tuple [.str "own", eM m, eV old]) := by
  rw [fOwn_vw, hv]
  refine if_neg fun z => hn ?_
  obtain ⟨c0, hc0, rfl⟩ := List.mem_map.mp h
  exact of_decide_eq_true (List.all_eq_true.mp z c0 hc0)
abbrev s_own_fault : Stmt := top 6
abbrev N_own_fault : List Str := ["events", "views", "casts", "delivered", "event", "member", "view_id", "index", "payload", "left", "message"]
abbrev P_own_fault : List Str := ["events"]
theorem sc_own_fault : FnScope N_own_fault P_own_fault (defScope s_own_fault) := ⟨rfl, rfl, rfl, by decide +kernel, rfl, by decide +kernel, by decide +kernel⟩
theorem ok_own_fault {f : Addr} {fd : FuncData} (T : Tx mg) (F : Fun K "own_fault" "own_fault" s_own_fault f fd) : FnOk P w K mg base CX0 (1) f fd P_own_fault (sp_fault fun es => firstF fOwn [] es) := by
  have nd := sc_own_fault.nd
  refine F.ok sc_own_fault (fun vs H Q E h => ?_) (fun cdv A outer s H vs Q E hr h => ?_)
  · obtain ⟨_, _, _, rfl, _⟩ := h
    rfl
  · obtain ⟨a, us, es, rfl, ha, hr0, hok, hlen, q⟩ := h
    have hs := sl
    refine ⟨_, (pss_cons (ps_set (i := 1) nd rfl (Or.inl rfl) pe_nnew)
      (pss_cons (ps_set (i := 2) nd rfl (Or.inl rfl) pe_nnew)
      (pss_cons (ps_set (i := 3) nd rfl (Or.inl rfl) pe_nnew)
      (pss_cons (ps_for PassesOwn.never rfl (pi_list (pv 0)) (pg_name (i := 4) nd rfl (Or.inl rfl))
        (pss_one (ps_if (pt_cmpR op_eq (pe_ix ix_tup (pv 4) pe_int (fun _ _ => rfl)) pe_str (nomark _))
          (pss_cons (ps_asg (pe_slice sl_tupA (pv 4) (po_some pe_int) po_none) (pg_tup (by rfl) (pgs_cons (pg_name (i := 5) nd rfl (Or.inl rfl)) (pgs_cons (pg_name (i := 6) nd rfl (Or.inl rfl)) (pgs_cons (pg_name (i := 7) nd rfl (Or.inl rfl)) (pgs_cons (pg_name (i := 8) nd rfl (Or.inl rfl)) pgs_nil))))))
          (pss_one (ps_expr (pe_bm PySem.F.plainAttrs_list PySem.F.slot_list_append PySem.F.type_list_append mt_append (pe_nsetd hr.units (pv 2) (pe_tup (pa_cons (pv 5) (pa_cons (pv 6) pa_nil))) (pe_lst pa_nil) ⟨rfl, rfl, rfl, rfl⟩) (pa_cons (pe_tup (pa_cons (pv 5) (pa_cons (pv 7) (pa_cons (pv 8) pa_nil)))) pa_nil)))))
          (pss_one (ps_if (pt_cmpR op_eq (pe_ix ix_tup (pv 4) pe_int (fun _ _ => rfl)) pe_str (nomark _))
            (pss_one (ps_nput hr.units (pv 3) (pe_slice sl_tupA (pv 4) (po_some pe_int) po_none) pe_bl rfl))
            (pss_one (ps_if (pt_cmpR op_eq (pe_ix ix_tup (pv 4) pe_int (fun _ _ => rfl)) pe_str (nomark _))
              (pss_cons (ps_asg (pe_slice sl_tupA (pv 4) (po_some pe_int) (po_some pe_int)) (pg_tup (by rfl) (pgs_cons (pg_name (i := 5) nd rfl (Or.inl rfl)) (pgs_cons (pg_name (i := 6) nd rfl (Or.inl rfl)) pgs_nil))))
              (pss_cons (ps_set (i := 9) nd rfl (Or.inl rfl) (pe_nget1 hr.units (pv 1) (pv 5) ⟨rfl, rfl, rfl, rfl⟩))
              (pss_cons (ps_for PassesOwn.never rfl (pi_list (pe_nget2 hr.units (pv 2) (pe_tup (pa_cons (pv 5) (pa_cons (pv 9) pa_nil))) (pe_lst pa_nil) ⟨rfl, rfl, rfl, rfl⟩)) (pg_name (i := 10) nd rfl (Or.inl rfl))
                (pss_one (ps_if (pt_cmp (pc_nnotin hr.units (pe_tup (pa_cons (pv 5) (pa_cons (pv 9) (pa_cons (pv 10) pa_nil)))) (pv 3)))
                  (pss_one (ps_ret (pe_tup (pa_cons pe_str (pa_cons (pv 5) (pa_cons (pv 9) pa_nil))))))
                  pss_nil)))
              (pss_one (ps_nput hr.units (pv 1) (pv 5) (pv 6) rfl)))))
              pss_nil)))))))
      (pss_one (ps_ret pe_non)))))), ?_⟩
    refine fun d1 nd1 sd1 => ?_
    refine fun d2 nd2 sd2 => ?_
    refine fun d3 nd3 sd3 => ?_
    have nd2 : (upd H d1 (ndO w d1 [])) d2 = none := nd2
    have nd3 : (upd (upd H d1 (ndO w d1 [])) d2 (ndO w d2 [])) d3 = none := nd3
    have s1 := same_new nd1 (ndO w d1 [])
    have s2 := same_new nd2 (ndO w d2 [])
    have s3 := same_new nd3 (ndO w d3 [])
    have e12 : d1 ≠ d2 := ne_of_none upd_same nd2
    have e23 : d2 ≠ d3 := ne_of_none upd_same nd3
    have e13 : d1 ≠ d3 := ne_of_none (s2 _ _ upd_same) nd3
    have f2 : H d2 = none := by rwa [upd_ne e12.symm] at nd2
    have f3 : H d3 = none := by rwa [upd_ne e23.symm, upd_ne e13.symm] at nd3
    have f1 : H d1 = none := nd1
    have lx := hr0.length
    rw [List.length_map] at lx
    have D0 : Ow w H (upd (upd (upd H d1 (ndO w d1 [])) d2 (ndO w d2 [])) d3 (ndO w d3 [])) d1 d2 d3 [] 0 :=
      ⟨s1.trans (s2.trans s3), NM.frame (nm_new (R := fun v x => TD _ v (eV x)) sd1) (s2.trans s3) (fun v x h => h.same (s2.trans s3)) (Nat.le_refl _), Lg.same (lg_new sd2) s3 (Nat.le_refl _), nm_new sd3⟩
    refine ⟨_, rfl, a, rfl, ⟨_, SqL.of ((s1.trans (s2.trans s3)) _ _ ha)⟩, for_list (K := K) (a := a) (xs := us) (fun i σ H' => ∃ (x4 x5 x6 x7 x8 x9 x10 : Option V), σ = [some (.ref a), some (.ref d1), some (.ref d2), some (.ref d3), x4, x5, x6, x7, x8, x9, x10] ∧ Ow w H H' d1 d2 d3 (es.take i) i ∧ firstF fOwn (es.take i) (es.drop i) = firstF fOwn [] es) ?_ ?_ ?_ ?_⟩
    · exact ⟨_, _, _, _, _, _, _, rfl, D0, rfl⟩
    · rintro i σ H' _ ⟨_, _, _, _, _, _, _, rfl, D, _⟩
      exact SqL.of (D.s _ _ ha)
    · clear D0
      rintro i v σ H1 hx ⟨x4, x5, x6, x7, x8, x9, x10, rfl, D, hF⟩
      obtain ⟨e, he, td0⟩ := hr0.map_at hx
      have td := td0.same D.s
      have hi : i < es.length := (List.getElem?_eq_some_iff.mp he).1
      rw [firstF_at he] at hF
      have tk := take_snoc he
      have lt := List.length_take_le i es
      cases e with
      | cr t n =>
        obtain ⟨b, rfl, hb⟩ := td.ecr
        walk_at "rds"
        refine ⟨_, _, _, _, _, _, _, rfl, ⟨D.s, ?_, ?_, ?_⟩, hF⟩
        · rw [tk]
          have ev : (fun m' => vwOf m' (es.take i ++ [Ev.cr t n])) = fun m' => vwOf m' (es.take i) := by funext m'; rw [vwOf_snoc]; rfl
          rw [ev]
          exact D.n1.mono rfl (TupK.refl _) (fun _ _ h => h) (Nat.le_succ i)
        · rw [tk, ctL_other fun _ _ => rfl]
          exact D.n2.same (Same.refl _) (Nat.le_succ i)
        · rw [tk, dlO_other fun _ _ => rfl]
          exact D.n3.mono rfl (TupK.refl _) (fun _ _ h => h) (Nat.le_succ i)
      | ct t m vid j p =>
        obtain ⟨b, x, y, rfl, hb, hx1, hy1⟩ := td.ect
        walk_at "rds"
        refine ⟨b, _, rfl, SqT.of hb, fun z => absurd z.1 (by show ¬ HT.sIx 6 0 (some 2) = 0; decide), fun _ t' nt => ?_⟩
        have ec : cutV [V.str "cast", .int t, x, y, .int j, .str p] (some 2) none = [x, y, .int j, .str p] := rfl
        rw [ec]
        have st := same_new nt (.tup [x, y, .int j, .str p])
        have htt : (upd H1 t' (.tup [x, y, .int j, .str p])) t' = some (.tup [x, y, .int j, .str p]) := upd_same
        have D2 := D.same st
        have hx2 := hx1.same st
        have hy2 := hy1.same st
        clear hx1 hy1 D td
        generalize upd H1 t' (.tup [x, y, .int j, .str p]) = H2 at *
        refine ⟨t', _, rfl, SqT.of htt, rfl, x, _, rfl, y, _, rfl, .int j, _, rfl, .str p, _, rfl, rfl, ?_⟩
        obtain ⟨adr, A2⟩ := D2.n2.adr
        obtain ⟨ks, k1, _⟩ := A2.nm.ex
        refine ⟨_, rfl, d2, ks, rfl, k1, ?_⟩
        walk_at "rds"
        refine ⟨by show 2 ≤ sizeLine; omega, fun t3 nt3 => ?_⟩
        have s3' := same_new nt3 (.tup [x, y])
        have nk3 : NK (upd H2 t3 (.tup [x, y])) (.ref t3) (kMV (m, vid)) := nk_tup nt3 (.cons hx2 (.cons hy2 .nil)) rfl
        have D3 := D2.same s3'
        have A3 := A2.same s3' (Nat.le_refl _)
        have hx3 := hx2.same s3'
        clear hx2 hy2 D2 A2 k1
        generalize upd H2 t3 (.tup [x, y]) = H3 at *
        walk_at "rds"
        refine ⟨by show 0 ≤ sizeLine; omega, fun l5 nl5 => ?_⟩
        have s5' := same_new nl5 (.lst [])
        have h5 : (upd H3 l5 (.lst [])) l5 = some (.lst []) := upd_same
        have nk5 := nk3.mono fun b xs h => s5' _ _ h
        have D5 := D3.same s5'
        have hx5 := hx3.same s5'
        have hn5 : H l5 = none := by
          cases e : H l5 with
          | none => rfl
          | some o => rw [D3.s _ _ e] at nl5; cases nl5
        obtain ⟨ks, k, g1, g2, g3, g4, g5⟩ :=
          LgA.setd (R := OwG w H d1 d2 d3 (es.take i) i m vid x) A3 s5' nl5 nk5 h5 hn5 (show i < 1000000 by omega) fun H' adr' l q1 q2 q3 q4 => by
            obtain ⟨ks1, e1⟩ := D5.n1.ndo
            obtain ⟨ks3, e3⟩ := D5.n3.ndo
            exact ⟨adr', l, rfl, q1, q2, fun c o hc => q3 c o (D5.s _ _ hc) (ne_of_none hc f2), hx5.mono q4, D5.n1.mono ((q3 _ _ e1 e12).trans e1.symm) q4 (fun _ _ h => h.mono q4) (Nat.le_refl _), D5.n3.mono ((q3 _ _ e3 (Ne.symm e23)).trans e3.symm) q4 (fun _ _ h => h) (Nat.le_refl _)⟩
        refine ⟨t3, ks, k, rfl, g1, g2, g3, fun u hu => ?_, fun hu => ?_⟩
        · obtain ⟨g6, g7⟩ := (g4 u hu).fin (K := K) (t := t) (j := j) (p := p) (by omega)
          refine ⟨g6, ?_⟩
          walk_at "rds"
          refine ⟨by show 3 ≤ sizeLine; omega, fun t8 nt8 => ?_⟩
          obtain ⟨l, xs, rfl, g8, g9, g10⟩ := g7 t8 nt8
          exact ⟨l, xs, _, rfl, rfl, g8, g9, ⟨_, _, _, _, _, _, _, rfl, by rw [tk]; exact g10, hF⟩⟩
        · obtain ⟨g6, g7⟩ := (g5 hu).fin (K := K) (t := t) (j := j) (p := p) (by omega)
          refine ⟨g6, ?_⟩
          walk_at "rds"
          refine ⟨by show 3 ≤ sizeLine; omega, fun t8 nt8 => ?_⟩
          obtain ⟨l, xs, e, g8, g9, g10⟩ := g7 t8 nt8
          cases e
          exact ⟨_, xs, _, rfl, rfl, g8, g9, ⟨_, _, _, _, _, _, _, rfl, by rw [tk]; exact g10, hF⟩⟩
      | dl t m vid g =>
        obtain ⟨b, x, y, z, rfl, hb, hx1, hy1, hz1⟩ := td.edl
        walk_at "rds"
        refine ⟨b, _, rfl, SqT.of hb, fun z => absurd z.1 (by show ¬ HT.sIx 5 0 (some 2) = 0; decide), fun _ t' nt => ?_⟩
        have ec : cutV [V.str "deliver", .int t, x, y, z] (some 2) none = [x, y, z] := rfl
        rw [ec]
        have D2 := D.same (same_new nt (.tup [x, y, z]))
        have nk : NK (upd H1 t' (.tup [x, y, z])) (.ref t') (kMVG (m, vid, g)) := nk_tup nt (.cons hx1 (.cons hy1 (.cons hz1 .nil))) rfl
        generalize upd H1 t' (.tup [x, y, z]) = H2 at *
        obtain ⟨ks, k1, k2, k3, k4⟩ := D2.n3.ex
        refine ⟨d3, t', ks, kMVG (m, vid, g), rfl, rfl, k1, nk, kMVG_depth _, ?_⟩
        have ku : TupK H2 (upd H2 d3 (ndO w d3 (putN ks (kMVG (m, vid, g)) t' (.bl true)))) := tupK_upd fun xs e => by rw [k1.ob] at e; cases e
        refine ⟨_, _, _, _, _, _, _, rfl, ⟨fun c o hc => by rw [upd_ne (ne_of_none hc f3)]; exact D2.s _ _ hc, ?_, ?_, ?_⟩, hF⟩
        · rw [tk]
          have ev : (fun m' => vwOf m' (es.take i ++ [Ev.dl t m vid g])) = fun m' => vwOf m' (es.take i) := by funext m'; rw [vwOf_snoc]; rfl
          rw [ev]
          exact D2.n1.mono (upd_ne e13) ku (fun _ _ h => h.mono ku) (Nat.le_succ i)
        · rw [tk, ctL_other fun _ _ => rfl]
          exact D2.n2.frame (upd_ne e23) (fun b vs hb => upd_ne fun z => by rw [z, k1.ob] at hb; cases hb) ku (Nat.le_succ i)
        · rw [tk, dlO_dl]
          exact NM.put kMVG_inj k1 k2 k3 k4 nk (kMVG_depth _) (by omega) trivial fun _ _ h => h
      | vw t m vid ms =>
        obtain ⟨b, x, y, z, rfl, hb, hx1, hy1, hz1⟩ := td.evw
        walk_at "rds"
        refine ⟨b, _, rfl, SqT.of hb, fun z => absurd z.1 (by show ¬ HT.sIx 5 0 (some 2) = 0; decide), fun _ t' nt => ?_⟩
        have ec : cutV [V.str "view", .int t, x, y, z] (some 2) (some 4) = [x, y] := rfl
        rw [ec]
        have st := same_new nt (.tup [x, y])
        have htt : (upd H1 t' (.tup [x, y])) t' = some (.tup [x, y]) := upd_same
        have D2 := D.same st
        have hx2 := hx1.same st
        have hy2 := hy1.same st
        clear hx1 hy1 hz1 D td hb
        generalize upd H1 t' (.tup [x, y]) = H2 at *
        refine ⟨t', _, rfl, SqT.of htt, rfl, x, _, rfl, y, _, rfl, rfl, ?_⟩
        clear htt
        obtain ⟨xb, rfl, nkx⟩ := hx2.nkM
        have fin : ∀ (X : PyData) (H' : Hp) (v : V), fOwn (es.take i) (.vw t m vid ms) = some X → Same H H' → TD H' v X → Q v H' := fun X H' v e s h => by
          rw [e] at hF
          have hF : some X = firstF fOwn [] es := hF
          have q1 : TD H' v ((firstF fOwn [] es).getD .none) → Q v H' := q v H' s
          rw [← hF] at q1
          exact q1 h
        obtain ⟨ks, k1, _⟩ := D2.n1.ex
        obtain ⟨o, hget, ho⟩ := D2.n1.get nkx (kMm_depth _)
        refine ⟨_, rfl, d1, ks, rfl, k1, ?_⟩
        walk_at "rds"
        refine ⟨xb, o, rfl, hget, ?_⟩
        have hov2 := oVd_or ho
        clear k1 hget ho nkx
        generalize o.getD .non = lv at *
        generalize hp : vwOf m (es.take i) = p at *
        obtain ⟨adr, a1, _⟩ := D2.n2.ex
        obtain ⟨ks, k1, _⟩ := a1.ex
        walk_at "rds"
        refine ⟨d2, ks, rfl, k1, ?_⟩
        walk_at "rds"
        refine ⟨by show 2 ≤ sizeLine; omega, fun t4 nt4 => ?_⟩
        have s4' := same_new nt4 (.tup [.ref xb, lv])
        have nk4 : NK (upd H2 t4 (.tup [.ref xb, lv])) (.ref t4) (kOf (.tuple [eM m, oVd p])) := nk_tup nt4 (.cons hx2 (.cons hov2 .nil)) (by show (pln (eM m) && (pln (oVd p) && true)) = true; rw [oVd_pln]; rfl)
        have D4 := D2.same s4'
        have hx4 := hx2.same s4'
        have hy4 := hy2.same s4'
        have hov4 := hov2.same s4'
        clear hx2 hy2 hov2 D2 k1 a1
        generalize upd H2 t4 (.tup [.ref xb, lv]) = H4 at *
        walk_at "rds"
        refine ⟨by show 0 ≤ sizeLine; omega, fun l5 nl5 => ?_⟩
        have s5' := same_new nl5 (.lst [])
        have h5 : (upd H4 l5 (.lst [])) l5 = some (.lst []) := upd_same
        have nk5 := nk4.mono fun b xs h => s5' _ _ h
        have D5 := D4.same s5'
        have hx5 := hx4.same s5'
        have hy5 := hy4.same s5'
        have hov5 := hov4.same s5'
        clear hx4 hy4 hov4 D4 nk4
        generalize upd H4 l5 (.lst []) = H5 at *
        obtain ⟨o5, b5, vs, hget, ho, hb5, hvs⟩ := D5.n2.getO nk5 h5
        refine ⟨t4, o5, rfl, hget, ?_⟩
        rw [ho]
        clear hget ho h5 nk5
        generalize hLs : (p.map fun v => ctL (es.take i) (m, v)).getD [] = Ls at *
        have ll := hvs.length
        rw [List.length_map] at ll
        refine ⟨b5, rfl, ⟨_, SqL.of hb5⟩, for_list (K := K) (a := b5) (xs := vs) (fun k σ' H' => ∃ (x10 : Option V), σ' = [some (.ref a), some (.ref d1), some (.ref d2), some (.ref d3), some (.ref b), some (.ref xb), some y, x7, x8, some lv, x10] ∧ Same H5 H' ∧ ∀ c ∈ Ls.take k, ∃ old, p = some old ∧ c ∈ logOf m old (es.take i)) ?_ ?_ ?_ ?_⟩
        · exact ⟨_, rfl, Same.refl _, fun c hc => by rw [List.take_zero] at hc; cases hc⟩
        · rintro k σ' H' _ ⟨_, rfl, s6, _⟩
          exact SqL.of (s6 _ _ hb5)
        · rintro k v σ' H6 hk ⟨x10', rfl, s6, hall⟩
          obtain ⟨c, hc, tdc⟩ := hvs.map_at hk
          have tdc6 := tdc.same s6
          obtain ⟨old, rfl⟩ : ∃ old, p = some old := by
            cases p with
            | some old => exact ⟨old, rfl⟩
            | none =>
              rw [← hLs] at hc
              cases hc
          have hLs : ctL (es.take i) (m, old) = Ls := hLs
          have D6 := D5.same s6
          have hx6 := hx5.same s6
          have hov6 := hov5.same s6
          walk_at "rds"
          refine ⟨by show 3 ≤ sizeLine; omega, fun t7 nt7 => ?_⟩
          have s7' := same_new nt7 (.tup [.ref xb, lv, v])
          have nk7 : NK (upd H6 t7 (.tup [.ref xb, lv, v])) (.ref t7) (kMVG (m, old, c)) := nk_tup nt7 (.cons hx6 (.cons hov6 (.cons tdc6 .nil))) rfl
          have D7 := D6.same s7'
          have hx7 := hx6.same s7'
          have hov7 := hov6.same s7'
          have s57 := s6.trans s7'
          generalize upd H6 t7 (.tup [.ref xb, lv, v]) = H7 at *
          obtain ⟨o7, hget7, ho7⟩ := D7.n3.get nk7 (kMVG_depth _)
          refine ⟨_, rfl, d3, t7, o7, rfl, rfl, hget7, ?_⟩
          have ei : o7.isSome = decide (c ∈ logOf m old (es.take i)) := by
            rw [ho7.iss]
            unfold dlO
            by_cases h : c ∈ logOf m old (es.take i)
            · rw [decide_eq_true h]
              exact congrArg Option.isSome (if_pos h)
            · rw [decide_eq_false h]
              exact congrArg Option.isSome (if_neg h)
          rw [ei]
          by_cases hin : c ∈ logOf m old (es.take i)
          · rw [decide_eq_true hin]
            walk_at "rds"
            refine ⟨s57, fun c0 hc0 => ?_⟩
            rw [take_snoc hc] at hc0
            rcases List.mem_append.mp hc0 with h | h
            · exact hall c0 h
            · rw [List.mem_singleton.mp h]; exact ⟨old, rfl, hin⟩
          · rw [decide_eq_false hin]
            walk_at "rds"
            refine ⟨by show 3 ≤ sizeLine; omega, fun t9 nt9 => ?_⟩
            refine fin _ _ _ ?_ (D7.s.trans (same_new nt9 _)) (td3 nt9 hx7 hov7)
            exact fOwn_no hp (by rw [hLs]; exact List.mem_of_getElem? hc) hin
        · rintro σ' H6 ⟨x10', rfl, s6, hall⟩
          rw [ll, List.take_length] at hall
          have hFn : fOwn (es.take i) (.vw t m vid ms) = none := fOwn_at _ _ _ _ _ (by rw [hp, hLs]; exact hall)
          have D6 := D5.same s6
          have hx6 := hx5.same s6
          have hy6 := hy5.same s6
          obtain ⟨xb', e0, nkx6⟩ := hx6.nkM
          cases e0
          obtain ⟨ks, k1, k2, k3, k4⟩ := D6.n1.ex
          walk_at "rds"
          refine ⟨d1, xb, ks, kMm m, rfl, rfl, k1, nkx6, kMm_depth _, ?_⟩
          have ku : TupK H6 (upd H6 d1 (ndO w d1 (putN ks (kMm m) xb y))) := tupK_upd fun xs e => by rw [k1.ob] at e; cases e
          rw [hFn] at hF
          refine ⟨_, _, _, _, _, _, _, rfl, ⟨fun c o hc => by rw [upd_ne (ne_of_none hc f1)]; exact D6.s _ _ hc, ?_, ?_, ?_⟩, hF⟩
          · rw [tk]
            have ev : (fun m' => vwOf m' (es.take i ++ [Ev.vw t m vid ms])) = setM (fun m' => vwOf m' (es.take i)) m vid := by
              funext m'
              rw [vwOf_vw]
              unfold setM
              by_cases e : m' = m
              · rw [if_pos e, if_pos e.symm]
              · rw [if_neg e, if_neg fun z => e (Eq.symm z)]
            rw [ev]
            exact NM.put kMm_inj k1 k2 k3 k4 nkx6 (kMm_depth _) (by omega) (hy6.mono ku) fun v x h => h.mono ku
          · rw [tk, ctL_other fun _ _ => rfl]
            exact D6.n2.frame (upd_ne e12.symm) (fun b vs hb => upd_ne fun z => by rw [z, k1.ob] at hb; cases hb) ku (Nat.le_succ i)
          · rw [tk, dlO_other fun _ _ => rfl]
            exact D6.n3.mono (upd_ne e13.symm) ku (fun _ _ h => h) (Nat.le_succ i)
    · rintro σ H1 ⟨x4, x5, x6, x7, x8, x9, x10, rfl, D, hF⟩
      have eN : firstF fOwn [] es = none := by
        rw [← hF, lx, List.drop_length]; rfl
      have q1 : TD H1 .non ((firstF fOwn [] es).getD .none) → Q .non H1 := q .non H1 D.s
      rw [eN] at q1
      exact q1 .non
end
end Mus

set_option maxRecDepth 100000
set_option maxHeartbeats 4000000
namespace Mus
open PySem L2
local macro_rules | `(tactic| walk_at "rd") => `(tactic| first
  | refine ⟨_, rfl, ?_⟩ | refine ⟨(True.intro : True), ?_⟩
  | refine ⟨_, _, rfl, rfl, (⟨by decide, by decide, by decide⟩ : CPow _ _), ?_⟩
  | refine ⟨_, _, rfl, rfl, (⟨by decide, by decide⟩ : CDiv _ _), ?_⟩
  | refine ⟨_, _, rfl, rfl, (by show (0 : Int) < _; decide), ?_⟩
  | refine ⟨_, _, rfl, rfl, ?_⟩ | refine ⟨rfl, ?_⟩ | refine iteT ?_ | refine iteF ?_ | refine ⟨_, _, rfl, ?_⟩ | refine .inl ⟨_, rfl, ?_⟩
  | refine ⟨_, _, _, _, _, rfl, (by assumption), (by assumption), (by assumption), rfl, ?_⟩ | refine ⟨_, _, _, _, rfl, rfl, SqT.of (by assumption), rfl, ?_⟩ | refine ⟨_, _, rfl, SqT.of (by assumption), rfl, ?_⟩
  | refine ⟨_, _, _, _, _, rfl, .ty _, Rp.ty (by assumption), kit_int _, ?_⟩ | refine ⟨_, _, _, _, _, rfl, .ty _, Rp.ty (by assumption), kit_bool _, ?_⟩
  | refine ⟨_, _, _, _, _, rfl, .ty _, Rp.ty (by assumption), kit_str _, ?_⟩ | refine ⟨_, _, _, _, _, rfl, .ty _, Rp.ty (by assumption), kit_tup _, ?_⟩)
local macro_rules | `(tactic| walk_at "cal") => `(tactic| first
  | refine ⟨_, _, _, _, _, rfl, (by assumption), ?_⟩ | refine ⟨_, _, _, _, _, rfl, (by assumption), (by assumption), ?_⟩)
local macro_rules | `(tactic| walk_at "sq") => `(tactic| first
  | refine ⟨_, _, rfl, Or.inr (SqT.of (by assumption)), ?_⟩ | refine ⟨_, _, _, _, rfl, rfl, SqT.of (by assumption), rfl, ?_⟩)
local macro_rules | `(tactic| walk_at "rds") => `(tactic| repeat first | walk_at "rd" | walk_at "cal" | walk_at "sq")
local macro_rules | `(tactic| walk_at "ze") => `(tactic| repeat first
  | exact zes_nil | exact ze_bl | exact ze_str | exact ze_non | apply zes_cons | apply ze_tup | apply ze_lst | apply ze_cat | exact di_c | exact di_v rfl | apply di_opC | apply di_op | apply di_neg | apply ze_i | (refine (⟨?_, ?_, ?_⟩ : CPow _ _) <;> decide) | exact Nat.le_of_ble_eq_true rfl | exact ze_varD rfl (by assumption))
local macro_rules | `(tactic| walk_at "rdz") => `(tactic| repeat (fail_if_success (first | show tLst _ _ _ _ | show tAsg (tLst _) _ _ _ _ | show tSeq (tAsg (tLst _) _) _ _ _ _)); first | walk_at "rd" | walk_at "cal" | walk_at "sq")
theorem isTup {d : PyData} {ds : List PyData} {o : Option PyData} (h : o = some d) (e : o = some (.tuple ds)) : ∃ ds, d = .tuple ds := ⟨ds, Option.some.inj (h.symm.trans e)⟩
theorem fView_tup {pre : List Ev} {e : Ev} {d : PyData} (h : fView pre e = some d) : ∃ ds, d = .tuple ds := by
  cases e with
  | vw t m v ms =>
    rw [fView_vw] at h
    split at h
    · cases h; exact ⟨_, rfl⟩
    · split at h
      · cases h; exact ⟨_, rfl⟩
      · split at h
        · split at h
          · cases h; exact ⟨_, rfl⟩
          · cases h
        · cases h
  | _ => cases h
theorem fDel_tup {pre : List Ev} {e : Ev} {d : PyData} (h : fDel pre e = some d) : ∃ ds, d = .tuple ds := by
  cases e with
  | dl t m v g =>
    rw [fDel_dl] at h
    split at h
    · cases h; exact ⟨_, rfl⟩
    · split at h
      · cases h; exact ⟨_, rfl⟩
      · split at h
        · cases h; exact ⟨_, rfl⟩
        · cases h
  | _ => cases h
theorem fCause_tup {all pre : List Ev} {e : Ev} {d : PyData} (h : fCause all pre e = some d) : ∃ ds, d = .tuple ds := by
  cases e with
  | dl t m v g =>
    rw [fCause_len] at h
    split at h
    · cases h
    · cases h; exact ⟨_, rfl⟩
  | _ => cases h
theorem fTog_tup {pre : List Ev} {e : Ev} {d : PyData} (h : fTog pre e = some d) : ∃ ds, d = .tuple ds := by
  cases e with
  | vw t m v ms =>
    cases hv : vwOf m pre with
    | none => rw [fTog_vw, hv] at h; cases h
    | some old =>
      rw [fTog_at hv] at h
      split at h
      · cases h; exact ⟨_, rfl⟩
      · cases h
  | _ => cases h
theorem fOwn_tup {pre : List Ev} {e : Ev} {d : PyData} (h : fOwn pre e = some d) : ∃ ds, d = .tuple ds := by
  cases e with
  | vw t m v ms =>
    rw [fOwn_vw] at h
    split at h
    · cases h
    · split at h
      · cases h
      · cases h; exact ⟨_, rfl⟩
  | _ => cases h
theorem firstF_tup {f : List Ev → Ev → Option PyData} (hf : ∀ pre e d, f pre e = some d → ∃ ds, d = .tuple ds) {es pre : List Ev} {d : PyData} (h : firstF f pre es = some d) : ∃ ds, d = .tuple ds := by
  obtain ⟨p, e, r, _, h2⟩ := firstF_some h
  exact hf _ _ _ h2
theorem faults_tup {es : List Ev} {o : Option PyData} {d : PyData} (h : o ∈ faults es) (e : o = some d) : ∃ ds, d = .tuple ds := by
  unfold faults at h
  simp only [List.mem_cons, List.not_mem_nil, or_false] at h
  rcases h with h | h | h | h | h <;> rw [h] at e
  · exact firstF_tup (fun _ _ _ => fView_tup) e
  · exact firstF_tup (fun _ _ _ => fDel_tup) e
  · exact firstF_tup (fun _ _ _ => fCause_tup) e
  · exact firstF_tup (fun _ _ _ => fTog_tup) e
  · exact firstF_tup (fun _ _ _ => fOwn_tup) e
def fOr (o : Option PyData) : PyData := o.getD .none
def sp_judge : Sp := fun vs H Q _ => ∃ (a : Addr) (us : List V) (es : List Ev), vs = [.ref a] ∧ H a = some (.lst us) ∧ TDs H us (es.map eE) ∧ (∀ e ∈ es, EvOk e) ∧ es.length ≤ 30 ∧ ∀ l vs' H', Same H H' → H' l = some (.lst vs') → TDs H' vs' ((faults es).filterMap id) → Q (.ref l) H'
section
variable {P : Program} {w : World} {K : PySem.W.Frag} {mg : Str → Option Value} {base : Heap}
abbrev s_judge : Stmt := top 7
abbrev N_judge : List Str := ["events", "faults", "fault"]
abbrev P_judge : List Str := ["events"]
theorem sc_judge : FnScope N_judge P_judge (defScope s_judge) := ⟨rfl, rfl, rfl, by decide +kernel, rfl, by decide +kernel, by decide +kernel⟩
theorem ok_judge {f : Addr} {fd : FuncData} (T : Tx mg) (c_view_fault : DefOk P w K mg base CX0 "view_fault" P_view_fault 1 (sp_fault fun es => firstF fView [] es)) (c_deliver_fault : DefOk P w K mg base CX0 "deliver_fault" P_deliver_fault 1 (sp_fault fun es => firstF fDel [] es)) (c_cause_fault : DefOk P w K mg base CX0 "cause_fault" P_cause_fault 2 (sp_fault fun es => firstF (fCause es) [] es)) (c_together_fault : DefOk P w K mg base CX0 "together_fault" P_together_fault 1 (sp_fault fun es => firstF fTog [] es)) (c_own_fault : DefOk P w K mg base CX0 "own_fault" P_own_fault 1 (sp_fault fun es => firstF fOwn [] es))(F : Fun K "judge" "judge" s_judge f fd) : FnOk P w K mg base CX0 (3) f fd P_judge (sp_judge) := by
  have nd := sc_judge.nd
  refine F.ok sc_judge (fun vs H Q E h => ?_) (fun cdv A outer s H vs Q E hr h => ?_)
  · obtain ⟨_, _, _, rfl, _⟩ := h
    rfl
  · obtain ⟨a, us, es, rfl, ha, hr0, hok, hlen, q⟩ := h
    have hs := sl
    refine ⟨_, (pss_cons (ps_set (i := 1) nd rfl (Or.inl rfl) (pe_lst (pa_cons (pcall c_view_fault hr (pa_cons (pv 0) pa_nil)) (pa_cons (pcall c_deliver_fault hr (pa_cons (pv 0) pa_nil)) (pa_cons (pcall c_cause_fault hr (pa_cons (pv 0) pa_nil)) (pa_cons (pcall c_together_fault hr (pa_cons (pv 0) pa_nil)) (pa_cons (pcall c_own_fault hr (pa_cons (pv 0) pa_nil)) pa_nil)))))))
      (pss_one (ps_ret (pe_lcX (own := [("fault", 2)]) rfl nd (pi_list (pv 1)) (blkOk_by (own := [("fault", 2)]) (N := N_judge) (sc := defScope s_judge) (by decide +kernel)) (fun _ _ _ _ _ => (pg_name (i := 2) nd rfl (Or.inl rfl))) (fun _ _ _ _ _ => (pts_one (pt_cmpR op_notN (pv 2) pe_non (nomark _)))) (fun _ _ _ _ _ => (pv 2)))))), ?_⟩
    walk_at "rds"
    refine ⟨a, us, es, rfl, ha, hr0, hok, hlen, fun v1 H1 s1 t1 => ?_⟩
    walk_at "rds"
    refine ⟨a, us, es, rfl, s1 _ _ ha, hr0.mono (TupK.of s1), hok, hlen, fun v2 H2 s2 t2 => ?_⟩
    walk_at "rds"
    refine ⟨a, us, es, rfl, s2 _ _ (s1 _ _ ha), hr0.mono (TupK.of (s1.trans s2)), hok, hlen, fun v3 H3 s3 t3 => ?_⟩
    walk_at "rds"
    refine ⟨a, us, es, rfl, s3 _ _ (s2 _ _ (s1 _ _ ha)), hr0.mono (TupK.of (s1.trans (s2.trans s3))), hok, hlen, fun v4 H4 s4 t4 => ?_⟩
    walk_at "rds"
    refine ⟨a, us, es, rfl, s4 _ _ (s3 _ _ (s2 _ _ (s1 _ _ ha))), hr0.mono (TupK.of (s1.trans (s2.trans (s3.trans s4)))), hok, hlen, fun v5 H5 s5 t5 => ?_⟩
    walk_at "rds"
    refine ⟨by show 5 ≤ sizeLine; omega, fun lF nF' => ?_⟩
    have sF := same_new nF' (.lst [v1, v2, v3, v4, v5])
    have hF : (upd H5 lF (.lst [v1, v2, v3, v4, v5])) lF = some (.lst [v1, v2, v3, v4, v5]) := upd_same
    have r5 : TDs H5 [v1, v2, v3, v4, v5] ((faults es).map fOr) := .cons (t1.same (s2.trans (s3.trans (s4.trans s5)))) (.cons (t2.same (s3.trans (s4.trans s5))) (.cons (t3.same (s4.trans s5)) (.cons (t4.same s5) (.cons t5 .nil))))
    have r6 := r5.mono (TupK.of sF)
    have s06 := s1.trans (s2.trans (s3.trans (s4.trans (s5.trans sF))))
    clear r5
    generalize upd H5 lF (.lst [v1, v2, v3, v4, v5]) = H6 at *
    walk_at "rds"
    refine ⟨⟨_, SqL.of hF⟩, fun D nD => ?_⟩
    refine lc_list (K := K) (a := lF) (xs := [v1, v2, v3, v4, v5]) (fun i H' => ∃ us, H' D = some (.lst us) ∧ TDs H' us (((faults es).take i).filterMap id) ∧ us.length ≤ i ∧ Same H6 H') ?_ ?_ ?_ ?_
    · exact ⟨[], upd_same, .nil, Nat.le_refl _, same_new nD _⟩
    · rintro i H' _ ⟨_, _, _, _, s7⟩
      exact SqL.of (s7 _ _ hF)
    · rintro i v H' hx ⟨us', hD, hP, hl, s7⟩
      obtain ⟨o, ho, td⟩ := r6.map_at hx
      have td7 := td.same s7
      have i5 : i < 5 := (List.getElem?_eq_some_iff.mp hx).1
      have etk : (faults es).take (i + 1) = (faults es).take i ++ [o] := by rw [List.take_add_one, ho]; rfl
      refine ⟨rfl, ?_⟩
      cases o with
      | none =>
        obtain rfl : v = .non := by cases td7; rfl
        walk_at "rds"
        refine ⟨us', hD, ?_, by omega, s7⟩
        rw [etk, List.filterMap_append, show List.filterMap id [(none : Option PyData)] = [] from rfl, List.append_nil]
        exact hP
      | some d =>
        obtain ⟨ds, rfl⟩ := faults_tup (List.mem_of_getElem? ho) rfl
        obtain ⟨bb, rfl⟩ : ∃ bb, v = .ref bb := by
          have td7 : TD H' v (.tuple ds) := td7
          cases td7
          exact ⟨_, rfl⟩
        walk_at "rds"
        have tk : TupK H' (upd H' D (.lst (us' ++ [.ref bb]))) := tupK_upd fun xs e => by rw [hD] at e; cases e
        refine ⟨us', hD, by omega, us' ++ [.ref bb], upd_same, ?_, by rw [List.length_append]; show _ + 1 ≤ _; omega, fun c o hc => by rw [upd_ne (ne_of_none hc nD)]; exact s7 _ _ hc⟩
        rw [etk, List.filterMap_append, show List.filterMap id [some (PyData.tuple ds)] = [.tuple ds] from rfl]
        exact (hP.mono tk).append (.cons (td7.mono tk) .nil)
    · rintro H' ⟨us', hD, hP, hl, s7⟩
      exact q D us' H' (s06.trans s7) hD hP
end
end Mus

set_option maxRecDepth 100000
set_option maxHeartbeats 4000000
namespace Mus
open PySem L2
local macro_rules | `(tactic| walk_at "rd") => `(tactic| first
  | refine ⟨_, rfl, ?_⟩ | refine ⟨(True.intro : True), ?_⟩
  | refine ⟨_, _, rfl, rfl, (⟨by decide, by decide, by decide⟩ : CPow _ _), ?_⟩
  | refine ⟨_, _, rfl, rfl, (⟨by decide, by decide⟩ : CDiv _ _), ?_⟩
  | refine ⟨_, _, rfl, rfl, (by show (0 : Int) < _; decide), ?_⟩
  | refine ⟨_, _, rfl, rfl, ?_⟩ | refine ⟨rfl, ?_⟩ | refine iteT ?_ | refine iteF ?_ | refine ⟨_, _, rfl, ?_⟩ | refine .inl ⟨_, rfl, ?_⟩
  | refine ⟨_, _, _, _, _, rfl, (by assumption), (by assumption), (by assumption), rfl, ?_⟩ | refine ⟨_, _, _, _, rfl, rfl, SqT.of (by assumption), rfl, ?_⟩ | refine ⟨_, _, rfl, SqT.of (by assumption), rfl, ?_⟩
  | refine ⟨_, _, _, _, _, rfl, .ty _, Rp.ty (by assumption), kit_int _, ?_⟩ | refine ⟨_, _, _, _, _, rfl, .ty _, Rp.ty (by assumption), kit_bool _, ?_⟩
  | refine ⟨_, _, _, _, _, rfl, .ty _, Rp.ty (by assumption), kit_str _, ?_⟩ | refine ⟨_, _, _, _, _, rfl, .ty _, Rp.ty (by assumption), kit_tup _, ?_⟩)
local macro_rules | `(tactic| walk_at "cal") => `(tactic| first
  | refine ⟨_, _, _, _, _, rfl, (by assumption), ?_⟩ | refine ⟨_, _, _, _, _, rfl, (by assumption), (by assumption), ?_⟩)
local macro_rules | `(tactic| walk_at "sq") => `(tactic| first
  | refine ⟨_, _, rfl, Or.inr (SqT.of (by assumption)), ?_⟩ | refine ⟨_, _, _, _, rfl, rfl, SqT.of (by assumption), rfl, ?_⟩)
local macro_rules | `(tactic| walk_at "rds") => `(tactic| repeat first | walk_at "rd" | walk_at "cal" | walk_at "sq")
local macro_rules | `(tactic| walk_at "ze") => `(tactic| repeat first
  | exact zes_nil | exact ze_bl | exact ze_str | exact ze_non | apply zes_cons | apply ze_tup | apply ze_lst | apply ze_cat | exact di_c | exact di_v rfl | apply di_opC | apply di_op | apply di_neg | apply ze_i | (refine (⟨?_, ?_, ?_⟩ : CPow _ _) <;> decide) | exact Nat.le_of_ble_eq_true rfl | exact ze_varD rfl (by assumption))
local macro_rules | `(tactic| walk_at "rdz") => `(tactic| repeat (fail_if_success (first | show tLst _ _ _ _ | show tAsg (tLst _) _ _ _ _ | show tSeq (tAsg (tLst _) _) _ _ _ _)); first | walk_at "rd" | walk_at "cal" | walk_at "sq")
theorem cutTo (xs : List V) (n : Nat) : cutV xs none (some (n : Int)) = xs.take n := by
  unfold cutV
  rw [HT.sIx_nat]
  show (xs.drop 0).take (min n xs.length - 0) = _
  rw [List.drop_zero, Nat.sub_zero]
  rcases Nat.le_total n xs.length with h | h
  · rw [Nat.min_eq_left h]
  · rw [Nat.min_eq_right h, List.take_length, List.take_of_length_le h]
/-- the events before k, and the rest of a call -/
def sp_vof : Sp := fun vs H Q _ => ∃ (a : Addr) (us : List V) (es : List Ev) (k : Nat) (mv : V) (d : PyData) (mo : Option Mem), vs = [.ref a, .int (k : Nat), mv] ∧ H a = some (.lst us) ∧ TDs H us (es.map eE) ∧ es.length ≤ 30 ∧ k ≤ es.length ∧ TD H mv d ∧ SeqAt.shaped d = true ∧ (∀ m', PyData.eqv (eM m') d = decide (mo = some m')) ∧
  ∀ v H', Same H H' → TD H' v (oVd (mo.bind fun m => vwOf m (es.take k))) → Q v H'
def sp_log : Sp := fun vs H Q _ => ∃ (a : Addr) (us : List V) (es : List Ev) (k : Nat) (mv vv : V) (m : Mem) (vid : Vid), vs = [.ref a, .int (k : Nat), mv, vv] ∧ H a = some (.lst us) ∧ TDs H us (es.map eE) ∧ es.length ≤ 30 ∧ k ≤ es.length ∧ TD H mv (eM m) ∧ TD H vv (eV vid) ∧
  ∀ l vs' H', Same H H' → H l = none → H' l = some (.lst vs') → TDs H' vs' ((logOf m vid (es.take k)).map eG) → Q (.ref l) H'
section
variable {P : Program} {w : World} {K : PySem.W.Frag} {mg : Str → Option Value} {base : Heap}
abbrev s__law_view_of : Stmt := top 10
abbrev N__law_view_of : List Str := ["events", "k", "member", "found", "event"]
abbrev P__law_view_of : List Str := ["events", "k", "member"]
theorem sc__law_view_of : FnScope N__law_view_of P__law_view_of (defScope s__law_view_of) := ⟨rfl, rfl, rfl, by decide +kernel, rfl, by decide +kernel, by decide +kernel⟩
theorem ok__law_view_of {f : Addr} {fd : FuncData} (T : Tx mg) (F : Fun K "_law_view_of" "_law_view_of" s__law_view_of f fd) : FnOk P w K mg base CX0 (1) f fd P__law_view_of (sp_vof) := by
  have nd := sc__law_view_of.nd
  refine F.ok sc__law_view_of (fun vs H Q E h => ?_) (fun cdv A outer s H vs Q E hr h => ?_)
  · obtain ⟨_, _, _, _, _, _, _, rfl, _⟩ := h
    rfl
  · obtain ⟨a, us, es, k, mv, d, mo, rfl, ha, hr0, hlen, hk, hm, hsh, hmo, q⟩ := h
    have hs := sl
    refine ⟨_, (pss_cons (ps_set (i := 3) nd rfl (Or.inl rfl) pe_non)
      (pss_cons (ps_for PassesOwn.never rfl (pi_list (pe_slice sl_list (pv 0) po_none (po_some (pv 1)))) (pg_name (i := 4) nd rfl (Or.inl rfl))
        (pss_one (ps_if (PW.pt (pw_and (pt_cmpR op_eq (pe_ix ix_tup (pv 4) pe_int (fun _ _ => rfl)) pe_str (nomark _)) (pw_and1 (pt_cmpR (op_eqD hr.units) (pe_ix ix_tup (pv 4) pe_int (fun _ _ => rfl)) (pv 2) (nomark _)))))
          (pss_one (ps_set (i := 3) nd rfl (Or.inl rfl) (pe_ix ix_tup (pv 4) pe_int (fun _ _ => rfl))))
          pss_nil)))
      (pss_one (ps_ret (pv 3))))), ?_⟩
    walk_at "rds"
    refine ⟨a, us, rfl, SqL.of ha, fun A nA => ?_⟩
    rw [cutTo]
    have sA := same_new nA (.lst (us.take k))
    have hA : (upd H A (.lst (us.take k))) A = some (.lst (us.take k)) := upd_same
    have rA : TDs (upd H A (.lst (us.take k))) (us.take k) ((es.take k).map eE) := by
      have := hr0.mono (TupK.of sA)
      rw [List.map_take]
      exact this.take k
    have lA := rA.length
    rw [List.length_map] at lA
    have hmA := hm.same sA
    generalize upd H A (.lst (us.take k)) = HA at *
    refine ⟨A, rfl, ⟨_, SqL.of hA⟩, for_list (K := K) (a := A) (xs := us.take k) (fun i σ H' => ∃ (fv : V) (x4 : Option V), σ = [some (.ref a), some (.int (k : Nat)), some mv, some fv, x4] ∧ Same HA H' ∧ TD H' fv (oVd (mo.bind fun m => vwOf m ((es.take k).take i)))) ?_ ?_ ?_ ?_⟩
    · refine ⟨_, _, rfl, Same.refl _, ?_⟩
      rw [List.take_zero]
      cases mo <;> exact .non
    · rintro i σ H' _ ⟨_, _, rfl, s2, _⟩
      exact SqL.of (s2 _ _ hA)
    · rintro i v σ H1 hx ⟨fv, x4, rfl, s2, hf⟩
      obtain ⟨e, he, td0⟩ := rA.map_at hx
      have td := td0.same s2
      have tk := take_snoc he
      have hm1 := hmA.same s2
      have other : (∀ m o, vwS m o e = o) → TD H1 fv (oVd (mo.bind fun m => vwOf m ((es.take k).take (i + 1)))) := fun h => by
        have ev : (mo.bind fun m => vwOf m ((es.take k).take (i + 1))) = mo.bind fun m => vwOf m ((es.take k).take i) := by
          rw [tk]
          cases mo with
          | none => rfl
          | some m => show vwOf m _ = vwOf m _; rw [vwOf_snoc, h]
        rw [ev]
        exact hf
      cases e with
      | cr t n =>
        obtain ⟨b, rfl, hb⟩ := td.ecr
        walk_at "rds"
        exact ⟨s2, other fun _ _ => rfl⟩
      | ct t m vid j p =>
        obtain ⟨b, x, y, rfl, hb, hx1, hy1⟩ := td.ect
        walk_at "rds"
        exact ⟨s2, other fun _ _ => rfl⟩
      | dl t m vid g =>
        obtain ⟨b, x, y, z, rfl, hb, hx1, hy1, hz1⟩ := td.edl
        walk_at "rds"
        exact ⟨s2, other fun _ _ => rfl⟩
      | vw t m vid ms =>
        obtain ⟨b, x, y, z, rfl, hb, hx1, hy1, hz1⟩ := td.evw
        walk_at "rds"
        refine ⟨eM m, d, hx1.dp, hm1.dp, (eM_lay m).2.2, hsh, ?_⟩
        rw [hmo]
        refine ⟨_, rfl, iB (fun h => ?_) (fun h => ?_)⟩
        · have h := of_decide_eq_true h
          walk_at "rds"
          refine ⟨s2, ?_⟩
          rw [h, tk]
          show TD H1 y (oVd (vwOf m _))
          rw [vwOf_vw, if_pos rfl]
          exact hy1
        · have h := of_decide_eq_false h
          walk_at "rds"
          have ev : (mo.bind fun m => vwOf m ((es.take k).take (i + 1))) = mo.bind fun m => vwOf m ((es.take k).take i) := by
            rw [tk]
            cases mo with
            | none => rfl
            | some m' => show vwOf m' _ = vwOf m' _; rw [vwOf_vw, if_neg (fun z => h (by rw [z]))]
          rw [ev]
          exact ⟨s2, hf⟩
    · rintro σ H1 ⟨fv, x4, rfl, s2, hf⟩
      rw [lA, List.take_length] at hf
      walk_at "rds"
      exact q _ _ (sA.trans s2) hf
abbrev s__law_log : Stmt := top 11
abbrev N__law_log : List Str := ["events", "k", "member", "view_id", "event"]
abbrev P__law_log : List Str := ["events", "k", "member", "view_id"]
theorem sc__law_log : FnScope N__law_log P__law_log (defScope s__law_log) := ⟨rfl, rfl, rfl, by decide +kernel, rfl, by decide +kernel, by decide +kernel⟩
theorem ok__law_log {f : Addr} {fd : FuncData} (T : Tx mg) (F : Fun K "_law_log" "_law_log" s__law_log f fd) : FnOk P w K mg base CX0 (1) f fd P__law_log (sp_log) := by
  have nd := sc__law_log.nd
  refine F.ok sc__law_log (fun vs H Q E h => ?_) (fun cdv A outer s H vs Q E hr h => ?_)
  · obtain ⟨_, _, _, _, _, _, _, _, rfl, _⟩ := h
    rfl
  · obtain ⟨a, us, es, k, mv, vv, m, vid, rfl, ha, hr0, hlen, hk, hm, hv, q⟩ := h
    have hs := sl
    refine ⟨_, (pss_one (ps_ret (pe_lcX (own := [("event", 4)]) rfl nd (pi_list (pe_slice sl_list (pv 0) po_none (po_some (pv 1)))) (blkOk_by (own := [("event", 4)]) (N := N__law_log) (sc := defScope s__law_log) (by decide +kernel)) (fun _ _ _ _ _ => (pg_name (i := 4) nd rfl (Or.inl rfl))) (fun _ _ _ _ _ => (pts_one (PW.pt (pw_and (pt_cmpR op_eq (pe_ix ix_tup (pv 4) pe_int (fun _ _ => rfl)) pe_str (nomark _)) (pw_and (pt_cmpR (op_eqD hr.units) (pe_ix ix_tup (pv 4) pe_int (fun _ _ => rfl)) (pv 2) (nomark _)) (pw_and1 (pt_cmpR (op_eqD hr.units) (pe_ix ix_tup (pv 4) pe_int (fun _ _ => rfl)) (pv 3) (nomark _)))))))) (fun _ _ _ _ _ => (pe_ix ix_tup (pv 4) pe_int (fun _ _ => rfl)))))), ?_⟩
    walk_at "rds"
    refine ⟨a, us, rfl, SqL.of ha, fun A nA => ?_⟩
    rw [cutTo]
    have sA := same_new nA (.lst (us.take k))
    have hA : (upd H A (.lst (us.take k))) A = some (.lst (us.take k)) := upd_same
    have rA : TDs (upd H A (.lst (us.take k))) (us.take k) ((es.take k).map eE) := by
      have := hr0.mono (TupK.of sA)
      rw [List.map_take]
      exact this.take k
    have lA := rA.length
    rw [List.length_map] at lA
    have hmA := hm.same sA
    have hvA := hv.same sA
    generalize upd H A (.lst (us.take k)) = HA at *
    refine ⟨A, rfl, ⟨_, SqL.of hA⟩, fun D nD => ?_⟩
    refine lc_list (K := K) (a := A) (xs := us.take k) (fun i H' => ∃ vs, H' D = some (.lst vs) ∧ TDs H' vs ((logOf m vid ((es.take k).take i)).map eG) ∧ vs.length ≤ i ∧ Same HA H') ?_ ?_ ?_ ?_
    · exact ⟨[], upd_same, by rw [List.take_zero]; exact .nil, Nat.le_refl _, same_new nD _⟩
    · rintro i H' _ ⟨_, _, _, _, s7⟩
      exact SqL.of (s7 _ _ hA)
    · rintro i v H1 hx ⟨vs, hD, hP, hl, s7⟩
      obtain ⟨e, he, td0⟩ := rA.map_at hx
      have td := td0.same s7
      have tk := take_snoc he
      have hm1 := hmA.same s7
      have hv1 := hvA.same s7
      have hi : i < (us.take k).length := (List.getElem?_eq_some_iff.mp hx).1
      have lt := List.length_take_le k es
      refine ⟨rfl, ?_⟩
      have other : dlS m vid e = none → ∃ vs, H1 D = some (.lst vs) ∧ TDs H1 vs ((logOf m vid ((es.take k).take (i + 1))).map eG) ∧ vs.length ≤ i + 1 ∧ Same HA H1 := fun h => by
        refine ⟨vs, hD, ?_, by omega, s7⟩
        rw [tk, logOf_snoc, h]
        exact (List.append_nil _).symm ▸ hP
      cases e with
      | cr t n =>
        obtain ⟨b, rfl, hb⟩ := td.ecr
        walk_at "rds"
        exact other rfl
      | ct t m vid j p =>
        obtain ⟨b, x, y, rfl, hb, hx1, hy1⟩ := td.ect
        walk_at "rds"
        exact other rfl
      | vw t m vid ms =>
        obtain ⟨b, x, y, z, rfl, hb, hx1, hy1, hz1⟩ := td.evw
        walk_at "rds"
        exact other rfl
      | dl t m' v' g =>
        obtain ⟨b, x, y, z, rfl, hb, hx1, hy1, hz1⟩ := td.edl
        walk_at "rds"
        refine ⟨eM m', eM m, hx1.dp, hm1.dp, (eM_lay m').2.2, (eM_lay m).2.2, ?_⟩
        rw [eM_eqv]
        refine ⟨_, rfl, iB (fun h => ?_) (fun h => ?_)⟩
        · have h := of_decide_eq_true h
          walk_at "rds"
          refine ⟨eV v', eV vid, hy1.dp, hv1.dp, (eV_lay v').2.2, (eV_lay vid).2.2, ?_⟩
          rw [eV_eqv]
          refine ⟨_, rfl, iB (fun h2 => ?_) (fun h2 => ?_)⟩
          · have h2 := of_decide_eq_true h2
            have e0 : dlS m vid (.dl t m' v' g) = some g := if_pos ⟨h, h2⟩
            walk_at "rds"
            have tkk : TupK H1 (upd H1 D (.lst (vs ++ [z]))) := tupK_upd fun xs e => by rw [hD] at e; cases e
            have fD : HA D = none := nD
            refine ⟨vs, hD, by omega, vs ++ [z], upd_same, ?_, by rw [List.length_append]; show _ + 1 ≤ _; omega, fun c o hc => by rw [upd_ne (ne_of_none hc fD)]; exact s7 _ _ hc⟩
            rw [tk, logOf_snoc, e0, List.map_append]
            exact (hP.mono tkk).append (.cons (hz1.mono tkk) .nil)
          · have h2 := of_decide_eq_false h2
            walk_at "rds"
            exact other (if_neg fun z => h2 z.2)
        · have h := of_decide_eq_false h
          walk_at "rds"
          exact other (if_neg fun z => h z.1)
    · rintro H1 ⟨vs, hD, hP, hl, s7⟩
      rw [lA, List.take_length] at hP
      refine q D vs H1 (sA.trans s7) ?_ hD hP
      cases e : H D with
      | none => rfl
      | some o => rw [sA _ _ e] at nD; cases nD
end
end Mus

set_option maxRecDepth 100000
set_option maxHeartbeats 4000000
namespace Mus
open PySem L2
local macro_rules | `(tactic| walk_at "rd") => `(tactic| first
  | refine ⟨_, rfl, ?_⟩ | refine ⟨(True.intro : True), ?_⟩
  | refine ⟨_, _, rfl, rfl, (⟨by decide, by decide, by decide⟩ : CPow _ _), ?_⟩
  | refine ⟨_, _, rfl, rfl, (⟨by decide, by decide⟩ : CDiv _ _), ?_⟩
  | refine ⟨_, _, rfl, rfl, (by show (0 : Int) < _; decide), ?_⟩
  | refine ⟨_, _, rfl, rfl, ?_⟩ | refine ⟨rfl, ?_⟩ | refine iteT ?_ | refine iteF ?_ | refine ⟨_, _, rfl, ?_⟩ | refine .inl ⟨_, rfl, ?_⟩
  | refine ⟨_, _, _, _, _, rfl, (by assumption), (by assumption), (by assumption), rfl, ?_⟩ | refine ⟨_, _, _, _, rfl, rfl, SqT.of (by assumption), rfl, ?_⟩ | refine ⟨_, _, rfl, SqT.of (by assumption), rfl, ?_⟩
  | refine ⟨_, _, _, _, _, rfl, .ty _, Rp.ty (by assumption), kit_int _, ?_⟩ | refine ⟨_, _, _, _, _, rfl, .ty _, Rp.ty (by assumption), kit_bool _, ?_⟩
  | refine ⟨_, _, _, _, _, rfl, .ty _, Rp.ty (by assumption), kit_str _, ?_⟩ | refine ⟨_, _, _, _, _, rfl, .ty _, Rp.ty (by assumption), kit_tup _, ?_⟩)
local macro_rules | `(tactic| walk_at "cal") => `(tactic| first
  | refine ⟨_, _, _, _, _, rfl, (by assumption), ?_⟩ | refine ⟨_, _, _, _, _, rfl, (by assumption), (by assumption), ?_⟩)
local macro_rules | `(tactic| walk_at "sq") => `(tactic| first
  | refine ⟨_, _, rfl, Or.inr (SqT.of (by assumption)), ?_⟩ | refine ⟨_, _, _, _, rfl, rfl, SqT.of (by assumption), rfl, ?_⟩)
local macro_rules | `(tactic| walk_at "rds") => `(tactic| repeat first | walk_at "rd" | walk_at "cal" | walk_at "sq")
local macro_rules | `(tactic| walk_at "ze") => `(tactic| repeat first
  | exact zes_nil | exact ze_bl | exact ze_str | exact ze_non | apply zes_cons | apply ze_tup | apply ze_lst | apply ze_cat | exact di_c | exact di_v rfl | apply di_opC | apply di_op | apply di_neg | apply ze_i | (refine (⟨?_, ?_, ?_⟩ : CPow _ _) <;> decide) | exact Nat.le_of_ble_eq_true rfl | exact ze_varD rfl (by assumption))
local macro_rules | `(tactic| walk_at "rdz") => `(tactic| repeat (fail_if_success (first | show tLst _ _ _ _ | show tAsg (tLst _) _ _ _ _ | show tSeq (tAsg (tLst _) _) _ _ _ _)); first | walk_at "rd" | walk_at "cal" | walk_at "sq")
section
variable {P : Program} {w : World} {K : PySem.W.Frag} {mg : Str → Option Value} {base : Heap}
abbrev s__law_views : Stmt := top 13
abbrev N__law_views : List Str := ["events", "k", "member", "view_id", "members", "other", "old"]
abbrev P__law_views : List Str := ["events"]
theorem sc__law_views : FnScope N__law_views P__law_views (defScope s__law_views) := ⟨rfl, rfl, rfl, by decide +kernel, rfl, by decide +kernel, by decide +kernel⟩
theorem ok__law_views {f : Addr} {fd : FuncData} (T : Tx mg) (c__law_view_of : DefOk P w K mg base CX0 "_law_view_of" P__law_view_of 1 (sp_vof))(F : Fun K "_law_views" "_law_views" s__law_views f fd) : FnOk P w K mg base CX0 (2) f fd P__law_views (sp_fault fun es => firstF fView [] es) := by
  have nd := sc__law_views.nd
  refine F.ok sc__law_views (fun vs H Q E h => ?_) (fun cdv A outer s H vs Q E hr h => ?_)
  · obtain ⟨_, _, _, rfl, _⟩ := h
    rfl
  · obtain ⟨a, us, es, rfl, ha, hr0, hok, hlen, q⟩ := h
    have hs := sl
    refine ⟨_, (pss_cons (ps_for PassesOwn.never rfl (pi_range1 (by rfl) T.b_range (pa_cons (pe_callB call_len_seq (by rfl) T.b_len (by decide +kernel) (pa_cons (pv 0) pa_nil)) pa_nil)) (pg_name (i := 1) nd rfl (Or.inl rfl))
        (pss_cons (ps_if (pt_cmpR op_ne (pe_ix ix_tup (pe_ix ix_list (pv 0) (pv 1) (fun _ _ => rfl)) pe_int (fun _ _ => rfl)) pe_str (nomark _))
          (pss_one ps_continue)
          pss_nil)
        (pss_cons (ps_par3 (i := 2) (j := 3) (l := 4) rfl nd rfl rfl rfl (by decide) (by decide) (by decide) rfl rfl rfl (pa_cons (pe_ix ix_tup (pe_ix ix_list (pv 0) (pv 1) (fun _ _ => rfl)) pe_int (fun _ _ => rfl)) (pa_cons (pe_ix ix_tup (pe_ix ix_list (pv 0) (pv 1) (fun _ _ => rfl)) pe_int (fun _ _ => rfl)) (pa_cons (pe_ix ix_tup (pe_ix ix_list (pv 0) (pv 1) (fun _ _ => rfl)) pe_int (fun _ _ => rfl)) pa_nil))) rfl)
        (pss_cons (ps_if (pt_cmpR (op_notInDD hr.units) (pv 2) (pv 4) (by rfl))
          (pss_one (ps_ret (pe_tup (pa_cons pe_str (pa_cons (pv 2) (pa_cons (pv 3) pa_nil))))))
          pss_nil)
        (pss_cons (ps_for PassesOwn.never rfl (pi_list (pe_slice sl_list (pv 0) po_none (po_some (pv 1)))) (pg_name (i := 5) nd rfl (Or.inl rfl))
          (pss_one (ps_if (PW.pt (pw_and (pt_cmpR op_eq (pe_ix ix_tup (pv 5) pe_int (fun _ _ => rfl)) pe_str (nomark _)) (pw_and (pt_cmpR (op_eqD hr.units) (pe_ix ix_tup (pv 5) pe_int (fun _ _ => rfl)) (pv 3) (nomark _)) (pw_and1 (pt_cmpR (op_neD hr.units) (pe_ix ix_tup (pv 5) pe_int (fun _ _ => rfl)) (pv 4) (nomark _))))))
            (pss_one (ps_ret (pe_tup (pa_cons pe_str (pa_cons (pv 2) (pa_cons (pv 3) pa_nil))))))
            pss_nil)))
        (pss_cons (ps_set (i := 6) nd rfl (Or.inl rfl) (pcall c__law_view_of hr (pa_cons (pv 0) (pa_cons (pv 1) (pa_cons (pv 2) pa_nil)))))
        (pss_one (ps_if (PW.pt (pw_and (pt_cmpR op_notN (pv 6) pe_non (nomark _)) (pw_and1 (pt_cmpR op_le (pe_ix ix_tup (pv 3) pe_int (fun _ _ => rfl)) (pe_ix ix_tup (pv 6) pe_int (fun _ _ => rfl)) (nomark _)))))
          (pss_one (ps_ret (pe_tup (pa_cons pe_str (pa_cons (pv 2) (pa_cons (pv 3) pa_nil))))))
          pss_nil))))))))
      (pss_one (ps_ret pe_non))), ?_⟩
    have lx := hr0.length
    rw [List.length_map] at lx
    refine ⟨_, rfl, a, us, rfl, .inl (SqL.of ha), _, rfl, by omega, by omega, for_range (lo := 0) (n := ((us.length : Nat) : Int).toNat) (fun i σ H' => ∃ (x1 x2 x3 x4 x5 x6 : Option V), σ = [some (.ref a), x1, x2, x3, x4, x5, x6] ∧ Same H H' ∧ firstF fView (es.take i) (es.drop i) = firstF fView [] es) ?_ ?_ ?_⟩
    · exact ⟨_, _, _, _, _, _, rfl, Same.refl _, rfl⟩
    · rintro i σ H1 hi ⟨x1, x2, x3, x4, x5, x6, rfl, s1, hF⟩
      rw [Int.toNat_natCast] at hi
      rw [Int.zero_add]
      obtain ⟨v, hv⟩ : ∃ v, us[i]? = some v := ⟨_, List.getElem?_eq_getElem hi⟩
      obtain ⟨e, he, td0⟩ := hr0.map_at hv
      have td := td0.same s1
      have ha1 := s1 _ _ ha
      have hai : atI us (i : Nat) = some v := at_int (by omega) (by rw [Int.toNat_natCast]; exact hv)
      rw [firstF_at he] at hF
      have tk := take_snoc he
      have ie : i ≤ es.length := by omega
      cases e with
      | cr t n =>
        obtain ⟨b, rfl, hb⟩ := td.ecr
        walk_at "rds"
        refine ⟨a, us, _, _, rfl, rfl, SqL.of ha1, hai, ?_⟩
        walk_at "rds"
        exact ⟨_, _, _, _, _, _, rfl, s1, hF⟩
      | ct t m vid j p =>
        obtain ⟨b, x, y, rfl, hb, hx1, hy1⟩ := td.ect
        walk_at "rds"
        refine ⟨a, us, _, _, rfl, rfl, SqL.of ha1, hai, ?_⟩
        walk_at "rds"
        exact ⟨_, _, _, _, _, _, rfl, s1, hF⟩
      | dl t m vid g =>
        obtain ⟨b, x, y, z, rfl, hb, hx1, hy1, hz1⟩ := td.edl
        walk_at "rds"
        refine ⟨a, us, _, _, rfl, rfl, SqL.of ha1, hai, ?_⟩
        walk_at "rds"
        exact ⟨_, _, _, _, _, _, rfl, s1, hF⟩
      | vw t m vid ms =>
        obtain ⟨b, x, y, z, rfl, hb, hx1, hy1, hz1⟩ := td.evw
        walk_at "rds"
        refine ⟨a, us, _, _, rfl, rfl, SqL.of ha1, hai, ?_⟩
        walk_at "rds"
        refine ⟨a, us, _, _, rfl, rfl, SqL.of ha1, hai, ?_⟩
        walk_at "rds"
        refine ⟨a, us, _, _, rfl, rfl, SqL.of ha1, hai, ?_⟩
        walk_at "rds"
        refine ⟨a, us, _, _, rfl, rfl, SqL.of ha1, hai, ?_⟩
        walk_at "rds"
        refine ⟨x, y, z, rfl, ?_⟩
        have fin : ∀ (X : PyData) (H' : Hp) (v : V), fView (es.take i) (.vw t m vid ms) = some X → Same H H' → TD H' v X → Q v H' := fun X H' v e s h => by
          rw [e] at hF
          have hF : some X = firstF fView [] es := hF
          have q1 : TD H' v ((firstF fView [] es).getD .none) → Q v H' := q v H' s
          rw [← hF] at q1
          exact q1 h
        walk_at "rds"
        refine rd_notInMs hx1 hz1 ?_
        refine ⟨_, rfl, iB (fun hm => ?_) (fun hm => ?_)⟩
        · walk_at "rds"
          refine ⟨by show 3 ≤ sizeLine; omega, fun t2 nt2 => ?_⟩
          refine fin _ _ _ ?_ (s1.trans (same_new nt2 _)) (td3 nt2 hx1 hy1)
          have hm : m ∉ ms := by simpa using hm
          rw [fView_vw, if_pos hm]
        · have hm : m ∈ ms := by simpa using hm
          walk_at "rds"
          refine ⟨a, us, rfl, SqL.of ha1, fun A nA => ?_⟩
          rw [cutTo]
          have sA := same_new nA (.lst (us.take i))
          have hA : (upd H1 A (.lst (us.take i))) A = some (.lst (us.take i)) := upd_same
          have rA : TDs (upd H1 A (.lst (us.take i))) (us.take i) ((es.take i).map eE) := by
            have := hr0.mono (TupK.of (s1.trans sA))
            rw [List.map_take]
            exact this.take i
          have lA := rA.length
          rw [List.length_map] at lA
          have s2 := s1.trans sA
          have hxA := hx1.same sA
          have hyA := hy1.same sA
          have hzA := hz1.same sA
          generalize upd H1 A (.lst (us.take i)) = HA at *
          refine ⟨A, rfl, ⟨_, SqL.of hA⟩, for_list (K := K) (a := A) (xs := us.take i) (fun j σ H' => ∃ x5 : Option V, σ = [some (.ref a), some (.int (i : Nat)), some x, some y, some z, x5, x6] ∧ H' = HA ∧ ((es.take i).take j).any (othB vid ms) = false) ?_ ?_ ?_ ?_⟩
          · exact ⟨_, rfl, rfl, rfl⟩
          · rintro j σ H' _ ⟨_, rfl, rfl, _⟩
            exact SqL.of hA
          · rintro j v σ H' hxj ⟨x5', rfl, rfl, hany⟩
            obtain ⟨e, he2, td2⟩ := rA.map_at hxj
            have tk2 := take_snoc he2
            have other : othB vid ms e = false → ((es.take i).take (j + 1)).any (othB vid ms) = false := fun h => by
              rw [tk2, any_snoc, hany, h]; rfl
            cases e with
            | cr t n =>
              obtain ⟨b, rfl, hb⟩ := td2.ecr
              walk_at "rds"
              exact other rfl
            | ct t' m' vid' j p =>
              obtain ⟨b, x, y, rfl, hb, hx1, hy1⟩ := td2.ect
              walk_at "rds"
              exact other rfl
            | dl t' m' vid' g =>
              obtain ⟨b, x, y, z, rfl, hb, hx1, hy1, hz1⟩ := td2.edl
              walk_at "rds"
              exact other rfl
            | vw t' m' v' ms' =>
              obtain ⟨b', x', y', z', rfl, hb', hx', hy', hz'⟩ := td2.evw
              walk_at "rds"
              refine ⟨eV v', eV vid, hy'.dp, hyA.dp, (eV_lay v').2.2, (eV_lay vid).2.2, ?_⟩
              rw [eV_eqv]
              refine ⟨_, rfl, iB (fun h => ?_) (fun h => ?_)⟩
              · have h := of_decide_eq_true h
                walk_at "rds"
                refine ⟨eMs ms', eMs ms, hz'.dp, hzA.dp, eMs_sh _, eMs_sh _, ?_⟩
                rw [eqv_dec (p := ms' = ms) (eMs_pln _) (eMs_pln _) ⟨eMs_inj, fun h => by rw [h]⟩]
                by_cases e : ms' = ms
                · rw [decide_eq_true e]
                  walk_at "rds"
                  exact other (decide_eq_false fun z => z.2 e)
                · rw [decide_eq_false e]
                  walk_at "rds"
                  refine ⟨by show 3 ≤ sizeLine; omega, fun t2 nt2 => ?_⟩
                  refine fin _ _ _ ?_ (s2.trans (same_new nt2 _)) (td3 nt2 hxA hyA)
                  rw [fView_vw, if_neg (fun z => z hm), if_pos]
                  exact List.any_eq_true.mpr ⟨.vw t' m' v' ms', List.mem_of_getElem? he2, (decide_eq_true ⟨h, e⟩ : decide (v' = vid ∧ ms' ≠ ms) = true)⟩
              · have h := of_decide_eq_false h
                walk_at "rds"
                exact other (decide_eq_false fun z => h z.1)
          · rintro σ H' ⟨x5', rfl, rfl, hany⟩
            rw [lA, List.take_length] at hany
            walk_at "rds"
            refine ⟨a, us, es, i, x, eM m, some m, rfl, s2 _ _ ha, hr0.mono (TupK.of s2), hlen, ie, hxA, (eM_lay m).2.2, fun m' => by rw [eM_eqv]; exact decide_eq_decide.mpr ⟨fun h => by rw [h], fun h => (Option.some.inj h).symm⟩, fun ov H3 s3 t3 => ?_⟩
            have t3 : TD H3 ov (oVd (vwOf m (es.take i))) := t3
            have hx3 := hxA.same s3
            have hy3 := hyA.same s3
            obtain ⟨yb, yu, rfl, hyb, _⟩ := hy3.vid
            cases hv : vwOf m (es.take i) with
            | none =>
              rw [hv] at t3
              obtain rfl : ov = .non := by cases t3; rfl
              walk_at "rds"
              have hn : fView (es.take i) (.vw t m vid ms) = none := by
                rw [fView_vw, if_neg (fun z => z hm), if_neg (by rw [hany]; exact Bool.false_ne_true), hv]
              rw [hn] at hF
              exact ⟨_, _, _, _, _, _, rfl, s2.trans s3, hF⟩
            | some old =>
              rw [hv] at t3
              obtain ⟨ob, ou, rfl, hob, _⟩ := (show TD H3 ov (eV old) from t3).vid
              walk_at "rds"
              refine iB (fun h => ?_) (fun h => ?_)
              · have h := of_decide_eq_true h
                walk_at "rds"
                refine ⟨by show 3 ≤ sizeLine; omega, fun t2 nt2 => ?_⟩
                refine fin _ _ _ ?_ ((s2.trans s3).trans (same_new nt2 _)) (td3 nt2 hx3 hy3)
                rw [fView_vw, if_neg (fun z => z hm), if_neg (by rw [hany]; exact Bool.false_ne_true), hv]
                exact if_pos h
              · have h := of_decide_eq_false h
                walk_at "rds"
                have hn : fView (es.take i) (.vw t m vid ms) = none := by
                  rw [fView_vw, if_neg (fun z => z hm), if_neg (by rw [hany]; exact Bool.false_ne_true), hv]
                  exact if_neg h
                rw [hn] at hF
                exact ⟨_, _, _, _, _, _, rfl, s2.trans s3, hF⟩
    · rintro σ H1 ⟨x1, x2, x3, x4, x5, x6, rfl, s1, hF⟩
      have eN : firstF fView [] es = none := by
        rw [← hF, Int.toNat_natCast, lx, List.drop_length]; rfl
      have q1 : TD H1 .non ((firstF fView [] es).getD .none) → Q .non H1 := q .non H1 s1
      rw [eN] at q1
      exact q1 .non
end
end Mus

set_option maxRecDepth 100000
set_option maxHeartbeats 4000000
namespace Mus
open PySem L2
local macro_rules | `(tactic| walk_at "rd") => `(tactic| first
  | refine ⟨_, rfl, ?_⟩ | refine ⟨(True.intro : True), ?_⟩
  | refine ⟨_, _, rfl, rfl, (⟨by decide, by decide, by decide⟩ : CPow _ _), ?_⟩
  | refine ⟨_, _, rfl, rfl, (⟨by decide, by decide⟩ : CDiv _ _), ?_⟩
  | refine ⟨_, _, rfl, rfl, (by show (0 : Int) < _; decide), ?_⟩
  | refine ⟨_, _, rfl, rfl, ?_⟩ | refine ⟨rfl, ?_⟩ | refine iteT ?_ | refine iteF ?_ | refine ⟨_, _, rfl, ?_⟩ | refine .inl ⟨_, rfl, ?_⟩
  | refine ⟨_, _, _, _, _, rfl, (by assumption), (by assumption), (by assumption), rfl, ?_⟩ | refine ⟨_, _, _, _, rfl, rfl, SqT.of (by assumption), rfl, ?_⟩ | refine ⟨_, _, rfl, SqT.of (by assumption), rfl, ?_⟩
  | refine ⟨_, _, _, _, _, rfl, .ty _, Rp.ty (by assumption), kit_int _, ?_⟩ | refine ⟨_, _, _, _, _, rfl, .ty _, Rp.ty (by assumption), kit_bool _, ?_⟩
  | refine ⟨_, _, _, _, _, rfl, .ty _, Rp.ty (by assumption), kit_str _, ?_⟩ | refine ⟨_, _, _, _, _, rfl, .ty _, Rp.ty (by assumption), kit_tup _, ?_⟩)
local macro_rules | `(tactic| walk_at "cal") => `(tactic| first
  | refine ⟨_, _, _, _, _, rfl, (by assumption), ?_⟩ | refine ⟨_, _, _, _, _, rfl, (by assumption), (by assumption), ?_⟩)
local macro_rules | `(tactic| walk_at "sq") => `(tactic| first
  | refine ⟨_, _, rfl, Or.inr (SqT.of (by assumption)), ?_⟩ | refine ⟨_, _, _, _, rfl, rfl, SqT.of (by assumption), rfl, ?_⟩)
local macro_rules | `(tactic| walk_at "rds") => `(tactic| repeat first | walk_at "rd" | walk_at "cal" | walk_at "sq")
local macro_rules | `(tactic| walk_at "ze") => `(tactic| repeat first
  | exact zes_nil | exact ze_bl | exact ze_str | exact ze_non | apply zes_cons | apply ze_tup | apply ze_lst | apply ze_cat | exact di_c | exact di_v rfl | apply di_opC | apply di_op | apply di_neg | apply ze_i | (refine (⟨?_, ?_, ?_⟩ : CPow _ _) <;> decide) | exact Nat.le_of_ble_eq_true rfl | exact ze_varD rfl (by assumption))
local macro_rules | `(tactic| walk_at "rdz") => `(tactic| repeat (fail_if_success (first | show tLst _ _ _ _ | show tAsg (tLst _) _ _ _ _ | show tSeq (tAsg (tLst _) _) _ _ _ _)); first | walk_at "rd" | walk_at "cal" | walk_at "sq")
theorem eCK_sh (x : CK) (h : PyData.strOk x.2.2.2 = true) : SeqAt.shaped (eCK x) = true := by
  refine shaped_of ?_ ?_
  · unfold eCK
    show ((eM x.1).canLay0 && ((eV x.2.1).canLay0 && (true && (PyData.strOk x.2.2.2 && true)))) = true
    rw [(eM_lay x.1).1, (eV_lay x.2.1).1, h]; rfl
  · unfold eCK
    have := (eM_lay x.1).2.1
    have := (eV_lay x.2.1).2.1
    simp only [PyData.depth, PyData.depthAll]
    omega
theorem eCK_inj {a b : CK} (h : eCK a = eCK b) : a = b := kCK_inj a b (congrArg kOf h)
theorem mo_m (m : Mem) : ∀ m', PyData.eqv (eM m') (eM m) = decide (some m = some m') := fun m' => by
  rw [eM_eqv]; exact decide_eq_decide.mpr ⟨fun h => by rw [h], fun h => (Option.some.inj h).symm⟩
section
variable {P : Program} {w : World} {K : PySem.W.Frag} {mg : Str → Option Value} {base : Heap}
abbrev s__law_delivers : Stmt := top 14
abbrev N__law_delivers : List Str := ["events", "k", "member", "view_id", "message", "cast", "log", "other"]
abbrev P__law_delivers : List Str := ["events"]
theorem sc__law_delivers : FnScope N__law_delivers P__law_delivers (defScope s__law_delivers) := ⟨rfl, rfl, rfl, by decide +kernel, rfl, by decide +kernel, by decide +kernel⟩
theorem ok__law_delivers {f : Addr} {fd : FuncData} (T : Tx mg) (c__law_view_of : DefOk P w K mg base CX0 "_law_view_of" P__law_view_of 1 (sp_vof)) (c__law_log : DefOk P w K mg base CX0 "_law_log" P__law_log 1 (sp_log))(F : Fun K "_law_delivers" "_law_delivers" s__law_delivers f fd) : FnOk P w K mg base CX0 (2) f fd P__law_delivers (sp_fault fun es => firstF fDel [] es) := by
  have nd := sc__law_delivers.nd
  refine F.ok sc__law_delivers (fun vs H Q E h => ?_) (fun cdv A outer s H vs Q E hr h => ?_)
  · obtain ⟨_, _, _, rfl, _⟩ := h
    rfl
  · obtain ⟨a, us, es, rfl, ha, hr0, hok, hlen, q⟩ := h
    have hs := sl
    refine ⟨_, (pss_cons (ps_for PassesOwn.never rfl (pi_range1 (by rfl) T.b_range (pa_cons (pe_callB call_len_seq (by rfl) T.b_len (by decide +kernel) (pa_cons (pv 0) pa_nil)) pa_nil)) (pg_name (i := 1) nd rfl (Or.inl rfl))
        (pss_cons (ps_if (pt_cmpR op_ne (pe_ix ix_tup (pe_ix ix_list (pv 0) (pv 1) (fun _ _ => rfl)) pe_int (fun _ _ => rfl)) pe_str (nomark _))
          (pss_one ps_continue)
          pss_nil)
        (pss_cons (ps_asg (pe_tup (pa_cons (pe_ix ix_tup (pe_ix ix_list (pv 0) (pv 1) (fun _ _ => rfl)) pe_int (fun _ _ => rfl)) (pa_cons (pe_ix ix_tup (pe_ix ix_list (pv 0) (pv 1) (fun _ _ => rfl)) pe_int (fun _ _ => rfl)) (pa_cons (pe_ix ix_tup (pe_ix ix_list (pv 0) (pv 1) (fun _ _ => rfl)) pe_int (fun _ _ => rfl)) pa_nil)))) (pg_tup (by rfl) (pgs_cons (pg_name (i := 2) nd rfl (Or.inl rfl)) (pgs_cons (pg_name (i := 3) nd rfl (Or.inr rfl)) (pgs_cons (pg_name (i := 4) nd rfl (Or.inr rfl)) pgs_nil)))))
        (pss_cons (ps_if (pt_cmpR (op_neD hr.units) (pcall c__law_view_of hr (pa_cons (pv 0) (pa_cons (pv 1) (pa_cons (pv 2) pa_nil)))) (pv 3) (nomark _))
          (pss_one (ps_ret (pe_tup (pa_cons pe_str (pa_cons (pv 2) (pa_cons (pv 4) pa_nil))))))
          pss_nil)
        (pss_cons (ps_setLcX (i := 5) (own := [("other", 7)]) rfl nd rfl rfl (sw_true rfl rfl rfl (by decide +kernel)) (pi_list (pe_slice sl_list (pv 0) po_none (po_some (pv 1)))) (blkOk_by (own := [("other", 7)]) (N := N__law_delivers) (sc := defScope s__law_delivers) (by decide +kernel)) (fun _ _ _ _ _ => (pg_name (i := 7) nd rfl (Or.inl rfl))) (fun _ _ _ _ _ => (pts_one (PW.pt (pw_and (pt_cmpR op_eq (pe_ix ix_tup (pv 7) pe_int (fun _ _ => rfl)) pe_str (nomark _)) (pw_and1 (pt_cmpR (op_eqD hr.units) (pe_slice sl_tupA (pv 7) (po_some pe_int) po_none) (pe_tup (pa_cons (pe_ix ix_tup (pv 4) pe_int (fun _ _ => rfl)) (pa_cons (pv 3) (pa_cons (pe_ix ix_tup (pv 4) pe_int (fun _ _ => rfl)) (pa_cons (pe_ix ix_tup (pv 4) pe_int (fun _ _ => rfl)) pa_nil))))) (nomark _))))))) (fun _ _ _ _ _ => (pv 7)))
        (pss_cons (ps_if (pt_cmpR op_eq (pe_callB call_len_seq (by rfl) T.b_len (by decide +kernel) (pa_cons (pv 5) pa_nil)) pe_int (nomark _))
          (pss_one (ps_ret (pe_tup (pa_cons pe_str (pa_cons (pv 2) (pa_cons (pv 4) pa_nil))))))
          pss_nil)
        (pss_cons (ps_set (i := 6) nd rfl (Or.inl rfl) (pcall c__law_log hr (pa_cons (pv 0) (pa_cons (pv 1) (pa_cons (pv 2) (pa_cons (pv 3) pa_nil))))))
        (pss_one (ps_if (pt_cmpR op_ne (pe_ix ix_tup (pv 4) pe_int (fun _ _ => rfl)) (pe_op op_add (pe_callB call_len_seq (by rfl) T.b_len (by decide +kernel) (pa_cons (pe_lcX (own := [("other", 7)]) rfl nd (pi_list (pv 6)) (blkOk_by (own := [("other", 7)]) (N := N__law_delivers) (sc := defScope s__law_delivers) (by decide +kernel)) (fun _ _ _ _ _ => (pg_name (i := 7) nd rfl (Or.inl rfl))) (fun _ _ _ _ _ => (pts_one (pt_cmpR (op_eqD hr.units) (pe_ix ix_tup (pv 7) pe_int (fun _ _ => rfl)) (pe_ix ix_tup (pv 4) pe_int (fun _ _ => rfl)) (nomark _)))) (fun _ _ _ _ _ => (pv 7))) pa_nil)) pe_int) (nomark _))
          (pss_one (ps_ret (pe_tup (pa_cons pe_str (pa_cons (pv 2) (pa_cons (pv 4) pa_nil))))))
          pss_nil)))))))))
      (pss_one (ps_ret pe_non))), ?_⟩
    have lx := hr0.length
    rw [List.length_map] at lx
    refine ⟨_, rfl, a, us, rfl, .inl (SqL.of ha), _, rfl, by omega, by omega, for_range (lo := 0) (n := ((us.length : Nat) : Int).toNat) (fun i σ H' => ∃ (x1 x2 x3 x4 x5 x6 x7 : Option V), σ = [some (.ref a), x1, x2, x3, x4, x5, x6, x7] ∧ Same H H' ∧ firstF fDel (es.take i) (es.drop i) = firstF fDel [] es) ?_ ?_ ?_⟩
    · exact ⟨_, _, _, _, _, _, _, rfl, Same.refl _, rfl⟩
    · rintro i σ H1 hi ⟨x1, x2, x3, x4, x5, x6, x7, rfl, s1, hF⟩
      rw [Int.toNat_natCast] at hi
      rw [Int.zero_add]
      obtain ⟨v, hv⟩ : ∃ v, us[i]? = some v := ⟨_, List.getElem?_eq_getElem hi⟩
      obtain ⟨e, he, td0⟩ := hr0.map_at hv
      have td := td0.same s1
      have ha1 := s1 _ _ ha
      have hai : atI us (i : Nat) = some v := at_int (by omega) (by rw [Int.toNat_natCast]; exact hv)
      have heok := hok e (List.mem_of_getElem? he)
      rw [firstF_at he] at hF
      have tk := take_snoc he
      have ie : i ≤ es.length := by omega
      cases e with
      | cr t n =>
        obtain ⟨b, rfl, hb⟩ := td.ecr
        walk_at "rds"
        refine ⟨a, us, _, _, rfl, rfl, SqL.of ha1, hai, ?_⟩
        walk_at "rds"
        exact ⟨_, _, _, _, _, _, _, rfl, s1, hF⟩
      | ct t m vid j p =>
        obtain ⟨b, x, y, rfl, hb, hx1, hy1⟩ := td.ect
        walk_at "rds"
        refine ⟨a, us, _, _, rfl, rfl, SqL.of ha1, hai, ?_⟩
        walk_at "rds"
        exact ⟨_, _, _, _, _, _, _, rfl, s1, hF⟩
      | vw t m vid ms =>
        obtain ⟨b, x, y, z, rfl, hb, hx1, hy1, hz1⟩ := td.evw
        walk_at "rds"
        refine ⟨a, us, _, _, rfl, rfl, SqL.of ha1, hai, ?_⟩
        walk_at "rds"
        exact ⟨_, _, _, _, _, _, _, rfl, s1, hF⟩
      | dl t m vid g =>
        obtain ⟨b, x, y, z, rfl, hb, hx1, hy1, hz1⟩ := td.edl
        obtain ⟨s0, i0, p0⟩ := g
        walk_at "rds"
        refine ⟨a, us, _, _, rfl, rfl, SqL.of ha1, hai, ?_⟩
        walk_at "rds"
        refine ⟨a, us, _, _, rfl, rfl, SqL.of ha1, hai, ?_⟩
        walk_at "rds"
        refine ⟨a, us, _, _, rfl, rfl, SqL.of ha1, hai, ?_⟩
        walk_at "rds"
        refine ⟨a, us, _, _, rfl, rfl, SqL.of ha1, hai, ?_⟩
        walk_at "rds"
        refine ⟨by show 3 ≤ sizeLine; omega, fun t0 nt0 => ?_⟩
        have st0 := same_new nt0 (.tup [x, y, z])
        have htt : (upd H1 t0 (.tup [x, y, z])) t0 = some (.tup [x, y, z]) := upd_same
        have s1 := s1.trans st0
        have ha1 := st0 _ _ ha1
        have hx1 := hx1.same st0
        have hy1 := hy1.same st0
        have hz1 := hz1.same st0
        clear td hb
        generalize upd H1 t0 (.tup [x, y, z]) = H1 at *
        refine ⟨t0, _, rfl, SqT.of htt, rfl, x, _, rfl, y, _, rfl, z, _, rfl, rfl, ?_⟩
        have fin : ∀ (X : PyData) (H' : Hp) (v : V), fDel (es.take i) (.dl t m vid (s0, i0, p0)) = some X → Same H H' → TD H' v X → Q v H' := fun X H' v e s h => by
          rw [e] at hF
          have hF : some X = firstF fDel [] es := hF
          have q1 : TD H' v ((firstF fDel [] es).getD .none) → Q v H' := q v H' s
          rw [← hF] at q1
          exact q1 h
        walk_at "rds"
        refine ⟨a, us, es, i, x, eM m, some m, rfl, ha1, hr0.mono (TupK.of s1), hlen, ie, hx1, (eM_lay m).2.2, mo_m m, fun ov H2 s2 t2 => ?_⟩
        have t2 : TD H2 ov (oVd (vwOf m (es.take i))) := t2
        have hx2 := hx1.same s2
        have hy2 := hy1.same s2
        have hz2 := hz1.same s2
        have ha2 := s2 _ _ ha1
        have s12 := s1.trans s2
        walk_at "rds"
        refine ⟨oVd (vwOf m (es.take i)), eV vid, t2.dp, hy2.dp, oVd_sh _, (eV_lay vid).2.2, ?_⟩
        rw [eqv_dec (p := vwOf m (es.take i) = some vid) (oVd_pln _) (eV_pln _) oVd_eq]
        by_cases hv : vwOf m (es.take i) = some vid
        · rw [decide_eq_true hv]
          walk_at "rds"
          refine ⟨a, us, rfl, SqL.of ha2, fun A nA => ?_⟩
          rw [cutTo]
          have sA := same_new nA (.lst (us.take i))
          have hA : (upd H2 A (.lst (us.take i))) A = some (.lst (us.take i)) := upd_same
          have s3 := s12.trans sA
          have rA : TDs (upd H2 A (.lst (us.take i))) (us.take i) ((es.take i).map eE) := by
            have := hr0.mono (TupK.of s3)
            rw [List.map_take]
            exact this.take i
          have lA := rA.length
          rw [List.length_map] at lA
          have hxA := hx2.same sA
          have hyA := hy2.same sA
          have hzA := hz2.same sA
          generalize upd H2 A (.lst (us.take i)) = HA at *
          obtain ⟨zb, u, rfl, hzb, hu⟩ := hzA.msg
          refine ⟨A, rfl, ⟨_, SqL.of hA⟩, fun D nD => ?_⟩
          refine lc_list (K := K) (a := A) (xs := us.take i) (fun j H' => ∃ vs, H' D = some (.lst vs) ∧ (vs.length = 0 ↔ ((es.take i).take j).any (ctB s0 vid i0 p0) = false) ∧ vs.length ≤ j ∧ Same HA H') ?_ ?_ ?_ ?_
          · exact ⟨[], upd_same, ⟨fun _ => by rw [List.take_zero]; rfl, fun _ => rfl⟩, Nat.le_refl _, same_new nD _⟩
          · rintro i H' _ ⟨_, _, _, _, s7⟩
            exact SqL.of (s7 _ _ hA)
          · rintro j v H3 hxj ⟨vs, hD, hP, hl, s7⟩
            obtain ⟨e, he2, td2⟩ := rA.map_at hxj
            have td3' := td2.same s7
            have tk2 := take_snoc he2
            have hyj := hyA.same s7
            have hzbj := s7 _ _ hzb
            have huj := hu.same s7
            have hj : j < (us.take i).length := (List.getElem?_eq_some_iff.mp hxj).1
            have lt := List.length_take_le i es
            refine ⟨rfl, ?_⟩
            have other : ∀ H', Same H3 H' → ctB s0 vid i0 p0 e = false → ∃ vs, H' D = some (.lst vs) ∧ (vs.length = 0 ↔ ((es.take i).take (j + 1)).any (ctB s0 vid i0 p0) = false) ∧ vs.length ≤ j + 1 ∧ Same HA H' := fun H' s h => by
              refine ⟨vs, s _ _ hD, ?_, by omega, s7.trans s⟩
              rw [tk2, any_snoc, h, Bool.or_false]
              exact hP
            cases e with
            | cr t n =>
              obtain ⟨b, rfl, hb⟩ := td3'.ecr
              walk_at "rds"
              exact other _ (Same.refl _) rfl
            | dl t m vid g =>
              obtain ⟨b, x, y, z, rfl, hb, hx1, hy1, hz1⟩ := td3'.edl
              walk_at "rds"
              exact other _ (Same.refl _) rfl
            | vw t m vid ms =>
              obtain ⟨b, x, y, z, rfl, hb, hx1, hy1, hz1⟩ := td3'.evw
              walk_at "rds"
              exact other _ (Same.refl _) rfl
            | ct t' m' v' i' p' =>
              obtain ⟨b, x', y', rfl, hb, hx', hy'⟩ := td3'.ect
              walk_at "rds"
              have hokc : PyData.strOk p' = true := hok _ (List.mem_of_mem_take (List.mem_of_getElem? he2))
              have hokd : PyData.strOk p0 = true := heok
              refine ⟨b, _, rfl, SqT.of hb, fun z => absurd z.1 (by show ¬ HT.sIx 6 0 (some 2) = 0; decide), fun _ t4 nt4 => ?_⟩
              have ec : cutV [V.str "cast", .int t', x', y', .int i', .str p'] (some 2) none = [x', y', .int i', .str p'] := rfl
              rw [ec]
              have s4 := same_new nt4 (.tup [x', y', .int i', .str p'])
              have d1 : TD (upd H3 t4 (.tup [x', y', .int i', .str p'])) (.ref t4) (eCK (m', v', i', p')) := .tup upd_same (by show 4 ≤ 100000; decide) (.cons (hx'.same s4) (.cons (hy'.same s4) (.cons (.int _) (.cons (.str _) .nil))))
              have hyj := hyj.same s4
              have hzbj := s4 _ _ hzbj
              have huj := huj.same s4
              clear hb hx' hy' td3'
              generalize upd H3 t4 (.tup [x', y', .int i', .str p']) = H4 at *
              walk_at "rds"
              refine ⟨by show 4 ≤ sizeLine; omega, fun t5 nt5 => ?_⟩
              have s5 := same_new nt5 (.tup [u, y, .int i0, .str p0])
              have d2 : TD (upd H4 t5 (.tup [u, y, .int i0, .str p0])) (.ref t5) (eCK (s0, vid, i0, p0)) := .tup upd_same (by show 4 ≤ 100000; decide) (.cons (huj.same s5) (.cons (hyj.same s5) (.cons (.int _) (.cons (.str _) .nil))))
              have d1 := d1.same s5
              have s45 := s4.trans s5
              clear huj hyj hzbj
              generalize upd H4 t5 (.tup [u, y, .int i0, .str p0]) = H5 at *
              refine ⟨eCK (m', v', i', p'), eCK (s0, vid, i0, p0), d1.dp, d2.dp, eCK_sh _ hokc, eCK_sh _ hokd, ?_⟩
              rw [eqv_dec (p := (m', v', i', p') = (s0, vid, i0, p0)) rfl rfl ⟨eCK_inj, fun h => by rw [h]⟩]
              refine ⟨_, rfl, iB (fun h => ?_) (fun h => ?_)⟩
              · have h := of_decide_eq_true h
                have eb : ctB s0 vid i0 p0 (.ct t' m' v' i' p') = true := by
                  injection h with h1 h
                  injection h with h2 h
                  injection h with h3 h4
                  exact decide_eq_true ⟨h1, h2, h3, h4⟩
                walk_at "rds"
                have hD5 := s45 _ _ hD
                refine ⟨vs, hD5, by omega, vs ++ [.ref b], upd_same, ?_, by rw [List.length_append]; show _ + 1 ≤ _; omega, fun c o hc => by rw [upd_ne (ne_of_none hc nD)]; exact (s7.trans s45) _ _ hc⟩
                rw [tk2, any_snoc, eb, Bool.or_true, List.length_append]
                exact ⟨fun z => absurd z (by show ¬ (_ + 1 = 0); omega), fun z => by cases z⟩
              · have h := of_decide_eq_false h
                exact other _ s45 (decide_eq_false fun z => h (by rw [z.1, z.2.1, z.2.2.1, z.2.2.2]))
          · rintro H3 ⟨vs, hD, hP, hl, s7⟩
            rw [lA, List.take_length] at hP
            walk_at "rds"
            refine ⟨D, vs, rfl, .inl (SqL.of hD), ?_⟩
            have hx3 := hxA.same s7
            have hy3 := hyA.same s7
            have hz3 := hzA.same s7
            have hzb3 := s7 _ _ hzb
            have hu3 := hu.same s7
            have s03 := s3.trans s7
            clear hxA hyA hzA hzb hu hA rA s7
            by_cases hc : (es.take i).any (ctB s0 vid i0 p0) = false
            · rw [hP.mpr hc]
              walk_at "rds"
              refine ⟨by show 3 ≤ sizeLine; omega, fun t9 nt9 => ?_⟩
              refine fin _ _ _ ?_ (s03.trans (same_new nt9 _)) (td3 nt9 hx3 hz3)
              rw [fDel_dl, if_neg (fun z => z hv), if_pos hc]
            · have hvs : vs.length ≠ 0 := fun z => hc (hP.mp z)
              walk_at "rds"
              refine iB (fun h => absurd (of_decide_eq_true h) (fun z => hvs (by have := V.int.inj z; omega))) (fun _ => ?_)
              walk_at "rds"
              refine ⟨a, us, es, i, x, y, m, vid, rfl, s03 _ _ ha, hr0.mono (TupK.of s03), hlen, ie, hx3, hy3, fun l vl H6 s6 nl hl6 r6 => ?_⟩
              have hx6 := hx3.same s6
              have hz6 := hz3.same s6
              have hzb6 := s6 _ _ hzb3
              have hu6 := hu3.same s6
              have s06 := s03.trans s6
              have ll := r6.length
              rw [List.length_map] at ll
              have ll30 := logOf_len m vid (es.take i)
              have lt := List.length_take_le i es
              clear hx3 hy3 hz3 hzb3 hu3
              walk_at "rds"
              refine ⟨⟨_, SqL.of hl6⟩, fun D2 nD2 => ?_⟩
              refine lc_list (K := K) (a := l) (xs := vl) (fun j H' => ∃ vs, H' D2 = some (.lst vs) ∧ vs.length = cntM s0 ((logOf m vid (es.take i)).take j) ∧ vs.length ≤ j ∧ Same H6 H') ?_ ?_ ?_ ?_
              · exact ⟨[], upd_same, by rw [List.take_zero]; rfl, Nat.le_refl _, same_new nD2 _⟩
              · rintro j H' _ ⟨_, _, _, _, s7⟩
                exact SqL.of (s7 _ _ hl6)
              · rintro j v H7 hxj ⟨vs7, hD7, hP7, hl7, s7⟩
                obtain ⟨g, hg, tdg⟩ := r6.map_at hxj
                have tdg := tdg.same s7
                have tk3 := take_snoc hg
                obtain ⟨gb, gu, rfl, hgb, hgu⟩ := tdg.msg
                have hzb7 := s7 _ _ hzb6
                have hu7 := hu6.same s7
                have hj : j < vl.length := (List.getElem?_eq_some_iff.mp hxj).1
                refine ⟨rfl, ?_⟩
                walk_at "rds"
                refine ⟨eM g.1, eM s0, hgu.dp, hu7.dp, (eM_lay g.1).2.2, (eM_lay s0).2.2, ?_⟩
                rw [eM_eqv]
                refine ⟨_, rfl, iB (fun h => ?_) (fun h => ?_)⟩
                · have h := of_decide_eq_true h
                  walk_at "rds"
                  refine ⟨vs7, hD7, by omega, vs7 ++ [.ref gb], upd_same, ?_, by rw [List.length_append]; show _ + 1 ≤ _; omega, fun c o hc => by rw [upd_ne (ne_of_none hc nD2)]; exact s7 _ _ hc⟩
                  rw [tk3, cntM_snoc, if_pos h, List.length_append, hP7]; rfl
                · have h := of_decide_eq_false h
                  refine ⟨vs7, hD7, ?_, by omega, s7⟩
                  rw [tk3, cntM_snoc, if_neg h, hP7, Nat.add_zero]
              · rintro H7 ⟨vs7, hD7, hP7, hl7, s7⟩
                rw [ll, List.take_length] at hP7
                have hx7 := hx6.same s7
                have hz7 := hz6.same s7
                refine ⟨D2, vs7, rfl, .inl (SqL.of hD7), ?_⟩
                rw [hP7]
                walk_at "rds"
                by_cases hidx : i0 = (cntM s0 (logOf m vid (es.take i)) : Nat) + 1
                · refine nF (by rw [hidx]) ?_
                  walk_at "rds"
                  have hFn : fDel (es.take i) (.dl t m vid (s0, i0, p0)) = none := by
                    rw [fDel_dl, if_neg (fun z => z hv), if_neg hc, if_neg (fun z => z hidx)]
                  rw [hFn] at hF
                  exact ⟨_, _, _, _, _, _, _, rfl, s06.trans s7, hF⟩
                · refine nT (fun z => hidx (V.int.inj z)) ?_
                  walk_at "rds"
                  refine ⟨by show 3 ≤ sizeLine; omega, fun t9 nt9 => ?_⟩
                  refine fin _ _ _ ?_ ((s06.trans s7).trans (same_new nt9 _)) (td3 nt9 hx7 hz7)
                  rw [fDel_dl, if_neg (fun z => z hv), if_neg hc, if_pos hidx]
        · rw [decide_eq_false hv]
          walk_at "rds"
          refine ⟨by show 3 ≤ sizeLine; omega, fun t3 nt3 => ?_⟩
          refine fin _ _ _ ?_ (s12.trans (same_new nt3 _)) (td3 nt3 hx2 hz2)
          rw [fDel_dl, if_pos hv]
    · rintro σ H1 ⟨x1, x2, x3, x4, x5, x6, x7, rfl, s1, hF⟩
      have eN : firstF fDel [] es = none := by
        rw [← hF, Int.toNat_natCast, lx, List.drop_length]; rfl
      have q1 : TD H1 .non ((firstF fDel [] es).getD .none) → Q .non H1 := q .non H1 s1
      rw [eN] at q1
      exact q1 .non
end
end Mus

set_option maxRecDepth 100000
set_option maxHeartbeats 4000000
namespace Mus
open PySem L2
local macro_rules | `(tactic| walk_at "rd") => `(tactic| first
  | refine ⟨_, rfl, ?_⟩ | refine ⟨(True.intro : True), ?_⟩
  | refine ⟨_, _, rfl, rfl, (⟨by decide, by decide, by decide⟩ : CPow _ _), ?_⟩
  | refine ⟨_, _, rfl, rfl, (⟨by decide, by decide⟩ : CDiv _ _), ?_⟩
  | refine ⟨_, _, rfl, rfl, (by show (0 : Int) < _; decide), ?_⟩
  | refine ⟨_, _, rfl, rfl, ?_⟩ | refine ⟨rfl, ?_⟩ | refine iteT ?_ | refine iteF ?_ | refine ⟨_, _, rfl, ?_⟩ | refine .inl ⟨_, rfl, ?_⟩
  | refine ⟨_, _, _, _, _, rfl, (by assumption), (by assumption), (by assumption), rfl, ?_⟩ | refine ⟨_, _, _, _, rfl, rfl, SqT.of (by assumption), rfl, ?_⟩ | refine ⟨_, _, rfl, SqT.of (by assumption), rfl, ?_⟩
  | refine ⟨_, _, _, _, _, rfl, .ty _, Rp.ty (by assumption), kit_int _, ?_⟩ | refine ⟨_, _, _, _, _, rfl, .ty _, Rp.ty (by assumption), kit_bool _, ?_⟩
  | refine ⟨_, _, _, _, _, rfl, .ty _, Rp.ty (by assumption), kit_str _, ?_⟩ | refine ⟨_, _, _, _, _, rfl, .ty _, Rp.ty (by assumption), kit_tup _, ?_⟩)
local macro_rules | `(tactic| walk_at "cal") => `(tactic| first
  | refine ⟨_, _, _, _, _, rfl, (by assumption), ?_⟩ | refine ⟨_, _, _, _, _, rfl, (by assumption), (by assumption), ?_⟩)
local macro_rules | `(tactic| walk_at "sq") => `(tactic| first
  | refine ⟨_, _, rfl, Or.inr (SqT.of (by assumption)), ?_⟩ | refine ⟨_, _, _, _, rfl, rfl, SqT.of (by assumption), rfl, ?_⟩)
local macro_rules | `(tactic| walk_at "rds") => `(tactic| repeat first | walk_at "rd" | walk_at "cal" | walk_at "sq")
local macro_rules | `(tactic| walk_at "ze") => `(tactic| repeat first
  | exact zes_nil | exact ze_bl | exact ze_str | exact ze_non | apply zes_cons | apply ze_tup | apply ze_lst | apply ze_cat | exact di_c | exact di_v rfl | apply di_opC | apply di_op | apply di_neg | apply ze_i | (refine (⟨?_, ?_, ?_⟩ : CPow _ _) <;> decide) | exact Nat.le_of_ble_eq_true rfl | exact ze_varD rfl (by assumption))
local macro_rules | `(tactic| walk_at "rdz") => `(tactic| repeat (fail_if_success (first | show tLst _ _ _ _ | show tAsg (tLst _) _ _ _ _ | show tSeq (tAsg (tLst _) _) _ _ _ _)); first | walk_at "rd" | walk_at "cal" | walk_at "sq")
theorem mo_m' (m : Mem) : ∀ m', PyData.eqv (eM m') (eM m) = decide (some m = some m') := fun m' => by
  rw [eM_eqv]; exact decide_eq_decide.mpr ⟨fun h => by rw [h], fun h => (Option.some.inj h).symm⟩
theorem eMVI_sh (x : MVI) : SeqAt.shaped (eMVI x) = true := by
  refine shaped_of ?_ ?_
  · unfold eMVI
    show ((eM x.1).canLay0 && ((eV x.2.1).canLay0 && (true && true))) = true
    rw [(eM_lay x.1).1, (eV_lay x.2.1).1]; rfl
  · unfold eMVI
    have := (eM_lay x.1).2.1
    have := (eV_lay x.2.1).2.1
    simp only [PyData.depth, PyData.depthAll]
    omega
theorem eMVI_inj {a b : MVI} (h : eMVI a = eMVI b) : a = b := kMVI_inj a b (congrArg kOf h)
theorem logOf_okc {pre : List Ev} (h : ∀ e ∈ pre, EvOk e) (m : Mem) (v : Vid) : ∀ g ∈ logOf m v pre, PyData.strOk g.2.2 = true := by
  intro g hg
  obtain ⟨e, he, hd⟩ := List.mem_filterMap.mp hg
  have := h e he
  cases e with
  | dl t m' v' g' =>
    unfold dlS at hd
    dsimp only at hd
    split at hd
    · cases hd; exact this
    · cases hd
  | _ => cases hd
theorem eG_can (g : Msg) (h : PyData.strOk g.2.2 = true) : (eG g).canLay0 = true ∧ (eG g).depth ≤ 2 := by
  unfold eG
  refine ⟨?_, ?_⟩
  · show ((eM g.1).canLay0 && (true && (PyData.strOk g.2.2 && true))) = true
    rw [(eM_lay g.1).1, h]; rfl
  · have := (eM_lay g.1).2.1
    simp only [PyData.depth, PyData.depthAll]
    omega
theorem eGs_can : ∀ gs : List Msg, (∀ g ∈ gs, PyData.strOk g.2.2 = true) → PyData.canLayAll0 (gs.map eG) = true
  | [], _ => rfl
  | g :: gs, h => by
    show ((eG g).canLay0 && PyData.canLayAll0 (gs.map eG)) = true
    rw [(eG_can g (h g List.mem_cons_self)).1, eGs_can gs fun g hg => h g (List.mem_cons_of_mem _ hg)]; rfl
theorem eGs_any (gs : List Msg) (g : Msg) : ((gs.map eG).any fun z => PyData.eqv z (eG g)) = decide (g ∈ gs) := by
  have e : ∀ x, PyData.eqv (eG x) (eG g) = decide (x = g) := fun x => eqv_dec (eG_pln x) (eG_pln g) ⟨eG_inj, fun h => by rw [h]⟩
  rw [List.any_map, Bool.eq_iff_iff, List.any_eq_true, decide_eq_true_eq]
  constructor
  · rintro ⟨x, hx, h⟩
    have h : PyData.eqv (eG x) (eG g) = true := h
    rw [e] at h
    rw [← of_decide_eq_true h]; exact hx
  · intro h
    refine ⟨g, h, ?_⟩
    show PyData.eqv (eG g) (eG g) = true
    rw [e]; exact decide_eq_true rfl
theorem rd_inGl {K : PySem.W.Frag} {H : Hp} {x : V} {g : Msg} {gs : List Msg} {l : Addr} {vs : List V} {f : Bool → Bool} {Q : VK} (hx : TD H x (eG g)) (hl : H l = some (.lst vs)) (hv : TDs H vs (gs.map eG)) (h1 : PyData.strOk g.2.2 = true) (h2 : ∀ g ∈ gs, PyData.strOk g.2.2 = true) (q : Q (.bl (f (decide (g ∈ gs)))) H) : rInDD K f x (.ref l) H Q :=
  ⟨_, _, hx.dp, .inl (.lst (SqL.of hl) hv.dp), (eG_can g h1).1, eGs_can gs h2, by have := (eG_can g h1).2; omega, by rw [eGs_any]; exact q⟩
theorem findIdx_snoc {α : Type} (p : α → Bool) (l : List α) (e : α) : (l ++ [e]).findIdx? p = (l.findIdx? p).or (if p e = true then some l.length else none) := by
  rw [List.findIdx?_append]
  cases l.findIdx? p with
  | some j => rfl
  | none =>
    rw [List.findIdx?_cons]
    by_cases h : p e = true
    · rw [if_pos h, if_pos h]
      show some (0 + l.length) = some l.length
      rw [Nat.zero_add]
    · rw [if_neg h, if_neg h]; rfl
def atV : Option Nat → V
  | some k => .int (k : Nat)
  | none => .non
section
variable {P : Program} {w : World} {K : PySem.W.Frag} {mg : Str → Option Value} {base : Heap}
abbrev s__law_causes : Stmt := top 15
abbrev N__law_causes : List Str := ["events", "k", "member", "view_id", "message", "at", "j", "mine", "cause"]
abbrev P__law_causes : List Str := ["events"]
theorem sc__law_causes : FnScope N__law_causes P__law_causes (defScope s__law_causes) := ⟨rfl, rfl, rfl, by decide +kernel, rfl, by decide +kernel, by decide +kernel⟩
theorem ok__law_causes {f : Addr} {fd : FuncData} (T : Tx mg) (c__law_log : DefOk P w K mg base CX0 "_law_log" P__law_log 1 (sp_log))(F : Fun K "_law_causes" "_law_causes" s__law_causes f fd) : FnOk P w K mg base CX0 (2) f fd P__law_causes (sp_fault fun es => firstF (fCause es) [] es) := by
  have nd := sc__law_causes.nd
  refine F.ok sc__law_causes (fun vs H Q E h => ?_) (fun cdv A outer s H vs Q E hr h => ?_)
  · obtain ⟨_, _, _, rfl, _⟩ := h
    rfl
  · obtain ⟨a, us, es, rfl, ha, hr0, hok, hlen, q⟩ := h
    have hs := sl
    refine ⟨_, (pss_cons (ps_for PassesOwn.never rfl (pi_range1 (by rfl) T.b_range (pa_cons (pe_callB call_len_seq (by rfl) T.b_len (by decide +kernel) (pa_cons (pv 0) pa_nil)) pa_nil)) (pg_name (i := 1) nd rfl (Or.inl rfl))
        (pss_cons (ps_if (pt_cmpR op_ne (pe_ix ix_tup (pe_ix ix_list (pv 0) (pv 1) (fun _ _ => rfl)) pe_int (fun _ _ => rfl)) pe_str (nomark _))
          (pss_one ps_continue)
          pss_nil)
        (pss_cons (ps_par3 (i := 2) (j := 3) (l := 4) rfl nd rfl rfl rfl (by decide) (by decide) (by decide) rfl rfl rfl (pa_cons (pe_ix ix_tup (pe_ix ix_list (pv 0) (pv 1) (fun _ _ => rfl)) pe_int (fun _ _ => rfl)) (pa_cons (pe_ix ix_tup (pe_ix ix_list (pv 0) (pv 1) (fun _ _ => rfl)) pe_int (fun _ _ => rfl)) (pa_cons (pe_ix ix_tup (pe_ix ix_list (pv 0) (pv 1) (fun _ _ => rfl)) pe_int (fun _ _ => rfl)) pa_nil))) rfl)
        (pss_cons (ps_set (i := 5) nd rfl (Or.inl rfl) pe_non)
        (pss_cons (ps_for PassesOwn.never rfl (pi_range1 (by rfl) T.b_range (pa_cons (pe_callB call_len_seq (by rfl) T.b_len (by decide +kernel) (pa_cons (pv 0) pa_nil)) pa_nil)) (pg_name (i := 6) nd rfl (Or.inl rfl))
          (pss_one (ps_if (PW.pt (pw_and (pt_cmpR op_isN (pv 5) pe_non (nomark _)) (pw_and (pt_cmpR op_eq (pe_ix ix_tup (pe_ix ix_list (pv 0) (pv 6) (fun _ _ => rfl)) pe_int (fun _ _ => rfl)) pe_str (nomark _)) (pw_and1 (pt_cmpR (op_eqD hr.units) (pe_slice sl_tupA (pe_ix ix_list (pv 0) (pv 6) (fun _ _ => rfl)) (po_some pe_int) (po_some pe_int)) (pe_tup (pa_cons (pe_ix ix_tup (pv 4) pe_int (fun _ _ => rfl)) (pa_cons (pv 3) (pa_cons (pe_ix ix_tup (pv 4) pe_int (fun _ _ => rfl)) pa_nil)))) (nomark _))))))
            (pss_one (ps_set (i := 5) nd rfl (Or.inl rfl) (pv 6)))
            pss_nil)))
        (pss_one (ps_if (pt_cmpR op_notN (pv 5) pe_non (nomark _))
          (pss_cons (ps_set (i := 7) nd rfl (Or.inl rfl) (pcall c__law_log hr (pa_cons (pv 0) (pa_cons (pv 1) (pa_cons (pv 2) (pa_cons (pv 3) pa_nil))))))
          (pss_one (ps_for PassesOwn.never rfl (pi_list (pcall c__law_log hr (pa_cons (pv 0) (pa_cons (pv 5) (pa_cons (pe_ix ix_tup (pv 4) pe_int (fun _ _ => rfl)) (pa_cons (pv 3) pa_nil)))))) (pg_name (i := 8) nd rfl (Or.inl rfl))
            (pss_one (ps_if (pt_cmpR (op_notInDD hr.units) (pv 8) (pv 7) (by rfl))
              (pss_one (ps_ret (pe_tup (pa_cons pe_str (pa_cons (pv 2) (pa_cons (pv 4) pa_nil))))))
              pss_nil)))))
          pss_nil)))))))
      (pss_one (ps_ret pe_non))), ?_⟩
    have lx := hr0.length
    rw [List.length_map] at lx
    refine ⟨_, rfl, a, us, rfl, .inl (SqL.of ha), _, rfl, by omega, by omega, for_range (lo := 0) (n := ((us.length : Nat) : Int).toNat) (fun i σ H' => ∃ (x1 x2 x3 x4 x5 x6 x7 x8 : Option V), σ = [some (.ref a), x1, x2, x3, x4, x5, x6, x7, x8] ∧ Same H H' ∧ firstF (fCause es) (es.take i) (es.drop i) = firstF (fCause es) [] es) ?_ ?_ ?_⟩
    · exact ⟨_, _, _, _, _, _, _, _, rfl, Same.refl _, rfl⟩
    · rintro i σ H1 hi ⟨x1, x2, x3, x4, x5, x6, x7, x8, rfl, s1, hF⟩
      rw [Int.toNat_natCast] at hi
      rw [Int.zero_add]
      obtain ⟨v, hv⟩ : ∃ v, us[i]? = some v := ⟨_, List.getElem?_eq_getElem hi⟩
      obtain ⟨e, he, td0⟩ := hr0.map_at hv
      have td := td0.same s1
      have ha1 := s1 _ _ ha
      have hai : atI us (i : Nat) = some v := at_int (by omega) (by rw [Int.toNat_natCast]; exact hv)
      have heok := hok e (List.mem_of_getElem? he)
      rw [firstF_at he] at hF
      have tk := take_snoc he
      have ie : i ≤ es.length := by omega
      cases e with
      | cr t n =>
        obtain ⟨b, rfl, hb⟩ := td.ecr
        walk_at "rds"
        refine ⟨a, us, _, _, rfl, rfl, SqL.of ha1, hai, ?_⟩
        walk_at "rds"
        exact ⟨_, _, _, _, _, _, _, _, rfl, s1, hF⟩
      | ct t m vid j p =>
        obtain ⟨b, x, y, rfl, hb, hx1, hy1⟩ := td.ect
        walk_at "rds"
        refine ⟨a, us, _, _, rfl, rfl, SqL.of ha1, hai, ?_⟩
        walk_at "rds"
        exact ⟨_, _, _, _, _, _, _, _, rfl, s1, hF⟩
      | vw t m vid ms =>
        obtain ⟨b, x, y, z, rfl, hb, hx1, hy1, hz1⟩ := td.evw
        walk_at "rds"
        refine ⟨a, us, _, _, rfl, rfl, SqL.of ha1, hai, ?_⟩
        walk_at "rds"
        exact ⟨_, _, _, _, _, _, _, _, rfl, s1, hF⟩
      | dl t m vid g =>
        obtain ⟨b, x, y, z, rfl, hb, hx1, hy1, hz1⟩ := td.edl
        obtain ⟨s0, i0, p0⟩ := g
        walk_at "rds"
        refine ⟨a, us, _, _, rfl, rfl, SqL.of ha1, hai, ?_⟩
        walk_at "rds"
        refine ⟨a, us, _, _, rfl, rfl, SqL.of ha1, hai, ?_⟩
        walk_at "rds"
        refine ⟨a, us, _, _, rfl, rfl, SqL.of ha1, hai, ?_⟩
        walk_at "rds"
        refine ⟨a, us, _, _, rfl, rfl, SqL.of ha1, hai, ?_⟩
        walk_at "rds"
        refine ⟨x, y, z, rfl, ?_⟩
        have fin : ∀ (X : PyData) (H' : Hp) (v : V), fCause es (es.take i) (.dl t m vid (s0, i0, p0)) = some X → Same H H' → TD H' v X → Q v H' := fun X H' v e s h => by
          rw [e] at hF
          have hF : some X = firstF (fCause es) [] es := hF
          have q1 : TD H' v ((firstF (fCause es) [] es).getD .none) → Q v H' := q v H' s
          rw [← hF] at q1
          exact q1 h
        walk_at "rds"
        refine ⟨a, us, rfl, .inl (SqL.of ha1), _, rfl, by omega, by omega, for_range (lo := 0) (n := ((us.length : Nat) : Int).toNat) (fun j σ H' => ∃ (x6 : Option V), σ = [some (.ref a), some (.int (i : Nat)), some x, some y, some z, some (atV ((es.take j).findIdx? (ciB s0 vid i0))), x6, x7, x8] ∧ Same H1 H') ?_ ?_ ?_⟩
        · exact ⟨_, rfl, Same.refl _⟩
        · rintro j σ H2 hj ⟨x6', rfl, s2⟩
          rw [Int.toNat_natCast] at hj
          rw [Int.zero_add]
          obtain ⟨v2, hv2⟩ : ∃ v2, us[j]? = some v2 := ⟨_, List.getElem?_eq_getElem hj⟩
          obtain ⟨e, he2, td2⟩ := hr0.map_at hv2
          have td3 := td2.same (s1.trans s2)
          have ha2 := s2 _ _ ha1
          have haj : atI us (j : Nat) = some v2 := at_int (by omega) (by rw [Int.toNat_natCast]; exact hv2)
          have tk2 := take_snoc he2
          have lj : (es.take j).length = j := by rw [List.length_take]; omega
          cases hat : (es.take j).findIdx? (ciB s0 vid i0) with
          | some k0 =>
            have e2 : (es.take (j + 1)).findIdx? (ciB s0 vid i0) = some k0 := by rw [tk2, findIdx_snoc, hat]; rfl
            walk_at "rds"
            refine ⟨some (.int (j : Nat)), ?_, s2⟩
            rw [e2]; rfl
          | none =>
            have other : ciB s0 vid i0 e = false → (es.take (j + 1)).findIdx? (ciB s0 vid i0) = none := fun h => by
              rw [tk2, findIdx_snoc, hat, h]; rfl
            have hy2 := hy1.same s2
            have hz2 := hz1.same s2
            cases e with
            | cr t n =>
              obtain ⟨b, rfl, hb⟩ := td3.ecr
              walk_at "rds"
              refine ⟨a, us, _, _, rfl, rfl, SqL.of ha2, haj, ?_⟩
              walk_at "rds"
              refine ⟨some (.int (j : Nat)), ?_, s2⟩
              rw [other rfl]; rfl
            | vw t m vid ms =>
              obtain ⟨b, x, y, z, rfl, hb, hx1, hy1, hz1⟩ := td3.evw
              walk_at "rds"
              refine ⟨a, us, _, _, rfl, rfl, SqL.of ha2, haj, ?_⟩
              walk_at "rds"
              refine ⟨some (.int (j : Nat)), ?_, s2⟩
              rw [other rfl]; rfl
            | dl t m vid g =>
              obtain ⟨b, x, y, z, rfl, hb, hx1, hy1, hz1⟩ := td3.edl
              walk_at "rds"
              refine ⟨a, us, _, _, rfl, rfl, SqL.of ha2, haj, ?_⟩
              walk_at "rds"
              refine ⟨some (.int (j : Nat)), ?_, s2⟩
              rw [other rfl]; rfl
            | ct t' m' v' i' p' =>
              obtain ⟨b, x', y', rfl, hb, hx', hy'⟩ := td3.ect
              walk_at "rds"
              refine ⟨a, us, _, _, rfl, rfl, SqL.of ha2, haj, ?_⟩
              walk_at "rds"
              refine ⟨a, us, _, _, rfl, rfl, SqL.of ha2, haj, ?_⟩
              walk_at "rds"
              refine ⟨b, _, rfl, SqT.of hb, fun z => absurd z.1 (by show ¬ HT.sIx 6 0 (some 2) = 0; decide), fun _ t4 nt4 => ?_⟩
              have ec : cutV [V.str "cast", .int t', x', y', .int i', .str p'] (some 2) (some 5) = [x', y', .int i'] := rfl
              rw [ec]
              have s4 := same_new nt4 (.tup [x', y', .int i'])
              have d1 : TD (upd H2 t4 (.tup [x', y', .int i'])) (.ref t4) (eMVI (m', v', i')) := .tup upd_same (by show 3 ≤ 100000; decide) (.cons (hx'.same s4) (.cons (hy'.same s4) (.cons (.int _) .nil)))
              have hy4 := hy2.same s4
              have hz4 := hz2.same s4
              clear hb hx' hy' td3
              generalize upd H2 t4 (.tup [x', y', .int i']) = H4 at *
              obtain ⟨zb, u, rfl, hzb, hu⟩ := hz4.msg
              walk_at "rds"
              refine ⟨by show 3 ≤ sizeLine; omega, fun t5 nt5 => ?_⟩
              have s5 := same_new nt5 (.tup [u, y, .int i0])
              have d2 : TD (upd H4 t5 (.tup [u, y, .int i0])) (.ref t5) (eMVI (s0, vid, i0)) := .tup upd_same (by show 3 ≤ 100000; decide) (.cons (hu.same s5) (.cons (hy4.same s5) (.cons (.int _) .nil)))
              have d1 := d1.same s5
              have s45 := s2.trans (s4.trans s5)
              generalize upd H4 t5 (.tup [u, y, .int i0]) = H5 at *
              refine ⟨eMVI (m', v', i'), eMVI (s0, vid, i0), d1.dp, d2.dp, eMVI_sh _, eMVI_sh _, ?_⟩
              rw [eqv_dec (p := (m', v', i') = (s0, vid, i0)) rfl rfl ⟨eMVI_inj, fun h => by rw [h]⟩]
              refine ⟨_, rfl, iB (fun h => ?_) (fun h => ?_)⟩
              · have h := of_decide_eq_true h
                have eb : ciB s0 vid i0 (.ct t' m' v' i' p') = true := by
                  injection h with h1 h
                  injection h with h2 h3
                  exact decide_eq_true ⟨h1, h2, h3⟩
                have e2 : (es.take (j + 1)).findIdx? (ciB s0 vid i0) = some j := by rw [tk2, findIdx_snoc, hat, eb, lj]; rfl
                walk_at "rds"
                refine ⟨some (.int (j : Nat)), ?_, s45⟩
                rw [e2]; rfl
              · have h := of_decide_eq_false h
                walk_at "rds"
                refine ⟨some (.int (j : Nat)), ?_, s45⟩
                rw [other (decide_eq_false fun z => h (by rw [z.1, z.2.1, z.2.2]))]; rfl
        · rintro σ H2 ⟨x6', rfl, s2⟩
          rw [Int.toNat_natCast, lx, List.take_length]
          have hx2 := hx1.same s2
          have hy2 := hy1.same s2
          have hz2 := hz1.same s2
          have ha2 := s2 _ _ ha1
          have s12 := s1.trans s2
          cases hat : es.findIdx? (ciB s0 vid i0) with
          | none =>
            walk_at "rds"
            have hn : fCause es (es.take i) (.dl t m vid (s0, i0, p0)) = none := by rw [fCause_dl, hat]
            rw [hn] at hF
            exact ⟨_, _, _, _, _, _, _, _, rfl, s12, hF⟩
          | some k0 =>
            have hk0 : k0 < es.length := (List.findIdx?_eq_some_iff_findIdx_eq.mp hat).1
            walk_at "rds"
            refine ⟨a, us, es, i, x, y, m, vid, rfl, s12 _ _ ha, hr0.mono (TupK.of s12), hlen, ie, hx2, hy2, fun l vl H3 s3 nl hl3 r3 => ?_⟩
            have hx3 := hx2.same s3
            have hy3 := hy2.same s3
            have hz3 := hz2.same s3
            have s13 := s12.trans s3
            obtain ⟨zb, u, rfl, hzb, hu⟩ := hz3.msg
            walk_at "rds"
            refine ⟨a, us, es, k0, u, y, s0, vid, rfl, s13 _ _ ha, hr0.mono (TupK.of s13), hlen, by omega, hu, hy3, fun l2 vl2 H4 s4 nl2 hl4 r4 => ?_⟩
            have hx4 := hx3.same s4
            have hz4 := hz3.same s4
            have s14 := s13.trans s4
            have hl34 := s4 _ _ hl3
            have r34 := r3.mono (TupK.of s4)
            have ok1 := logOf_okc (pre := es.take i) (fun e he => hok e (List.mem_of_mem_take he)) m vid
            have ok2 := logOf_okc (pre := es.take k0) (fun e he => hok e (List.mem_of_mem_take he)) s0 vid
            have ll := r4.length
            rw [List.length_map] at ll
            walk_at "rds"
            refine ⟨⟨_, SqL.of hl4⟩, for_list (K := K) (a := l2) (xs := vl2) (fun j σ H' => ∃ (x8 : Option V), σ = [some (.ref a), some (.int (i : Nat)), some x, some y, some (.ref zb), some (atV (some k0)), x6', some (.ref l), x8] ∧ H' = H4 ∧ ∀ c ∈ (logOf s0 vid (es.take k0)).take j, c ∈ logOf m vid (es.take i)) ?_ ?_ ?_ ?_⟩
            · exact ⟨_, rfl, rfl, fun c hc => by rw [List.take_zero] at hc; cases hc⟩
            · rintro j σ H' _ ⟨_, rfl, rfl, _⟩
              exact SqL.of hl4
            · rintro j v σ H' hj ⟨x8', rfl, rfl, hall⟩
              obtain ⟨c, hc, tdc⟩ := r4.map_at hj
              walk_at "rds"
              refine rd_inGl (f := not) tdc hl34 r34 (ok2 c (List.mem_of_getElem? hc)) ok1 ?_
              refine ⟨_, rfl, iB (fun h => ?_) (fun h => ?_)⟩
              · have h : c ∉ logOf m vid (es.take i) := by simpa using h
                walk_at "rds"
                refine ⟨by show 3 ≤ sizeLine; omega, fun t9 nt9 => ?_⟩
                refine fin _ _ _ ?_ (s14.trans (same_new nt9 _)) (td3 nt9 hx4 hz4)
                rw [fCause_dl, hat]
                refine if_neg fun z => h (of_decide_eq_true (List.all_eq_true.mp z c (List.mem_of_getElem? hc)))
              · have h : c ∈ logOf m vid (es.take i) := by simpa using h
                walk_at "rds"
                intro c0 hc0
                rw [take_snoc hc] at hc0
                rcases List.mem_append.mp hc0 with h0 | h0
                · exact hall c0 h0
                · rw [List.mem_singleton.mp h0]; exact h
            · rintro σ H' ⟨x8', rfl, rfl, hall⟩
              rw [ll, List.take_length] at hall
              have hn : fCause es (es.take i) (.dl t m vid (s0, i0, p0)) = none := by
                rw [fCause_dl, hat]
                exact if_pos (List.all_eq_true.mpr fun c hc => decide_eq_true (hall c hc))
              rw [hn] at hF
              exact ⟨_, _, _, _, _, _, _, _, rfl, s14, hF⟩
    · rintro σ H1 ⟨x1, x2, x3, x4, x5, x6, x7, x8, rfl, s1, hF⟩
      have eN : firstF (fCause es) [] es = none := by
        rw [← hF, Int.toNat_natCast, lx, List.drop_length]; rfl
      have q1 : TD H1 .non ((firstF (fCause es) [] es).getD .none) → Q .non H1 := q .non H1 s1
      rw [eN] at q1
      exact q1 .non
end
end Mus

set_option maxRecDepth 100000
set_option maxHeartbeats 4000000
namespace Mus
open PySem L2
local macro_rules | `(tactic| walk_at "rd") => `(tactic| first
  | refine ⟨_, rfl, ?_⟩ | refine ⟨(True.intro : True), ?_⟩
  | refine ⟨_, _, rfl, rfl, (⟨by decide, by decide, by decide⟩ : CPow _ _), ?_⟩
  | refine ⟨_, _, rfl, rfl, (⟨by decide, by decide⟩ : CDiv _ _), ?_⟩
  | refine ⟨_, _, rfl, rfl, (by show (0 : Int) < _; decide), ?_⟩
  | refine ⟨_, _, rfl, rfl, ?_⟩ | refine ⟨rfl, ?_⟩ | refine iteT ?_ | refine iteF ?_ | refine ⟨_, _, rfl, ?_⟩ | refine .inl ⟨_, rfl, ?_⟩
  | refine ⟨_, _, _, _, _, rfl, (by assumption), (by assumption), (by assumption), rfl, ?_⟩ | refine ⟨_, _, _, _, rfl, rfl, SqT.of (by assumption), rfl, ?_⟩ | refine ⟨_, _, rfl, SqT.of (by assumption), rfl, ?_⟩
  | refine ⟨_, _, _, _, _, rfl, .ty _, Rp.ty (by assumption), kit_int _, ?_⟩ | refine ⟨_, _, _, _, _, rfl, .ty _, Rp.ty (by assumption), kit_bool _, ?_⟩
  | refine ⟨_, _, _, _, _, rfl, .ty _, Rp.ty (by assumption), kit_str _, ?_⟩ | refine ⟨_, _, _, _, _, rfl, .ty _, Rp.ty (by assumption), kit_tup _, ?_⟩)
local macro_rules | `(tactic| walk_at "cal") => `(tactic| first
  | refine ⟨_, _, _, _, _, rfl, (by assumption), ?_⟩ | refine ⟨_, _, _, _, _, rfl, (by assumption), (by assumption), ?_⟩)
local macro_rules | `(tactic| walk_at "sq") => `(tactic| first
  | refine ⟨_, _, rfl, Or.inr (SqT.of (by assumption)), ?_⟩ | refine ⟨_, _, _, _, rfl, rfl, SqT.of (by assumption), rfl, ?_⟩)
local macro_rules | `(tactic| walk_at "rds") => `(tactic| repeat first | walk_at "rd" | walk_at "cal" | walk_at "sq")
local macro_rules | `(tactic| walk_at "ze") => `(tactic| repeat first
  | exact zes_nil | exact ze_bl | exact ze_str | exact ze_non | apply zes_cons | apply ze_tup | apply ze_lst | apply ze_cat | exact di_c | exact di_v rfl | apply di_opC | apply di_op | apply di_neg | apply ze_i | (refine (⟨?_, ?_, ?_⟩ : CPow _ _) <;> decide) | exact Nat.le_of_ble_eq_true rfl | exact ze_varD rfl (by assumption))
local macro_rules | `(tactic| walk_at "rdz") => `(tactic| repeat (fail_if_success (first | show tLst _ _ _ _ | show tAsg (tLst _) _ _ _ _ | show tSeq (tAsg (tLst _) _) _ _ _ _)); first | walk_at "rd" | walk_at "cal" | walk_at "sq")
theorem mo_i' (n : Int) : ∀ m' : Mem, PyData.eqv (eM m') (.int n) = decide ((none : Option Mem) = some m') := fun _ => rfl
theorem eGs_shc (l : List Msg) (h : ∀ g ∈ l, PyData.strOk g.2.2 = true) : SeqAt.shaped (.list (l.map eG)) = true := by
  have k : ∀ l : List Msg, (∀ g ∈ l, PyData.strOk g.2.2 = true) → PyData.depthAll (l.map eG) ≤ 2 := by
    intro l
    induction l with
    | nil => exact fun _ => Nat.zero_le _
    | cons g l ih =>
      intro h
      have i := ih fun g hg => h g (List.mem_cons_of_mem _ hg)
      have j := (eG_can g (h g List.mem_cons_self)).2
      rw [List.map_cons]
      simp only [PyData.depthAll]
      omega
  have h1 := eGs_can l h
  refine shaped_of (by simp [PyData.canLay0, h1]) ?_
  have := k l h
  simp [PyData.depth]
  omega
theorem eGs_eqvc (a b : List Msg) : PyData.eqv (.list (a.map eG)) (.list (b.map eG)) = decide (a = b) := by
  rw [Bool.eq_iff_iff, decide_eq_true_eq]
  show PyData.eqvAll _ _ = true ↔ _
  rw [plns_eqv (plns_map eG_pln a) (plns_map eG_pln b)]
  exact ⟨map_inj fun _ _ => eG_inj, fun h => by rw [h]⟩
theorem firstF_pre {α : Type} {f : List Ev → Ev → Option α} {y : α} : ∀ {l1 l2 pre : List Ev}, firstF f pre l1 = some y → firstF f pre (l1 ++ l2) = some y
  | [], _, _, h => by cases h
  | e :: l1, l2, pre, h => by
    have h : (match f pre e with | some x => some x | none => firstF f (pre ++ [e]) l1) = some y := h
    show (match f pre e with | some x => some x | none => firstF f (pre ++ [e]) (l1 ++ l2)) = some y
    cases he : f pre e with
    | some x => rw [he] at h; exact h
    | none => rw [he] at h; exact firstF_pre h
section
variable {P : Program} {w : World} {K : PySem.W.Frag} {mg : Str → Option Value} {base : Heap}
abbrev s__law_together : Stmt := top 16
abbrev N__law_together : List Str := ["events", "k", "old", "j"]
abbrev P__law_together : List Str := ["events"]
theorem sc__law_together : FnScope N__law_together P__law_together (defScope s__law_together) := ⟨rfl, rfl, rfl, by decide +kernel, rfl, by decide +kernel, by decide +kernel⟩
theorem ok__law_together {f : Addr} {fd : FuncData} (T : Tx mg) (c__law_view_of : DefOk P w K mg base CX0 "_law_view_of" P__law_view_of 1 (sp_vof)) (c__law_log : DefOk P w K mg base CX0 "_law_log" P__law_log 1 (sp_log))(F : Fun K "_law_together" "_law_together" s__law_together f fd) : FnOk P w K mg base CX0 (2) f fd P__law_together (sp_fault fun es => firstF fTog [] es) := by
  have nd := sc__law_together.nd
  refine F.ok sc__law_together (fun vs H Q E h => ?_) (fun cdv A outer s H vs Q E hr h => ?_)
  · obtain ⟨_, _, _, rfl, _⟩ := h
    rfl
  · obtain ⟨a, us, es, rfl, ha, hr0, hok, hlen, q⟩ := h
    have hs := sl
    refine ⟨_, (pss_cons (ps_for PassesOwn.never rfl (pi_range1 (by rfl) T.b_range (pa_cons (pe_callB call_len_seq (by rfl) T.b_len (by decide +kernel) (pa_cons (pv 0) pa_nil)) pa_nil)) (pg_name (i := 1) nd rfl (Or.inl rfl))
        (pss_cons (ps_set (i := 2) nd rfl (Or.inl rfl) (pcall c__law_view_of hr (pa_cons (pv 0) (pa_cons (pv 1) (pa_cons (pe_ix ix_tup (pe_ix ix_list (pv 0) (pv 1) (fun _ _ => rfl)) pe_int (fun _ _ => rfl)) pa_nil)))))
        (pss_cons (ps_if (PW.pt (pw_or (pt_cmpR op_ne (pe_ix ix_tup (pe_ix ix_list (pv 0) (pv 1) (fun _ _ => rfl)) pe_int (fun _ _ => rfl)) pe_str (nomark _)) (pw_or1 (pt_cmpR op_isN (pv 2) pe_non (nomark _)))))
          (pss_one ps_continue)
          pss_nil)
        (pss_one (ps_for PassesOwn.never rfl (pi_range1 (by rfl) T.b_range (pa_cons (pv 1) pa_nil)) (pg_name (i := 3) nd rfl (Or.inl rfl))
          (pss_one (ps_if (PW.pt (pw_and (pt_cmpR op_eq (pe_ix ix_tup (pe_ix ix_list (pv 0) (pv 3) (fun _ _ => rfl)) pe_int (fun _ _ => rfl)) pe_str (nomark _)) (pw_and (pt_cmpR (op_eqD hr.units) (pe_ix ix_tup (pe_ix ix_list (pv 0) (pv 3) (fun _ _ => rfl)) pe_int (fun _ _ => rfl)) (pe_ix ix_tup (pe_ix ix_list (pv 0) (pv 1) (fun _ _ => rfl)) pe_int (fun _ _ => rfl)) (nomark _)) (pw_and1 (pt_cmpR (op_eqD hr.units) (pcall c__law_view_of hr (pa_cons (pv 0) (pa_cons (pv 3) (pa_cons (pe_ix ix_tup (pe_ix ix_list (pv 0) (pv 3) (fun _ _ => rfl)) pe_int (fun _ _ => rfl)) pa_nil)))) (pv 2) (nomark _))))))
            (pss_cons (ps_if (pt_cmpR (op_neD hr.units) (pcall c__law_log hr (pa_cons (pv 0) (pa_cons (pv 3) (pa_cons (pe_ix ix_tup (pe_ix ix_list (pv 0) (pv 3) (fun _ _ => rfl)) pe_int (fun _ _ => rfl)) (pa_cons (pv 2) pa_nil))))) (pcall c__law_log hr (pa_cons (pv 0) (pa_cons (pv 1) (pa_cons (pe_ix ix_tup (pe_ix ix_list (pv 0) (pv 1) (fun _ _ => rfl)) pe_int (fun _ _ => rfl)) (pa_cons (pv 2) pa_nil))))) (nomark _))
              (pss_one (ps_ret (pe_tup (pa_cons pe_str (pa_cons (pe_ix ix_tup (pe_ix ix_list (pv 0) (pv 3) (fun _ _ => rfl)) pe_int (fun _ _ => rfl)) (pa_cons (pe_ix ix_tup (pe_ix ix_list (pv 0) (pv 1) (fun _ _ => rfl)) pe_int (fun _ _ => rfl)) (pa_cons (pe_ix ix_tup (pe_ix ix_list (pv 0) (pv 1) (fun _ _ => rfl)) pe_int (fun _ _ => rfl)) pa_nil)))))))
              pss_nil)
            (pss_one ps_break))
            pss_nil)))))))
      (pss_one (ps_ret pe_non))), ?_⟩
    have lx := hr0.length
    rw [List.length_map] at lx
    refine ⟨_, rfl, a, us, rfl, .inl (SqL.of ha), _, rfl, by omega, by omega, for_range (lo := 0) (n := ((us.length : Nat) : Int).toNat) (fun i σ H' => ∃ (x1 x2 x3 : Option V), σ = [some (.ref a), x1, x2, x3] ∧ Same H H' ∧ firstF fTog (es.take i) (es.drop i) = firstF fTog [] es) ?_ ?_ ?_⟩
    · exact ⟨_, _, _, rfl, Same.refl _, rfl⟩
    · rintro i σ H1 hi ⟨x1, x2, x3, rfl, s1, hF⟩
      rw [Int.toNat_natCast] at hi
      rw [Int.zero_add]
      obtain ⟨v, hv⟩ : ∃ v, us[i]? = some v := ⟨_, List.getElem?_eq_getElem hi⟩
      obtain ⟨e, he, td0⟩ := hr0.map_at hv
      have td := td0.same s1
      have ha1 := s1 _ _ ha
      have hai : atI us (i : Nat) = some v := at_int (by omega) (by rw [Int.toNat_natCast]; exact hv)
      have heok := hok e (List.mem_of_getElem? he)
      rw [firstF_at he] at hF
      have tk := take_snoc he
      have ie : i ≤ es.length := by omega
      cases e with
      | cr t n =>
        obtain ⟨b, rfl, hb⟩ := td.ecr
        walk_at "rds"
        refine ⟨a, us, _, _, rfl, rfl, SqL.of ha1, hai, ?_⟩
        walk_at "rds"
        refine ⟨a, us, es, i, .int n, .int n, none, rfl, ha1, hr0.mono (TupK.of s1), hlen, ie, .int n, rfl, mo_i' n, fun ov H2 s2 t2 => ?_⟩
        have s12 := s1.trans s2
        have ha2 := s2 _ _ ha1
        have hb := s2 _ _ hb
        walk_at "rds"
        refine ⟨a, us, _, _, rfl, rfl, SqL.of ha2, hai, ?_⟩
        walk_at "rds"
        exact ⟨_, _, _, rfl, s12, hF⟩
      | ct t m vid j p =>
        obtain ⟨b, x, y, rfl, hb, hx1, hy1⟩ := td.ect
        walk_at "rds"
        refine ⟨a, us, _, _, rfl, rfl, SqL.of ha1, hai, ?_⟩
        walk_at "rds"
        refine ⟨a, us, es, i, x, eM m, some m, rfl, ha1, hr0.mono (TupK.of s1), hlen, ie, hx1, (eM_lay m).2.2, mo_m' m, fun ov H2 s2 t2 => ?_⟩
        have s12 := s1.trans s2
        have ha2 := s2 _ _ ha1
        have hb := s2 _ _ hb
        walk_at "rds"
        refine ⟨a, us, _, _, rfl, rfl, SqL.of ha2, hai, ?_⟩
        walk_at "rds"
        exact ⟨_, _, _, rfl, s12, hF⟩
      | dl t m vid g =>
        obtain ⟨b, x, y, z, rfl, hb, hx1, hy1, hz1⟩ := td.edl
        walk_at "rds"
        refine ⟨a, us, _, _, rfl, rfl, SqL.of ha1, hai, ?_⟩
        walk_at "rds"
        refine ⟨a, us, es, i, x, eM m, some m, rfl, ha1, hr0.mono (TupK.of s1), hlen, ie, hx1, (eM_lay m).2.2, mo_m' m, fun ov H2 s2 t2 => ?_⟩
        have s12 := s1.trans s2
        have ha2 := s2 _ _ ha1
        have hb := s2 _ _ hb
        walk_at "rds"
        refine ⟨a, us, _, _, rfl, rfl, SqL.of ha2, hai, ?_⟩
        walk_at "rds"
        exact ⟨_, _, _, rfl, s12, hF⟩
      | vw t m vid ms =>
        obtain ⟨b, x, y, z, rfl, hb, hx1, hy1, hz1⟩ := td.evw
        walk_at "rds"
        refine ⟨a, us, _, _, rfl, rfl, SqL.of ha1, hai, ?_⟩
        walk_at "rds"
        refine ⟨a, us, es, i, x, eM m, some m, rfl, ha1, hr0.mono (TupK.of s1), hlen, ie, hx1, (eM_lay m).2.2, mo_m' m, fun ov H2 s2 t2 => ?_⟩
        have t2 : TD H2 ov (oVd (vwOf m (es.take i))) := t2
        have s12 := s1.trans s2
        have ha2 := s2 _ _ ha1
        have hb2 := s2 _ _ hb
        have hx2 := hx1.same s2
        have hy2 := hy1.same s2
        have fin : ∀ (X : PyData) (H' : Hp) (v : V), fTog (es.take i) (.vw t m vid ms) = some X → Same H H' → TD H' v X → Q v H' := fun X H' v e s h => by
          rw [e] at hF
          have hF : some X = firstF fTog [] es := hF
          have q1 : TD H' v ((firstF fTog [] es).getD .none) → Q v H' := q v H' s
          rw [← hF] at q1
          exact q1 h
        clear hb
        walk_at "rds"
        refine ⟨a, us, _, _, rfl, rfl, SqL.of ha2, hai, ?_⟩
        cases hv : vwOf m (es.take i) with
        | none =>
          rw [hv] at t2
          obtain rfl : ov = .non := by cases t2; rfl
          walk_at "rds"
          have hn : fTog (es.take i) (.vw t m vid ms) = none := by rw [fTog_vw, hv]
          rw [hn] at hF
          exact ⟨_, _, _, rfl, s12, hF⟩
        | some old =>
          rw [hv] at t2
          have t2 : TD H2 ov (eV old) := t2
          obtain ⟨ob, ou, rfl, hob, _⟩ := t2.vid
          clear hx1 hy1 hz1 td
          walk_at "rds"
          refine ⟨by omega, by omega, for_range (lo := 0) (n := ((i : Nat) : Int).toNat) (fun j σ H' => ∃ x3 : Option V, σ = [some (.ref a), some (.int (i : Nat)), some (.ref ob), x3] ∧ Same H2 H' ∧ fstO (es.take j) (old, vid) = none) ?_ ?_ ?_⟩
          · exact ⟨_, rfl, Same.refl _, rfl⟩
          · rintro j σ H3 hj ⟨x3', rfl, s3, hno⟩
            rw [Int.toNat_natCast] at hj
            rw [Int.zero_add]
            obtain ⟨v2, hv2⟩ : ∃ v2, us[j]? = some v2 := ⟨_, List.getElem?_eq_getElem (by omega)⟩
            obtain ⟨e, he2, td2⟩ := hr0.map_at hv2
            have s13 := s12.trans s3
            have td3 := td2.same s13
            have ha3 := s3 _ _ ha2
            have hb3 := s3 _ _ hb2
            have hx3 := hx2.same s3
            have hy3 := hy2.same s3
            have t3 := t2.same s3
            have haj : atI us (j : Nat) = some v2 := at_int (by omega) (by rw [Int.toNat_natCast]; exact hv2)
            have tk2 := take_snoc he2
            have je : j ≤ es.length := by omega
            have other : (∀ v old, tgS v old (es.take j) e = none) → fstO (es.take (j + 1)) (old, vid) = none := fun h => by
              rw [tk2, fstO_other h]; exact hno
            cases e with
            | cr t n =>
              obtain ⟨b, rfl, hb⟩ := td3.ecr
              walk_at "rds"
              refine ⟨a, us, _, _, rfl, rfl, SqL.of ha3, haj, ?_⟩
              walk_at "rds"
              exact ⟨s3, other fun _ _ => rfl⟩
            | dl t m vid g =>
              obtain ⟨b, x, y, z, rfl, hb, hx1, hy1, hz1⟩ := td3.edl
              walk_at "rds"
              refine ⟨a, us, _, _, rfl, rfl, SqL.of ha3, haj, ?_⟩
              walk_at "rds"
              exact ⟨s3, other fun _ _ => rfl⟩
            | ct t m vid j p =>
              obtain ⟨b, x, y, rfl, hb, hx1, hy1⟩ := td3.ect
              walk_at "rds"
              refine ⟨a, us, _, _, rfl, rfl, SqL.of ha3, haj, ?_⟩
              walk_at "rds"
              exact ⟨s3, other fun _ _ => rfl⟩
            | vw t' m' v' ms' =>
              obtain ⟨b', x', y', z', rfl, hb', hx', hy', hz'⟩ := td3.evw
              walk_at "rds"
              refine ⟨a, us, _, _, rfl, rfl, SqL.of ha3, haj, ?_⟩
              walk_at "rds"
              refine ⟨a, us, _, _, rfl, rfl, SqL.of ha3, haj, ?_⟩
              walk_at "rds"
              refine ⟨a, us, _, _, rfl, rfl, SqL.of ha3, hai, ?_⟩
              walk_at "rds"
              refine ⟨eV v', eV vid, hy'.dp, hy3.dp, (eV_lay v').2.2, (eV_lay vid).2.2, ?_⟩
              rw [eV_eqv]
              have non : ¬ (v' = vid ∧ vwOf m' (es.take j) = some old) → fstO (es.take (j + 1)) (old, vid) = none := fun h => by
                rw [tk2]
                unfold fstO at hno ⊢
                rw [firstF_append, hno]
                exact if_neg h
              refine ⟨_, rfl, iB (fun h1 => ?_) (fun h1 => ?_)⟩
              · have h1 := of_decide_eq_true h1
                walk_at "rds"
                refine ⟨a, us, _, _, rfl, rfl, SqL.of ha3, haj, ?_⟩
                walk_at "rds"
                refine ⟨a, us, es, j, x', eM m', some m', rfl, ha3, hr0.mono (TupK.of s13), hlen, je, hx', (eM_lay m').2.2, mo_m' m', fun ov4 H4 s4 t4 => ?_⟩
                have t4 : TD H4 ov4 (oVd (vwOf m' (es.take j))) := t4
                have s14 := s13.trans s4
                have ha4 := s4 _ _ ha3
                have hb4 := s4 _ _ hb3
                have hb'4 := s4 _ _ hb'
                have hx'4 := hx'.same s4
                have hx4 := hx3.same s4
                have hy4 := hy3.same s4
                have to4 := t3.same s4
                clear hb3 hb' hb2
                walk_at "rds"
                refine ⟨oVd (vwOf m' (es.take j)), eV old, t4.dp, to4.dp, oVd_sh _, (eV_lay old).2.2, ?_⟩
                rw [eqv_dec (p := vwOf m' (es.take j) = some old) (oVd_pln _) (eV_pln _) oVd_eq]
                refine ⟨_, rfl, iB (fun h2 => ?_) (fun h2 => ?_)⟩
                · have h2 := of_decide_eq_true h2
                  have hfst : fstO (es.take i) (old, vid) = some (m', logOf m' old (es.take j)) := by
                    have e1 : fstO (es.take (j + 1)) (old, vid) = some (m', logOf m' old (es.take j)) := by
                      rw [tk2]
                      unfold fstO at hno ⊢
                      rw [firstF_append, hno]
                      exact if_pos ⟨h1, h2⟩
                    have e2 : es.take i = es.take (j + 1) ++ (es.take i).drop (j + 1) := by
                      have e3 : es.take (j + 1) = (es.take i).take (j + 1) := by rw [List.take_take, Nat.min_eq_left (by omega)]
                      rw [e3, List.take_append_drop]
                    rw [e2]
                    exact firstF_pre e1
                  walk_at "rds"
                  refine ⟨a, us, _, _, rfl, rfl, SqL.of ha4, haj, ?_⟩
                  walk_at "rds"
                  refine ⟨a, us, es, j, x', .ref ob, m', old, rfl, ha4, hr0.mono (TupK.of s14), hlen, je, hx'4, to4, fun l5 vl5 H5 s5 nl5 hl5 r5 => ?_⟩
                  have s15 := s14.trans s5
                  have ha5 := s5 _ _ ha4
                  have hb5 := s5 _ _ hb4
                  have hb'5 := s5 _ _ hb'4
                  have hx5 := hx4.same s5
                  have hx'5 := hx'4.same s5
                  have hy5 := hy4.same s5
                  have to5 := to4.same s5
                  clear hb4 hb'4
                  walk_at "rds"
                  refine ⟨a, us, _, _, rfl, rfl, SqL.of ha5, hai, ?_⟩
                  walk_at "rds"
                  refine ⟨a, us, es, i, x, .ref ob, m, old, rfl, ha5, hr0.mono (TupK.of s15), hlen, ie, hx5, to5, fun l6 vl6 H6 s6 nl6 hl6 r6 => ?_⟩
                  have s16 := s15.trans s6
                  have ha6 := s6 _ _ ha5
                  have hb6 := s6 _ _ hb5
                  have hb'6 := s6 _ _ hb'5
                  have hx6 := hx5.same s6
                  have hx'6 := hx'5.same s6
                  have hy6 := hy5.same s6
                  have hl56 := s6 _ _ hl5
                  have r56 := r5.mono (TupK.of s6)
                  have okj := logOf_okc (pre := es.take j) (fun e he => hok e (List.mem_of_mem_take he)) m' old
                  have oki := logOf_okc (pre := es.take i) (fun e he => hok e (List.mem_of_mem_take he)) m old
                  clear hb5 hb'5
                  walk_at "rds"
                  refine ⟨.list ((logOf m' old (es.take j)).map eG), .list ((logOf m old (es.take i)).map eG), .lst (SqL.of hl56) r56.dp, .lst (SqL.of hl6) r6.dp, eGs_shc _ okj, eGs_shc _ oki, ?_⟩
                  rw [eGs_eqvc]
                  refine ⟨_, rfl, ?_⟩
                  by_cases e : logOf m' old (es.take j) = logOf m old (es.take i)
                  · refine nF e ?_
                    have hn : fTog (es.take i) (.vw t m vid ms) = none := by
                      rw [fTog_at hv, hfst]
                      exact if_neg fun z => z e
                    rw [hn] at hF
                    exact ⟨_, _, _, rfl, s16, hF⟩
                  · refine nT e ?_
                    walk_at "rds"
                    refine ⟨a, us, _, _, rfl, rfl, SqL.of ha6, haj, ?_⟩
                    walk_at "rds"
                    refine ⟨a, us, _, _, rfl, rfl, SqL.of ha6, hai, ?_⟩
                    walk_at "rds"
                    refine ⟨a, us, _, _, rfl, rfl, SqL.of ha6, hai, ?_⟩
                    walk_at "rds"
                    refine ⟨by show 4 ≤ sizeLine; omega, fun t9 nt9 => ?_⟩
                    refine fin _ _ _ ?_ (s16.trans (same_new nt9 _)) (td4 nt9 hx'6 hx6 hy6)
                    rw [fTog_at hv, hfst]
                    exact if_pos fun z => e z
                · have h2 := of_decide_eq_false h2
                  walk_at "rds"
                  exact ⟨s3.trans s4, non fun z => h2 z.2⟩
              · have h1 := of_decide_eq_false h1
                walk_at "rds"
                exact ⟨s3, non fun z => h1 z.1⟩
          · rintro σ H3 ⟨x3', rfl, s3, hno⟩
            rw [Int.toNat_natCast] at hno
            have hn : fTog (es.take i) (.vw t m vid ms) = none := by
              rw [fTog_at hv, hno]
              exact if_neg fun z => z rfl
            rw [hn] at hF
            exact ⟨_, _, _, rfl, s12.trans s3, hF⟩
    · rintro σ H1 ⟨x1, x2, x3, rfl, s1, hF⟩
      have eN : firstF fTog [] es = none := by
        rw [← hF, Int.toNat_natCast, lx, List.drop_length]; rfl
      have q1 : TD H1 .non ((firstF fTog [] es).getD .none) → Q .non H1 := q .non H1 s1
      rw [eN] at q1
      exact q1 .non
end
end Mus

set_option maxRecDepth 100000
set_option maxHeartbeats 4000000
namespace Mus
open PySem L2
local macro_rules | `(tactic| walk_at "rd") => `(tactic| first
  | refine ⟨_, rfl, ?_⟩ | refine ⟨(True.intro : True), ?_⟩
  | refine ⟨_, _, rfl, rfl, (⟨by decide, by decide, by decide⟩ : CPow _ _), ?_⟩
  | refine ⟨_, _, rfl, rfl, (⟨by decide, by decide⟩ : CDiv _ _), ?_⟩
  | refine ⟨_, _, rfl, rfl, (by show (0 : Int) < _; decide), ?_⟩
  | refine ⟨_, _, rfl, rfl, ?_⟩ | refine ⟨rfl, ?_⟩ | refine iteT ?_ | refine iteF ?_ | refine ⟨_, _, rfl, ?_⟩ | refine .inl ⟨_, rfl, ?_⟩
  | refine ⟨_, _, _, _, _, rfl, (by assumption), (by assumption), (by assumption), rfl, ?_⟩ | refine ⟨_, _, _, _, rfl, rfl, SqT.of (by assumption), rfl, ?_⟩ | refine ⟨_, _, rfl, SqT.of (by assumption), rfl, ?_⟩
  | refine ⟨_, _, _, _, _, rfl, .ty _, Rp.ty (by assumption), kit_int _, ?_⟩ | refine ⟨_, _, _, _, _, rfl, .ty _, Rp.ty (by assumption), kit_bool _, ?_⟩
  | refine ⟨_, _, _, _, _, rfl, .ty _, Rp.ty (by assumption), kit_str _, ?_⟩ | refine ⟨_, _, _, _, _, rfl, .ty _, Rp.ty (by assumption), kit_tup _, ?_⟩)
local macro_rules | `(tactic| walk_at "cal") => `(tactic| first
  | refine ⟨_, _, _, _, _, rfl, (by assumption), ?_⟩ | refine ⟨_, _, _, _, _, rfl, (by assumption), (by assumption), ?_⟩)
local macro_rules | `(tactic| walk_at "sq") => `(tactic| first
  | refine ⟨_, _, rfl, Or.inr (SqT.of (by assumption)), ?_⟩ | refine ⟨_, _, _, _, rfl, rfl, SqT.of (by assumption), rfl, ?_⟩)
local macro_rules | `(tactic| walk_at "rds") => `(tactic| repeat first | walk_at "rd" | walk_at "cal" | walk_at "sq")
local macro_rules | `(tactic| walk_at "ze") => `(tactic| repeat first
  | exact zes_nil | exact ze_bl | exact ze_str | exact ze_non | apply zes_cons | apply ze_tup | apply ze_lst | apply ze_cat | exact di_c | exact di_v rfl | apply di_opC | apply di_op | apply di_neg | apply ze_i | (refine (⟨?_, ?_, ?_⟩ : CPow _ _) <;> decide) | exact Nat.le_of_ble_eq_true rfl | exact ze_varD rfl (by assumption))
local macro_rules | `(tactic| walk_at "rdz") => `(tactic| repeat (fail_if_success (first | show tLst _ _ _ _ | show tAsg (tLst _) _ _ _ _ | show tSeq (tAsg (tLst _) _) _ _ _ _)); first | walk_at "rd" | walk_at "cal" | walk_at "sq")
theorem mo_i (n : Int) : ∀ m' : Mem, PyData.eqv (eM m') (.int n) = decide ((none : Option Mem) = some m') := fun _ => rfl
theorem castsOf_ct (m m' : Mem) (v v' : Vid) (pre : List Ev) (t i : Int) (p : Str) : castsOf m v (pre ++ [.ct t m' v' i p]) = if m' = m ∧ v' = v then castsOf m v pre ++ [(i, p)] else castsOf m v pre := by
  rw [castsOf_snoc]
  have e : ctS m v (.ct t m' v' i p) = if m' = m ∧ v' = v then some (i, p) else none := rfl
  rw [e]
  by_cases h : m' = m ∧ v' = v
  · rw [if_pos h, if_pos h]; rfl
  · rw [if_neg h, if_neg h]; exact List.append_nil _
theorem castsOf_other (m : Mem) (v : Vid) (pre : List Ev) (e : Ev) (h : ∀ m v, ctS m v e = none) : castsOf m v (pre ++ [e]) = castsOf m v pre := by
  rw [castsOf_snoc, h]; exact List.append_nil _
section
variable {P : Program} {w : World} {K : PySem.W.Frag} {mg : Str → Option Value} {base : Heap}
abbrev s__law_own : Stmt := top 17
abbrev N__law_own : List Str := ["events", "k", "member", "old", "log", "event"]
abbrev P__law_own : List Str := ["events"]
theorem sc__law_own : FnScope N__law_own P__law_own (defScope s__law_own) := ⟨rfl, rfl, rfl, by decide +kernel, rfl, by decide +kernel, by decide +kernel⟩
theorem ok__law_own {f : Addr} {fd : FuncData} (T : Tx mg) (c__law_view_of : DefOk P w K mg base CX0 "_law_view_of" P__law_view_of 1 (sp_vof)) (c__law_log : DefOk P w K mg base CX0 "_law_log" P__law_log 1 (sp_log))(F : Fun K "_law_own" "_law_own" s__law_own f fd) : FnOk P w K mg base CX0 (2) f fd P__law_own (sp_fault fun es => firstF fOwn [] es) := by
  have nd := sc__law_own.nd
  refine F.ok sc__law_own (fun vs H Q E h => ?_) (fun cdv A outer s H vs Q E hr h => ?_)
  · obtain ⟨_, _, _, rfl, _⟩ := h
    rfl
  · obtain ⟨a, us, es, rfl, ha, hr0, hok, hlen, q⟩ := h
    have hs := sl
    refine ⟨_, (pss_cons (ps_for PassesOwn.never rfl (pi_range1 (by rfl) T.b_range (pa_cons (pe_callB call_len_seq (by rfl) T.b_len (by decide +kernel) (pa_cons (pv 0) pa_nil)) pa_nil)) (pg_name (i := 1) nd rfl (Or.inl rfl))
        (pss_cons (ps_set (i := 2) nd rfl (Or.inl rfl) (pe_ix ix_tup (pe_ix ix_list (pv 0) (pv 1) (fun _ _ => rfl)) pe_int (fun _ _ => rfl)))
        (pss_cons (ps_set (i := 3) nd rfl (Or.inl rfl) (pcall c__law_view_of hr (pa_cons (pv 0) (pa_cons (pv 1) (pa_cons (pv 2) pa_nil)))))
        (pss_cons (ps_if (PW.pt (pw_or (pt_cmpR op_ne (pe_ix ix_tup (pe_ix ix_list (pv 0) (pv 1) (fun _ _ => rfl)) pe_int (fun _ _ => rfl)) pe_str (nomark _)) (pw_or1 (pt_cmpR op_isN (pv 3) pe_non (nomark _)))))
          (pss_one ps_continue)
          pss_nil)
        (pss_cons (ps_set (i := 4) nd rfl (Or.inl rfl) (pcall c__law_log hr (pa_cons (pv 0) (pa_cons (pv 1) (pa_cons (pv 2) (pa_cons (pv 3) pa_nil))))))
        (pss_one (ps_for PassesOwn.never rfl (pi_list (pe_slice sl_list (pv 0) po_none (po_some (pv 1)))) (pg_name (i := 5) nd rfl (Or.inl rfl))
          (pss_one (ps_if (PW.pt (pw_and (pt_cmpR op_eq (pe_ix ix_tup (pv 5) pe_int (fun _ _ => rfl)) pe_str (nomark _)) (pw_and (pt_cmpR (op_eqD hr.units) (pe_ix ix_tup (pv 5) pe_int (fun _ _ => rfl)) (pv 2) (nomark _)) (pw_and (pt_cmpR (op_eqD hr.units) (pe_ix ix_tup (pv 5) pe_int (fun _ _ => rfl)) (pv 3) (nomark _)) (pw_and1 (pt_cmpR (op_notInDD hr.units) (pe_tup (pa_cons (pv 2) (pa_cons (pe_ix ix_tup (pv 5) pe_int (fun _ _ => rfl)) (pa_cons (pe_ix ix_tup (pv 5) pe_int (fun _ _ => rfl)) pa_nil)))) (pv 4) (by rfl)))))))
            (pss_one (ps_ret (pe_tup (pa_cons pe_str (pa_cons (pv 2) (pa_cons (pv 3) pa_nil))))))
            pss_nil)))))))))
      (pss_one (ps_ret pe_non))), ?_⟩
    have lx := hr0.length
    rw [List.length_map] at lx
    refine ⟨_, rfl, a, us, rfl, .inl (SqL.of ha), _, rfl, by omega, by omega, for_range (lo := 0) (n := ((us.length : Nat) : Int).toNat) (fun i σ H' => ∃ (x1 x2 x3 x4 x5 : Option V), σ = [some (.ref a), x1, x2, x3, x4, x5] ∧ Same H H' ∧ firstF fOwn (es.take i) (es.drop i) = firstF fOwn [] es) ?_ ?_ ?_⟩
    · exact ⟨_, _, _, _, _, rfl, Same.refl _, rfl⟩
    · rintro i σ H1 hi ⟨x1, x2, x3, x4, x5, rfl, s1, hF⟩
      rw [Int.toNat_natCast] at hi
      rw [Int.zero_add]
      obtain ⟨v, hv⟩ : ∃ v, us[i]? = some v := ⟨_, List.getElem?_eq_getElem hi⟩
      obtain ⟨e, he, td0⟩ := hr0.map_at hv
      have td := td0.same s1
      have ha1 := s1 _ _ ha
      have hai : atI us (i : Nat) = some v := at_int (by omega) (by rw [Int.toNat_natCast]; exact hv)
      have heok := hok e (List.mem_of_getElem? he)
      rw [firstF_at he] at hF
      have tk := take_snoc he
      have ie : i ≤ es.length := by omega
      cases e with
      | cr t n =>
        obtain ⟨b, rfl, hb⟩ := td.ecr
        walk_at "rds"
        refine ⟨a, us, _, _, rfl, rfl, SqL.of ha1, hai, ?_⟩
        walk_at "rds"
        refine ⟨a, us, es, i, .int n, .int n, none, rfl, ha1, hr0.mono (TupK.of s1), hlen, ie, .int n, rfl, mo_i n, fun ov H2 s2 t2 => ?_⟩
        have s12 := s1.trans s2
        have ha2 := s2 _ _ ha1
        have hb := s2 _ _ hb
        walk_at "rds"
        refine ⟨a, us, _, _, rfl, rfl, SqL.of ha2, hai, ?_⟩
        walk_at "rds"
        exact hF
      | ct t m vid j p =>
        obtain ⟨b, x, y, rfl, hb, hx1, hy1⟩ := td.ect
        walk_at "rds"
        refine ⟨a, us, _, _, rfl, rfl, SqL.of ha1, hai, ?_⟩
        walk_at "rds"
        refine ⟨a, us, es, i, x, eM m, some m, rfl, ha1, hr0.mono (TupK.of s1), hlen, ie, hx1, (eM_lay m).2.2, mo_m' m, fun ov H2 s2 t2 => ?_⟩
        have s12 := s1.trans s2
        have ha2 := s2 _ _ ha1
        have hb := s2 _ _ hb
        walk_at "rds"
        refine ⟨a, us, _, _, rfl, rfl, SqL.of ha2, hai, ?_⟩
        walk_at "rds"
        exact hF
      | dl t m vid g =>
        obtain ⟨b, x, y, z, rfl, hb, hx1, hy1, hz1⟩ := td.edl
        walk_at "rds"
        refine ⟨a, us, _, _, rfl, rfl, SqL.of ha1, hai, ?_⟩
        walk_at "rds"
        refine ⟨a, us, es, i, x, eM m, some m, rfl, ha1, hr0.mono (TupK.of s1), hlen, ie, hx1, (eM_lay m).2.2, mo_m' m, fun ov H2 s2 t2 => ?_⟩
        have s12 := s1.trans s2
        have ha2 := s2 _ _ ha1
        have hb := s2 _ _ hb
        walk_at "rds"
        refine ⟨a, us, _, _, rfl, rfl, SqL.of ha2, hai, ?_⟩
        walk_at "rds"
        exact hF
      | vw t m vid ms =>
        obtain ⟨b, x, y, z, rfl, hb, hx1, hy1, hz1⟩ := td.evw
        walk_at "rds"
        refine ⟨a, us, _, _, rfl, rfl, SqL.of ha1, hai, ?_⟩
        walk_at "rds"
        refine ⟨a, us, es, i, x, eM m, some m, rfl, ha1, hr0.mono (TupK.of s1), hlen, ie, hx1, (eM_lay m).2.2, mo_m' m, fun ov H2 s2 t2 => ?_⟩
        have t2 : TD H2 ov (oVd (vwOf m (es.take i))) := t2
        have s12 := s1.trans s2
        have ha2 := s2 _ _ ha1
        have hb := s2 _ _ hb
        have hx2 := hx1.same s2
        have fin : ∀ (X : PyData) (H' : Hp) (v : V), fOwn (es.take i) (.vw t m vid ms) = some X → Same H H' → TD H' v X → Q v H' := fun X H' v e s h => by
          rw [e] at hF
          have hF : some X = firstF fOwn [] es := hF
          have q1 : TD H' v ((firstF fOwn [] es).getD .none) → Q v H' := q v H' s
          rw [← hF] at q1
          exact q1 h
        walk_at "rds"
        refine ⟨a, us, _, _, rfl, rfl, SqL.of ha2, hai, ?_⟩
        cases hv : vwOf m (es.take i) with
        | none =>
          rw [hv] at t2
          obtain rfl : ov = .non := by cases t2; rfl
          walk_at "rds"
          have hn : fOwn (es.take i) (.vw t m vid ms) = none := by rw [fOwn_vw, hv]
          rw [hn] at hF
          exact hF
        | some old =>
          rw [hv] at t2
          have t2 : TD H2 ov (eV old) := t2
          obtain ⟨ob, ou, rfl, hob, _⟩ := t2.vid
          walk_at "rds"
          refine ⟨a, us, es, i, x, .ref ob, m, old, rfl, ha2, hr0.mono (TupK.of s12), hlen, ie, hx2, t2, fun l vl H3 s3 nl hl3 r3 => ?_⟩
          have s13 := s12.trans s3
          have ha3 := s3 _ _ ha2
          have hx3 := hx2.same s3
          have t3 := t2.same s3
          have okl := logOf_okc (pre := es.take i) (fun e he => hok e (List.mem_of_mem_take he)) m old
          walk_at "rds"
          refine ⟨a, us, rfl, SqL.of ha3, fun A nA => ?_⟩
          rw [cutTo]
          have sA := same_new nA (.lst (us.take i))
          have hA : (upd H3 A (.lst (us.take i))) A = some (.lst (us.take i)) := upd_same
          have s4 := s13.trans sA
          have rA : TDs (upd H3 A (.lst (us.take i))) (us.take i) ((es.take i).map eE) := by
            have := hr0.mono (TupK.of s4)
            rw [List.map_take]
            exact this.take i
          have lA := rA.length
          rw [List.length_map] at lA
          have hxA := hx3.same sA
          have tA := t3.same sA
          have hlA := sA _ _ hl3
          have rlA := r3.mono (TupK.of sA)
          clear hx3 t3 hl3 r3 hx2 t2 hx1 hy1 hz1 td hb hob
          generalize upd H3 A (.lst (us.take i)) = HA at *
          refine ⟨A, rfl, ⟨_, SqL.of hA⟩, for_list (K := K) (a := A) (xs := us.take i) (fun j σ H' => ∃ x5 : Option V, σ = [some (.ref a), some (.int (i : Nat)), some x, some (.ref ob), some (.ref l), x5] ∧ Same HA H' ∧ ∀ c ∈ castsOf m old ((es.take i).take j), ((m, c.1, c.2) : Msg) ∈ logOf m old (es.take i)) ?_ ?_ ?_ ?_⟩
          · exact ⟨_, rfl, Same.refl _, fun c hc => by rw [List.take_zero] at hc; cases hc⟩
          · rintro j σ H' _ ⟨_, rfl, s5, _⟩
            exact SqL.of (s5 _ _ hA)
          · rintro j v σ H5 hxj ⟨x5', rfl, s5, hall⟩
            obtain ⟨e, he2, td2⟩ := rA.map_at hxj
            have td5 := td2.same s5
            have tk2 := take_snoc he2
            have hx5 := hxA.same s5
            have t5 := tA.same s5
            have hokc := hok e (List.mem_of_mem_take (List.mem_of_getElem? he2))
            have other : (∀ m v, ctS m v e = none) → ∀ c ∈ castsOf m old ((es.take i).take (j + 1)), ((m, c.1, c.2) : Msg) ∈ logOf m old (es.take i) := fun h c hc => by
              rw [tk2, castsOf_other _ _ _ _ h] at hc
              exact hall c hc
            cases e with
            | cr t n =>
              obtain ⟨b, rfl, hb⟩ := td5.ecr
              walk_at "rds"
              exact ⟨s5, other fun _ _ => rfl⟩
            | dl t m vid g =>
              obtain ⟨b, x, y, z, rfl, hb, hx1, hy1, hz1⟩ := td5.edl
              walk_at "rds"
              exact ⟨s5, other fun _ _ => rfl⟩
            | vw t m vid ms =>
              obtain ⟨b, x, y, z, rfl, hb, hx1, hy1, hz1⟩ := td5.evw
              walk_at "rds"
              exact ⟨s5, other fun _ _ => rfl⟩
            | ct t' m' v' i' p' =>
              obtain ⟨b, x', y', rfl, hb, hx', hy'⟩ := td5.ect
              walk_at "rds"
              refine ⟨eM m', eM m, hx'.dp, hx5.dp, (eM_lay m').2.2, (eM_lay m).2.2, ?_⟩
              rw [eM_eqv]
              refine ⟨_, rfl, iB (fun h1 => ?_) (fun h1 => ?_)⟩
              · have h1 := of_decide_eq_true h1
                walk_at "rds"
                refine ⟨eV v', eV old, hy'.dp, t5.dp, (eV_lay v').2.2, (eV_lay old).2.2, ?_⟩
                rw [eV_eqv]
                refine ⟨_, rfl, iB (fun h2 => ?_) (fun h2 => ?_)⟩
                · have h2 := of_decide_eq_true h2
                  walk_at "rds"
                  refine ⟨by show 3 ≤ sizeLine; omega, fun t6 nt6 => ?_⟩
                  have s6 := same_new nt6 (.tup [x, .int i', .str p'])
                  have tm : TD (upd H5 t6 (.tup [x, .int i', .str p'])) (.ref t6) (eG (m, i', p')) := .tup upd_same (by show 3 ≤ 100000; decide) (.cons (hx5.same s6) (.cons (.int _) (.cons (.str _) .nil)))
                  have s56 := s5.trans s6
                  have hx6 := hx5.same s6
                  have t6' := t5.same s6
                  have hl6 := s56 _ _ hlA
                  have rl6 := rlA.mono (TupK.of s56)
                  clear hb hx' hy' td5
                  generalize upd H5 t6 (.tup [x, .int i', .str p']) = H6 at *
                  walk_at "rds"
                  refine rd_inGl (f := not) tm hl6 rl6 hokc okl ?_
                  refine ⟨_, rfl, iB (fun h => ?_) (fun h => ?_)⟩
                  · have h : ((m, i', p') : Msg) ∉ logOf m old (es.take i) := by simpa using h
                    walk_at "rds"
                    refine ⟨by show 3 ≤ sizeLine; omega, fun t9 nt9 => ?_⟩
                    refine fin _ _ _ ?_ ((s4.trans s56).trans (same_new nt9 _)) (td3 nt9 hx6 t6')
                    rw [fOwn_vw, hv]
                    refine if_neg fun z => h ?_
                    have hc : ((i', p') : Cst) ∈ castsOf m old (es.take i) := List.mem_filterMap.mpr ⟨_, List.mem_of_getElem? he2, if_pos ⟨h1, h2⟩⟩
                    exact of_decide_eq_true (List.all_eq_true.mp z _ hc)
                  · have h : ((m, i', p') : Msg) ∈ logOf m old (es.take i) := by simpa using h
                    walk_at "rds"
                    refine ⟨s56, fun c hc => ?_⟩
                    rw [tk2, castsOf_ct, if_pos ⟨h1, h2⟩] at hc
                    rcases List.mem_append.mp hc with hc | hc
                    · exact hall c hc
                    · rw [List.mem_singleton.mp hc]; exact h
                · have h2 := of_decide_eq_false h2
                  walk_at "rds"
                  refine ⟨s5, fun c hc => ?_⟩
                  rw [tk2, castsOf_ct, if_neg (fun z => h2 z.2)] at hc
                  exact hall c hc
              · have h1 := of_decide_eq_false h1
                walk_at "rds"
                refine ⟨s5, fun c hc => ?_⟩
                rw [tk2, castsOf_ct, if_neg (fun z => h1 z.1)] at hc
                exact hall c hc
          · rintro σ H5 ⟨x5', rfl, s5, hall⟩
            rw [lA, List.take_length] at hall
            have hn : fOwn (es.take i) (.vw t m vid ms) = none := by
              rw [fOwn_vw, hv]
              exact if_pos (List.all_eq_true.mpr fun c hc => decide_eq_true (hall c hc))
            rw [hn] at hF
            exact ⟨_, _, _, _, _, rfl, s4.trans s5, hF⟩
    · rintro σ H1 ⟨x1, x2, x3, x4, x5, rfl, s1, hF⟩
      have eN : firstF fOwn [] es = none := by
        rw [← hF, Int.toNat_natCast, lx, List.drop_length]; rfl
      have q1 : TD H1 .non ((firstF fOwn [] es).getD .none) → Q .non H1 := q .non H1 s1
      rw [eN] at q1
      exact q1 .non
end
end Mus

set_option maxRecDepth 100000
set_option maxHeartbeats 4000000
namespace Mus
open PySem L2
local macro_rules | `(tactic| walk_at "rd") => `(tactic| first
  | refine ⟨_, rfl, ?_⟩ | refine ⟨(True.intro : True), ?_⟩
  | refine ⟨_, _, rfl, rfl, (⟨by decide, by decide, by decide⟩ : CPow _ _), ?_⟩
  | refine ⟨_, _, rfl, rfl, (⟨by decide, by decide⟩ : CDiv _ _), ?_⟩
  | refine ⟨_, _, rfl, rfl, (by show (0 : Int) < _; decide), ?_⟩
  | refine ⟨_, _, rfl, rfl, ?_⟩ | refine ⟨rfl, ?_⟩ | refine iteT ?_ | refine iteF ?_ | refine ⟨_, _, rfl, ?_⟩ | refine .inl ⟨_, rfl, ?_⟩
  | refine ⟨_, _, _, _, _, rfl, (by assumption), (by assumption), (by assumption), rfl, ?_⟩ | refine ⟨_, _, _, _, rfl, rfl, SqT.of (by assumption), rfl, ?_⟩ | refine ⟨_, _, rfl, SqT.of (by assumption), rfl, ?_⟩
  | refine ⟨_, _, _, _, _, rfl, .ty _, Rp.ty (by assumption), kit_int _, ?_⟩ | refine ⟨_, _, _, _, _, rfl, .ty _, Rp.ty (by assumption), kit_bool _, ?_⟩
  | refine ⟨_, _, _, _, _, rfl, .ty _, Rp.ty (by assumption), kit_str _, ?_⟩ | refine ⟨_, _, _, _, _, rfl, .ty _, Rp.ty (by assumption), kit_tup _, ?_⟩)
local macro_rules | `(tactic| walk_at "cal") => `(tactic| first
  | refine ⟨_, _, _, _, _, rfl, (by assumption), ?_⟩ | refine ⟨_, _, _, _, _, rfl, (by assumption), (by assumption), ?_⟩)
local macro_rules | `(tactic| walk_at "sq") => `(tactic| first
  | refine ⟨_, _, rfl, Or.inr (SqT.of (by assumption)), ?_⟩ | refine ⟨_, _, _, _, rfl, rfl, SqT.of (by assumption), rfl, ?_⟩)
local macro_rules | `(tactic| walk_at "rds") => `(tactic| repeat first | walk_at "rd" | walk_at "cal" | walk_at "sq")
local macro_rules | `(tactic| walk_at "ze") => `(tactic| repeat first
  | exact zes_nil | exact ze_bl | exact ze_str | exact ze_non | apply zes_cons | apply ze_tup | apply ze_lst | apply ze_cat | exact di_c | exact di_v rfl | apply di_opC | apply di_op | apply di_neg | apply ze_i | (refine (⟨?_, ?_, ?_⟩ : CPow _ _) <;> decide) | exact Nat.le_of_ble_eq_true rfl | exact ze_varD rfl (by assumption))
local macro_rules | `(tactic| walk_at "rdz") => `(tactic| repeat (fail_if_success (first | show tLst _ _ _ _ | show tAsg (tLst _) _ _ _ _ | show tSeq (tAsg (tLst _) _) _ _ _ _)); first | walk_at "rd" | walk_at "cal" | walk_at "sq")
/-- what an event made may hold -/
def EvBnd (n : Nat) : Ev → Prop := fun e => EvOk e
def sp_event : Sp := fun vs H Q _ => ∃ (a : Addr) (us : List V) (es : List Ev) (c : Nat), vs = [.ref a, .int (c : Nat)] ∧ H a = some (.lst us) ∧ TDs H us (es.map eE) ∧ (∀ e ∈ es, EvOk e) ∧ es.length ≤ 30 ∧
  ∀ v e H', Same H H' → TD H' v (eE e) → EvOk e → Q v H'
def mems3 : List Mem := [(0, 1), (1, 1), (2, 3)]
/-- the three members, laid -/
def Mm3 (H : Hp) (t t1 t2 t3 : Addr) : Prop := H t = some (.tup [.ref t1, .ref t2, .ref t3]) ∧ H t1 = some (.tup [.int 0, .int 1]) ∧ H t2 = some (.tup [.int 1, .int 1]) ∧ H t3 = some (.tup [.int 2, .int 3])
theorem Mm3.same {H H' : Hp} {t t1 t2 t3 : Addr} (h : Mm3 H t t1 t2 t3) (s : Same H H') : Mm3 H' t t1 t2 t3 := ⟨s _ _ h.1, s _ _ h.2.1, s _ _ h.2.2.1, s _ _ h.2.2.2⟩
theorem Mm3.tds {H : Hp} {t t1 t2 t3 : Addr} (h : Mm3 H t t1 t2 t3) : TDs H [.ref t1, .ref t2, .ref t3] (mems3.map eM) :=
  .cons (.tup h.2.1 (by show 2 ≤ 100000; decide) (.cons (.int _) (.cons (.int _) .nil))) (.cons (.tup h.2.2.1 (by show 2 ≤ 100000; decide) (.cons (.int _) (.cons (.int _) .nil))) (.cons (.tup h.2.2.2 (by show 2 ≤ 100000; decide) (.cons (.int _) (.cons (.int _) .nil))) .nil))
theorem Mm3.at {H : Hp} {t t1 t2 t3 : Addr} (h : Mm3 H t t1 t2 t3) {k : Int} (h0 : 0 ≤ k) (h3 : k < 3) : ∃ v m, atI [V.ref t1, .ref t2, .ref t3] k = some v ∧ TD H v (eM m) := by
  obtain ⟨v, hv⟩ : ∃ v, [V.ref t1, .ref t2, .ref t3][k.toNat]? = some v := ⟨_, List.getElem?_eq_getElem (by show k.toNat < 3; omega)⟩
  obtain ⟨m, _, td⟩ := h.tds.map_at hv
  exact ⟨v, m, at_int h0 hv, td⟩
theorem Mm3.sl {K : PySem.W.Frag} {H : Hp} {t t1 t2 t3 : Addr} {Q : VK} (h : Mm3 H t t1 t2 t3) {k : Int} (h0 : 0 ≤ k) (h3 : k < 3) (q : ∀ v (n : Nat) H', Same H H' → TD H' v (eMs (mems3.drop n)) → Q v H') : rSlA K (.ref t) (some k) none H Q := by
  have r := h.tds
  have e : k = 0 ∨ k = 1 ∨ k = 2 := by omega
  refine ⟨t, _, rfl, SqT.of h.1, fun _ => q (.ref t) 0 H (Same.refl _) (.tup h.1 (by show 3 ≤ 100000; decide) r), fun _ p np => ?_⟩
  have sp := same_new np
  rcases e with rfl | rfl | rfl
  · exact q _ 0 _ (same_new np _) (.tup upd_same (by show 3 ≤ 100000; decide) (r.mono (TupK.of (same_new np _))))
  · have r2 : TDs H [.ref t2, .ref t3] (List.map eM [(1, 1), (2, 3)]) := by cases r with | cons _ r => exact r
    exact q _ 1 _ (same_new np _) (.tup upd_same (by show 2 ≤ 100000; decide) (r2.mono (TupK.of (same_new np _))))
  · have r2 : TDs H [.ref t3] (List.map eM [(2, 3)]) := by cases r with | cons _ r => cases r with | cons _ r => exact r
    exact q _ 2 _ (same_new np _) (.tup upd_same (by show 1 ≤ 100000; decide) (r2.mono (TupK.of (same_new np _))))
/-- a cast event, as it lies -/
def CsV (H : Hp) (u : V) : Prop := ∃ (b : Addr) (t i : Int) (x y : V) (m : Mem) (p : Str), u = .ref b ∧ H b = some (.tup [.str "cast", .int t, x, y, .int i, .str p]) ∧ TD H x (eM m) ∧ PyData.strOk p = true
theorem CsV.mono {H H' : Hp} {u : V} (h : CsV H u) (k : TupK H H') : CsV H' u := by
  obtain ⟨b, t, i, x, y, m, p, e, h1, h2, h3⟩ := h
  exact ⟨b, t, i, x, y, m, p, e, k _ _ h1, h2.mono k, h3⟩
section
variable {P : Program} {w : World} {K : PySem.W.Frag} {mg : Str → Option Value} {base : Heap}
abbrev s__law_event : Stmt := top 12
abbrev N__law_event : List Str := ["events", "cell", "time", "members", "member", "view_id", "kind", "rest", "number", "listed", "own", "index", "casts", "log", "left", "event"]
abbrev P__law_event : List Str := ["events", "cell"]
theorem sc__law_event : FnScope N__law_event P__law_event (defScope s__law_event) := ⟨rfl, rfl, rfl, by decide +kernel, rfl, by decide +kernel, by decide +kernel⟩
theorem ok__law_event {f : Addr} {fd : FuncData} (T : Tx mg) (c__law_view_of : DefOk P w K mg base CX0 "_law_view_of" P__law_view_of 1 (sp_vof)) (c__law_log : DefOk P w K mg base CX0 "_law_log" P__law_log 1 (sp_log))(F : Fun K "_law_event" "_law_event" s__law_event f fd) : FnOk P w K mg base CX0 (2) f fd P__law_event (sp_event) := by
  have nd := sc__law_event.nd
  refine F.ok sc__law_event (fun vs H Q E h => ?_) (fun cdv A outer s H vs Q E hr h => ?_)
  · obtain ⟨_, _, _, _, rfl, _⟩ := h
    rfl
  · obtain ⟨a, us, es, c, rfl, ha, hr0, hok, hlen, q⟩ := h
    have hs := sl
    refine ⟨_, (pss_cons (ps_set (i := 2) nd rfl (Or.inl rfl) (pe_callB call_len_seq (by rfl) T.b_len (by decide +kernel) (pa_cons (pv 0) pa_nil)))
      (pss_cons (ps_set (i := 3) nd rfl (Or.inl rfl) (pe_tup (pa_cons (pe_tup (pa_cons pe_int (pa_cons pe_int pa_nil))) (pa_cons (pe_tup (pa_cons pe_int (pa_cons pe_int pa_nil))) (pa_cons (pe_tup (pa_cons pe_int (pa_cons pe_int pa_nil))) pa_nil)))))
      (pss_cons (ps_set (i := 4) nd rfl (Or.inr rfl) (pe_ix ix_tup (pv 3) (pe_op op_mod (pv 1) pe_int) (fun _ _ => rfl)))
      (pss_cons (ps_set (i := 5) nd rfl (Or.inr rfl) (pcall c__law_view_of hr (pa_cons (pv 0) (pa_cons (pv 2) (pa_cons (pv 4) pa_nil)))))
      (pss_cons (ps_set (i := 6) nd rfl (Or.inl rfl) (pe_op op_mod (pe_op op_fdiv (pv 1) pe_int) pe_int))
      (pss_cons (ps_set (i := 7) nd rfl (Or.inl rfl) (pe_op op_fdiv (pv 1) pe_int))
      (pss_cons (ps_if (pt_cmpR op_eq (pe_op op_mod (pv 7) pe_int) pe_int (nomark _))
        (pss_one (ps_ret (pe_tup (pa_cons pe_str (pa_cons (pv 2) (pa_cons (pe_op op_mod (pe_op op_fdiv (pv 7) pe_int) pe_int) pa_nil))))))
        pss_nil)
      (pss_cons (ps_if (PW.pt (pw_or (pt_cmpR op_isN (pv 5) pe_non (nomark _)) (pw_or1 (pt_cmpR op_eq (pv 6) pe_int (nomark _)))))
        (pss_cons (ps_set (i := 8) nd rfl (Or.inl rfl) (pe_op op_add pe_int (pe_op op_mod (pv 7) pe_int)))
        (C8.pss_cut (ps_if (PW.pt (pw_and (pt_cmpR op_notN (pv 5) pe_non (nomark _)) (pw_and1 (pt_cmpR op_gt (pe_op op_mod (pe_op op_fdiv (pv 7) pe_int) pe_int) pe_int (nomark _)))))
          (pss_one (ps_set (i := 8) nd rfl (Or.inl rfl) (pe_op op_add (pe_ix ix_tup (pv 5) pe_int (fun _ _ => rfl)) pe_int)))
          pss_nil)
        (pss_cons (ps_set (i := 9) nd rfl (Or.inl rfl) (pv 3))
        (C8.pss_cut (ps_if (pt_cmpR op_eq (pe_op op_mod (pe_op op_fdiv (pv 7) pe_int) pe_int) pe_int (nomark _))
          (pss_one (ps_set (i := 9) nd rfl (Or.inl rfl) (pe_slice sl_tupA (pv 3) (po_some (pe_op op_mod (pe_op op_fdiv (pv 7) pe_int) pe_int)) po_none)))
          pss_nil)
        (pss_one (ps_ret (pe_tup (pa_cons pe_str (pa_cons (pv 2) (pa_cons (pv 4) (pa_cons (pe_tup (pa_cons (pv 8) (pa_cons (pe_ix ix_tup (pv 3) (pe_op op_fdiv (pe_op op_mod (pe_op op_fdiv (pv 7) pe_int) pe_int) pe_int) (fun _ _ => rfl)) pa_nil))) (pa_cons (pv 9) pa_nil))))))))))))
        pss_nil)
      (pss_cons (ps_if (pt_cmpR op_lt (pv 6) pe_int (nomark _))
        (pss_cons (ps_setLcX (i := 10) (own := [("event", 15)]) rfl nd rfl rfl (sw_true rfl rfl rfl (by decide +kernel)) (pi_list (pv 0)) (blkOk_by (own := [("event", 15)]) (N := N__law_event) (sc := defScope s__law_event) (by decide +kernel)) (fun _ _ _ _ _ => (pg_name (i := 15) nd rfl (Or.inl rfl))) (fun _ _ _ _ _ => (pts_one (PW.pt (pw_and (pt_cmpR op_eq (pe_ix ix_tup (pv 15) pe_int (fun _ _ => rfl)) pe_str (nomark _)) (pw_and (pt_cmpR (op_eqD hr.units) (pe_ix ix_tup (pv 15) pe_int (fun _ _ => rfl)) (pv 4) (nomark _)) (pw_and1 (pt_cmpR (op_eqD hr.units) (pe_ix ix_tup (pv 15) pe_int (fun _ _ => rfl)) (pv 5) (nomark _)))))))) (fun _ _ _ _ _ => (pv 15)))
        (pss_cons (ps_set (i := 11) nd rfl (Or.inl rfl) (pe_op op_add (pe_callB call_len_seq (by rfl) T.b_len (by decide +kernel) (pa_cons (pv 10) pa_nil)) pe_int))
        (C8.pss_cut (ps_if (pt_cmpR op_eq (pe_op op_mod (pv 7) pe_int) pe_int (nomark _))
          (pss_one (ps_set (i := 11) nd rfl (Or.inl rfl) (pe_op op_add pe_int (pe_op op_mod (pe_op op_fdiv (pv 7) pe_int) pe_int))))
          pss_nil)
        (pss_one (ps_ret (pe_tup (pa_cons pe_str (pa_cons (pv 2) (pa_cons (pv 4) (pa_cons (pv 5) (pa_cons (pv 11) (pa_cons (pe_op op_add_str pe_str (pe_callTy call_str_int (by rfl) T.b_str (by decide +kernel) (pa_cons (pe_op op_mod (pv 7) pe_int) pa_nil))) pa_nil))))))))))))
        pss_nil)
      (pss_cons (ps_setLcX (i := 12) (own := [("event", 15)]) rfl nd rfl rfl (sw_true rfl rfl rfl (by decide +kernel)) (pi_list (pv 0)) (blkOk_by (own := [("event", 15)]) (N := N__law_event) (sc := defScope s__law_event) (by decide +kernel)) (fun _ _ _ _ _ => (pg_name (i := 15) nd rfl (Or.inl rfl))) (fun _ _ _ _ _ => (pts_one (PW.pt (pw_and (pt_cmpR op_eq (pe_ix ix_tup (pv 15) pe_int (fun _ _ => rfl)) pe_str (nomark _)) (pw_and1 (pt_cmpR (op_eqD hr.units) (pe_ix ix_tup (pv 15) pe_int (fun _ _ => rfl)) (pv 5) (nomark _))))))) (fun _ _ _ _ _ => (pv 15)))
      (pss_cons (ps_if (PW.pt (pw_or (pt_cmpR op_eq (pe_callB call_len_seq (by rfl) T.b_len (by decide +kernel) (pa_cons (pv 12) pa_nil)) pe_int (nomark _)) (pw_or1 (pt_cmpR op_eq (pe_op op_mod (pv 7) pe_int) pe_int (nomark _)))))
        (pss_one (ps_ret (pe_tup (pa_cons pe_str (pa_cons (pv 2) (pa_cons (pv 4) (pa_cons (pv 5) (pa_cons (pe_tup (pa_cons (pe_ix ix_tup (pv 3) (pe_op op_mod (pe_op op_fdiv (pv 7) pe_int) pe_int) (fun _ _ => rfl)) (pa_cons (pe_op op_add pe_int (pe_op op_mod (pe_op op_fdiv (pv 7) pe_int) pe_int)) (pa_cons (pe_op op_add_str pe_str (pe_callTy call_str_int (by rfl) T.b_str (by decide +kernel) (pa_cons (pe_op op_mod (pe_op op_fdiv (pv 7) pe_int) pe_int) pa_nil))) pa_nil)))) pa_nil))))))))
        pss_nil)
      (pss_cons (ps_set (i := 13) nd rfl (Or.inr rfl) (pcall c__law_log hr (pa_cons (pv 0) (pa_cons (pv 2) (pa_cons (pv 4) (pa_cons (pv 5) pa_nil))))))
      (pss_cons (ps_setLcX (i := 14) (own := [("event", 15)]) rfl nd rfl rfl (sw_true rfl rfl rfl (by decide +kernel)) (pi_list (pv 12)) (blkOk_by (own := [("event", 15)]) (N := N__law_event) (sc := defScope s__law_event) (by decide +kernel)) (fun _ _ _ _ _ => (pg_name (i := 15) nd rfl (Or.inl rfl))) (fun _ _ _ _ _ => (pts_one (pt_cmpR (op_notInDD hr.units) (pe_tup (pa_cons (pe_ix ix_tup (pv 15) pe_int (fun _ _ => rfl)) (pa_cons (pe_ix ix_tup (pv 15) pe_int (fun _ _ => rfl)) (pa_cons (pe_ix ix_tup (pv 15) pe_int (fun _ _ => rfl)) pa_nil)))) (pv 13) (by rfl)))) (fun _ _ _ _ _ => (pv 15)))
      (C8.pss_cut (ps_if (PW.pt (pw_or (pt_cmpR op_eq (pe_callB call_len_seq (by rfl) T.b_len (by decide +kernel) (pa_cons (pv 14) pa_nil)) pe_int (nomark _)) (pw_or1 (pt_cmpR op_eq (pe_op op_mod (pv 7) pe_int) pe_int (nomark _)))))
        (pss_one (ps_set (i := 14) nd rfl (Or.inl rfl) (pv 12)))
        pss_nil)
      (pss_cons (ps_set (i := 15) nd rfl (Or.inl rfl) (pe_ix ix_list (pv 14) pe_int (fun _ _ => rfl)))
      (C8.pss_cut (ps_if (pt_cmpR op_eq (pe_op op_mod (pv 7) pe_int) pe_int (nomark _))
        (pss_one (ps_set (i := 15) nd rfl (Or.inl rfl) (pe_ix ix_list (pv 14) (pe_op op_mod (pe_op op_fdiv (pv 7) pe_int) (pe_callB call_len_seq (by rfl) T.b_len (by decide +kernel) (pa_cons (pv 14) pa_nil))) (fun _ _ => rfl))))
        pss_nil)
      (C8.pss_cut (ps_if (pt_cmpR op_eq (pe_op op_mod (pv 7) pe_int) pe_int (nomark _))
        (pss_one (ps_set (i := 5) nd rfl (Or.inr rfl) (pe_tup (pa_cons (pe_op op_add (pe_ix ix_tup (pv 5) pe_int (fun _ _ => rfl)) pe_int) (pa_cons (pe_ix ix_tup (pv 5) pe_int (fun _ _ => rfl)) pa_nil)))))
        pss_nil)
      (pss_one (ps_ret (pe_tup (pa_cons pe_str (pa_cons (pv 2) (pa_cons (pv 4) (pa_cons (pv 5) (pa_cons (pe_tup (pa_cons (pe_ix ix_tup (pv 15) pe_int (fun _ _ => rfl)) (pa_cons (pe_ix ix_tup (pv 15) pe_int (fun _ _ => rfl)) (pa_cons (pe_ix ix_tup (pv 15) pe_int (fun _ _ => rfl)) pa_nil)))) pa_nil))))))))))))))))))))))))), ?_⟩
    have lx := hr0.length
    rw [List.length_map] at lx
    refine ⟨_, rfl, a, us, rfl, .inl (SqL.of ha), ?_⟩
    rw [lx]
    refine ⟨by show 2 ≤ sizeLine; omega, fun t1 n1 => ?_⟩
    have s1 := same_new n1 (.tup [.int 0, .int 1])
    have h1 : (upd H t1 (.tup [.int 0, .int 1])) t1 = some (.tup [.int 0, .int 1]) := upd_same
    generalize upd H t1 (.tup [.int 0, .int 1]) = H1 at *
    refine ⟨by show 2 ≤ sizeLine; omega, fun t2 n2 => ?_⟩
    have s2 := same_new n2 (.tup [.int 1, .int 1])
    have h2 : (upd H1 t2 (.tup [.int 1, .int 1])) t2 = some (.tup [.int 1, .int 1]) := upd_same
    generalize upd H1 t2 (.tup [.int 1, .int 1]) = H2 at *
    refine ⟨by show 2 ≤ sizeLine; omega, fun t3 n3 => ?_⟩
    have s3 := same_new n3 (.tup [.int 2, .int 3])
    have h3 : (upd H2 t3 (.tup [.int 2, .int 3])) t3 = some (.tup [.int 2, .int 3]) := upd_same
    generalize upd H2 t3 (.tup [.int 2, .int 3]) = H3 at *
    refine ⟨by show 3 ≤ sizeLine; omega, fun t n4 => ?_⟩
    have s4 := same_new n4 (.tup [.ref t1, .ref t2, .ref t3])
    have h4 : (upd H3 t (.tup [.ref t1, .ref t2, .ref t3])) t = some (.tup [.ref t1, .ref t2, .ref t3]) := upd_same
    have M : Mm3 (upd H3 t (.tup [.ref t1, .ref t2, .ref t3])) t t1 t2 t3 := ⟨h4, s4 _ _ (s3 _ _ (s2 _ _ h1)), s4 _ _ (s3 _ _ h2), s4 _ _ h3⟩
    have s04 := s1.trans (s2.trans (s3.trans s4))
    clear s1 s2 s3 s4 h1 h2 h3 h4 n1 n2 n3 n4
    generalize upd H3 t (.tup [.ref t1, .ref t2, .ref t3]) = H4 at *
    obtain ⟨mv, m, hmv, tm⟩ := M.at (k := (c : Int) % 3) (by omega) (by omega)
    walk_at "rds"
    refine ⟨t, _, _, _, rfl, rfl, SqT.of M.1, hmv, ?_⟩
    walk_at "rds"
    refine ⟨a, us, es, es.length, mv, eM m, some m, rfl, s04 _ _ ha, hr0.mono (TupK.of s04), hlen, Nat.le_refl _, tm, (eM_lay m).2.2, mo_m' m, fun ov H5 s5 t5 => ?_⟩
    have t5 : TD H5 ov (oVd (vwOf m (es.take es.length))) := t5
    rw [List.take_length] at t5
    have M5 := M.same s5
    have tm5 := tm.same s5
    have s05 := s04.trans s5
    clear M tm s04 s5 hmv
    walk_at "rds"
    refine iB (fun _ => ?_) (fun _ => ?_)
    · walk_at "rds"
      refine ⟨by show 3 ≤ sizeLine; omega, fun tt nn => ?_⟩
      exact q _ (.cr (es.length : Nat) ((c : Int) / 24 / 11 % 3)) _ (s05.trans (same_new nn _)) (.tup upd_same (by show 3 ≤ 100000; decide) (.cons (.str _) (.cons (.int _) (.cons (.int _) .nil)))) trivial
    · cases hv : vwOf m es with
      | none =>
        rw [hv] at t5
        obtain rfl : ov = .non := by cases t5; rfl
        walk_at "rds"
        refine ⟨fun σ' H' => ∃ nb : Int, σ' = [some (.ref a), some (.int (c : Nat)), some (.int (es.length : Nat)), some (.ref t), some mv, some .non, some (.int ((c : Int) / 3 % 8)), some (.int ((c : Int) / 24)), some (.int nb), none, none, none, none, none, none, none] ∧ H5 = H', ?_, ?_⟩
        · walk_at "rds"
          exact rfl
        · rintro σ' _ ⟨nb, rfl, rfl⟩
          walk_at "rds"
          refine ⟨fun σ' H' => ∃ (lv : V) (k : Nat), σ' = [some (.ref a), some (.int (c : Nat)), some (.int (es.length : Nat)), some (.ref t), some mv, some .non, some (.int ((c : Int) / 3 % 8)), some (.int ((c : Int) / 24)), some (.int nb), some lv, none, none, none, none, none, none] ∧ Same H5 H' ∧ TD H' lv (eMs (mems3.drop k)), ?_, ?_⟩
          · walk_at "rds"
            refine iB (fun _ => ?_) (fun _ => ?_)
            · walk_at "rds"
              dsimp only [tNoPart]
              refine M5.sl (k := (c : Int) / 24 / 72 % 3) (by omega) (by omega) ?_
              intro v n H' s h
              exact ⟨v, n, rfl, s, h⟩
            · exact ⟨_, 0, rfl, Same.refl _, .tup M5.1 (by show 3 ≤ 100000; decide) M5.tds⟩
          · rintro σ' H6 ⟨lv, k, rfl, s6, tl⟩
            walk_at "rds"
            obtain ⟨mv2, m2, h2, tm2⟩ := (M5.same s6).at (k := (c : Int) / 24 / 216 % 5 / 4) (by omega) (by omega)
            refine ⟨t, _, _, _, rfl, rfl, SqT.of (M5.same s6).1, h2, ?_⟩
            refine ⟨by show 2 ≤ sizeLine; omega, fun ta na => ?_⟩
            have sa := same_new na (.tup [.int nb, mv2])
            have tv : TD (upd H6 ta (.tup [.int nb, mv2])) (.ref ta) (eV (nb, m2)) := .tup upd_same (by show 2 ≤ 100000; decide) (.cons (.int _) (.cons (tm2.same sa) .nil))
            have tl7 := tl.same sa
            have tm7 := (tm5.same s6).same sa
            have s07 := s05.trans (s6.trans sa)
            generalize upd H6 ta (.tup [.int nb, mv2]) = H7 at *
            walk_at "rds"
            refine ⟨by show 5 ≤ sizeLine; omega, fun tb nb' => ?_⟩
            have sb := same_new nb' (.tup [.str "view", .int (es.length : Nat), mv, .ref ta, lv])
            refine q _ (.vw (es.length : Nat) m (nb, m2) (mems3.drop k)) _ (s07.trans sb) (.tup upd_same (by show 5 ≤ 100000; decide) (.cons (.str _) (.cons (.int _) (.cons (tm7.same sb) (.cons (tv.same sb) (.cons (tl7.same sb) .nil)))))) ?_
            show (mems3.drop k).length ≤ 100
            have : mems3.length = 3 := rfl
            rw [List.length_drop]
            omega
      | some vid =>
        rw [hv] at t5
        have t5 : TD H5 ov (eV vid) := t5
        obtain ⟨ob, ou, rfl, hob, tou⟩ := t5.vid
        walk_at "rds"
        refine iB (fun _ => ?_) (fun _ => ?_)
        · walk_at "rds"
          refine ⟨fun σ' H' => ∃ nb : Int, σ' = [some (.ref a), some (.int (c : Nat)), some (.int (es.length : Nat)), some (.ref t), some mv, some (.ref ob), some (.int ((c : Int) / 3 % 8)), some (.int ((c : Int) / 24)), some (.int nb), none, none, none, none, none, none, none] ∧ H5 = H', ?_, ?_⟩
          · walk_at "rds"
            refine iB (fun _ => ?_) (fun _ => ?_)
            · walk_at "rds"
              exact rfl
            · walk_at "rds"
              exact rfl
          · rintro σ' _ ⟨nb, rfl, rfl⟩
            walk_at "rds"
            refine ⟨fun σ' H' => ∃ (lv : V) (k : Nat), σ' = [some (.ref a), some (.int (c : Nat)), some (.int (es.length : Nat)), some (.ref t), some mv, some (.ref ob), some (.int ((c : Int) / 3 % 8)), some (.int ((c : Int) / 24)), some (.int nb), some lv, none, none, none, none, none, none] ∧ Same H5 H' ∧ TD H' lv (eMs (mems3.drop k)), ?_, ?_⟩
            · walk_at "rds"
              refine iB (fun _ => ?_) (fun _ => ?_)
              · walk_at "rds"
                dsimp only [tNoPart]
                refine M5.sl (k := (c : Int) / 24 / 72 % 3) (by omega) (by omega) ?_
                intro v n H' s h
                exact ⟨v, n, rfl, s, h⟩
              · exact ⟨_, 0, rfl, Same.refl _, .tup M5.1 (by show 3 ≤ 100000; decide) M5.tds⟩
            · rintro σ' H6 ⟨lv, k, rfl, s6, tl⟩
              walk_at "rds"
              obtain ⟨mv2, m2, h2, tm2⟩ := (M5.same s6).at (k := (c : Int) / 24 / 216 % 5 / 4) (by omega) (by omega)
              refine ⟨t, _, _, _, rfl, rfl, SqT.of (M5.same s6).1, h2, ?_⟩
              refine ⟨by show 2 ≤ sizeLine; omega, fun ta na => ?_⟩
              have sa := same_new na (.tup [.int nb, mv2])
              have tv : TD (upd H6 ta (.tup [.int nb, mv2])) (.ref ta) (eV (nb, m2)) := .tup upd_same (by show 2 ≤ 100000; decide) (.cons (.int _) (.cons (tm2.same sa) .nil))
              have tl7 := tl.same sa
              have tm7 := (tm5.same s6).same sa
              have s07 := s05.trans (s6.trans sa)
              generalize upd H6 ta (.tup [.int nb, mv2]) = H7 at *
              walk_at "rds"
              refine ⟨by show 5 ≤ sizeLine; omega, fun tb nb' => ?_⟩
              have sb := same_new nb' (.tup [.str "view", .int (es.length : Nat), mv, .ref ta, lv])
              refine q _ (.vw (es.length : Nat) m (nb, m2) (mems3.drop k)) _ (s07.trans sb) (.tup upd_same (by show 5 ≤ 100000; decide) (.cons (.str _) (.cons (.int _) (.cons (tm7.same sb) (.cons (tv.same sb) (.cons (tl7.same sb) .nil)))))) ?_
              show (mems3.drop k).length ≤ 100
              have : mems3.length = 3 := rfl
              rw [List.length_drop]
              omega
        · walk_at "rds"
          refine iB (fun _ => ?_) (fun _ => ?_)
          · have ha5 := s05 _ _ ha
            walk_at "rds"
            refine ⟨⟨_, SqL.of ha5⟩, fun D nD => ?_⟩
            have r5 := hr0.mono (TupK.of s05)
            refine lc_list (K := K) (a := a) (xs := us) (fun j H' => ∃ vs, H' D = some (.lst vs) ∧ vs.length ≤ j ∧ Same H5 H') ?_ ?_ ?_ ?_
            · exact ⟨[], upd_same, Nat.le_refl _, same_new nD _⟩
            · rintro j H' _ ⟨_, _, _, s7⟩
              exact SqL.of (s7 _ _ ha5)
            · rintro j v H6 hxj ⟨vs, hD, hl, s7⟩
              obtain ⟨e, he, td0⟩ := r5.map_at hxj
              have td := td0.same s7
              have hm6 := tm5.same s7
              have hv6 := t5.same s7
              have hj : j < us.length := (List.getElem?_eq_some_iff.mp hxj).1
              refine ⟨rfl, ?_⟩
              have other : ∃ vs, H6 D = some (.lst vs) ∧ vs.length ≤ j + 1 ∧ Same H5 H6 := ⟨vs, hD, by omega, s7⟩
              cases e with
              | cr t n =>
                obtain ⟨b, rfl, hb⟩ := td.ecr
                walk_at "rds"
                exact other
              | dl t m vid g =>
                obtain ⟨b, x, y, z, rfl, hb, hx1, hy1, hz1⟩ := td.edl
                walk_at "rds"
                exact other
              | vw t m vid ms =>
                obtain ⟨b, x, y, z, rfl, hb, hx1, hy1, hz1⟩ := td.evw
                walk_at "rds"
                exact other
              | ct t' m' v' i' p' =>
                obtain ⟨b, x', y', rfl, hb, hx', hy'⟩ := td.ect
                walk_at "rds"
                refine ⟨eM m', eM m, hx'.dp, hm6.dp, (eM_lay m').2.2, (eM_lay m).2.2, ?_⟩
                refine ⟨_, rfl, iB (fun _ => ?_) (fun _ => ?_)⟩
                · walk_at "rds"
                  refine ⟨eV v', eV vid, hy'.dp, hv6.dp, (eV_lay v').2.2, (eV_lay vid).2.2, ?_⟩
                  refine ⟨_, rfl, iB (fun _ => ?_) (fun _ => ?_)⟩
                  · walk_at "rds"
                    exact ⟨vs, hD, by omega, vs ++ [.ref b], upd_same, by rw [List.length_append]; show _ + 1 ≤ _; omega, fun c o hc => by rw [upd_ne (ne_of_none hc nD)]; exact s7 _ _ hc⟩
                  · exact other
                · exact other
            · rintro H6 ⟨vs, hD, hl, s7⟩
              have tm6 := tm5.same s7
              have tv6 := t5.same s7
              walk_at "rds"
              refine ⟨D, vs, rfl, .inl (SqL.of hD), ?_⟩
              walk_at "rds"
              refine ⟨fun σ' H' => ∃ ix : Int, σ' = [some (.ref a), some (.int (c : Nat)), some (.int (es.length : Nat)), some (.ref t), some mv, some (.ref ob), some (.int ((c : Int) / 3 % 8)), some (.int ((c : Int) / 24)), none, none, some (.ref D), some (.int ix), none, none, none, none] ∧ H6 = H', ?_, ?_⟩
              · walk_at "rds"
                refine iB (fun _ => ?_) (fun _ => ?_)
                · walk_at "rds"
                  exact rfl
                · walk_at "rds"
                  exact rfl
              · rintro σ' _ ⟨ix, rfl, rfl⟩
                walk_at "rds"
                have hk0 : 0 ≤ (c : Int) / 24 % 4 := by omega
                have hk4 : (c : Int) / 24 % 4 < 4 := by omega
                generalize (c : Int) / 24 % 4 = k at *
                have ek : k = 0 ∨ k = 1 ∨ k = 2 ∨ k = 3 := by omega
                refine ⟨by rcases ek with rfl | rfl | rfl | rfl <;> decide +kernel, ?_⟩
                refine ⟨_, _, rfl, rfl, by rcases ek with rfl | rfl | rfl | rfl <;> decide +kernel, ?_⟩
                refine ⟨by show 6 ≤ sizeLine; omega, fun tt nn => ?_⟩
                have sn := same_new nn
                refine q _ (.ct (es.length : Nat) m vid ix _) _ ((s05.trans s7).trans (same_new nn _)) (.tup upd_same (by show 6 ≤ 100000; decide) (.cons (.str _) (.cons (.int _) (.cons (tm6.same (same_new nn _)) (.cons (tv6.same (same_new nn _)) (.cons (.int _) (.cons (.str _) .nil))))))) ?_
                show PyData.strOk _ = true
                rcases ek with rfl | rfl | rfl | rfl <;> decide +kernel
          · have ha5 := s05 _ _ ha
            have r5 := hr0.mono (TupK.of s05)
            walk_at "rds"
            refine ⟨⟨_, SqL.of ha5⟩, fun D nD => ?_⟩
            refine lc_list (K := K) (a := a) (xs := us) (fun j H' => ∃ vs, H' D = some (.lst vs) ∧ (∀ u ∈ vs, CsV H' u) ∧ vs.length ≤ j ∧ Same H5 H') ?_ ?_ ?_ ?_
            · exact ⟨[], upd_same, (fun u hu => by cases hu), Nat.le_refl _, same_new nD _⟩
            · rintro j H' _ ⟨_, _, _, _, s7⟩
              exact SqL.of (s7 _ _ ha5)
            · rintro j v H6 hxj ⟨vs, hD, hC, hl, s7⟩
              obtain ⟨e, he, td0⟩ := r5.map_at hxj
              have td := td0.same s7
              have hv6 := t5.same s7
              have hj : j < us.length := (List.getElem?_eq_some_iff.mp hxj).1
              have heok := hok e (List.mem_of_getElem? he)
              refine ⟨rfl, ?_⟩
              have other : ∃ vs, H6 D = some (.lst vs) ∧ (∀ u ∈ vs, CsV H6 u) ∧ vs.length ≤ j + 1 ∧ Same H5 H6 := ⟨vs, hD, hC, by omega, s7⟩
              cases e with
              | cr t n =>
                obtain ⟨b, rfl, hb⟩ := td.ecr
                walk_at "rds"
                exact other
              | dl t m vid g =>
                obtain ⟨b, x, y, z, rfl, hb, hx1, hy1, hz1⟩ := td.edl
                walk_at "rds"
                exact other
              | vw t m vid ms =>
                obtain ⟨b, x, y, z, rfl, hb, hx1, hy1, hz1⟩ := td.evw
                walk_at "rds"
                exact other
              | ct t' m' v' i' p' =>
                obtain ⟨b, x', y', rfl, hb, hx', hy'⟩ := td.ect
                walk_at "rds"
                refine ⟨eV v', eV vid, hy'.dp, hv6.dp, (eV_lay v').2.2, (eV_lay vid).2.2, ?_⟩
                refine ⟨_, rfl, iB (fun _ => ?_) (fun _ => ?_)⟩
                · walk_at "rds"
                  have tk : TupK H6 (upd H6 D (.lst (vs ++ [.ref b]))) := tupK_upd fun xs e => by rw [hD] at e; cases e
                  refine ⟨vs, hD, by omega, vs ++ [.ref b], upd_same, fun u hu => ?_, by rw [List.length_append]; show _ + 1 ≤ _; omega, fun c o hc => by rw [upd_ne (ne_of_none hc nD)]; exact s7 _ _ hc⟩
                  rcases List.mem_append.mp hu with hu | hu
                  · exact (hC u hu).mono tk
                  · rw [List.mem_singleton.mp hu]
                    exact ⟨b, t', i', x', y', m', p', rfl, tk _ _ hb, hx'.mono tk, heok⟩
                · exact other
            · rintro H6 ⟨vs, hD, hC, hl, s7⟩
              have tm6 := tm5.same s7
              have tv6 := t5.same s7
              walk_at "rds"
              refine ⟨D, vs, rfl, .inl (SqL.of hD), ?_⟩
              walk_at "rds"
              refine iB (fun _ => ?_) (fun hne => ?_)
              · walk_at "rds"
                obtain ⟨mv2, m2, h2, tm2⟩ := (M5.same s7).at (k := (c : Int) / 24 / 12 % 3) (by omega) (by omega)
                refine ⟨t, _, _, _, rfl, rfl, SqT.of (M5.same s7).1, h2, ?_⟩
                walk_at "rds"
                have hk0 : 0 ≤ (c : Int) / 24 / 72 % 4 := by omega
                have hk4 : (c : Int) / 24 / 72 % 4 < 4 := by omega
                generalize (c : Int) / 24 / 72 % 4 = k at *
                have ek : k = 0 ∨ k = 1 ∨ k = 2 ∨ k = 3 := by omega
                refine ⟨by rcases ek with rfl | rfl | rfl | rfl <;> decide +kernel, ?_⟩
                refine ⟨_, _, rfl, rfl, by rcases ek with rfl | rfl | rfl | rfl <;> decide +kernel, ?_⟩
                refine ⟨by show 3 ≤ sizeLine; omega, fun tg ng => ?_⟩
                refine ⟨by show 5 ≤ sizeLine; omega, fun tt nn => ?_⟩
                have sg := same_new ng
                have st := same_new nn
                refine q _ (.dl (es.length : Nat) m vid (m2, 1 + (c : Int) / 24 / 36 % 2, _)) _ ((s05.trans s7).trans ((same_new ng _).trans (same_new nn _))) (.tup upd_same (by show 5 ≤ 100000; decide) (.cons (.str _) (.cons (.int _) (.cons ((tm6.same (same_new ng _)).same (same_new nn _)) (.cons ((tv6.same (same_new ng _)).same (same_new nn _)) (.cons (TD.same (TD.tup upd_same (by show 3 ≤ 100000; decide) (.cons (tm2.same (same_new ng _)) (.cons (.int _) (.cons (.str _) .nil)))) (same_new nn _)) .nil)))))) ?_
                show PyData.strOk (Str.ofString "p" ++ Str.ofString (toString k)) = true
                rcases ek with rfl | rfl | rfl | rfl <;> decide +kernel
              · have hvs : vs.length ≠ 0 := fun z => by
                  rw [z] at hne
                  exact absurd (of_decide_eq_false hne) (fun h => h rfl)
                walk_at "rds"
                refine iB (fun _ => ?_) (fun _ => ?_)
                · walk_at "rds"
                  obtain ⟨mv2, m2, h2, tm2⟩ := (M5.same s7).at (k := (c : Int) / 24 / 12 % 3) (by omega) (by omega)
                  refine ⟨t, _, _, _, rfl, rfl, SqT.of (M5.same s7).1, h2, ?_⟩
                  walk_at "rds"
                  have hk0 : 0 ≤ (c : Int) / 24 / 72 % 4 := by omega
                  have hk4 : (c : Int) / 24 / 72 % 4 < 4 := by omega
                  generalize (c : Int) / 24 / 72 % 4 = k at *
                  have ek : k = 0 ∨ k = 1 ∨ k = 2 ∨ k = 3 := by omega
                  refine ⟨by rcases ek with rfl | rfl | rfl | rfl <;> decide +kernel, ?_⟩
                  refine ⟨_, _, rfl, rfl, by rcases ek with rfl | rfl | rfl | rfl <;> decide +kernel, ?_⟩
                  refine ⟨by show 3 ≤ sizeLine; omega, fun tg ng => ?_⟩
                  refine ⟨by show 5 ≤ sizeLine; omega, fun tt nn => ?_⟩
                  have sg := same_new ng
                  have st := same_new nn
                  refine q _ (.dl (es.length : Nat) m vid (m2, 1 + (c : Int) / 24 / 36 % 2, _)) _ ((s05.trans s7).trans ((same_new ng _).trans (same_new nn _))) (.tup upd_same (by show 5 ≤ 100000; decide) (.cons (.str _) (.cons (.int _) (.cons ((tm6.same (same_new ng _)).same (same_new nn _)) (.cons ((tv6.same (same_new ng _)).same (same_new nn _)) (.cons (TD.same (TD.tup upd_same (by show 3 ≤ 100000; decide) (.cons (tm2.same (same_new ng _)) (.cons (.int _) (.cons (.str _) .nil)))) (same_new nn _)) .nil)))))) ?_
                  show PyData.strOk (Str.ofString "p" ++ Str.ofString (toString k)) = true
                  rcases ek with rfl | rfl | rfl | rfl <;> decide +kernel
                · walk_at "rds"
                  refine ⟨a, us, es, es.length, mv, .ref ob, m, vid, rfl, s7 _ _ ha5, r5.mono (TupK.of s7), hlen, Nat.le_refl _, tm6, tv6, fun l vl H7 s8 nl hl7 r7 => ?_⟩
                  rw [List.take_length] at r7
                  have okl := logOf_okc hok m vid
                  have hD7 := s8 _ _ hD
                  have hC7 : ∀ u ∈ vs, CsV H7 u := fun u hu => (hC u hu).mono (TupK.of s8)
                  have s07 := s05.trans (s7.trans s8)
                  have tm7 := tm6.same s8
                  have tv7 := tv6.same s8
                  clear hC tm6 tv6 hD
                  walk_at "rds"
                  refine ⟨⟨_, SqL.of hD7⟩, fun E nE => ?_⟩
                  refine lc_list (K := K) (a := D) (xs := vs) (fun j H' => ∃ ws, H' E = some (.lst ws) ∧ (∀ u ∈ ws, CsV H' u) ∧ ws.length ≤ j ∧ Same H7 H') ?_ ?_ ?_ ?_
                  · exact ⟨[], upd_same, (fun u hu => by cases hu), Nat.le_refl _, same_new nE _⟩
                  · rintro j H' _ ⟨_, _, _, _, s9⟩
                    exact SqL.of (s9 _ _ hD7)
                  · rintro j v H8 hxj ⟨ws, hE, hW, hlw, s9⟩
                    have hj : j < vs.length := (List.getElem?_eq_some_iff.mp hxj).1
                    obtain ⟨b, te, ie, xe, ye, me, pe, rfl, hb, hxe, hpe⟩ := (hC7 v (List.mem_of_getElem? hxj)).mono (TupK.of s9)
                    refine ⟨rfl, ?_⟩
                    walk_at "rds"
                    refine ⟨by show 3 ≤ sizeLine; omega, fun tq nq => ?_⟩
                    have sq := same_new nq (.tup [xe, .int ie, .str pe])
                    have tmq : TD (upd H8 tq (.tup [xe, .int ie, .str pe])) (.ref tq) (eG (me, ie, pe)) := .tup upd_same (by show 3 ≤ 100000; decide) (.cons (hxe.same sq) (.cons (.int _) (.cons (.str _) .nil)))
                    have hEq := sq _ _ hE
                    have hWq : ∀ u ∈ ws, CsV (upd H8 tq (.tup [xe, .int ie, .str pe])) u := fun u hu => (hW u hu).mono (TupK.of sq)
                    have s9q := s9.trans sq
                    have hbq := sq _ _ hb
                    have hxq := hxe.same sq
                    clear hb hxe hE hW
                    generalize upd H8 tq (.tup [xe, .int ie, .str pe]) = H9 at *
                    walk_at "rds"
                    refine rd_inGl (f := not) tmq (s9q _ _ hl7) (r7.mono (TupK.of s9q)) hpe okl ?_
                    refine ⟨_, rfl, iB (fun _ => ?_) (fun _ => ?_)⟩
                    · walk_at "rds"
                      have tk : TupK H9 (upd H9 E (.lst (ws ++ [.ref b]))) := tupK_upd fun xs e => by rw [hEq] at e; cases e
                      refine ⟨ws, hEq, by omega, ws ++ [.ref b], upd_same, fun u hu => ?_, by rw [List.length_append]; show _ + 1 ≤ _; omega, fun c o hc => by rw [upd_ne (ne_of_none hc nE)]; exact s9q _ _ hc⟩
                      rcases List.mem_append.mp hu with hu | hu
                      · exact (hWq u hu).mono tk
                      · rw [List.mem_singleton.mp hu]
                        exact ⟨b, te, ie, xe, ye, me, pe, rfl, tk _ _ hbq, hxq.mono tk, hpe⟩
                    · exact ⟨ws, hEq, hWq, by omega, s9q⟩
                  · rintro H8 ⟨ws, hE, hW, hlw, s9⟩
                    have hC8 : ∀ u ∈ vs, CsV H8 u := fun u hu => (hC7 u hu).mono (TupK.of s9)
                    have hD8 := s9 _ _ hD7
                    have s08 := s07.trans s9
                    have tm8 := tm7.same s9
                    have tv8 := tv7.same s9
                    clear hC7 hD7 tm7 tv7 r7 hl7
                    walk_at "rds"
                    refine ⟨fun σ' H' => ∃ (L : Addr) (us2 : List V), σ' = [some (.ref a), some (.int (c : Nat)), some (.int (es.length : Nat)), some (.ref t), some mv, some (.ref ob), some (.int ((c : Int) / 3 % 8)), some (.int ((c : Int) / 24)), none, none, none, none, some (.ref D), some (.ref l), some (.ref L), none] ∧ H8 = H' ∧ H8 L = some (.lst us2) ∧ us2.length ≠ 0 ∧ (∀ u ∈ us2, CsV H8 u) ∧ us2.length ≤ 30, ?_, ?_⟩
                    · walk_at "rds"
                      refine ⟨E, ws, rfl, .inl (SqL.of hE), ?_⟩
                      walk_at "rds"
                      refine iB (fun _ => ?_) (fun hne2 => ?_)
                      · walk_at "rds"
                        exact ⟨D, vs, rfl, rfl, hD8, hvs, hC8, by omega⟩
                      · have hws : ws.length ≠ 0 := fun z => by
                          rw [z] at hne2
                          exact absurd (of_decide_eq_false hne2) (fun h => h rfl)
                        walk_at "rds"
                        refine iB (fun _ => ?_) (fun _ => ?_)
                        · walk_at "rds"
                          exact ⟨D, vs, rfl, rfl, hD8, hvs, hC8, by omega⟩
                        · exact ⟨E, ws, rfl, rfl, hE, hws, hW, by omega⟩
                    · rintro σ' _ ⟨L, us2, rfl, rfl, hL, hn2, hC2, hl2⟩
                      walk_at "rds"
                      obtain ⟨u0, hu0⟩ : ∃ u0, us2[0]? = some u0 := ⟨_, List.getElem?_eq_getElem (by omega)⟩
                      refine ⟨L, us2, _, _, rfl, rfl, SqL.of hL, at_int (i := 0) (by decide) hu0, ?_⟩
                      walk_at "rds"
                      refine ⟨fun σ' H' => ∃ ev, σ' = [some (.ref a), some (.int (c : Nat)), some (.int (es.length : Nat)), some (.ref t), some mv, some (.ref ob), some (.int ((c : Int) / 3 % 8)), some (.int ((c : Int) / 24)), none, none, none, none, some (.ref D), some (.ref l), some (.ref L), some ev] ∧ H8 = H' ∧ CsV H8 ev, ?_, ?_⟩
                      · walk_at "rds"
                        refine iB (fun _ => ?_) (fun _ => ?_)
                        · walk_at "rds"
                          have hp : (0 : Int) < (us2.length : Nat) := by omega
                          have i0 : 0 ≤ (c : Int) / 24 / 12 % (us2.length : Nat) := Int.emod_nonneg _ (by omega)
                          have i1 : (c : Int) / 24 / 12 % (us2.length : Nat) < (us2.length : Nat) := Int.emod_lt_of_pos _ hp
                          obtain ⟨u1, hu1⟩ : ∃ u1, us2[((c : Int) / 24 / 12 % (us2.length : Nat)).toNat]? = some u1 := ⟨_, List.getElem?_eq_getElem (by omega)⟩
                          refine ⟨L, us2, rfl, .inl (SqL.of hL), ?_⟩
                          refine ⟨_, _, rfl, rfl, hp, ?_⟩
                          refine ⟨L, us2, _, _, rfl, rfl, SqL.of hL, at_int i0 hu1, ?_⟩
                          exact ⟨u1, rfl, rfl, hC2 u1 (List.mem_of_getElem? hu1)⟩
                        · exact ⟨u0, rfl, rfl, hC2 u0 (List.mem_of_getElem? hu0)⟩
                      · rintro σ' _ ⟨ev, rfl, rfl, hev⟩
                        obtain ⟨b, te, ie, xe, ye, me, pe, rfl, hb, hxe, hpe⟩ := hev
                        obtain ⟨ob', ou', e0, hob8, tou8⟩ := tv8.vid
                        cases e0
                        walk_at "rds"
                        refine ⟨fun σ' H' => ∃ (vv : V) (v2 : Vid), σ' = [some (.ref a), some (.int (c : Nat)), some (.int (es.length : Nat)), some (.ref t), some mv, some vv, some (.int ((c : Int) / 3 % 8)), some (.int ((c : Int) / 24)), none, none, none, none, some (.ref D), some (.ref l), some (.ref L), some (.ref b)] ∧ Same H8 H' ∧ TD H' vv (eV v2), ?_, ?_⟩
                        · walk_at "rds"
                          refine iB (fun _ => ?_) (fun _ => ?_)
                          · walk_at "rds"
                            refine ⟨by show 2 ≤ sizeLine; omega, fun t9 n9 => ?_⟩
                            exact ⟨_, (vid.1 + 1, vid.2), rfl, same_new n9 _, .tup upd_same (by show 2 ≤ 100000; decide) (.cons (.int _) (.cons (tou8.same (same_new n9 _)) .nil))⟩
                          · exact ⟨_, vid, rfl, Same.refl _, tv8⟩
                        · rintro σ' H9 ⟨vv, v2, rfl, s10, tv9⟩
                          have hb9 := s10 _ _ hb
                          have hx9 := hxe.same s10
                          have tm9 := tm8.same s10
                          clear hb
                          walk_at "rds"
                          refine ⟨by show 3 ≤ sizeLine; omega, fun tg ng => ?_⟩
                          refine ⟨by show 5 ≤ sizeLine; omega, fun tt nn => ?_⟩
                          exact q _ (.dl (es.length : Nat) m v2 (me, ie, pe)) _ (s08.trans (s10.trans ((same_new ng _).trans (same_new nn _)))) (.tup upd_same (by show 5 ≤ 100000; decide) (.cons (.str _) (.cons (.int _) (.cons ((tm9.same (same_new ng _)).same (same_new nn _)) (.cons ((tv9.same (same_new ng _)).same (same_new nn _)) (.cons (TD.same (TD.tup upd_same (by show 3 ≤ 100000; decide) (.cons (hx9.same (same_new ng _)) (.cons (.int _) (.cons (.str _) .nil)))) (same_new nn _)) .nil)))))) hpe
end
end Mus

set_option maxRecDepth 100000
set_option maxHeartbeats 4000000
namespace Mus
open PySem L2
local macro_rules | `(tactic| walk_at "rd") => `(tactic| first
  | refine ⟨_, rfl, ?_⟩ | refine ⟨(True.intro : True), ?_⟩
  | refine ⟨_, _, rfl, rfl, (⟨by decide, by decide, by decide⟩ : CPow _ _), ?_⟩
  | refine ⟨_, _, rfl, rfl, (⟨by decide, by decide⟩ : CDiv _ _), ?_⟩
  | refine ⟨_, _, rfl, rfl, (by show (0 : Int) < _; decide), ?_⟩
  | refine ⟨_, _, rfl, rfl, ?_⟩ | refine ⟨rfl, ?_⟩ | refine iteT ?_ | refine iteF ?_ | refine ⟨_, _, rfl, ?_⟩ | refine .inl ⟨_, rfl, ?_⟩
  | refine ⟨_, _, _, _, _, rfl, (by assumption), (by assumption), (by assumption), rfl, ?_⟩ | refine ⟨_, _, _, _, rfl, rfl, SqT.of (by assumption), rfl, ?_⟩ | refine ⟨_, _, rfl, SqT.of (by assumption), rfl, ?_⟩
  | refine ⟨_, _, _, _, _, rfl, .ty _, Rp.ty (by assumption), kit_int _, ?_⟩ | refine ⟨_, _, _, _, _, rfl, .ty _, Rp.ty (by assumption), kit_bool _, ?_⟩
  | refine ⟨_, _, _, _, _, rfl, .ty _, Rp.ty (by assumption), kit_str _, ?_⟩ | refine ⟨_, _, _, _, _, rfl, .ty _, Rp.ty (by assumption), kit_tup _, ?_⟩)
local macro_rules | `(tactic| walk_at "cal") => `(tactic| first
  | refine ⟨_, _, _, _, _, rfl, (by assumption), ?_⟩ | refine ⟨_, _, _, _, _, rfl, (by assumption), (by assumption), ?_⟩)
local macro_rules | `(tactic| walk_at "sq") => `(tactic| first
  | refine ⟨_, _, rfl, Or.inr (SqT.of (by assumption)), ?_⟩ | refine ⟨_, _, _, _, rfl, rfl, SqT.of (by assumption), rfl, ?_⟩)
local macro_rules | `(tactic| walk_at "rds") => `(tactic| repeat first | walk_at "rd" | walk_at "cal" | walk_at "sq")
local macro_rules | `(tactic| walk_at "ze") => `(tactic| repeat first
  | exact zes_nil | exact ze_bl | exact ze_str | exact ze_non | apply zes_cons | apply ze_tup | apply ze_lst | apply ze_cat | exact di_c | exact di_v rfl | apply di_opC | apply di_op | apply di_neg | apply ze_i | (refine (⟨?_, ?_, ?_⟩ : CPow _ _) <;> decide) | exact Nat.le_of_ble_eq_true rfl | exact ze_varD rfl (by assumption))
local macro_rules | `(tactic| walk_at "rdz") => `(tactic| repeat (fail_if_success (first | show tLst _ _ _ _ | show tAsg (tLst _) _ _ _ _ | show tSeq (tAsg (tLst _) _) _ _ _ _)); first | walk_at "rd" | walk_at "cal" | walk_at "sq")
/-- data that may be laid, not deep -/
def FLay (d : PyData) : Prop := d.canLay0 = true ∧ d.depth ≤ 5
theorem FLay.sh {d : PyData} (h : FLay d) : SeqAt.shaped d = true := shaped_of h.1 (by have := h.2; omega)
theorem FLay.non : FLay .none := ⟨rfl, Nat.zero_le _⟩
theorem eM_fl (m : Mem) : (eM m).canLay0 = true ∧ (eM m).depth = 1 := ⟨(eM_lay m).1, (eM_lay m).2.1⟩
theorem eV_fl (v : Vid) : (eV v).canLay0 = true ∧ (eV v).depth = 2 := by simp [eV, eM, PyData.canLay0, PyData.canLayAll0, PyData.depth, PyData.depthAll]
theorem eG_fl {g : Msg} (h : PyData.strOk g.2.2 = true) : (eG g).canLay0 = true ∧ (eG g).depth = 2 := by simp [eG, eM, PyData.canLay0, PyData.canLayAll0, PyData.depth, PyData.depthAll, h]
theorem fl_mv {z : Str} (hz : PyData.strOk z = true) (m : Mem) (v : Vid) : FLay (.tuple [.str z, eM m, eV v]) := by
  simp [FLay, eV, eM, PyData.canLay0, PyData.canLayAll0, PyData.depth, PyData.depthAll, hz]
theorem fl_mg {z : Str} (hz : PyData.strOk z = true) (m : Mem) {g : Msg} (h : PyData.strOk g.2.2 = true) : FLay (.tuple [.str z, eM m, eG g]) := by
  simp [FLay, eG, eM, PyData.canLay0, PyData.canLayAll0, PyData.depth, PyData.depthAll, hz, h]
theorem fl_mmv {z : Str} (hz : PyData.strOk z = true) (m n : Mem) (v : Vid) : FLay (.tuple [.str z, eM m, eM n, eV v]) := by
  simp [FLay, eV, eM, PyData.canLay0, PyData.canLayAll0, PyData.depth, PyData.depthAll, hz]
theorem lay_all {n : Nat} : ∀ {l : List PyData}, (∀ d ∈ l, d.canLay0 = true ∧ d.depth ≤ n) → PyData.canLayAll0 l = true ∧ PyData.depthAll l ≤ n
  | [], _ => ⟨rfl, Nat.zero_le _⟩
  | d :: l, h => by
    have i := lay_all (n := n) (l := l) fun e he => h e (List.mem_cons_of_mem _ he)
    have j := h d List.mem_cons_self
    refine ⟨by simp [PyData.canLayAll0, i.1, j.1], ?_⟩
    simp [PyData.depthAll]
    omega
theorem list_lay {l : List PyData} (h : ∀ d ∈ l, FLay d) : (PyData.list l).canLay0 = true ∧ SeqAt.shaped (.list l) = true := by
  have i := lay_all h
  have c : (PyData.list l).canLay0 = true := by simp [PyData.canLay0, i.1]
  refine ⟨c, shaped_of c ?_⟩
  simp [PyData.depth]
  have := i.2
  omega
theorem eE_fl {e : Ev} (h : EvOk e) : FLay (eE e) := by
  have s1 : PyData.strOk "view" = true := by decide +kernel
  have s2 : PyData.strOk "cast" = true := by decide +kernel
  have s3 : PyData.strOk "deliver" = true := by decide +kernel
  have s4 : PyData.strOk "crash" = true := by decide +kernel
  cases e with
  | vw t m v ms =>
    have l := lay_map (f := eM) (n := 1) (fun m => ⟨(eM_lay m).1, by rw [(eM_lay m).2.1]; exact Nat.le_refl _⟩) ms
    have a := eM_fl m
    have b := eV_fl v
    refine ⟨by simp [eE, eMs, PyData.canLay0, PyData.canLayAll0, s1, a.1, b.1, l.1], ?_⟩
    simp [eE, eMs, PyData.depth, PyData.depthAll]
    have := l.2
    omega
  | ct t m v i p =>
    have h : PyData.strOk p = true := h
    simp [FLay, eE, eV, eM, PyData.canLay0, PyData.canLayAll0, PyData.depth, PyData.depthAll, s2, h]
  | dl t m v g =>
    have h : PyData.strOk g.2.2 = true := h
    simp [FLay, eE, eV, eM, eG, PyData.canLay0, PyData.canLayAll0, PyData.depth, PyData.depthAll, s3, h]
  | cr t n => simp [FLay, eE, PyData.canLay0, PyData.canLayAll0, PyData.depth, PyData.depthAll, s4]
theorem fView_fl {pre : List Ev} {e : Ev} {d : PyData} (h : fView pre e = some d) : FLay d := by
  cases e with
  | vw t m v ms =>
    rw [fView_vw] at h
    split at h
    · cases h; exact fl_mv (by decide +kernel) _ _
    · split at h
      · cases h; exact fl_mv (by decide +kernel) _ _
      · split at h
        · split at h
          · cases h; exact fl_mv (by decide +kernel) _ _
          · cases h
        · cases h
  | _ => cases h
theorem fDel_fl {pre : List Ev} {e : Ev} {d : PyData} (k : EvOk e) (h : fDel pre e = some d) : FLay d := by
  cases e with
  | dl t m v g =>
    rw [fDel_dl] at h
    split at h
    · cases h; exact fl_mg (by decide +kernel) _ k
    · split at h
      · cases h; exact fl_mg (by decide +kernel) _ k
      · split at h
        · cases h; exact fl_mg (by decide +kernel) _ k
        · cases h
  | _ => cases h
theorem fCause_fl {all pre : List Ev} {e : Ev} {d : PyData} (k : EvOk e) (h : fCause all pre e = some d) : FLay d := by
  cases e with
  | dl t m v g =>
    rw [fCause_dl] at h
    split at h
    · split at h
      · cases h
      · cases h; exact fl_mg (by decide +kernel) _ k
    · cases h
  | _ => cases h
theorem fTog_fl {pre : List Ev} {e : Ev} {d : PyData} (h : fTog pre e = some d) : FLay d := by
  cases e with
  | vw t m v ms =>
    rw [fTog_vw] at h
    split at h
    · cases h
    · split at h
      · cases h
      · split at h
        · cases h; exact fl_mmv (by decide +kernel) _ _ _
        · cases h
  | _ => cases h
theorem fOwn_fl {pre : List Ev} {e : Ev} {d : PyData} (h : fOwn pre e = some d) : FLay d := by
  cases e with
  | vw t m v ms =>
    rw [fOwn_vw] at h
    split at h
    · cases h
    · split at h
      · cases h
      · cases h; exact fl_mv (by decide +kernel) _ _
  | _ => cases h
theorem firstF_fl {f : List Ev → Ev → Option PyData} (hf : ∀ pre e d, EvOk e → f pre e = some d → FLay d) {es : List Ev} {d : PyData} (k : ∀ e ∈ es, EvOk e) (h : firstF f [] es = some d) : FLay d := by
  obtain ⟨p, e, r, h1, h2⟩ := firstF_some h
  have m : e ∈ [] ++ es := by rw [h1]; exact List.mem_append_right _ List.mem_cons_self
  exact hf _ _ _ (k e m) h2
theorem getD_fl {o : Option PyData} (h : ∀ d, o = some d → FLay d) : FLay (o.getD .none) := by
  cases o with
  | none => exact .non
  | some d => exact h d rfl
theorem faults_fl {es : List Ev} (k : ∀ e ∈ es, EvOk e) {o : Option PyData} (h : o ∈ faults es) : FLay (fOr o) := by
  refine getD_fl fun d e => ?_
  unfold faults at h
  simp only [List.mem_cons, List.not_mem_nil, or_false] at h
  rcases h with h | h | h | h | h <;> rw [h] at e
  · exact firstF_fl (fun _ _ _ _ h => fView_fl h) k e
  · exact firstF_fl (fun _ _ _ => fDel_fl) k e
  · exact firstF_fl (fun _ _ _ => fCause_fl) k e
  · exact firstF_fl (fun _ _ _ _ h => fTog_fl h) k e
  · exact firstF_fl (fun _ _ _ _ h => fOwn_fl h) k e
theorem some_fl {es : List Ev} (k : ∀ e ∈ es, EvOk e) : ∀ d ∈ (faults es).filterMap id, FLay d := by
  intro d hd
  obtain ⟨o, ho, e⟩ := List.mem_filterMap.mp hd
  have e : o = some d := e
  have := faults_fl k ho
  rw [e] at this
  exact this
theorem take30 (xs : List V) : cutV xs none (some 30) = xs.take 30 := by
  have e : HT.sIx xs.length xs.length (some 30) = min 30 xs.length := HT.sIx_nat _ _ 30
  unfold cutV
  rw [e]
  show (xs.drop 0).take (min 30 xs.length - 0) = _
  rw [List.drop_zero, Nat.sub_zero]
  by_cases h : 30 ≤ xs.length
  · rw [Nat.min_eq_left h]
  · rw [Nat.min_eq_right (by omega), List.take_length, List.take_of_length_le (by omega)]
def sp_law (K : PySem.W.Frag) : Sp := fun vs H Q _ => ∃ (a : Addr) (ns : List Int), vs = [.ref a] ∧ SqL K H a (ns.map V.int) ∧ ns.length ≤ 63 ∧ ∀ H', Q (.bl true) H'
section
variable {P : Program} {w : World} {K : PySem.W.Frag} {mg : Str → Option Value} {base : Heap}
theorem rd_neF {H : Hp} {x y : V} {d : PyData} {Q : VK} (hx : TD H x d) (hy : TD H y d) (l : FLay d) (q : Q (.bl false) H) : rNeD K x y H Q := by
  refine ⟨d, d, hx.dp, hy.dp, l.sh, l.sh, ?_⟩
  rw [SeqAt.eqv_refl _ l.1]
  exact q
abbrev s_law : Stmt := top 18
abbrev N_law : List Str := ["script", "events", "cell", "due", "handed", "actual", "fault"]
abbrev P_law : List Str := ["script"]
theorem sc_law : FnScope N_law P_law (defScope s_law) := ⟨rfl, rfl, rfl, by decide +kernel, rfl, by decide +kernel, by decide +kernel⟩
theorem ok_law {f : Addr} {fd : FuncData} (T : Tx mg) (c__law_event : DefOk P w K mg base CX0 "_law_event" P__law_event 2 (sp_event)) (c__law_views : DefOk P w K mg base CX0 "_law_views" P__law_views 2 (sp_fault fun es => firstF fView [] es)) (c__law_delivers : DefOk P w K mg base CX0 "_law_delivers" P__law_delivers 2 (sp_fault fun es => firstF fDel [] es)) (c__law_causes : DefOk P w K mg base CX0 "_law_causes" P__law_causes 2 (sp_fault fun es => firstF (fCause es) [] es)) (c__law_together : DefOk P w K mg base CX0 "_law_together" P__law_together 2 (sp_fault fun es => firstF fTog [] es)) (c__law_own : DefOk P w K mg base CX0 "_law_own" P__law_own 2 (sp_fault fun es => firstF fOwn [] es)) (c_view_fault : DefOk P w K mg base CX0 "view_fault" P_view_fault 1 (sp_fault fun es => firstF fView [] es)) (c_deliver_fault : DefOk P w K mg base CX0 "deliver_fault" P_deliver_fault 1 (sp_fault fun es => firstF fDel [] es)) (c_cause_fault : DefOk P w K mg base CX0 "cause_fault" P_cause_fault 2 (sp_fault fun es => firstF (fCause es) [] es)) (c_together_fault : DefOk P w K mg base CX0 "together_fault" P_together_fault 1 (sp_fault fun es => firstF fTog [] es)) (c_own_fault : DefOk P w K mg base CX0 "own_fault" P_own_fault 1 (sp_fault fun es => firstF fOwn [] es)) (c_judge : DefOk P w K mg base CX0 "judge" P_judge 3 (sp_judge))(F : Fun K "law" "law" s_law f fd) : FnOk P w K mg base CX0 (4) f fd P_law (sp_law K) := by
  have nd := sc_law.nd
  refine F.ok sc_law (fun vs H Q E h => ?_) (fun cdv A outer s H vs Q E hr h => ?_)
  · obtain ⟨_, _, rfl, _⟩ := h
    rfl
  · obtain ⟨a, ns, rfl, hS, hlen, q⟩ := h
    have hs := sl
    refine ⟨_, (pss_cons (ps_set (i := 1) nd rfl (Or.inl rfl) (pe_lst pa_nil))
      (pss_cons (ps_for PassesOwn.never rfl (pi_list (pe_slice sl_list (pv 0) po_none (po_some pe_int))) (pg_name (i := 2) nd rfl (Or.inl rfl))
        (pss_one (ps_expr (pe_bm PySem.F.plainAttrs_list PySem.F.slot_list_append PySem.F.type_list_append mt_append (pv 1) (pa_cons (pcall c__law_event hr (pa_cons (pv 1) (pa_cons (pe_callB call_abs (by rfl) T.b_abs (by decide +kernel) (pa_cons (pe_callTy call_int1 (by rfl) T.b_int (by decide +kernel) (pa_cons (pv 2) pa_nil)) pa_nil)) pa_nil))) pa_nil)))))
      (pss_cons (ps_set (i := 3) nd rfl (Or.inl rfl) (pe_lst (pa_cons (pcall c__law_views hr (pa_cons (pv 1) pa_nil)) (pa_cons (pcall c__law_delivers hr (pa_cons (pv 1) pa_nil)) (pa_cons (pcall c__law_causes hr (pa_cons (pv 1) pa_nil)) (pa_cons (pcall c__law_together hr (pa_cons (pv 1) pa_nil)) (pa_cons (pcall c__law_own hr (pa_cons (pv 1) pa_nil)) pa_nil)))))))
      (pss_cons (ps_set (i := 4) nd rfl (Or.inl rfl) (pe_callTy call_list_of (by rfl) T.b_list (by decide +kernel) (pa_cons (pv 1) pa_nil)))
      (pss_cons (ps_if (PW.pt (pw_or (pt_cmpR (op_neD hr.units) (pcall c_view_fault hr (pa_cons (pv 4) pa_nil)) (pe_ix ix_list (pv 3) pe_int (fun _ _ => rfl)) (nomark _)) (pw_or (pt_cmpR (op_neD hr.units) (pcall c_deliver_fault hr (pa_cons (pv 4) pa_nil)) (pe_ix ix_list (pv 3) pe_int (fun _ _ => rfl)) (nomark _)) (pw_or1 (pt_cmpR (op_neD hr.units) (pcall c_cause_fault hr (pa_cons (pv 4) pa_nil)) (pe_ix ix_list (pv 3) pe_int (fun _ _ => rfl)) (nomark _))))))
        (pss_one (ps_ret pe_bl))
        pss_nil)
      (pss_cons (ps_if (PW.pt (pw_or (pt_cmpR (op_neD hr.units) (pcall c_together_fault hr (pa_cons (pv 4) pa_nil)) (pe_ix ix_list (pv 3) pe_int (fun _ _ => rfl)) (nomark _)) (pw_or1 (pt_cmpR (op_neD hr.units) (pcall c_own_fault hr (pa_cons (pv 4) pa_nil)) (pe_ix ix_list (pv 3) pe_int (fun _ _ => rfl)) (nomark _)))))
        (pss_one (ps_ret pe_bl))
        pss_nil)
      (pss_cons (ps_set (i := 5) nd rfl (Or.inl rfl) (pcall c_judge hr (pa_cons (pv 4) pa_nil)))
      (pss_one (ps_ret (pe_and (pe_callB call_isi (by rfl) T.b_isinstance (by decide +kernel) (pa_cons (pv 5) (pa_cons (pe_ty "list" T.b_list) pa_nil))) (pe_and (pe_cmpR (op_eqD hr.units) (pv 5) (pe_lcX (own := [("fault", 6)]) rfl nd (pi_list (pv 3)) (blkOk_by (own := [("fault", 6)]) (N := N_law) (sc := defScope s_law) (by decide +kernel)) (fun _ _ _ _ _ => (pg_name (i := 6) nd rfl (Or.inl rfl))) (fun _ _ _ _ _ => (pts_one (pt_cmpR op_notN (pv 6) pe_non (nomark _)))) (fun _ _ _ _ _ => (pv 6))) (nomark _)) (pe_one (pe_cmpR (op_eqD hr.units) (pv 4) (pv 1) (nomark _)))))))))))))), ?_⟩
    refine ⟨by show 0 ≤ sizeLine; omega, fun l nl => ?_⟩
    have s1 := same_new nl (.lst [])
    have h1 : (upd H l (.lst [])) l = some (.lst []) := upd_same
    generalize upd H l (.lst []) = H1 at *
    walk_at "rds"
    refine ⟨a, _, rfl, s1.seq hS, fun p np => ?_⟩
    have pp : (upd H1 p (.lst (cutV (ns.map V.int) none (some 30)))) p = some (.lst (cutV (ns.map V.int) none (some 30))) := upd_same
    have s2 := same_new np (.lst (cutV (ns.map V.int) none (some 30)))
    rw [take30 (ns.map V.int), ← List.map_take] at pp s2 ⊢
    have l30 : (ns.take 30).length ≤ 30 := by rw [List.length_take]; omega
    generalize ns.take 30 = ms at *
    have h2 := s2 _ _ h1
    have nlp : p ≠ l := fun z => by rw [z, h1] at np; cases np
    clear h1 s1 s2 np nl
    generalize upd H1 p (.lst (ms.map V.int)) = H2 at *
    refine ⟨p, rfl, ⟨_, SqL.of pp⟩, for_list (xs := ms.map V.int) (fun i σ H' => ∃ (us : List V) (es : List Ev) (x2 : Option V), σ = [some (.ref a), some (.ref l), x2, none, none, none, none] ∧ H' p = some (.lst (ms.map V.int)) ∧ H' l = some (.lst us) ∧ TDs H' us (es.map eE) ∧ (∀ e ∈ es, EvOk e) ∧ es.length = i) ?_ ?_ ?_ ?_⟩
    · exact ⟨[], [], _, rfl, pp, h2, .nil, (fun e m => by cases m), rfl⟩
    · rintro i _ H' _ ⟨_, _, _, rfl, g, _⟩
      exact SqL.of g
    · rintro i x _ H3 hi ⟨us, es, x2, rfl, g1, g2, g3, g4, g5⟩
      obtain ⟨z, rfl⟩ : ∃ z : Int, x = .int z := by
        rw [List.getElem?_map] at hi
        cases e : ms[i]? with
        | none => rw [e] at hi; cases hi
        | some z => rw [e] at hi; cases hi; exact ⟨z, rfl⟩
      have li : i < 30 := by
        have := (List.getElem?_eq_some_iff.mp hi).1
        rw [List.length_map] at this
        omega
      obtain ⟨c, ec⟩ : ∃ c : Nat, (if z < 0 then -z else z) = (c : Int) := ⟨(if z < 0 then -z else z).toNat, by split <;> omega⟩
      walk_at "rds"
      have lu : us.length = i := by rw [g3.length, List.length_map, g5]
      refine ⟨.inl ⟨rfl, _, SqL.of g2⟩, ?_⟩
      refine ⟨_, rfl, _, rfl, .inl ⟨_, rfl, ?_⟩⟩
      refine ⟨_, rfl, ?_⟩
      rw [ec]
      refine ⟨l, us, es, c, rfl, g2, g3, g4, by omega, fun v e H4 s4 t4 k4 => ?_⟩
      refine ⟨l, us, v, rfl, rfl, s4 _ _ g2, by show _ < sizeLine; omega, ?_⟩
      have tk : TupK H3 (upd H4 l (.lst (us ++ [v]))) := (TupK.of s4).trans (tupK_upd fun xs z => by rw [s4 _ _ g2] at z; cases z)
      refine ⟨us ++ [v], es ++ [e], _, rfl, ?_, upd_same, ?_, ?_, ?_⟩
      · rw [upd_ne nlp]; exact s4 _ _ g1
      · rw [List.map_append]
        exact (g3.mono tk).append (.cons (t4.mono (tupK_upd fun xs z => by rw [s4 _ _ g2] at z; cases z)) .nil)
      · intro x m
        rcases List.mem_append.mp m with m | m
        · exact g4 x m
        · rw [List.mem_singleton.mp m]; exact k4
      · rw [List.length_append, g5]; rfl
    · rintro _ H3 ⟨us, es, x2, rfl, g1, g2, g3, g4, g5⟩
      have e30 : es.length ≤ 30 := by rw [g5, List.length_map]; exact l30
      clear g1 g5 pp h2 nlp
      walk_at "rds"
      refine ⟨l, us, es, rfl, g2, g3, g4, e30, fun v1 H4 s4 t1 => ?_⟩
      walk_at "rds"
      refine ⟨l, us, es, rfl, s4 _ _ g2, g3.mono (TupK.of s4), g4, e30, fun v2 H5 s5 t2 => ?_⟩
      have s5' := s4.trans s5
      walk_at "rds"
      refine ⟨l, us, es, rfl, s5' _ _ g2, g3.mono (TupK.of s5'), g4, e30, fun v3 H6 s6 t3 => ?_⟩
      have s6' := s5'.trans s6
      walk_at "rds"
      refine ⟨l, us, es, rfl, s6' _ _ g2, g3.mono (TupK.of s6'), g4, e30, fun v4 H7 s7 t4 => ?_⟩
      have s7' := s6'.trans s7
      walk_at "rds"
      refine ⟨l, us, es, rfl, s7' _ _ g2, g3.mono (TupK.of s7'), g4, e30, fun v5 H8 s8 t5 => ?_⟩
      have s8' := s7'.trans s8
      walk_at "rds"
      refine ⟨by show 5 ≤ sizeLine; omega, fun d nd' => ?_⟩
      have s9 := same_new nd' (.lst [v1, v2, v3, v4, v5])
      have t1 := t1.same (s5.trans (s6.trans (s7.trans (s8.trans s9))))
      have t2 := t2.same (s6.trans (s7.trans (s8.trans s9)))
      have t3 := t3.same (s7.trans (s8.trans s9))
      have t4 := t4.same (s8.trans s9)
      have t5 := t5.same s9
      have hd : (upd H8 d (.lst [v1, v2, v3, v4, v5])) d = some (.lst [v1, v2, v3, v4, v5]) := upd_same
      have s9' := s8'.trans s9
      have hl := s9' _ _ g2
      have hr := g3.mono (TupK.of s9')
      clear s4 s5 s6 s7 s8 s5' s6' s7' s8' s9 s9' nd' g2 g3
      generalize upd H8 d (.lst [v1, v2, v3, v4, v5]) = H9 at *
      walk_at "rds"
      refine ⟨l, us, rfl, .inl (SqL.of hl), fun h nh => ?_⟩
      have s10 := same_new nh (.lst us)
      have hh : (upd H9 h (.lst us)) h = some (.lst us) := upd_same
      have hd := s10 _ _ hd
      have hl := s10 _ _ hl
      have hr := hr.mono (TupK.of s10)
      have t1 := t1.same s10
      have t2 := t2.same s10
      have t3 := t3.same s10
      have t4 := t4.same s10
      have t5 := t5.same s10
      clear s10 nh
      generalize upd H9 h (.lst us) = Ha at *
      walk_at "rds"
      have f1 : FLay ((firstF fView [] es).getD .none) := faults_fl g4 (o := firstF fView [] es) (by simp [faults])
      have f2 : FLay ((firstF fDel [] es).getD .none) := faults_fl g4 (o := firstF fDel [] es) (by simp [faults])
      have f3 : FLay ((firstF (fCause es) [] es).getD .none) := faults_fl g4 (o := firstF (fCause es) [] es) (by simp [faults])
      have f4 : FLay ((firstF fTog [] es).getD .none) := faults_fl g4 (o := firstF fTog [] es) (by simp [faults])
      have f5 : FLay ((firstF fOwn [] es).getD .none) := faults_fl g4 (o := firstF fOwn [] es) (by simp [faults])
      refine ⟨h, us, es, rfl, hh, hr, g4, e30, fun w1 H1' z u1 => ?_⟩
      have hd := z _ _ hd
      have hl := z _ _ hl
      have hh := z _ _ hh
      have hr := hr.mono (TupK.of z)
      have t1 := t1.same z
      have t2 := t2.same z
      have t3 := t3.same z
      have t4 := t4.same z
      have t5 := t5.same z
      clear z
      walk_at "rds"
      refine ⟨d, _, _, _, rfl, rfl, SqL.of hd, rfl, ?_⟩
      refine rd_neF u1 t1 f1 ?_
      walk_at "rds"
      refine ⟨h, us, es, rfl, hh, hr, g4, e30, fun w2 H2' z u2 => ?_⟩
      have hd := z _ _ hd
      have hl := z _ _ hl
      have hh := z _ _ hh
      have hr := hr.mono (TupK.of z)
      have t1 := t1.same z
      have t2 := t2.same z
      have t3 := t3.same z
      have t4 := t4.same z
      have t5 := t5.same z
      clear z
      walk_at "rds"
      refine ⟨d, _, _, _, rfl, rfl, SqL.of hd, rfl, ?_⟩
      refine rd_neF u2 t2 f2 ?_
      walk_at "rds"
      refine ⟨h, us, es, rfl, hh, hr, g4, e30, fun w3 H3' z u3 => ?_⟩
      have hd := z _ _ hd
      have hl := z _ _ hl
      have hh := z _ _ hh
      have hr := hr.mono (TupK.of z)
      have t1 := t1.same z
      have t2 := t2.same z
      have t3 := t3.same z
      have t4 := t4.same z
      have t5 := t5.same z
      clear z
      walk_at "rds"
      refine ⟨d, _, _, _, rfl, rfl, SqL.of hd, rfl, ?_⟩
      refine rd_neF u3 t3 f3 ?_
      walk_at "rds"
      refine ⟨h, us, es, rfl, hh, hr, g4, e30, fun w4 H4' z u4 => ?_⟩
      have hd := z _ _ hd
      have hl := z _ _ hl
      have hh := z _ _ hh
      have hr := hr.mono (TupK.of z)
      have t1 := t1.same z
      have t2 := t2.same z
      have t3 := t3.same z
      have t4 := t4.same z
      have t5 := t5.same z
      clear z
      walk_at "rds"
      refine ⟨d, _, _, _, rfl, rfl, SqL.of hd, rfl, ?_⟩
      refine rd_neF u4 t4 f4 ?_
      walk_at "rds"
      refine ⟨h, us, es, rfl, hh, hr, g4, e30, fun w5 H5' z u5 => ?_⟩
      have hd := z _ _ hd
      have hl := z _ _ hl
      have hh := z _ _ hh
      have hr := hr.mono (TupK.of z)
      have t1 := t1.same z
      have t2 := t2.same z
      have t3 := t3.same z
      have t4 := t4.same z
      have t5 := t5.same z
      clear z
      walk_at "rds"
      refine ⟨d, _, _, _, rfl, rfl, SqL.of hd, rfl, ?_⟩
      refine rd_neF u5 t5 f5 ?_
      walk_at "rds"
      refine ⟨h, us, es, rfl, hh, hr, g4, e30, fun j js Hj z hj tj => ?_⟩
      have hd := z _ _ hd
      have hl := z _ _ hl
      have hh := z _ _ hh
      have hr := hr.mono (TupK.of z)
      have t1 := t1.same z
      have t2 := t2.same z
      have t3 := t3.same z
      have t4 := t4.same z
      have t5 := t5.same z
      clear z u1 u2 u3 u4 u5
      walk_at "rds"
      refine ⟨_, _, _, _, true, rfl, .ty _, .base (.lst hj), kit_ty (by decide +kernel), ?_⟩
      walk_at "rds"
      have r5 : TDs Hj [v1, v2, v3, v4, v5] ((faults es).map fOr) := .cons t1 (.cons t2 (.cons t3 (.cons t4 (.cons t5 .nil))))
      refine ⟨⟨_, SqL.of hd⟩, fun D nD => ?_⟩
      refine lc_list (K := K) (a := d) (xs := [v1, v2, v3, v4, v5]) (fun i H' => ∃ us, H' D = some (.lst us) ∧ TDs H' us (((faults es).take i).filterMap id) ∧ us.length ≤ i ∧ Same Hj H') ?_ ?_ ?_ ?_
      · exact ⟨[], upd_same, .nil, Nat.le_refl _, same_new nD _⟩
      · rintro i H' _ ⟨_, _, _, _, s7⟩
        exact SqL.of (s7 _ _ hd)
      · rintro i v H' hx ⟨us', hD, hP, hl', s7⟩
        obtain ⟨o, ho, td⟩ := r5.map_at hx
        have td7 := td.same s7
        have i5 : i < 5 := (List.getElem?_eq_some_iff.mp hx).1
        have etk : (faults es).take (i + 1) = (faults es).take i ++ [o] := by rw [List.take_add_one, ho]; rfl
        refine ⟨rfl, ?_⟩
        cases o with
        | none =>
          obtain rfl : v = .non := by cases td7; rfl
          walk_at "rds"
          refine ⟨us', hD, ?_, by omega, s7⟩
          rw [etk, List.filterMap_append, show List.filterMap id [(none : Option PyData)] = [] from rfl, List.append_nil]
          exact hP
        | some dd =>
          obtain ⟨ds, rfl⟩ := faults_tup (List.mem_of_getElem? ho) rfl
          obtain ⟨bb, rfl⟩ : ∃ bb, v = .ref bb := by
            have td7 : TD H' v (.tuple ds) := td7
            cases td7
            exact ⟨_, rfl⟩
          walk_at "rds"
          have tk : TupK H' (upd H' D (.lst (us' ++ [.ref bb]))) := tupK_upd fun xs e => by rw [hD] at e; cases e
          refine ⟨us', hD, by omega, us' ++ [.ref bb], upd_same, ?_, by rw [List.length_append]; show _ + 1 ≤ _; omega, fun c o hc => by rw [upd_ne (ne_of_none hc nD)]; exact s7 _ _ hc⟩
          rw [etk, List.filterMap_append, show List.filterMap id [some (PyData.tuple ds)] = [.tuple ds] from rfl]
          exact (hP.mono tk).append (.cons (td7.mono tk) .nil)
      · rintro H' ⟨us', hD, hP, hl', s7⟩
        have etk : (faults es).take [v1, v2, v3, v4, v5].length = faults es := rfl
        rw [etk] at hP
        obtain ⟨c1, sh1⟩ := list_lay (some_fl g4)
        refine ⟨.list ((faults es).filterMap id), .list ((faults es).filterMap id), .lst (SqL.of (s7 _ _ hj)) (tj.mono (TupK.of s7)).dp, .lst (SqL.of hD) hP.dp, sh1, sh1, ?_⟩
        rw [SeqAt.eqv_refl _ c1]
        walk_at "rds"
        obtain ⟨c2, sh2⟩ := list_lay (l := es.map eE) fun d m => by
          obtain ⟨e, me, rfl⟩ := List.mem_map.mp m
          exact eE_fl (g4 e me)
        refine ⟨.list (es.map eE), .list (es.map eE), .lst (SqL.of (s7 _ _ hh)) (hr.mono (TupK.of s7)).dp, .lst (SqL.of (s7 _ _ hl)) (hr.mono (TupK.of s7)).dp, sh2, sh2, ?_⟩
        rw [SeqAt.eqv_refl _ c2]
        exact q _
end
end Mus

set_option maxRecDepth 100000
set_option maxHeartbeats 4000000
namespace Mus
open PySem L2
def at_mk {K : PySem.W.Frag} {h : Heap} {mg : Str → Option Value} {x : Str} {ps : List Str} {st : Stmt} {f : Addr} {oc : Value} {od an : Option Addr} {osl : Array (Option Value)} {kV dc pm cd ct : Value} (X : K.In h) (G : h.Ns mainGlobals mg) (a : PySem.W.nsIn K mainGlobals x = some (some (.ref f)))
    (l : K.lookup f = some ⟨oc, od, .func (PySem.W.fnOf x x (defArgs st) (defBody st) (defScope st) .none kV dc pm an cd ct), osl⟩) (c : PySem.W.codeIn K cd x = true) (k : PySem.W.keepIn K (.ref f) = true)
    (hb : ∀ (kV doc pm : Value) (an : Option Addr) (cdv ct : Value) (us : List Value), us.length = ps.length → bindArgs (PySem.W.fnOf x x (defArgs st) (defBody st) (defScope st) .none kV doc pm an cdv ct) ⟨us, []⟩ = pure (ps.zip us)) : DefAt K mg x ps st :=
  ⟨f, _, fun_mk (st := st) l c k, PySem.W.mg_of X G a, (fun_mk (st := st) l c k).binds hb⟩
theorem walk_ofX {l : PySem.W.OpenLaw} {n k : Nat} {q : Program} {loose : List Str} {XP : (Str → Option Value) → Heap → Prop} {YP : World → Heap → Prop} {d : DefRec} {K : Params → PySem.W.Frag} {sp : World → Sp} {x : Str}
    (most : l.most = some n) (few : n ≤ sizeLine) (nod : d.params.defaults = []) (room : Room k callerA) (kin : ∀ (w : World) (h : Heap), YP w h → (K w.params).In h)
    (F : ∀ (w : World) (mg : Str → Option Value) (at1 : Addr) (h : Heap), (K w.params).In h → h.Ns mainGlobals mg → XP mg h → mg d.name = some (.ref at1) →
      ∃ fd : FuncData, (∀ (s : Shared) (u : Value), BindsTo s fd ⟨[u], []⟩ [(x, u)]) ∧ ∀ base : Heap, (K w.params).In base → base.Ns mainGlobals mg → FnOk l.prog w (K w.params) mg base CX0 k at1 fd [x] (sp w))
    (hsp : ∀ (w : World) (H : Hp) (a : Addr) (ns : List Int), ns.length ≤ n → Only H → SqL (K w.params) H a (ns.map V.int) → sp w [.ref a] H (fun v _ => v = .bl true) fun _ _ _ => False) :
    PySem.W.WalkO q loose XP YP l.row.toRowW d [] (fun f vs => PySem.call f vs) := by
  refine Att.attach_call most nod fun w sb sc mg mB at1 o pm1 cd1 doc1 a vs ns G Y ho1 hd1 hc1 hm1 ob1 in1 ln1 hg1 => ?_
  have inK := kin w _ Y
  obtain ⟨fd, bnd, pr⟩ := F w mg at1 _ inK G.T.g G.X hm1
  exact law_call inK G.T.g G.T.b G.T.builtins G.T.nolimit hg1 ob1 in1 (Nat.le_trans ln1 few) room pr bnd (fun H hO hS => hsp w H a ns ln1 hO hS) fun H e s' z => z
theorem loose_int {n : Str} {i : Int} {mg : Str → Option Value} {h : Heap} (x : PySem.W.LooseAre [(n, PySem.W.WData.int i)] mg h) : ∃ t, mg n = some (.int i t) := by
  obtain ⟨v, h1, h2⟩ := x.val _ (List.mem_singleton.mpr rfl)
  cases h2
  exact ⟨_, h1⟩
theorem all_mk {l : PySem.W.OpenLaw} {w : World} {K : PySem.W.Frag} {h : Heap} {mg : Str → Option Value} {fa : Addr} (X : K.In h) (G : h.Ns mainGlobals mg) (hfa : mg "law" = some (.ref fa))
    {odx_view_fault anx_view_fault : Option Addr} {slx_view_fault : Array (Option Value)} {ocx_view_fault kVx_view_fault dcx_view_fault pmx_view_fault cdx_view_fault ctx_view_fault : Value} {fx_view_fault : Addr}
    {odx_deliver_fault anx_deliver_fault : Option Addr} {slx_deliver_fault : Array (Option Value)} {ocx_deliver_fault kVx_deliver_fault dcx_deliver_fault pmx_deliver_fault cdx_deliver_fault ctx_deliver_fault : Value} {fx_deliver_fault : Addr}
    {odx_cause_fault anx_cause_fault : Option Addr} {slx_cause_fault : Array (Option Value)} {ocx_cause_fault kVx_cause_fault dcx_cause_fault pmx_cause_fault cdx_cause_fault ctx_cause_fault : Value} {fx_cause_fault : Addr}
    {odx__logs_and_lengths anx__logs_and_lengths : Option Addr} {slx__logs_and_lengths : Array (Option Value)} {ocx__logs_and_lengths kVx__logs_and_lengths dcx__logs_and_lengths pmx__logs_and_lengths cdx__logs_and_lengths ctx__logs_and_lengths : Value} {fx__logs_and_lengths : Addr}
    {odx_together_fault anx_together_fault : Option Addr} {slx_together_fault : Array (Option Value)} {ocx_together_fault kVx_together_fault dcx_together_fault pmx_together_fault cdx_together_fault ctx_together_fault : Value} {fx_together_fault : Addr}
    {odx_own_fault anx_own_fault : Option Addr} {slx_own_fault : Array (Option Value)} {ocx_own_fault kVx_own_fault dcx_own_fault pmx_own_fault cdx_own_fault ctx_own_fault : Value} {fx_own_fault : Addr}
    {odx_judge anx_judge : Option Addr} {slx_judge : Array (Option Value)} {ocx_judge kVx_judge dcx_judge pmx_judge cdx_judge ctx_judge : Value} {fx_judge : Addr}
    {odx__law_view_of anx__law_view_of : Option Addr} {slx__law_view_of : Array (Option Value)} {ocx__law_view_of kVx__law_view_of dcx__law_view_of pmx__law_view_of cdx__law_view_of ctx__law_view_of : Value} {fx__law_view_of : Addr}
    {odx__law_log anx__law_log : Option Addr} {slx__law_log : Array (Option Value)} {ocx__law_log kVx__law_log dcx__law_log pmx__law_log cdx__law_log ctx__law_log : Value} {fx__law_log : Addr}
    {odx__law_event anx__law_event : Option Addr} {slx__law_event : Array (Option Value)} {ocx__law_event kVx__law_event dcx__law_event pmx__law_event cdx__law_event ctx__law_event : Value} {fx__law_event : Addr}
    {odx__law_views anx__law_views : Option Addr} {slx__law_views : Array (Option Value)} {ocx__law_views kVx__law_views dcx__law_views pmx__law_views cdx__law_views ctx__law_views : Value} {fx__law_views : Addr}
    {odx__law_delivers anx__law_delivers : Option Addr} {slx__law_delivers : Array (Option Value)} {ocx__law_delivers kVx__law_delivers dcx__law_delivers pmx__law_delivers cdx__law_delivers ctx__law_delivers : Value} {fx__law_delivers : Addr}
    {odx__law_causes anx__law_causes : Option Addr} {slx__law_causes : Array (Option Value)} {ocx__law_causes kVx__law_causes dcx__law_causes pmx__law_causes cdx__law_causes ctx__law_causes : Value} {fx__law_causes : Addr}
    {odx__law_together anx__law_together : Option Addr} {slx__law_together : Array (Option Value)} {ocx__law_together kVx__law_together dcx__law_together pmx__law_together cdx__law_together ctx__law_together : Value} {fx__law_together : Addr}
    {odx__law_own anx__law_own : Option Addr} {slx__law_own : Array (Option Value)} {ocx__law_own kVx__law_own dcx__law_own pmx__law_own cdx__law_own ctx__law_own : Value} {fx__law_own : Addr}
    {odx_law anx_law : Option Addr} {slx_law : Array (Option Value)} {ocx_law kVx_law dcx_law pmx_law cdx_law ctx_law : Value} {fx_law : Addr}
    (ax_view_fault : PySem.W.nsIn K mainGlobals "view_fault" = some (some (.ref fx_view_fault)))
    (lx_view_fault : K.lookup fx_view_fault = some ⟨ocx_view_fault, odx_view_fault, .func (PySem.W.fnOf "view_fault" "view_fault" (defArgs s_view_fault) (defBody s_view_fault) (defScope s_view_fault) .none kVx_view_fault dcx_view_fault pmx_view_fault anx_view_fault cdx_view_fault ctx_view_fault), slx_view_fault⟩)
    (cx_view_fault : PySem.W.codeIn K cdx_view_fault "view_fault" = true)
    (kx_view_fault : PySem.W.keepIn K (.ref fx_view_fault) = true)
    (ax_deliver_fault : PySem.W.nsIn K mainGlobals "deliver_fault" = some (some (.ref fx_deliver_fault)))
    (lx_deliver_fault : K.lookup fx_deliver_fault = some ⟨ocx_deliver_fault, odx_deliver_fault, .func (PySem.W.fnOf "deliver_fault" "deliver_fault" (defArgs s_deliver_fault) (defBody s_deliver_fault) (defScope s_deliver_fault) .none kVx_deliver_fault dcx_deliver_fault pmx_deliver_fault anx_deliver_fault cdx_deliver_fault ctx_deliver_fault), slx_deliver_fault⟩)
    (cx_deliver_fault : PySem.W.codeIn K cdx_deliver_fault "deliver_fault" = true)
    (kx_deliver_fault : PySem.W.keepIn K (.ref fx_deliver_fault) = true)
    (ax_cause_fault : PySem.W.nsIn K mainGlobals "cause_fault" = some (some (.ref fx_cause_fault)))
    (lx_cause_fault : K.lookup fx_cause_fault = some ⟨ocx_cause_fault, odx_cause_fault, .func (PySem.W.fnOf "cause_fault" "cause_fault" (defArgs s_cause_fault) (defBody s_cause_fault) (defScope s_cause_fault) .none kVx_cause_fault dcx_cause_fault pmx_cause_fault anx_cause_fault cdx_cause_fault ctx_cause_fault), slx_cause_fault⟩)
    (cx_cause_fault : PySem.W.codeIn K cdx_cause_fault "cause_fault" = true)
    (kx_cause_fault : PySem.W.keepIn K (.ref fx_cause_fault) = true)
    (ax__logs_and_lengths : PySem.W.nsIn K mainGlobals "_logs_and_lengths" = some (some (.ref fx__logs_and_lengths)))
    (lx__logs_and_lengths : K.lookup fx__logs_and_lengths = some ⟨ocx__logs_and_lengths, odx__logs_and_lengths, .func (PySem.W.fnOf "_logs_and_lengths" "_logs_and_lengths" (defArgs s__logs_and_lengths) (defBody s__logs_and_lengths) (defScope s__logs_and_lengths) .none kVx__logs_and_lengths dcx__logs_and_lengths pmx__logs_and_lengths anx__logs_and_lengths cdx__logs_and_lengths ctx__logs_and_lengths), slx__logs_and_lengths⟩)
    (cx__logs_and_lengths : PySem.W.codeIn K cdx__logs_and_lengths "_logs_and_lengths" = true)
    (kx__logs_and_lengths : PySem.W.keepIn K (.ref fx__logs_and_lengths) = true)
    (ax_together_fault : PySem.W.nsIn K mainGlobals "together_fault" = some (some (.ref fx_together_fault)))
    (lx_together_fault : K.lookup fx_together_fault = some ⟨ocx_together_fault, odx_together_fault, .func (PySem.W.fnOf "together_fault" "together_fault" (defArgs s_together_fault) (defBody s_together_fault) (defScope s_together_fault) .none kVx_together_fault dcx_together_fault pmx_together_fault anx_together_fault cdx_together_fault ctx_together_fault), slx_together_fault⟩)
    (cx_together_fault : PySem.W.codeIn K cdx_together_fault "together_fault" = true)
    (kx_together_fault : PySem.W.keepIn K (.ref fx_together_fault) = true)
    (ax_own_fault : PySem.W.nsIn K mainGlobals "own_fault" = some (some (.ref fx_own_fault)))
    (lx_own_fault : K.lookup fx_own_fault = some ⟨ocx_own_fault, odx_own_fault, .func (PySem.W.fnOf "own_fault" "own_fault" (defArgs s_own_fault) (defBody s_own_fault) (defScope s_own_fault) .none kVx_own_fault dcx_own_fault pmx_own_fault anx_own_fault cdx_own_fault ctx_own_fault), slx_own_fault⟩)
    (cx_own_fault : PySem.W.codeIn K cdx_own_fault "own_fault" = true)
    (kx_own_fault : PySem.W.keepIn K (.ref fx_own_fault) = true)
    (ax_judge : PySem.W.nsIn K mainGlobals "judge" = some (some (.ref fx_judge)))
    (lx_judge : K.lookup fx_judge = some ⟨ocx_judge, odx_judge, .func (PySem.W.fnOf "judge" "judge" (defArgs s_judge) (defBody s_judge) (defScope s_judge) .none kVx_judge dcx_judge pmx_judge anx_judge cdx_judge ctx_judge), slx_judge⟩)
    (cx_judge : PySem.W.codeIn K cdx_judge "judge" = true)
    (kx_judge : PySem.W.keepIn K (.ref fx_judge) = true)
    (ax__law_view_of : PySem.W.nsIn K mainGlobals "_law_view_of" = some (some (.ref fx__law_view_of)))
    (lx__law_view_of : K.lookup fx__law_view_of = some ⟨ocx__law_view_of, odx__law_view_of, .func (PySem.W.fnOf "_law_view_of" "_law_view_of" (defArgs s__law_view_of) (defBody s__law_view_of) (defScope s__law_view_of) .none kVx__law_view_of dcx__law_view_of pmx__law_view_of anx__law_view_of cdx__law_view_of ctx__law_view_of), slx__law_view_of⟩)
    (cx__law_view_of : PySem.W.codeIn K cdx__law_view_of "_law_view_of" = true)
    (kx__law_view_of : PySem.W.keepIn K (.ref fx__law_view_of) = true)
    (ax__law_log : PySem.W.nsIn K mainGlobals "_law_log" = some (some (.ref fx__law_log)))
    (lx__law_log : K.lookup fx__law_log = some ⟨ocx__law_log, odx__law_log, .func (PySem.W.fnOf "_law_log" "_law_log" (defArgs s__law_log) (defBody s__law_log) (defScope s__law_log) .none kVx__law_log dcx__law_log pmx__law_log anx__law_log cdx__law_log ctx__law_log), slx__law_log⟩)
    (cx__law_log : PySem.W.codeIn K cdx__law_log "_law_log" = true)
    (kx__law_log : PySem.W.keepIn K (.ref fx__law_log) = true)
    (ax__law_event : PySem.W.nsIn K mainGlobals "_law_event" = some (some (.ref fx__law_event)))
    (lx__law_event : K.lookup fx__law_event = some ⟨ocx__law_event, odx__law_event, .func (PySem.W.fnOf "_law_event" "_law_event" (defArgs s__law_event) (defBody s__law_event) (defScope s__law_event) .none kVx__law_event dcx__law_event pmx__law_event anx__law_event cdx__law_event ctx__law_event), slx__law_event⟩)
    (cx__law_event : PySem.W.codeIn K cdx__law_event "_law_event" = true)
    (kx__law_event : PySem.W.keepIn K (.ref fx__law_event) = true)
    (ax__law_views : PySem.W.nsIn K mainGlobals "_law_views" = some (some (.ref fx__law_views)))
    (lx__law_views : K.lookup fx__law_views = some ⟨ocx__law_views, odx__law_views, .func (PySem.W.fnOf "_law_views" "_law_views" (defArgs s__law_views) (defBody s__law_views) (defScope s__law_views) .none kVx__law_views dcx__law_views pmx__law_views anx__law_views cdx__law_views ctx__law_views), slx__law_views⟩)
    (cx__law_views : PySem.W.codeIn K cdx__law_views "_law_views" = true)
    (kx__law_views : PySem.W.keepIn K (.ref fx__law_views) = true)
    (ax__law_delivers : PySem.W.nsIn K mainGlobals "_law_delivers" = some (some (.ref fx__law_delivers)))
    (lx__law_delivers : K.lookup fx__law_delivers = some ⟨ocx__law_delivers, odx__law_delivers, .func (PySem.W.fnOf "_law_delivers" "_law_delivers" (defArgs s__law_delivers) (defBody s__law_delivers) (defScope s__law_delivers) .none kVx__law_delivers dcx__law_delivers pmx__law_delivers anx__law_delivers cdx__law_delivers ctx__law_delivers), slx__law_delivers⟩)
    (cx__law_delivers : PySem.W.codeIn K cdx__law_delivers "_law_delivers" = true)
    (kx__law_delivers : PySem.W.keepIn K (.ref fx__law_delivers) = true)
    (ax__law_causes : PySem.W.nsIn K mainGlobals "_law_causes" = some (some (.ref fx__law_causes)))
    (lx__law_causes : K.lookup fx__law_causes = some ⟨ocx__law_causes, odx__law_causes, .func (PySem.W.fnOf "_law_causes" "_law_causes" (defArgs s__law_causes) (defBody s__law_causes) (defScope s__law_causes) .none kVx__law_causes dcx__law_causes pmx__law_causes anx__law_causes cdx__law_causes ctx__law_causes), slx__law_causes⟩)
    (cx__law_causes : PySem.W.codeIn K cdx__law_causes "_law_causes" = true)
    (kx__law_causes : PySem.W.keepIn K (.ref fx__law_causes) = true)
    (ax__law_together : PySem.W.nsIn K mainGlobals "_law_together" = some (some (.ref fx__law_together)))
    (lx__law_together : K.lookup fx__law_together = some ⟨ocx__law_together, odx__law_together, .func (PySem.W.fnOf "_law_together" "_law_together" (defArgs s__law_together) (defBody s__law_together) (defScope s__law_together) .none kVx__law_together dcx__law_together pmx__law_together anx__law_together cdx__law_together ctx__law_together), slx__law_together⟩)
    (cx__law_together : PySem.W.codeIn K cdx__law_together "_law_together" = true)
    (kx__law_together : PySem.W.keepIn K (.ref fx__law_together) = true)
    (ax__law_own : PySem.W.nsIn K mainGlobals "_law_own" = some (some (.ref fx__law_own)))
    (lx__law_own : K.lookup fx__law_own = some ⟨ocx__law_own, odx__law_own, .func (PySem.W.fnOf "_law_own" "_law_own" (defArgs s__law_own) (defBody s__law_own) (defScope s__law_own) .none kVx__law_own dcx__law_own pmx__law_own anx__law_own cdx__law_own ctx__law_own), slx__law_own⟩)
    (cx__law_own : PySem.W.codeIn K cdx__law_own "_law_own" = true)
    (kx__law_own : PySem.W.keepIn K (.ref fx__law_own) = true)
    (ax_law : PySem.W.nsIn K mainGlobals "law" = some (some (.ref fx_law)))
    (lx_law : K.lookup fx_law = some ⟨ocx_law, odx_law, .func (PySem.W.fnOf "law" "law" (defArgs s_law) (defBody s_law) (defScope s_law) .none kVx_law dcx_law pmx_law anx_law cdx_law ctx_law), slx_law⟩)
    (cx_law : PySem.W.codeIn K cdx_law "law" = true)
    (kx_law : PySem.W.keepIn K (.ref fx_law) = true)
    (zlen : PySem.W.nsIn K mainGlobals "len" = some none)
    (zisinstance : PySem.W.nsIn K mainGlobals "isinstance" = some none)
    (zint : PySem.W.nsIn K mainGlobals "int" = some none)
    (zstr : PySem.W.nsIn K mainGlobals "str" = some none)
    (zlist : PySem.W.nsIn K mainGlobals "list" = some none)
    (zrange : PySem.W.nsIn K mainGlobals "range" = some none)
    (zabs : PySem.W.nsIn K mainGlobals "abs" = some none) :
    ∃ fd : FuncData, (∀ (s : Shared) (v : Value), BindsTo s fd ⟨[v], []⟩ [("script", v)]) ∧ ∀ base : Heap, K.In base → base.Ns mainGlobals mg → FnOk l.prog w K mg base CX0 4 fa fd ["script"] (sp_law K) := by
  have e := hfa.symm.trans (PySem.W.mg_of X G ax_law)
  cases e
  have T : Tx mg := {
    b_len := PySem.W.mg_none_of X G zlen
    b_isinstance := PySem.W.mg_none_of X G zisinstance
    b_int := PySem.W.mg_none_of X G zint
    b_str := PySem.W.mg_none_of X G zstr
    b_list := PySem.W.mg_none_of X G zlist
    b_range := PySem.W.mg_none_of X G zrange
    b_abs := PySem.W.mg_none_of X G zabs }
  let a_view_fault : DefAt K mg "view_fault" P_view_fault s_view_fault := at_mk X G ax_view_fault lx_view_fault cx_view_fault kx_view_fault fun _ _ _ _ _ _ us hl => match us, hl with | [_], _ => rfl
  let a_deliver_fault : DefAt K mg "deliver_fault" P_deliver_fault s_deliver_fault := at_mk X G ax_deliver_fault lx_deliver_fault cx_deliver_fault kx_deliver_fault fun _ _ _ _ _ _ us hl => match us, hl with | [_], _ => rfl
  let a_cause_fault : DefAt K mg "cause_fault" P_cause_fault s_cause_fault := at_mk X G ax_cause_fault lx_cause_fault cx_cause_fault kx_cause_fault fun _ _ _ _ _ _ us hl => match us, hl with | [_], _ => rfl
  let a__logs_and_lengths : DefAt K mg "_logs_and_lengths" P__logs_and_lengths s__logs_and_lengths := at_mk X G ax__logs_and_lengths lx__logs_and_lengths cx__logs_and_lengths kx__logs_and_lengths fun _ _ _ _ _ _ us hl => match us, hl with | [_], _ => rfl
  let a_together_fault : DefAt K mg "together_fault" P_together_fault s_together_fault := at_mk X G ax_together_fault lx_together_fault cx_together_fault kx_together_fault fun _ _ _ _ _ _ us hl => match us, hl with | [_], _ => rfl
  let a_own_fault : DefAt K mg "own_fault" P_own_fault s_own_fault := at_mk X G ax_own_fault lx_own_fault cx_own_fault kx_own_fault fun _ _ _ _ _ _ us hl => match us, hl with | [_], _ => rfl
  let a_judge : DefAt K mg "judge" P_judge s_judge := at_mk X G ax_judge lx_judge cx_judge kx_judge fun _ _ _ _ _ _ us hl => match us, hl with | [_], _ => rfl
  let a__law_view_of : DefAt K mg "_law_view_of" P__law_view_of s__law_view_of := at_mk X G ax__law_view_of lx__law_view_of cx__law_view_of kx__law_view_of fun _ _ _ _ _ _ us hl => match us, hl with | [_, _, _], _ => rfl
  let a__law_log : DefAt K mg "_law_log" P__law_log s__law_log := at_mk X G ax__law_log lx__law_log cx__law_log kx__law_log fun _ _ _ _ _ _ us hl => match us, hl with | [_, _, _, _], _ => rfl
  let a__law_event : DefAt K mg "_law_event" P__law_event s__law_event := at_mk X G ax__law_event lx__law_event cx__law_event kx__law_event fun _ _ _ _ _ _ us hl => match us, hl with | [_, _], _ => rfl
  let a__law_views : DefAt K mg "_law_views" P__law_views s__law_views := at_mk X G ax__law_views lx__law_views cx__law_views kx__law_views fun _ _ _ _ _ _ us hl => match us, hl with | [_], _ => rfl
  let a__law_delivers : DefAt K mg "_law_delivers" P__law_delivers s__law_delivers := at_mk X G ax__law_delivers lx__law_delivers cx__law_delivers kx__law_delivers fun _ _ _ _ _ _ us hl => match us, hl with | [_], _ => rfl
  let a__law_causes : DefAt K mg "_law_causes" P__law_causes s__law_causes := at_mk X G ax__law_causes lx__law_causes cx__law_causes kx__law_causes fun _ _ _ _ _ _ us hl => match us, hl with | [_], _ => rfl
  let a__law_together : DefAt K mg "_law_together" P__law_together s__law_together := at_mk X G ax__law_together lx__law_together cx__law_together kx__law_together fun _ _ _ _ _ _ us hl => match us, hl with | [_], _ => rfl
  let a__law_own : DefAt K mg "_law_own" P__law_own s__law_own := at_mk X G ax__law_own lx__law_own cx__law_own kx__law_own fun _ _ _ _ _ _ us hl => match us, hl with | [_], _ => rfl
  have F_law := fun_mk (st := s_law) lx_law cx_law kx_law
  refine ⟨PySem.W.fnOf "law" "law" (defArgs s_law) (defBody s_law) (defScope s_law) .none kVx_law dcx_law pmx_law anx_law cdx_law ctx_law, fun s v => .of_eq rfl, fun base _ _ => ?_⟩
  let c__law_view_of : DefOk l.prog w K mg base CX0 "_law_view_of" P__law_view_of (1) ((sp_vof)) := a__law_view_of.ok fun F => ok__law_view_of T F
  let c__law_log : DefOk l.prog w K mg base CX0 "_law_log" P__law_log (1) ((sp_log)) := a__law_log.ok fun F => ok__law_log T F
  let c__law_event : DefOk l.prog w K mg base CX0 "_law_event" P__law_event (2) ((sp_event)) := a__law_event.ok fun F => ok__law_event T c__law_view_of c__law_log F
  let c__law_views : DefOk l.prog w K mg base CX0 "_law_views" P__law_views (2) ((sp_fault fun es => firstF fView [] es)) := a__law_views.ok fun F => ok__law_views T c__law_view_of F
  let c__law_delivers : DefOk l.prog w K mg base CX0 "_law_delivers" P__law_delivers (2) ((sp_fault fun es => firstF fDel [] es)) := a__law_delivers.ok fun F => ok__law_delivers T c__law_view_of c__law_log F
  let c__law_causes : DefOk l.prog w K mg base CX0 "_law_causes" P__law_causes (2) ((sp_fault fun es => firstF (fCause es) [] es)) := a__law_causes.ok fun F => ok__law_causes T c__law_log F
  let c__law_together : DefOk l.prog w K mg base CX0 "_law_together" P__law_together (2) ((sp_fault fun es => firstF fTog [] es)) := a__law_together.ok fun F => ok__law_together T c__law_view_of c__law_log F
  let c__law_own : DefOk l.prog w K mg base CX0 "_law_own" P__law_own (2) ((sp_fault fun es => firstF fOwn [] es)) := a__law_own.ok fun F => ok__law_own T c__law_view_of c__law_log F
  let c_view_fault : DefOk l.prog w K mg base CX0 "view_fault" P_view_fault (1) ((sp_fault fun es => firstF fView [] es)) := a_view_fault.ok fun F => ok_view_fault T F
  let c_deliver_fault : DefOk l.prog w K mg base CX0 "deliver_fault" P_deliver_fault (1) ((sp_fault fun es => firstF fDel [] es)) := a_deliver_fault.ok fun F => ok_deliver_fault T F
  let c__logs_and_lengths : DefOk l.prog w K mg base CX0 "_logs_and_lengths" P__logs_and_lengths (1) ((sp_logs w)) := a__logs_and_lengths.ok fun F => ok__logs_and_lengths T F
  let c_cause_fault : DefOk l.prog w K mg base CX0 "cause_fault" P_cause_fault (2) ((sp_fault fun es => firstF (fCause es) [] es)) := a_cause_fault.ok fun F => ok_cause_fault T c__logs_and_lengths F
  let c_together_fault : DefOk l.prog w K mg base CX0 "together_fault" P_together_fault (1) ((sp_fault fun es => firstF fTog [] es)) := a_together_fault.ok fun F => ok_together_fault T F
  let c_own_fault : DefOk l.prog w K mg base CX0 "own_fault" P_own_fault (1) ((sp_fault fun es => firstF fOwn [] es)) := a_own_fault.ok fun F => ok_own_fault T F
  let c_judge : DefOk l.prog w K mg base CX0 "judge" P_judge (3) ((sp_judge)) := a_judge.ok fun F => ok_judge T c_view_fault c_deliver_fault c_cause_fault c_together_fault c_own_fault F
  exact ok_law T c__law_event c__law_views c__law_delivers c__law_causes c__law_together c__law_own c_view_fault c_deliver_fault c_cause_fault c_together_fault c_own_fault c_judge F_law
end Mus
open PySem PySem.W PyProof.Rows
set_option maxRecDepth 100000 in
set_option maxHeartbeats 0 in
theorem PySem.Challenge.cw_mustercall_k61_judge_by_pairs_holds : PySem.Challenge.rw_mustercall_k61_judge_by_pairs.Holds := by
  w_on; o_law; k_head; (case hw => w_witness2)
  k_fill
  refine Mus.walk_ofX (l := PySem.Challenge.rw_mustercall_k61_judge_by_pairs) (n := 63) (k := 4) (x := "script") (sp := fun w => Mus.sp_law (_ : PySem.W.Frag)) rfl (by decide) rfl ⟨rfl, by decide, by decide⟩ (fun w h Y => PySem.W.kIn_of Y) ?F (fun _ _ a ns hl _ hS => ⟨a, ns, rfl, hS, hl, fun _ => rfl⟩)
  case F =>
    intro w mg fa h KX G XX hmg
    refine' Mus.all_mk KX G hmg ?ax_view_fault ?lx_view_fault ?cx_view_fault ?kx_view_fault ?ax_deliver_fault ?lx_deliver_fault ?cx_deliver_fault ?kx_deliver_fault ?ax_cause_fault ?lx_cause_fault ?cx_cause_fault ?kx_cause_fault ?ax__logs_and_lengths ?lx__logs_and_lengths ?cx__logs_and_lengths ?kx__logs_and_lengths ?ax_together_fault ?lx_together_fault ?cx_together_fault ?kx_together_fault ?ax_own_fault ?lx_own_fault ?cx_own_fault ?kx_own_fault ?ax_judge ?lx_judge ?cx_judge ?kx_judge ?ax__law_view_of ?lx__law_view_of ?cx__law_view_of ?kx__law_view_of ?ax__law_log ?lx__law_log ?cx__law_log ?kx__law_log ?ax__law_event ?lx__law_event ?cx__law_event ?kx__law_event ?ax__law_views ?lx__law_views ?cx__law_views ?kx__law_views ?ax__law_delivers ?lx__law_delivers ?cx__law_delivers ?kx__law_delivers ?ax__law_causes ?lx__law_causes ?cx__law_causes ?kx__law_causes ?ax__law_together ?lx__law_together ?cx__law_together ?kx__law_together ?ax__law_own ?lx__law_own ?cx__law_own ?kx__law_own ?ax_law ?lx_law ?cx_law ?kx_law ?zlen ?zisinstance ?zint ?zstr ?zlist ?zrange ?zabs
    (case ax_view_fault => first | k_is | rfl)
    (case lx_view_fault => first | k_is | rfl)
    (case cx_view_fault => first | k_is | rfl)
    (case kx_view_fault => first | k_is | rfl)
    (case ax_deliver_fault => first | k_is | rfl)
    (case lx_deliver_fault => first | k_is | rfl)
    (case cx_deliver_fault => first | k_is | rfl)
    (case kx_deliver_fault => first | k_is | rfl)
    (case ax_cause_fault => first | k_is | rfl)
    (case lx_cause_fault => first | k_is | rfl)
    (case cx_cause_fault => first | k_is | rfl)
    (case kx_cause_fault => first | k_is | rfl)
    (case ax__logs_and_lengths => first | k_is | rfl)
    (case lx__logs_and_lengths => first | k_is | rfl)
    (case cx__logs_and_lengths => first | k_is | rfl)
    (case kx__logs_and_lengths => first | k_is | rfl)
    (case ax_together_fault => first | k_is | rfl)
    (case lx_together_fault => first | k_is | rfl)
    (case cx_together_fault => first | k_is | rfl)
    (case kx_together_fault => first | k_is | rfl)
    (case ax_own_fault => first | k_is | rfl)
    (case lx_own_fault => first | k_is | rfl)
    (case cx_own_fault => first | k_is | rfl)
    (case kx_own_fault => first | k_is | rfl)
    (case ax_judge => first | k_is | rfl)
    (case lx_judge => first | k_is | rfl)
    (case cx_judge => first | k_is | rfl)
    (case kx_judge => first | k_is | rfl)
    (case ax__law_view_of => first | k_is | rfl)
    (case lx__law_view_of => first | k_is | rfl)
    (case cx__law_view_of => first | k_is | rfl)
    (case kx__law_view_of => first | k_is | rfl)
    (case ax__law_log => first | k_is | rfl)
    (case lx__law_log => first | k_is | rfl)
    (case cx__law_log => first | k_is | rfl)
    (case kx__law_log => first | k_is | rfl)
    (case ax__law_event => first | k_is | rfl)
    (case lx__law_event => first | k_is | rfl)
    (case cx__law_event => first | k_is | rfl)
    (case kx__law_event => first | k_is | rfl)
    (case ax__law_views => first | k_is | rfl)
    (case lx__law_views => first | k_is | rfl)
    (case cx__law_views => first | k_is | rfl)
    (case kx__law_views => first | k_is | rfl)
    (case ax__law_delivers => first | k_is | rfl)
    (case lx__law_delivers => first | k_is | rfl)
    (case cx__law_delivers => first | k_is | rfl)
    (case kx__law_delivers => first | k_is | rfl)
    (case ax__law_causes => first | k_is | rfl)
    (case lx__law_causes => first | k_is | rfl)
    (case cx__law_causes => first | k_is | rfl)
    (case kx__law_causes => first | k_is | rfl)
    (case ax__law_together => first | k_is | rfl)
    (case lx__law_together => first | k_is | rfl)
    (case cx__law_together => first | k_is | rfl)
    (case kx__law_together => first | k_is | rfl)
    (case ax__law_own => first | k_is | rfl)
    (case lx__law_own => first | k_is | rfl)
    (case cx__law_own => first | k_is | rfl)
    (case kx__law_own => first | k_is | rfl)
    (case ax_law => first | k_is | rfl)
    (case lx_law => first | k_is | rfl)
    (case cx_law => first | k_is | rfl)
    (case kx_law => first | k_is | rfl)
    (case zlen => first | k_is | rfl)
    (case zisinstance => first | k_is | rfl)
    (case zint => first | k_is | rfl)
    (case zstr => first | k_is | rfl)
    (case zlist => first | k_is | rfl)
    (case zrange => first | k_is | rfl)
    (case zabs => first | k_is | rfl)

