import PyProof.Rows.All
import Wide.All
import OpenK.AllK
import Wide.FinOn
import HandS.Base
import HandS.Call
import HandS.List
import HandS.Comp
import HandS.Ends
import HandS.Iter
import HandS.Text
import HandS.Words
import HandS.WordsList
import HandS.Wide
import HandS.IsInst
import HandS.TupAny
import HandS.Dict
import HandS.WordsDict
import HandS.Conv
import HandS.More
import KE.KeyNested
import KE.KDictKeyed
import KE.SortData
import KE.SortUse
import HandS.SortOrd
import HandS.Deep
import HandS.Codes
import HandS.SortRule
import HandS.Walk
import KE.GoesEnumKw
import HandS.SortKw
import HandS.Exc
import HandS.ExcOwn
import HandS.TryOnly
import HandS.WordsExc
import HandS.TryMany
import HandS.ExcIs
import HandS.TupLe
import PySem.Challenge.RW_mustercall_k20_order_step_by_step
set_option Elab.async false
set_option linter.all false
set_option maxRecDepth 100000
set_option maxHeartbeats 4000000
/-! What my proofs share: a def with its promise as one thing, small rules, heaps. -/
namespace Mus
open PySem L2
/-- a def of the text that keeps a promise, and all that a call of it asks -/
structure DefOk (P : Program) (w : World) (K : PySem.W.Frag) (mg : Str → Option Value) (base : Heap) (CX : CXT) (x : Str) (ps : List Str) (k : Nat) (sp : Sp) where
  f : Addr
  fd : FuncData
  G : FnOk P w K mg base CX k f fd ps sp
  m : mg x = some (.ref f)
  kp : PySem.W.keepIn K (.ref f) = true
  b : Binds K fd ps []
def DefOk.mono {P : Program} {w : World} {K : PySem.W.Frag} {mg : Str → Option Value} {base : Heap} {CX : CXT} {x : Str} {ps : List Str} {j k : Nat} {sp : Sp} (c : DefOk P w K mg base CX x ps j sp) (h : j ≤ k) : DefOk P w K mg base CX x ps k sp :=
  ⟨c.f, c.fd, c.G.mono h, c.m, c.kp, c.b⟩
/-- a def of the text as the top left it: no promise yet -/
structure DefAt (K : PySem.W.Frag) (mg : Str → Option Value) (x : Str) (ps : List Str) (st : Stmt) where
  f : Addr
  fd : FuncData
  F : Fun K x x st f fd
  m : mg x = some (.ref f)
  b : Binds K fd ps []
def DefAt.ok {P : Program} {w : World} {K : PySem.W.Frag} {mg : Str → Option Value} {base : Heap} {CX : CXT} {x : Str} {ps : List Str} {st : Stmt} {k : Nat} {sp : Sp} (d : DefAt K mg x ps st) (h : ∀ {f : Addr} {fd : FuncData}, Fun K x x st f fd → FnOk P w K mg base CX k f fd ps sp) : DefOk P w K mg base CX x ps k sp :=
  ⟨d.f, d.fd, h d.F, d.m, d.F.kp, d.b⟩
section
variable {X : Cx}
theorem pcall {x : Str} {ps : List Str} {j k : Nat} {sp : Sp} {e : Expr} {es : List Expr} {t : TA} {p pos : Pos} (c : DefOk X.prog X.w X.K X.mg X.base CX0 x ps j sp) (hr : Room k X.A) (ha : PA X (e :: es) t) (hj : j ≤ k := by first | decide | omega) (hg : Gl X x := by rfl)
    (db0 : (x == ("__debug__" : Str)) = false := by decide) (st0 : starEach (e :: es) X.env = (false, eval e X.env) :: starEach es X.env := by rfl) (pl0 : (backTo pos (starEach es X.env)).any (·.1) = false := by rfl) :
    PE X (.Call (.Name x p) (e :: es) [] pos) (tCall sp [] E0 t) := pe_call c.G (hr.mono hj) hg c.m c.kp c.b .nil pass0 ha db0 st0 pl0
/-- a text n times -/
theorem op_mul_str : OpR X (binaryOp .Mult) (fun x y H Q => ∃ (z : Str) (n : Int), x = .str z ∧ y = .int n ∧ 2 ≤ n ∧ n ≤ 1000 ∧ 1 ≤ z.length ∧ z.length ≤ 1000 ∧ ∀ r : Str, TL.tl r = (List.replicate n.toNat (TL.tl z)).flatten → Q (.str r) H) := by
  intro pins s σ H x y v u Q I rx ry h
  obtain ⟨z, n, rfl, rfl, h2, h3, h4, h5, q⟩ := h
  obtain ⟨t, rfl⟩ := rx
  obtain ⟨t', rfl⟩ := ry
  have n1 : ¬ n < 1 := by omega
  have n2 : ¬ (n == 1 || z.length == 0) = true := by
    rw [Bool.or_eq_true, beq_iff_eq, beq_iff_eq]; omega
  have hr : (decide (n < -(2 ^ 63 : Int)) || decide (n ≥ 2 ^ 63)) = false := by
    rw [decide_eq_false (by omega), decide_eq_false (by omega)]; rfl
  have hm : z.length * n.toNat ≤ 1000 * 1000 := Nat.mul_le_mul h5 (by omega)
  have hl : Builtin.Str.tooLong (z.length * n.toNat) = false := by
    unfold Builtin.Str.tooLong
    have e : sizeLine = 16777216 := sizeLine_eq
    rw [decide_eq_false (by omega)]
  have hb : ¬ ((z.length : Int) > (2 ^ 63 - 1) / n) := by
    have : (1000 : Int) ≤ (2 ^ 63 - 1) / n := by
      rw [Int.le_ediv_iff_mul_le (by omega)]
      omega
    omega
  refine PySem.P.mul_str hr (fun _ _ => hb) (fun _ _ => hl) ?_
  rw [if_neg n1, if_neg n2]
  have hf : ∀ (k : Nat) (acc : Array Nat), ((List.replicate k z.cps).foldl (· ++ ·) acc).toList = acc.toList ++ (List.replicate k z.cps.toList).flatten := by
    intro k
    induction k with
    | zero => intro acc; simp
    | succ k ih =>
      intro acc
      rw [List.replicate_succ, List.foldl_cons, ih, List.replicate_succ, List.flatten_cons, Array.toList_append, List.append_assoc]
  have hr : TL.tl (⟨(List.replicate n.toNat z.cps).foldl (· ++ ·) #[]⟩ : Str) = (List.replicate n.toNat (TL.tl z)).flatten := by
    show ((List.replicate n.toNat z.cps).foldl (· ++ ·) #[]).toList = _
    rw [hf]; rfl
  have hlen : (⟨(List.replicate n.toNat z.cps).foldl (· ++ ·) #[]⟩ : Str).length ≤ sizeLine := by
    rw [TL.len_tl, hr]
    have e : sizeLine = 16777216 := sizeLine_eq
    have z2 : ((List.replicate n.toNat (TL.tl z)).flatten).length = z.length * n.toNat := by
      rw [TL.len_tl]
      generalize n.toNat = k
      induction k with
      | zero => rfl
      | succ k ih => rw [List.replicate_succ, List.flatten_cons, List.length_append, ih, Nat.mul_succ, Nat.add_comm]
    omega
  exact ⟨hlen, .str _, H, I.tok _, ⟨_, rfl⟩, q _ hr⟩
/-- for c in a text -/
theorem for_str {z : Str} {g : TG} {tb : TS} {D : Ends} {σ : St} {H : Hp} (Pv : Nat → St → Hp → Prop) (h0 : Pv 0 σ H)
    (hs : ∀ i c σ H, (TL.tl z)[i]? = some c → Pv i σ H → g (.str ⟨#[c]⟩) σ H fun σ2 H2 => tb { D with nx := Pv (i + 1), ct := Pv (i + 1), bk := D.nx } σ2 H2) (hd : ∀ σ H, Pv (TL.tl z).length σ H → D.nx σ H) :
    ∃ W : Nat → Nat → St → Hp → Prop, (∃ m, W 0 m σ H) ∧ ∀ i m σ H, W i m σ H →
      ((Its z).stop i H ∧ D.nx σ H) ∨ ((Its z).go i H ∧ ∃ N : St → Hp → Prop, (∀ σ' H', N σ' H' → ∃ m', m' < m ∧ W (i + 1) m' σ' H') ∧ ∀ x H', (Its z).yld i H x H' → g x σ H' fun σ2 H2 => tb { D with nx := N, ct := N, bk := D.nx } σ2 H2) := by
  have hl : (TL.tl z).length = z.cps.size := Array.length_toList
  refine ⟨fun i m σ H => m = (TL.tl z).length - i ∧ i ≤ (TL.tl z).length ∧ Pv i σ H, ⟨(TL.tl z).length, rfl, Nat.zero_le _, h0⟩, ?_⟩
  rintro i m σ H ⟨rfl, le1, pv1⟩
  by_cases lt1 : i < (TL.tl z).length
  · refine .inr ⟨(by show i < z.cps.size; omega), Pv (i + 1), fun σ' H' p' => ⟨(TL.tl z).length - (i + 1), by omega, rfl, lt1, p'⟩, fun x H' y => ?_⟩
    obtain ⟨e, c, hc, ex⟩ := y
    subst e
    subst ex
    exact hs i c σ H' (by rw [Array.getElem?_toList]; exact hc) pv1
  · have e : i = (TL.tl z).length := by omega
    subst e
    exact .inl ⟨(by show z.cps.size ≤ _; omega), hd σ H pv1⟩
end
/-! ### heaps -/
/-- all but what stands at p is as it was -/
def But (p : Addr) (H H' : Hp) : Prop := ∀ b o, H b = some o → b ≠ p → H' b = some o
theorem But.refl (p : Addr) (H : Hp) : But p H H := fun _ _ h _ => h
theorem But.trans {p : Addr} {H H1 H2 : Hp} (a : But p H H1) (b : But p H1 H2) : But p H H2 := fun c o h n => b c o (a c o h n) n
theorem But.of {p : Addr} {H H' : Hp} (a : Same H H') : But p H H' := fun c o h _ => a c o h
theorem same_new {H : Hp} {p : Addr} (h : H p = none) (o : HO) : Same H (upd H p o) := fun b u q => by rw [upd_ne (ne_of_none q h)]; exact q
theorem but_upd {H : Hp} {p : Addr} (o : HO) : But p H (upd H p o) := fun b u q n => by rw [upd_ne n]; exact q
theorem same_seqT {K : PySem.W.Frag} {H H' : Hp} {a : Addr} {xs : List V} (e : Same H H') (h : SqT K H a xs) : SqT K H' a xs := by
  rcases h with (h | ⟨o, h⟩) | h
  · exact .inl (.inl (e _ _ h))
  · exact .inl (.inr ⟨o, e _ _ h⟩)
  · exact .inr h
/-- tuples stay where only a list may change -/
theorem But.seqT {K : PySem.W.Frag} {H H' : Hp} {p a : Addr} {xs ys : List V} (e : But p H H') (hp : H p = some (.lst ys)) (h : SqT K H a xs) : SqT K H' a xs := by
  rcases h with (h | ⟨o, h⟩) | h
  · exact .inl (.inl (e _ _ h (ne_of h hp (by intro z; cases z))))
  · exact .inl (.inr ⟨o, e _ _ h (ne_of h hp (by intro z; cases z))⟩)
  · exact .inr h
theorem But.seqL {K : PySem.W.Frag} {H H' : Hp} {p a : Addr} {xs : List V} (e : But p H H') (hp : a ≠ p) (h : SqL K H a xs) : SqL K H' a xs := by
  rcases h with (h | ⟨o, h⟩) | h
  · exact .inl (.inl (e _ _ h hp))
  · exact .inl (.inr ⟨o, e _ _ h hp⟩)
  · exact .inr h
end Mus

set_option maxRecDepth 100000
set_option maxHeartbeats 4000000
/-! Plain data of any kind in the heap, beside one list (the bag, at p) that changes. -/
namespace Mus
open PySem L2
theorem sl : sizeLine = 16777216 := sizeLine_eq
theorem dT {p : Prop} [Decidable p] {A B : Prop} (h : p) (a : A) : if decide p = true then A else B := by
  rw [decide_eq_true h]; exact iteT a
theorem dF {p : Prop} [Decidable p] {A B : Prop} (h : ¬ p) (b : B) : if decide p = true then A else B := by
  rw [decide_eq_false h]; exact iteF b
theorem nT {p : Prop} [Decidable p] {A B : Prop} (h : ¬ p) (a : A) : if (!decide p) = true then A else B := by
  rw [decide_eq_false h]; exact iteT a
theorem nF {p : Prop} [Decidable p] {A B : Prop} (h : p) (b : B) : if (!decide p) = true then A else B := by
  rw [decide_eq_true h]; exact iteF b
theorem at_int {α : Type} {xs : List α} {i : Int} {v : α} (h0 : 0 ≤ i) (h : xs[i.toNat]? = some v) : atI xs i = some v := by
  have e : i = ((i.toNat : Nat) : Int) := by omega
  rw [e]
  exact atI_nat h
theorem pe_const {X : Cx} {x : Str} {i : Int} {pos : Pos} (hm : ∃ t, X.mg x = some (.int i t)) (hg : Gl X x := by rfl) (hd : (x == ("__debug__" : Str)) = false := by decide) : PE X (.Name x pos) (tC (.int i)) := by
  obtain ⟨t, h⟩ := hm
  exact pe_glob hg h ⟨t, rfl⟩ hd
theorem pe_ty {X : Cx} {x : Str} {pos : Pos} (n : String) (hm : X.mg x = none) (hv : bootBuiltins x = some (.type n) := by decide +kernel) (hg : Gl X x := by rfl) (hn : x ≠ "__name__" := by decide) (hd : (x == ("__debug__" : Str)) = false := by decide) : PE X (.Name x pos) (tC (.ty n)) := pe_bltn hg hm hv rfl hn hd
theorem pe_cls {X : Cx} {x : Str} {C : Addr} {pos : Pos} (hm : X.mg x = some (.ref C)) (hg : Gl X x := by rfl) (hd : (x == ("__debug__" : Str)) = false := by decide) : PE X (.Name x pos) (tC (.ref C)) := pe_glob (v := .ref C) hg hm rfl hd
mutual
/-- the value v stands for the data d, all of it tracked and none of it at p -/
inductive Rp (p : Addr) (H : Hp) : V → PyData → Prop
  | non : Rp p H .non .none
  | bl (b : Bool) : Rp p H (.bl b) (.bool b)
  | int (i : Int) : Rp p H (.int i) (.int i)
  | str (x : Str) : Rp p H (.str x) (.str x)
  | lst {a : Addr} {xs : List V} {ds : List PyData} : H a = some (.lst xs) → a ≠ p → Rps p H xs ds → Rp p H (.ref a) (.list ds)
  | tup {a : Addr} {xs : List V} {ds : List PyData} : H a = some (.tup xs) → a ≠ p → xs.length ≤ 100000 → Rps p H xs ds → Rp p H (.ref a) (.tuple ds)
inductive Rps (p : Addr) (H : Hp) : List V → List PyData → Prop
  | nil : Rps p H [] []
  | cons {v : V} {vs : List V} {d : PyData} {ds : List PyData} : Rp p H v d → Rps p H vs ds → Rps p H (v :: vs) (d :: ds)
end
mutual
theorem Rp.mono {p : Addr} {H H' : Hp} (k : But p H H') : ∀ {v : V} {d : PyData}, Rp p H v d → Rp p H' v d
  | _, _, .non => .non
  | _, _, .bl b => .bl b
  | _, _, .int i => .int i
  | _, _, .str x => .str x
  | _, _, .lst h n r => .lst (k _ _ h n) n (Rps.mono k r)
  | _, _, .tup h n l r => .tup (k _ _ h n) n l (Rps.mono k r)
theorem Rps.mono {p : Addr} {H H' : Hp} (k : But p H H') : ∀ {vs : List V} {ds : List PyData}, Rps p H vs ds → Rps p H' vs ds
  | _, _, .nil => .nil
  | _, _, .cons a b => .cons (Rp.mono k a) (Rps.mono k b)
end
mutual
theorem Rp.dp {p : Addr} {K : PySem.W.Frag} {H : Hp} : ∀ {v : V} {d : PyData}, Rp p H v d → Dp K H v d
  | _, _, .non => .non
  | _, _, .bl b => .bl b
  | _, _, .int i => .int i
  | _, _, .str x => .str x
  | _, _, .lst h n r => .lst (SqL.of h) (Rps.dp r)
  | _, _, .tup h n _ r => .tup (SqT.of h) (Rps.dp r)
theorem Rps.dp {p : Addr} {K : PySem.W.Frag} {H : Hp} : ∀ {vs : List V} {ds : List PyData}, Rps p H vs ds → DpAll K H vs ds
  | _, _, .nil => .nil
  | _, _, .cons a b => .cons (Rp.dp a) (Rps.dp b)
end
theorem Rp.same {p : Addr} {H H' : Hp} {v : V} {d : PyData} (k : Same H H') (h : Rp p H v d) : Rp p H' v d := h.mono (But.of k)
theorem Rps.same {p : Addr} {H H' : Hp} {vs : List V} {ds : List PyData} (k : Same H H') (h : Rps p H vs ds) : Rps p H' vs ds := h.mono (But.of k)
theorem Rps.length {p : Addr} {H : Hp} : ∀ {vs : List V} {ds : List PyData}, Rps p H vs ds → vs.length = ds.length
  | _, _, .nil => rfl
  | _, _, .cons _ r => by rw [List.length_cons, List.length_cons, Rps.length r]
theorem Rps.at {p : Addr} {H : Hp} : ∀ {vs : List V} {ds : List PyData} {i : Nat} {v : V}, Rps p H vs ds → vs[i]? = some v → ∃ d, ds[i]? = some d ∧ Rp p H v d
  | _, _, i, v, .nil, h => by simp at h
  | _, _, 0, v, .cons a _, h => by cases h; exact ⟨_, rfl, a⟩
  | _, _, i + 1, v, .cons _ r, h => Rps.at (i := i) r (by simpa using h)
theorem Rps.get {p : Addr} {H : Hp} : ∀ {vs : List V} {ds : List PyData} {i : Nat} {d : PyData}, Rps p H vs ds → ds[i]? = some d → ∃ v, vs[i]? = some v ∧ Rp p H v d
  | _, _, i, v, .nil, h => by simp at h
  | _, _, 0, v, .cons a _, h => by cases h; exact ⟨_, rfl, a⟩
  | _, _, i + 1, v, .cons _ r, h => Rps.get (i := i) r (by simpa using h)
theorem Rps.append {p : Addr} {H : Hp} : ∀ {vs ws : List V} {ds es : List PyData}, Rps p H vs ds → Rps p H ws es → Rps p H (vs ++ ws) (ds ++ es)
  | _, _, _, _, .nil, r => r
  | _, _, _, _, .cons a q, r => .cons a (Rps.append q r)
theorem Rps.take {p : Addr} {H : Hp} : ∀ {vs : List V} {ds : List PyData} (n : Nat), Rps p H vs ds → Rps p H (vs.take n) (ds.take n)
  | _, _, 0, _ => .nil
  | _, _, n + 1, .nil => .nil
  | _, _, n + 1, .cons a q => .cons a (Rps.take n q)
theorem Rps.drop {p : Addr} {H : Hp} : ∀ {vs : List V} {ds : List PyData} (n : Nat), Rps p H vs ds → Rps p H (vs.drop n) (ds.drop n)
  | _, _, 0, r => r
  | _, _, n + 1, .nil => .nil
  | _, _, n + 1, .cons a q => Rps.drop n q
/-! ### classes of data -/
def tyD : PyData → Value
  | .none => .type "NoneType" | .bool _ => .type "bool" | .int _ => .type "int" | .str _ => .type "str" | .list _ => .type "list" | .tuple _ => .type "tuple" | .dict _ => .type "dict"
theorem Rp.ty {p : Addr} {K : PySem.W.Frag} {H : Hp} {v : V} {d : PyData} (h : Rp p H v d) : TyX K H v (tyD d) := by
  cases h with
  | non => exact .base .non
  | bl b => exact .base (.bl b)
  | int i => exact .base (.int i)
  | str x => exact .base (.str x)
  | lst h _ _ => exact .base (.lst h)
  | tup h _ _ _ => exact .base (.tup h)
def dInt : PyData → Bool
  | .int _ => true | .bool _ => true | _ => false
def dBool : PyData → Bool
  | .bool _ => true | _ => false
def dStr : PyData → Bool
  | .str _ => true | _ => false
def dTup : PyData → Bool
  | .tuple _ => true | _ => false
theorem kit_int {K : PySem.W.Frag} : ∀ d : PyData, PySem.W.kitOne K (tyD d) (.type "int") = some (dInt d)
  | .none => kit_ty (r := false) (by decide +kernel)
  | .bool _ => kit_ty (r := true) (by decide +kernel)
  | .int _ => kit_ty (r := true) (by decide +kernel)
  | .str _ => kit_ty (r := false) (by decide +kernel)
  | .list _ => kit_ty (r := false) (by decide +kernel)
  | .tuple _ => kit_ty (r := false) (by decide +kernel)
  | .dict _ => kit_ty (r := false) (by decide +kernel)
theorem kit_bool {K : PySem.W.Frag} : ∀ d : PyData, PySem.W.kitOne K (tyD d) (.type "bool") = some (dBool d)
  | .none => kit_ty (r := false) (by decide +kernel)
  | .bool _ => kit_ty (r := true) (by decide +kernel)
  | .int _ => kit_ty (r := false) (by decide +kernel)
  | .str _ => kit_ty (r := false) (by decide +kernel)
  | .list _ => kit_ty (r := false) (by decide +kernel)
  | .tuple _ => kit_ty (r := false) (by decide +kernel)
  | .dict _ => kit_ty (r := false) (by decide +kernel)
theorem kit_str {K : PySem.W.Frag} : ∀ d : PyData, PySem.W.kitOne K (tyD d) (.type "str") = some (dStr d)
  | .none => kit_ty (r := false) (by decide +kernel)
  | .bool _ => kit_ty (r := false) (by decide +kernel)
  | .int _ => kit_ty (r := false) (by decide +kernel)
  | .str _ => kit_ty (r := true) (by decide +kernel)
  | .list _ => kit_ty (r := false) (by decide +kernel)
  | .tuple _ => kit_ty (r := false) (by decide +kernel)
  | .dict _ => kit_ty (r := false) (by decide +kernel)
theorem kit_tup {K : PySem.W.Frag} : ∀ d : PyData, PySem.W.kitOne K (tyD d) (.type "tuple") = some (dTup d)
  | .none => kit_ty (r := false) (by decide +kernel)
  | .bool _ => kit_ty (r := false) (by decide +kernel)
  | .int _ => kit_ty (r := false) (by decide +kernel)
  | .str _ => kit_ty (r := false) (by decide +kernel)
  | .list _ => kit_ty (r := false) (by decide +kernel)
  | .tuple _ => kit_ty (r := true) (by decide +kernel)
  | .dict _ => kit_ty (r := false) (by decide +kernel)
end Mus
namespace Mus
open PySem L2
/-! ### members and view ids, as functions of data -/
def isInt (d : PyData) (a b : Int) : Bool := match d with | .int i => decide (a ≤ i) && decide (i ≤ b) | _ => false
def isProc (c d : PyData) : Bool := match c with | .int n => (decide (1 ≤ n) && decide (n ≤ 12)) && isInt d 0 (n - 1) | _ => false
def isMem (c : PyData) : PyData → Bool
  | .tuple [x, y] => isProc c x && isInt y 1 1000000000000
  | _ => false
def isVid (c : PyData) : PyData → Bool
  | .tuple [x, y] => isInt x 0 1000000000000 && isMem c y
  | _ => false
def procOf : PyData → Int
  | .tuple (.int i :: _) => i
  | _ => 0
def memsFrom (c : PyData) : Int → List PyData → Bool
  | _, [] => true
  | l, d :: ds => isMem c d && decide (l < procOf d) && memsFrom c (procOf d) ds
def isMems (c : PyData) : PyData → Bool
  | .tuple ds => !ds.isEmpty && memsFrom c (-1) ds
  | _ => false
theorem isProc_int {c d : PyData} (h : isProc c d = true) : ∃ n i, c = .int n ∧ d = .int i ∧ 1 ≤ n ∧ n ≤ 12 ∧ 0 ≤ i ∧ i < n := by
  cases c <;> try (simp [isProc] at h; done)
  rename_i n
  cases d <;> try (simp [isProc, isInt] at h; done)
  rename_i i
  simp [isProc, isInt] at h
  exact ⟨n, i, rfl, rfl, by omega, by omega, by omega, by omega⟩
theorem isInt_int {d : PyData} {a b : Int} (h : isInt d a b = true) : ∃ i, d = .int i ∧ a ≤ i ∧ i ≤ b := by
  cases d <;> try (simp [isInt] at h; done)
  rename_i i
  simp [isInt] at h
  exact ⟨i, rfl, h.1, h.2⟩
theorem isMem_int {c d : PyData} (h : isMem c d = true) : ∃ n i l, c = .int n ∧ d = .tuple [.int i, .int l] ∧ 1 ≤ n ∧ n ≤ 12 ∧ 0 ≤ i ∧ i < n ∧ 1 ≤ l ∧ l ≤ 1000000000000 := by
  unfold isMem at h
  split at h
  · rename_i x y
    rw [Bool.and_eq_true] at h
    obtain ⟨n, i, rfl, rfl, h1, h2, h3, h4⟩ := isProc_int h.1
    obtain ⟨l, rfl, h5, h6⟩ := isInt_int h.2
    exact ⟨n, i, l, rfl, rfl, h1, h2, h3, h4, h5, h6⟩
  · cases h
/-! ### promises: a truth told of data, nothing changed -/
def spI : Sp := fun vs H Q _ => ∃ (p : Addr) (v : V) (d : PyData) (a b : Int), vs = [v, .int a, .int b] ∧ Rp p H v d ∧ Q (.bl (isInt d a b)) H
def spB1 (f : PyData → Bool) : Sp := fun vs H Q _ => ∃ (p : Addr) (v : V) (d : PyData), vs = [v] ∧ Rp p H v d ∧ Q (.bl (f d)) H
def spB2 (f : PyData → PyData → Bool) : Sp := fun vs H Q _ => ∃ (p : Addr) (u v : V) (c d : PyData), vs = [u, v] ∧ Rp p H u c ∧ Rp p H v d ∧ Q (.bl (f c d)) H
/-- the same where new things may have come -/
def spS1 (f : PyData → Bool) : Sp := fun vs H Q _ => ∃ (p : Addr) (v : V) (d : PyData), vs = [v] ∧ Rp p H v d ∧ ∀ H', Same H H' → Q (.bl (f d)) H'
def spS2 (f : PyData → PyData → Bool) : Sp := fun vs H Q _ => ∃ (p : Addr) (u v : V) (c d : PyData), vs = [u, v] ∧ Rp p H u c ∧ Rp p H v d ∧ ∀ H', Same H H' → Q (.bl (f c d)) H'
theorem ansB {Q : VK} {H : Hp} {b c : Bool} (q : Q (.bl b) H) (e : b = c) : Q (.bl c) H := e ▸ q
theorem iB {A B : Prop} {b : Bool} (h1 : b = true → A) (h2 : b = false → B) : if b = true then A else B := by
  cases b
  · exact iteF (h2 rfl)
  · exact iteT (h1 rfl)
theorem vint_ne {a b : Int} (h : a ≠ b) : ¬ V.int a = V.int b := fun e => h (V.int.inj e)
theorem drop_cons {α : Type} {xs : List α} {i : Nat} {x : α} (h : xs[i]? = some x) : xs.drop i = x :: xs.drop (i + 1) := by
  obtain ⟨hi, e⟩ := List.getElem?_eq_some_iff.mp h
  rw [List.drop_eq_getElem_cons hi, e]
section
variable {P : Program} {w : World} {K : PySem.W.Frag} {mg : Str → Option Value} {base : Heap}
theorem no_call {CX : CXT} {k : Nat} {f : Addr} {fd : FuncData} {ps : List Str} {sp : Sp} (no : ∀ vs H Q E, ¬ sp vs H Q E) : FnOk P w K mg base CX k f fd ps sp :=
  ⟨fun vs H Q E h => absurd h (no vs H Q E), fun A outer s H args us vs Q E _ _ _ _ h => absurd h (no vs H Q E)⟩
end
end Mus

set_option maxRecDepth 100000
set_option maxHeartbeats 4000000
/-! The bag of a law's draws, new things beside it, displays of data, tuples cut and joined. -/
namespace Mus
open PySem L2
def Bag (p : Addr) (c : Int) (H : Hp) : Prop := ∃ x y : Int, H p = some (.lst [.int x, .int y, .int c])
theorem Bag.seqT {K : PySem.W.Frag} {p : Addr} {c : Int} {H H' : Hp} (g : Bag p c H) (b : But p H H') {a : Addr} {xs : List V} (h : SqT K H a xs) : SqT K H' a xs := by
  obtain ⟨x, y, hp⟩ := g
  exact b.seqT hp h
theorem Bag.ne {p D : Addr} {c : Int} {H : Hp} (g : Bag p c H) (h : H D = none) : p ≠ D := by
  obtain ⟨x, y, hp⟩ := g
  exact ne_of_none hp h
theorem Bag.upd {p D : Addr} {c : Int} {H : Hp} {o : HO} (g : Bag p c H) (h : p ≠ D) : Bag p c (upd H D o) := by
  obtain ⟨x, y, hp⟩ := g
  exact ⟨x, y, by rw [upd_ne h]; exact hp⟩
theorem Bag.new {p D : Addr} {c : Int} {H : Hp} {o : HO} (g : Bag p c H) (h : H D = none) : Bag p c (L2.upd H D o) := g.upd (g.ne h)
theorem Bag.same {p : Addr} {c : Int} {H H' : Hp} (g : Bag p c H) (s : Same H H') : Bag p c H' := by
  obtain ⟨x, y, hp⟩ := g
  exact ⟨x, y, s _ _ hp⟩
/-- a new thing -/
theorem But.new {p D : Addr} {H H' : Hp} {o : HO} (b : But p H H') (h : H' D = none) : But p H (L2.upd H' D o) := fun a u e n => by
  have z := b a u e n
  rw [upd_ne (ne_of_none z h)]; exact z
/-- a change at what was not there at first -/
theorem But.later {p D : Addr} {H H' : Hp} {o : HO} (b : But p H H') (h : H D = none) : But p H (L2.upd H' D o) := fun a u e n => by
  rw [upd_ne (ne_of_none e h)]; exact b a u e n
theorem But.free {p D : Addr} {H H' : Hp} (b : But p H H') (h : H' D = none) (n : D ≠ p) : H D = none := by
  cases e : H D with
  | none => rfl
  | some o =>
    have z := b D o e n
    rw [h] at z; cases z
/-! ### displays -/
/-- the expression gives the int i, and that is all -/
def DI (te : TE) (σ : St) (i : Int) : Prop := ∀ (H : Hp) (Q : VK), Q (.int i) H → te σ H Q
/-- the expression gives the data d, new things beside what was -/
def DE (p : Addr) (te : TE) (σ : St) (d : PyData) : Prop := ∀ (c : Int) (H : Hp) (Q : VK), Bag p c H → (∀ v H', Same H H' → Bag p c H' → Rp p H' v d → Q v H') → te σ H Q
def DEs (p : Addr) (ta : TA) (σ : St) (ds : List PyData) : Prop := ∀ (c : Int) (H : Hp) (Q : List V → Hp → Prop), Bag p c H → (∀ vs H', Same H H' → Bag p c H' → Rps p H' vs ds → Q vs H') → ta σ H Q
section
variable {p : Addr} {σ : St} {te ta1 tb1 : TE} {ta : TA} {i j : Int} {d : PyData} {ds : List PyData}
theorem Same.rfl' (H : Hp) : Same H H := fun _ _ h => h
theorem di_c : DI (tC (.int i)) σ i := fun _ _ q => q
theorem di_v {n : Nat} (h : σ[n]? = some (some (.int i))) : DI (tVar n) σ i := fun _ _ q => ⟨_, h, q⟩
theorem di_op {f : Int → Int → Int} (h1 : DI ta1 σ i) (h2 : DI tb1 σ j) : DI (tOp (rI0 fun i j => .int (f i j)) ta1 tb1) σ (f i j) := fun H Q q => h1 H _ (h2 H _ ⟨i, j, rfl, rfl, q⟩)
theorem di_opC {C : Int → Int → Prop} {f : Int → Int → Int} (h1 : DI ta1 σ i) (h2 : DI tb1 σ j) (hc : C i j) : DI (tOp (rI C fun i j => .int (f i j)) ta1 tb1) σ (f i j) := fun H Q q => h1 H _ (h2 H _ ⟨i, j, rfl, rfl, hc, q⟩)
theorem di_neg (h1 : DI te σ i) : DI (tUn (rU fun i => .int (-i)) te) σ (-i) := fun H Q q => h1 H _ ⟨i, rfl, q⟩
theorem de_i (h : DI te σ i) : DE p te σ (.int i) := fun c H Q g q => h H Q (q _ H (Same.rfl' H) g (.int i))
theorem de_bl {b : Bool} : DE p (tC (.bl b)) σ (.bool b) := fun c H Q g q => q _ H (Same.rfl' H) g (.bl b)
theorem de_str {z : Str} : DE p (tC (.str z)) σ (.str z) := fun c H Q g q => q _ H (Same.rfl' H) g (.str z)
theorem de_non : DE p (tC .non) σ .none := fun c H Q g q => q _ H (Same.rfl' H) g .non
theorem des_nil : DEs p tNil σ [] := fun c H Q g q => q [] H (Same.rfl' H) g .nil
theorem des_cons (h1 : DE p te σ d) (h2 : DEs p ta σ ds) : DEs p (tCons te ta) σ (d :: ds) := fun c H Q g q =>
  h1 c H _ g fun v H1 s1 g1 r1 => h2 c H1 _ g1 fun vs H2 s2 g2 r2 => q _ H2 (s1.trans s2) g2 (.cons (r1.same s2) r2)
theorem de_tup (h : DEs p ta σ ds) (hl : ds.length ≤ 1000) : DE p (tTup ta) σ (.tuple ds) := fun c H Q g q =>
  h c H _ g fun vs H1 s1 g1 r1 => ⟨by have := r1.length; have := sl; omega, fun a na => q _ _ (s1.trans (same_new na _)) (g1.new na) (.tup upd_same (g1.ne na).symm (by have := r1.length; omega) (r1.same (same_new na _)))⟩
theorem de_lst (h : DEs p ta σ ds) (hl : ds.length ≤ 1000) : DE p (tLst ta) σ (.list ds) := fun c H Q g q =>
  h c H _ g fun vs H1 s1 g1 r1 => ⟨by have := r1.length; have := sl; omega, fun a na => q _ _ (s1.trans (same_new na _)) (g1.new na) (.lst upd_same (g1.ne na).symm (r1.same (same_new na _)))⟩
theorem de_lstN (n : Nat) (R : PyData → Prop) {c : Int} {H : Hp} {Q : VK} (h : ∃ ds, DEs p ta σ ds ∧ ds.length = n ∧ ∀ d ∈ ds, R d) (hn : n ≤ 1000) (g : Bag p c H)
    (q : ∀ ds v H', ds.length = n → (∀ d ∈ ds, R d) → Same H H' → Bag p c H' → Rp p H' v (.list ds) → Q v H') : tLst ta σ H Q := by
  obtain ⟨ds, h1, h2, h3⟩ := h
  exact de_lst h1 (by omega) c H Q g fun v H' => q ds v H' h2 h3
theorem de_cat {es : List PyData} (h1 : DE p ta1 σ (.list ds)) (h2 : DE p tb1 σ (.list es)) (hl : ds.length + es.length ≤ 1000) : DE p (tOp rCat ta1 tb1) σ (.list (ds ++ es)) := fun c H Q g q =>
  h1 c H _ g fun v H1 s1 g1 r1 => h2 c H1 _ g1 fun u H2 s2 g2 r2 => by
    obtain _ | _ | _ | _ | @⟨a, xs, _, ha, na, hr⟩ | _ := r1.same s2
    obtain _ | _ | _ | _ | @⟨b, ys, _, hb, nb, hr2⟩ | _ := r2
    refine ⟨a, b, xs, ys, rfl, rfl, ha, hb, ?_, fun t nt => q _ _ (s1.trans (s2.trans (same_new nt _))) (g2.new nt) (.lst upd_same (g2.ne nt).symm ((hr.append hr2).same (same_new nt _)))⟩
    have := hr.length; have := hr2.length; have := sl; omega
theorem de_varD {n : Nat} {v : V} (h : σ[n]? = some (some v)) (hd : ∀ H, Rp p H v d) : DE p (tVar n) σ d := fun c H Q g q => ⟨_, h, q _ H (Same.rfl' H) g (hd H)⟩
end
/-! ### tuples cut and joined -/
def cutD (ds : List PyData) (lo hi : Option Int) : List PyData := (ds.drop (HT.sIx ds.length 0 lo)).take (HT.sIx ds.length ds.length hi - HT.sIx ds.length 0 lo)
theorem Rps.cut {p : Addr} {H : Hp} {vs : List V} {ds : List PyData} (r : Rps p H vs ds) (lo hi : Option Int) : Rps p H (cutV vs lo hi) (cutD ds lo hi) := by
  unfold cutV cutD
  rw [r.length]
  exact (r.drop _).take _
theorem cutD_len (ds : List PyData) (lo hi : Option Int) : (cutD ds lo hi).length ≤ ds.length := by
  unfold cutD
  rw [List.length_take, List.length_drop]; omega
theorem cutD_mem {ds : List PyData} {lo hi : Option Int} {d : PyData} (h : d ∈ cutD ds lo hi) : d ∈ ds := List.mem_of_mem_drop (List.mem_of_mem_take h)
theorem cut_whole {xs : List V} {lo hi : Option Int} (h : HT.sIx xs.length 0 lo = 0 ∧ HT.sIx xs.length xs.length hi = xs.length) : cutV xs lo hi = xs := by
  unfold cutV
  rw [h.1, h.2, List.drop_zero, Nat.sub_zero, List.take_length]
section
variable {K : PySem.W.Frag} {p : Addr} {c : Int} {H : Hp} {Q : VK}
theorem rd_cut {a : Addr} {ds : List PyData} {lo hi : Option Int} (r : Rp p H (.ref a) (.tuple ds)) (g : Bag p c H)
    (q : ∀ b H', Same H H' → Bag p c H' → Rp p H' (.ref b) (.tuple (cutD ds lo hi)) → Q (.ref b) H') : rSlA K (.ref a) lo hi H Q := by
  obtain _ | _ | _ | _ | _ | @⟨_, xs, _, ha, na, hw, hr⟩ := r
  refine ⟨a, xs, rfl, SqT.of ha, fun w => ?_, fun w b nb => ?_⟩
  · refine q _ _ (Same.rfl' H) g (.tup ha na hw ?_)
    have z := hr.cut lo hi
    rw [cut_whole w] at z
    exact z
  · exact q _ _ (same_new nb _) (g.new nb) (.tup upd_same (g.ne nb).symm (Nat.le_trans (cutV_length _ _ _) hw) ((hr.cut lo hi).same (same_new nb _)))
theorem rd_cat {a b : Addr} {ds es : List PyData} (r1 : Rp p H (.ref a) (.tuple ds)) (r2 : Rp p H (.ref b) (.tuple es)) (g : Bag p c H) (hl : ds.length + es.length ≤ 100000)
    (q : ∀ t H', Same H H' → Bag p c H' → Rp p H' (.ref t) (.tuple (ds ++ es)) → Q (.ref t) H') : rCatA K (.ref a) (.ref b) H Q := by
  have k2 := r2
  have k1 := r1
  obtain _ | _ | _ | _ | _ | @⟨_, xs, _, ha, na, hw, hr⟩ := r1
  obtain _ | _ | _ | _ | _ | @⟨_, ys, _, hb, nb, hw2, hr2⟩ := r2
  have l1 := hr.length
  have l2 := hr2.length
  have hs := sl
  refine ⟨a, b, xs, ys, rfl, rfl, SqT.of ha, SqT.of hb, by omega, fun e => ?_, fun _ e => ?_, fun _ _ t nt => ?_⟩
  · subst e
    cases ds with
    | nil => exact q _ _ (Same.rfl' H) g k2
    | cons _ _ => cases l1
  · subst e
    cases es with
    | nil => rw [List.append_nil] at q; exact q _ _ (Same.rfl' H) g k1
    | cons _ _ => cases l2
  · exact q _ _ (same_new nt _) (g.new nt) (.tup upd_same (g.ne nt).symm (by rw [List.length_append]; omega) ((hr.append hr2).same (same_new nt _)))
end
/-! ### how deep and wide, what its texts are -/
def fit : Nat → PyData → Prop
  | 0, .tuple _ => False
  | n + 1, .tuple ds => ds.length ≤ 3000 ∧ ∀ d ∈ ds, fit n d
  | _, _ => True
inductive Her (P : Str → Prop) : PyData → Prop
  | tup {ds : List PyData} : (∀ d ∈ ds, Her P d) → Her P (.tuple ds)
  | str {z : Str} : P z → Her P (.str z)
  | non : Her P .none
  | bl (b : Bool) : Her P (.bool b)
  | int (i : Int) : Her P (.int i)
  | lst (ds : List PyData) : Her P (.list ds)
theorem Her.mem {P : Str → Prop} {ds : List PyData} (h : Her P (.tuple ds)) : ∀ d ∈ ds, Her P d := by
  cases h with
  | tup h => exact h
theorem Her.cut {P : Str → Prop} {ds : List PyData} (h : Her P (.tuple ds)) (lo hi : Option Int) : Her P (.tuple (cutD ds lo hi)) := .tup fun d m => h.mem d (cutD_mem m)
theorem Her.app {P : Str → Prop} {ds es : List PyData} (h : Her P (.tuple ds)) (k : Her P (.tuple es)) : Her P (.tuple (ds ++ es)) := .tup fun d m => by
  rcases List.mem_append.mp m with m | m
  · exact h.mem d m
  · exact k.mem d m
theorem Her.one {P : Str → Prop} {d : PyData} (h : Her P d) : Her P (.tuple [d]) := .tup fun e m => by rw [List.mem_singleton.mp m]; exact h
/-- one level less, if there is one -/
def spv (sp : Nat → Sp) (n : Nat) : Sp := fun vs H Q E => ∃ m, n = m + 1 ∧ sp m vs H Q E
/-- a thing spoilt: some data, its texts from the two -/
def sp_spoilt (n : Nat) : Sp := fun vs H Q _ => ∃ (p : Addr) (c : Int) (v o : V) (d e : PyData), vs = [.ref p, v, o] ∧ Bag p c H ∧ Rp p H v d ∧ Rp p H o e ∧ fit n d ∧
  ∀ v' d' H', Rp p H' v' d' → (∀ P, Her P d → Her P e → Her P d') → But p H H' → Bag p c H' → Q v' H'
def sp_bag (K : PySem.W.Frag) : Sp := fun vs H Q _ => ∃ (a : Addr) (ns : List Int) (k : Nat), vs = [.ref a, .int k] ∧ SqL K H a (ns.map V.int) ∧ ∀ p H', H p = none → Same H H' → Bag p k H' → Q (.ref p) H'
def sp_draw : Sp := fun vs H Q _ => ∃ (p : Addr) (c m : Int), vs = [.ref p, .int m] ∧ Bag p c H ∧ 0 < m ∧ m.natAbs < 2 ^ 100 ∧ ∀ r H', 0 ≤ r → r < m → But p H H' → Bag p c H' → Q (.int r) H'
/-- an int at least 1 and at most 10 ** 12 -/
def sp_pos : Sp := fun vs H Q _ => ∃ (p : Addr) (c : Int), vs = [.ref p] ∧ Bag p c H ∧ ∀ r H', 1 ≤ r → r ≤ 1000000000000 → But p H H' → Bag p c H' → Q (.int r) H'
end Mus
namespace Mus
open PySem L2
/-- no list in it -/
inductive NoL : PyData → Prop
  | tup {ds : List PyData} : (∀ d ∈ ds, NoL d) → NoL (.tuple ds)
  | str (z : Str) : NoL (.str z)
  | non : NoL .none
  | bl (b : Bool) : NoL (.bool b)
  | int (i : Int) : NoL (.int i)
theorem NoL.mem {ds : List PyData} (h : NoL (.tuple ds)) : ∀ d ∈ ds, NoL d := by
  cases h with
  | tup h => exact h
theorem NoL.two {a b : PyData} (h : NoL a) (k : NoL b) : NoL (.tuple [a, b]) := .tup fun d m => by
  rcases List.mem_cons.mp m with rfl | m
  · exact h
  · rw [List.mem_singleton.mp m]; exact k
theorem NoL.three {a b c : PyData} (h : NoL a) (k : NoL b) (l : NoL c) : NoL (.tuple [a, b, c]) := .tup fun d m => by
  rcases List.mem_cons.mp m with rfl | m
  · exact h
  · rcases List.mem_cons.mp m with rfl | m
    · exact k
    · rw [List.mem_singleton.mp m]; exact l
mutual
theorem Rp.upL {p D : Addr} {H H' : Hp} {ys : List V} (hD : H D = some (.lst ys)) (k : ∀ b o, H b = some o → b ≠ p → b ≠ D → H' b = some o) : ∀ {v : V} {d : PyData}, Rp p H v d → NoL d → Rp p H' v d
  | _, _, .non, _ => .non
  | _, _, .bl b, _ => .bl b
  | _, _, .int i, _ => .int i
  | _, _, .str x, _ => .str x
  | _, _, .lst h n r, z => nomatch z
  | _, _, .tup h n l r, z => .tup (k _ _ h n (ne_of h hD (by intro z; cases z))) n l (Rps.upL hD k r z.mem)
theorem Rps.upL {p D : Addr} {H H' : Hp} {ys : List V} (hD : H D = some (.lst ys)) (k : ∀ b o, H b = some o → b ≠ p → b ≠ D → H' b = some o) : ∀ {vs : List V} {ds : List PyData}, Rps p H vs ds → (∀ d ∈ ds, NoL d) → Rps p H' vs ds
  | _, _, .nil, _ => .nil
  | _, _, .cons a b, z => .cons (Rp.upL hD k a (z _ List.mem_cons_self)) (Rps.upL hD k b fun d m => z d (List.mem_cons_of_mem _ m))
end
/-- a change at the list at D -/
theorem Rps.updL {p D : Addr} {H : Hp} {ys : List V} {o : HO} (hD : H D = some (.lst ys)) {vs : List V} {ds : List PyData} (r : Rps p H vs ds) (z : ∀ d ∈ ds, NoL d) : Rps p (upd H D o) vs ds :=
  r.upL hD (fun b o h _ n => by rw [upd_ne n]; exact h) z
theorem Rp.updL {p D : Addr} {H : Hp} {ys : List V} {o : HO} (hD : H D = some (.lst ys)) {v : V} {d : PyData} (r : Rp p H v d) (z : NoL d) : Rp p (upd H D o) v d :=
  r.upL hD (fun b o h _ n => by rw [upd_ne n]; exact h) z
end Mus

set_option maxRecDepth 100000
set_option maxHeartbeats 4000000
/-! Dicts whose keys are nested tuples: {}, d[k], d[k] = v, d.get(k, x), k in d. -/
namespace Mus
open PySem PySem.Spec PyProof.Rows L2
/-! ### keys -/
mutual
inductive NK (H : Hp) : V → NestedKey → Prop
  | non : NK H .non .none
  | int (i : Int) : NK H (.int i) (.num i)
  | str (x : Str) : NK H (.str x) (.text x)
  | tup {a : Addr} {xs : List V} {ks : List NestedKey} : H a = some (.tup xs) → NKs H xs ks → NK H (.ref a) (.tup ks)
inductive NKs (H : Hp) : List V → List NestedKey → Prop
  | nil : NKs H [] []
  | cons {v : V} {vs : List V} {k : NestedKey} {ks : List NestedKey} : NK H v k → NKs H vs ks → NKs H (v :: vs) (k :: ks)
end
mutual
theorem NK.mono {H H' : Hp} (t : ∀ b xs, H b = some (.tup xs) → H' b = some (.tup xs)) : ∀ {v : V} {k : NestedKey}, NK H v k → NK H' v k
  | _, _, .non => .non
  | _, _, .int i => .int i
  | _, _, .str x => .str x
  | _, _, .tup h r => .tup (t _ _ h) (r.mono t)
theorem NKs.mono {H H' : Hp} (t : ∀ b xs, H b = some (.tup xs) → H' b = some (.tup xs)) : ∀ {vs : List V} {ks : List NestedKey}, NKs H vs ks → NKs H' vs ks
  | _, _, .nil => .nil
  | _, _, .cons a b => .cons (a.mono t) (b.mono t)
end
mutual
theorem NK.is {P : Program} {w : World} {H : Hp} {h : Heap} (ok : HOk P w H h) : ∀ {v : V} {k : NestedKey} {u : Value}, NK H v k → RelV v u → NestedIs h k u
  | _, _, _, .non, r => by cases (show _ = Value.none from r); exact .none
  | _, _, _, .int i, r => by obtain ⟨t, rfl⟩ := (show ∃ t, _ = Value.int i t from r); exact .int i t
  | _, _, _, .str x, r => by obtain ⟨t, rfl⟩ := (show ∃ t, _ = Value.str x t from r); exact .text x t
  | _, _, _, .tup (a := a) (xs := xs) e q, r => by
    cases (show _ = Value.ref a from r)
    obtain ⟨_, its, rv, o, h1, h2, n, h3⟩ := (show ObjOk P w H h a (.tup xs) from ok a _ e)
    exact .tup h1 h2 h3 (by simpa using NKs.all ok q rv)
theorem NKs.all {P : Program} {w : World} {H : Hp} {h : Heap} (ok : HOk P w H h) : ∀ {vs : List V} {ks : List NestedKey} {us : List Value}, NKs H vs ks → Vals vs us → NestedAll h ks us
  | _, _, _, .nil, r => by cases r; exact .nil
  | _, _, _, .cons a b, r => by
    cases r with
    | cons r1 r2 => exact .cons (a.is ok r1) (b.all ok r2)
end
/-! ### the dict -/
abbrev NKV := List (NestedKey × Addr × V)
abbrev KN : NKV → List (NestedKey × Addr × Value) → Prop := Paired fun p q => p.1 = q.1 ∧ p.2.1 = q.2.1 ∧ RelV p.2.2 q.2.2
def ndE (w : World) (x : NestedKey × Addr × Value) : DictEntry := ⟨x.1.hash w, .ref x.2.1, x.2.2⟩
def ndΦ (w : World) (d : Addr) (ks : NKV) : Heap → Prop := fun h => ∃ xs o es ep, KN ks xs ∧ h.get? d = some o ∧ o.ExactDict ∧ o.data = .dict es ep ∧ es.toList = xs.map (ndE w)
def ndO (w : World) (d : Addr) (ks : NKV) : HO := .ext (ndΦ w d ks)
structure Nd (w : World) (H : Hp) (d : Addr) (ks : NKV) : Prop where
  ob : H d = some (ndO w d ks)
  keys : ∀ x ∈ ks, NK H (.ref x.2.1) x.1 ∧ x.1.depth ≤ 8
  one : (ks.map (·.1)).Nodup
  sz : ks.length ≤ sizeLine
  sm : (d == sysModules) = false
def valN (ks : NKV) (k : NestedKey) : Option V := (ks.find? fun x => decide (x.1 = k)).map (·.2.2)
def putN (ks : NKV) (k : NestedKey) (b : Addr) (v : V) : NKV := if (valN ks k).isSome then ks.map (fun x => if x.1 = k then (x.1, x.2.1, v) else x) else ks ++ [(k, b, v)]
theorem KN.val {ks : NKV} {xs : List (NestedKey × Addr × Value)} (r : KN ks xs) (k : NestedKey) : RelO (valN ks k) ((atKey xs k).map (·.2)) := by
  unfold valN atKey
  induction r with
  | nil => exact trivial
  | @cons p q ps qs h t ih =>
    rw [List.find?_cons, List.find?_cons]
    by_cases e : p.1 = k
    · have e2 : q.1 = k := h.1 ▸ e
      simp only [e, e2, decide_true]
      exact h.2.2
    · have e2 : ¬ q.1 = k := h.1 ▸ e
      simp only [e, e2, decide_false]
      exact ih
theorem KN.fsts {ks : NKV} {xs : List (NestedKey × Addr × Value)} (r : KN ks xs) : ks.map (·.1) = xs.map (·.1) := by
  induction r with
  | nil => rfl
  | cons h t ih => rw [List.map_cons, List.map_cons, ih, h.1]
theorem KN.repl {ks : NKV} {xs : List (NestedKey × Addr × Value)} (r : KN ks xs) (k : NestedKey) {v : V} {u : Value} (rv : RelV v u) : KN (ks.map fun x => if x.1 = k then (x.1, x.2.1, v) else x) (xs.map (putAt k u)) := by
  induction r with
  | nil => exact .nil
  | @cons p q ps qs h t ih =>
    refine .cons ?_ ih
    unfold putAt
    dsimp only
    by_cases e : p.1 = k
    · have e2 : q.1 = k := h.1 ▸ e
      rw [if_pos e, if_pos e2]
      exact ⟨h.1, h.2.1, rv⟩
    · have e2 : ¬ q.1 = k := h.1 ▸ e
      rw [if_neg e, if_neg e2]
      exact h
theorem KN.put {ks : NKV} {xs : List (NestedKey × Addr × Value)} (r : KN ks xs) (k : NestedKey) (b : Addr) {v : V} {u : Value} (rv : RelV v u) : KN (putN ks k b v) (storedH xs k b u) := by
  have e : (valN ks k).isSome = (atKey xs k).isSome := by rw [(r.val k).isSome_eq, Option.isSome_map]
  unfold putN storedH
  rw [e]
  by_cases q : (atKey xs k).isSome = true
  · rw [if_pos q, if_pos q]; exact r.repl k rv
  · rw [if_neg q, if_neg q]; exact Paired.snoc r ⟨rfl, rfl, rv⟩
theorem KN.mem {ks : NKV} {xs : List (NestedKey × Addr × Value)} (r : KN ks xs) {F : NestedKey → Addr → Prop} (h : ∀ x ∈ ks, F x.1 x.2.1) : ∀ x ∈ xs, F x.1 x.2.1 := by
  induction r with
  | nil => intro x hx; exact nomatch hx
  | @cons p q ps qs hq t ih =>
    intro x hx
    rcases List.mem_cons.mp hx with e | hx
    · subst e
      rw [← hq.1, ← hq.2.1]
      exact h p List.mem_cons_self
    · exact ih (fun y hy => h y (List.mem_cons_of_mem _ hy)) x hx
theorem putN_len (ks : NKV) (k : NestedKey) (b : Addr) (v : V) : (putN ks k b v).length ≤ ks.length + 1 := by
  unfold putN
  split
  · rw [List.length_map]; omega
  · rw [List.length_append]; exact Nat.le_refl _
theorem putN_keys {ks : NKV} {k : NestedKey} {b : Addr} {v : V} {F : NestedKey → Addr → Prop} (h : ∀ x ∈ ks, F x.1 x.2.1) (hk : F k b) : ∀ x ∈ putN ks k b v, F x.1 x.2.1 := by
  intro x hx
  unfold putN at hx
  split at hx
  · obtain ⟨y, hy, rfl⟩ := List.mem_map.mp hx
    split
    · exact h y hy
    · exact h y hy
  · rcases List.mem_append.mp hx with hx | hx
    · exact h x hx
    · rw [List.mem_singleton.mp hx]; exact hk
theorem valN_none {ks : NKV} {k : NestedKey} (h : valN ks k = none) : k ∉ ks.map (·.1) := fun m => by
  obtain ⟨x, hx, e⟩ := List.mem_map.mp m
  unfold valN at h
  rw [Option.map_eq_none_iff, List.find?_eq_none] at h
  exact h x hx (by simpa using e)
theorem putN_one {ks : NKV} {k : NestedKey} {b : Addr} {v : V} (h : (ks.map (·.1)).Nodup) : ((putN ks k b v).map (·.1)).Nodup := by
  unfold putN
  split
  · have e : (ks.map fun x => if x.1 = k then (x.1, x.2.1, v) else x).map (·.1) = ks.map (·.1) := by
      rw [List.map_map]
      refine List.map_congr_left fun x _ => ?_
      show (if x.1 = k then (x.1, x.2.1, v) else x).1 = x.1
      split <;> rfl
    rw [e]; exact h
  · rename_i q
    have q : valN ks k = none := by cases e : valN ks k with | none => rfl | some _ => rw [e] at q; exact absurd rfl q
    rw [List.map_append, List.nodup_append]
    refine ⟨h, by simp, fun x hx y hy e => ?_⟩
    rw [List.map_singleton, List.mem_singleton] at hy
    have hy : y = k := hy
    exact valN_none q (by rw [← hy, ← e]; exact hx)
theorem Nd.mono {w : World} {H H' : Hp} {d : Addr} {ks : NKV} (n : Nd w H d ks) (ho : H' d = some (ndO w d ks)) (t : ∀ b xs, H b = some (.tup xs) → H' b = some (.tup xs)) : Nd w H' d ks :=
  ⟨ho, fun x hx => ⟨(n.keys x hx).1.mono t, (n.keys x hx).2⟩, n.one, n.sz, n.sm⟩
theorem Nd.same {w : World} {H H' : Hp} {d : Addr} {ks : NKV} (n : Nd w H d ks) (s : Same H H') : Nd w H' d ks := n.mono (s _ _ n.ob) fun _ _ h => s _ _ h
section
variable {X : Cx} {pins : List (Addr × Obj)} {σ : L2.St} {H : Hp} {s : Shared} {a b : Addr} {v : V} {u r : Value} {A : Around} {E : Value → Shared → Prop} {ks : NKV} {k : NestedKey}
theorem Nd.heap (I : Inv X pins σ H s) (n : Nd X.w H a ks) : ∃ xs, KN ks xs ∧ s.heap.DictOfH (nestedKind X.prog X.w) a xs := by
  obtain ⟨⟨xs, o, es, ep, rel, h1, h2, h3, h4⟩, _⟩ := (show ObjOk X.prog X.w H s.heap a (ndO X.w a ks) from I.hok a _ n.ob)
  exact ⟨xs, rel, o, es, ep, h1, h2, h3, h4, rel.mem (F := fun k b => (nestedKind X.prog X.w).is s.heap k b) fun x hx => ⟨(n.keys x hx).1.is I.hok rfl, (n.keys x hx).2⟩, rel.fsts ▸ n.one⟩
theorem nd_room (hu : A.units + 64 < cLine) : (nestedKind X.prog X.w).room A.in1 := by
  show A.in1.units + 8 < cLine
  have : A.in1.units = A.units + 1 := rfl
  omega
/-- what the dict at a holds at the key at b -/
def NGet (w : World) (H : Hp) (a b : Addr) (o : Option V) : Prop := ∃ ks k, Nd w H a ks ∧ NK H (.ref b) k ∧ k.depth ≤ 8 ∧ o = valN ks k
theorem n_getItem {Q : Value → Shared → Prop} (hu : A.units + 64 < cLine) (I : Inv X pins σ H s) (g : NGet X.w H a b (some v)) (h : ∀ w' s', Inv X pins σ H s' → RelV v w' → Q w' s') :
    wpAny (model X.prog X.w) A (getItem (.ref a) (.ref b)) Q E s := by
  obtain ⟨ks, k, n, nk, dk, l⟩ := g
  obtain ⟨xs, rel, dd⟩ := n.heap I
  obtain ⟨w', hw, rw'⟩ := RelO.some_of (v := v) (o := (atKey xs k).map (·.2)) (by rw [l]; exact rel.val k)
  obtain ⟨p, hp, hp2⟩ := Option.map_eq_some_iff.mp hw
  refine wpAny_getItem_heap (knd := nestedKind X.prog X.w) (nd_room hu) ⟨nk.is I.hok rfl, dk⟩ dd hp ?_
  rw [hp2]
  exact h w' _ (I.tok _) rw'
theorem n_in {o : Option V} {Q : Value → Shared → Prop} (hu : A.units + 64 < cLine) (I : Inv X pins σ H s) (g : NGet X.w H a b o) (h : ∀ s', Inv X pins σ H s' → Q (.bool o.isSome) s') :
    wpAny (model X.prog X.w) A (compareOp .In (.ref b) (.ref a)) Q E s := by
  obtain ⟨ks, k, n, nk, dk, l⟩ := g
  obtain ⟨xs, rel, dd⟩ := n.heap I
  refine wpAny_in_heap (knd := nestedKind X.prog X.w) (nd_room hu) ⟨nk.is I.hok rfl, dk⟩ n.sm dd ?_
  have q := (rel.val k).isSome_eq
  rw [Option.isSome_map] at q
  rw [← q, ← l]
  exact h _ (I.tok _)
theorem n_notIn {o : Option V} {Q : Value → Shared → Prop} (hu : A.units + 64 < cLine) (I : Inv X pins σ H s) (g : NGet X.w H a b o) (h : ∀ s', Inv X pins σ H s' → Q (.bool (!o.isSome)) s') :
    wpAny (model X.prog X.w) A (compareOp .NotIn (.ref b) (.ref a)) Q E s := by
  obtain ⟨ks, k, n, nk, dk, l⟩ := g
  obtain ⟨xs, rel, dd⟩ := n.heap I
  refine wpAny_notIn_heap (knd := nestedKind X.prog X.w) (nd_room hu) ⟨nk.is I.hok rfl, dk⟩ n.sm dd ?_
  have q := (rel.val k).isSome_eq
  rw [Option.isSome_map] at q
  rw [← q, ← l]
  exact h _ (I.tok _)
theorem n_get2 {o : Option V} {y : V} {Q : Value → Shared → Prop} (hu : A.units + 64 < cLine) (I : Inv X pins σ H s) (g : NGet X.w H a b o) (rd : RelV y r) (h : ∀ w' s', Inv X pins σ H s' → RelV (o.getD y) w' → Q w' s') :
    wpAny (model X.prog X.w) A (call (.builtin "dict.get") [.ref a, .ref b, r]) Q E s := by
  obtain ⟨ks, k, n, nk, dk, l⟩ := g
  obtain ⟨xs, rel, dd⟩ := n.heap I
  refine call_meetsIn PySem.F.slot_dict_get dd.typeIs PySem.F.entry_dict_get (PySem.F.args_dict_get_3 _ _ _) (meetsH_dict_get_default (nestedKind X.prog X.w) a b n.sm r) ⟨nd_room hu, k, xs, ⟨nk.is I.hok rfl, dk⟩, dd, h _ _ (I.tok _) ?_⟩
  rw [l]
  exact (rel.val k).getD rd
/-- the heap behind d[k] = v -/
theorem n_setItem {Q : Unit → Shared → Prop} (hu : A.units + 64 < cLine) (I : Inv X pins σ H s) (n : Nd X.w H a ks) (nk : NK H (.ref b) k) (dk : k.depth ≤ 8) (rv : RelV v r) (h : ∀ s', Inv X pins σ (upd H a (ndO X.w a (putN ks k b v))) s' → Q () s') :
    wpAny (model X.prog X.w) A (setItem (.ref a) (.ref b) r) Q E s := by
  obtain ⟨xs, rel, dd⟩ := n.heap I
  have hz : xs.length ≤ sizeLine := by rw [← Paired.length rel]; exact n.sz
  refine wpAny_setItem_heap (knd := nestedKind X.prog X.w) (hsz := hz) (nd_room hu) ⟨nk.is I.hok rfl, dk⟩ dd fun h' dd' hs => h _ ?_
  obtain ⟨q, es, ep, hq, h2, h3, h4, _, h5⟩ := dd'
  refine d_write I (by rw [n.ob]; exact True.intro) hs ⟨q, hq⟩ ⟨⟨_, q, es, ep, rel.put k b rv, hq, h2, h3, h4⟩, ⟨q, hq⟩, fun h1 h2 p st => ?_⟩
  obtain ⟨ys, o, es', ep', p1, p2, p3⟩ := p
  exact ⟨ys, o, es', ep', p1, st _ p2, p3⟩
theorem Nd.put {w : World} (n : Nd w H a ks) (nk : NK H (.ref b) k) (dk : k.depth ≤ 8) (hl : ks.length < sizeLine) : Nd w (upd H a (ndO w a (putN ks k b v))) a (putN ks k b v) := by
  have t : ∀ c xs, H c = some (.tup xs) → (upd H a (ndO w a (putN ks k b v))) c = some (.tup xs) := fun c xs hc => by
    rw [upd_ne (ne_of hc n.ob (by intro z; cases z))]; exact hc
  exact ⟨upd_same, putN_keys (F := fun k b => NK _ (.ref b) k ∧ k.depth ≤ 8) (fun x hx => ⟨(n.keys x hx).1.mono t, (n.keys x hx).2⟩) ⟨nk.mono t, dk⟩, putN_one n.one, Nat.le_trans (putN_len _ _ _ _) hl, n.sm⟩
end
/-! ### readings and rules -/
def tNNew (w : World) : TE := fun _ H Q => ∀ d, H d = none → (d == sysModules) = false → Q (.ref d) (upd H d (ndO w d []))
def tNGet (w : World) (td ty : TE) : TE := fun σ H Q => td σ H fun x H1 => ty σ H1 fun y H2 => ∃ a b v, x = .ref a ∧ y = .ref b ∧ NGet w H2 a b (some v) ∧ Q v H2
def tNIn (w : World) (ty td : TE) : TE := fun σ H Q => ty σ H fun y H1 => td σ H1 fun x H2 => ∃ a b o, x = .ref a ∧ y = .ref b ∧ NGet w H2 a b o ∧ Q (.bl o.isSome) H2
def tNNotIn (w : World) (ty td : TE) : TE := fun σ H Q => ty σ H fun y H1 => td σ H1 fun x H2 => ∃ a b o, x = .ref a ∧ y = .ref b ∧ NGet w H2 a b o ∧ Q (.bl (!o.isSome)) H2
def sNPut (w : World) (td ty tv : TE) : TS := fun D σ H => tv σ H fun v H1 => td σ H1 fun x H2 => ty σ H2 fun y H3 => ∃ a b ks k, x = .ref a ∧ y = .ref b ∧ Nd w H3 a ks ∧ NK H3 (.ref b) k ∧ k.depth ≤ 8 ∧ D.nx σ (upd H3 a (ndO w a (putN ks k b v)))
def tNGet2 (w : World) (td ty tx : TE) : TE := fun σ H Q => td σ H fun x H1 => ∃ a ks, x = .ref a ∧ Nd w H1 a ks ∧ ty σ H1 fun y H2 => tx σ H2 fun z H3 => ∃ b o, y = .ref b ∧ NGet w H3 a b o ∧ Q (o.getD z) H3
theorem nd_new {w : World} {H : Hp} {d : Addr} (h : (d == sysModules) = false) : Nd w (upd H d (ndO w d [])) d [] :=
  ⟨upd_same, fun x hx => (by cases hx), List.nodup_nil, Nat.zero_le _, h⟩
section
variable {X : Cx} {o i e f value : Expr} {pos pos' apos cpos : Pos} {td ty tv tx : TE}
theorem pe_nnew : PE X (.Dict [] [] pos) (tNNew X.w) := ⟨fun pins s σ H Q I h =>
  wpAny_Dict_empty ⟨.ref s.heap.objs.size, _, I.laid (a := s.heap.objs.size) (o := ndO X.w s.heap.objs.size []) (t' := s.toks) (fun _ _ q => Heap.get?_push_of_some _ q) (Nat.le_refl _)
    ⟨⟨[], _, #[], 0, .nil, Heap.get?_push_size _ rfl, ⟨rfl, rfl, rfl⟩, rfl, rfl⟩, ⟨_, Heap.get?_push_size _ rfl⟩, fun h1 h2 p st => by
      obtain ⟨ys, o, es', ep', p1, p2, p3⟩ := p
      exact ⟨ys, o, es', ep', p1, st _ p2, p3⟩⟩, rfl, h _ (I.hok.fresh (Nat.le_refl _)) (beq_eq_false_iff_ne.mpr (Ne.symm (Nat.ne_of_lt I.big)))⟩⟩
theorem pe_nget (hu : X.A.units + 64 < cLine) (ho : PE X o td) (hi : PE X i ty) (hs : NoSl i) : PE X (.Subscript o i pos) (tNGet X.w td ty) := by
  refine ⟨fun pins s σ H Q I h => ?_⟩
  refine subD_of PySem.F.slot_dict_getitem.lookup hs (thn (ho.run pins s σ H _ I h) fun u s1 ⟨x, H1, I1, rx, q1⟩ => thn (hi.run pins s1 σ H1 _ I1 q1) fun iv s2 ⟨y, H2, I2, ry, a, b, v, ex, ey, g, q2⟩ => ?_)
  subst ex ey
  obtain rfl : u = Value.ref a := rx
  obtain rfl : iv = Value.ref b := ry
  have t : s2.TypeIs (.ref a) "dict" := by
    obtain ⟨ks, k, n, _⟩ := g
    obtain ⟨xs, rel, dd⟩ := n.heap I2
    exact dd.typeIs
  exact ⟨t, n_getItem hu I2 g fun w' s3 I3 rw' => ⟨v, H2, I3, rw', q2⟩⟩
theorem pc_nin (hu : X.A.units + 64 < cLine) (hi : PE X i ty) (ho : PE X o td) : PC X .In i o (tNIn X.w ty td) := by
  refine ⟨fun pins s σ H Q I h => ?_⟩
  refine thn (hi.run pins s σ H _ I h) fun iv s1 ⟨y, H1, I1, ry, q1⟩ => thn (ho.run pins s1 σ H1 _ I1 q1) fun u s2 ⟨x, H2, I2, rx, a, b, ov, ex, ey, g, q2⟩ => ?_
  subst ex ey
  obtain rfl : u = Value.ref a := rx
  obtain rfl : iv = Value.ref b := ry
  exact n_in hu I2 g fun s3 I3 => ⟨.bl ov.isSome, H2, I3, rfl, q2⟩
theorem pc_nnotin (hu : X.A.units + 64 < cLine) (hi : PE X i ty) (ho : PE X o td) : PC X .NotIn i o (tNNotIn X.w ty td) := by
  refine ⟨fun pins s σ H Q I h => ?_⟩
  refine thn (hi.run pins s σ H _ I h) fun iv s1 ⟨y, H1, I1, ry, q1⟩ => thn (ho.run pins s1 σ H1 _ I1 q1) fun u s2 ⟨x, H2, I2, rx, a, b, ov, ex, ey, g, q2⟩ => ?_
  subst ex ey
  obtain rfl : u = Value.ref a := rx
  obtain rfl : iv = Value.ref b := ry
  exact n_notIn hu I2 g fun s3 I3 => ⟨.bl (!ov.isSome), H2, I3, rfl, q2⟩
theorem ps_nput (hu : X.A.units + 64 < cLine) (ho : PE X o td) (hi : PE X i ty) (hv : PE X value tv) (hs : swapsWith value (some (.Subscript o i pos')) pos.line X.env = pure false) :
    PS X (.Assign [.Subscript o i pos'] value pos) (sNPut X.w td ty tv) := by
  refine ⟨fun pins s σ H D I h => ?_⟩
  refine wpAny_Assign_Subscript (thn (hv.run pins s σ H _ I h) fun r s1 ⟨v, H1, I1, rv, q1⟩ => thn (ho.run pins s1 σ H1 _ I1 q1) fun u s2 ⟨x, H2, I2, rx, q2⟩ => thn (hi.run pins s2 σ H2 _ I2 q2) fun iv s3 ⟨y, H3, I3, ry, a, b, ks, k, ex, ey, n, nk, dk, q3⟩ => ?_) hs
  subst ex ey
  obtain rfl : u = Value.ref a := rx
  obtain rfl : iv = Value.ref b := ry
  exact n_setItem hu I3 n nk dk rv fun s4 I4 => ⟨σ, _, I4, q3⟩
theorem pe_nget2 (hu : X.A.units + 64 < cLine) (ho : PE X o td) (he : PE X e ty) (hf : PE X f tx) (m : M2 X o "get" apos e f cpos) : PE X (.Call (.Attribute o "get" apos) [e, f] [] cpos) (tNGet2 X.w td ty tx) := by
  refine ⟨fun pins s σ H Q I h => ?_⟩
  refine wpAny_Call_method m.base m.few m.line PySem.F.plainAttrs_dict PySem.F.slot_dict_get PySem.F.type_dict_get (thn (ho.run pins s σ H _ I h) fun u s1 ⟨x, H1, I1, rx, a, ks, ex, n, q1⟩ => ?_)
  subst ex
  obtain rfl : u = Value.ref a := rx
  obtain ⟨xs, rel, dd⟩ := n.heap I1
  refine ⟨dd.typeIs, fun b q => ?_, ?_⟩
  · cases q
    obtain ⟨ob, _, _, h1, h2, _⟩ := dd
    exact ⟨ob, h1, h2.2.1⟩
  rw [m.trees]
  refine Calls.callWith_builtin rfl (Calls.evalArgs_plain (Calls.spliced_cons (thn (he.run pins s1 σ H1 _ I1 q1) fun iv s2 ⟨y, H2, I2, ry, q2⟩ =>
    Calls.spliced_cons (thn (hf.run pins s2 σ H2 _ I2 q2) fun fv s3 ⟨z, H3, I3, rz, b, ov, ey, g, q3⟩ => Calls.spliced_nil ?_))))
  subst ey
  obtain rfl : iv = Value.ref b := ry
  exact n_get2 hu I3 g rz fun w' s4 I4 rw' => ⟨_, H3, I4, rw', q3⟩
end
end Mus

set_option maxRecDepth 100000
set_option maxHeartbeats 4000000
/-! sorted(x), x a list or a tuple of data of one shape. -/
namespace PySem.W
open PySem PySem.Calls PyProof.Rows
section
variable {prog : Program} {w : World} {A : Around} {E : Value → Shared → Prop} {s : Shared}
/-- the items of a tuple, in a list of their own -/
theorem mus_collect {a : Addr} {vs : List Value} {Q : List Value → Shared → Prop} (ht : s.heap.IsTuple a vs.toArray) (hz : vs.length ≤ sizeLine)
    (h : Q vs { s with heap := (s.heap.push (seqObj "list" #[] 0)).update s.heap.objs.size (Obj.mapSeq (· ++ vs.toArray)) }) : wpAny (model prog w) A (collect (.ref a)) Q E s := by
  obtain ⟨o, e1, e2, n, e3⟩ := id ht
  have f1 : (s.heap.push (seqObj "list" #[] 0)).get? a = some o := Heap.get?_push_of_some _ e1
  have f2 : (s.heap.push (seqObj "list" #[] 0)).get? s.heap.objs.size = some (seqObj "list" #[] 0) := Heap.get?_push_size _ rfl
  have k1 : (Value.type "tuple" == Value.type "list") = false := by decide +kernel
  have k2 : (Value.type "tuple" == Value.type "tuple") = true := by decide +kernel
  unfold collect
  refine wpAny_bind (wpAny_runValue (codeAny_builtin entry_proto_collect' ?_))
  refine wpAny_bind (wpAny_newList (wpAny_pure ⟨Code.quiet_builtin _ (by decide +kernel), codeAny_builtin entry_list_iadd' ?_⟩))
  show wpAny _ _ (Builtin.List.listExtendWith (.ref s.heap.objs.size) (.ref a) (.ref s.heap.objs.size)) _ _ { s with heap := s.heap.push (seqObj "list" #[] 0) }
  unfold Builtin.List.listExtendWith
  refine wpAny_bind (wpAny_typeOf (T := "tuple") ⟨o, f1, e2⟩ ?_)
  rw [if_pos (by rw [k1, k2]; simp)]
  refine wpAny_bind (listItems_at f1 e3 (wpAny_bind (listItems_at (xs := #[]) (n := 0) f2 rfl ?_)))
  rw [if_neg (by simp)]
  refine wpAny_bind (listUpdate_at (xs := #[]) (n := 0) f2 rfl (wpAny_pure ?_) (Nat.zero_le _) (by simp only [Array.size_append, List.size_toArray, List.length_nil]; omega))
  refine wpAny_bind (wpAny_load (get?_update_seq f2 _) ?_)
  have e : ((#[] : Array Value) ++ vs.toArray).toList = vs := by simp
  show wpAny _ _ (pure ((#[] : Array Value) ++ vs.toArray).toList) Q E _
  rw [e]
  exact wpAny_pure h
theorem mus_sortedT {a : Addr} {vs : List Value} {Q : Value → Shared → Prop} (ht : s.heap.IsTuple a vs.toArray) (hL : vs.length ≤ sizeLine)
    (body : ∀ E' : Value → Shared → Prop, wpAny (model prog w) A.in1.in1 (Builtin.«list.sort» ⟨[.ref (s.heap.objs.size + 1)], []⟩) (fun f s' => f = .done (.ret .none) ∧ Q (.ref (s.heap.objs.size + 1)) s') E' { s with heap := copyHeap s.heap vs }) :
    wpAny (model prog w) A (call (.builtin "sorted") [.ref a]) Q E s := by
  have z : ((s.heap.push (seqObj "list" #[] 0)).update s.heap.objs.size (Obj.mapSeq (· ++ vs.toArray))).objs.size = s.heap.objs.size + 1 := (Heap.size_update ..).trans (size_push' ..)
  refine call_function_entry_kw kind_sorted plain_sorted entry_sorted (args_sorted1 _) ?_
  unfold Builtin.«sorted»
  refine wpAny_bind (m := checkCount "sorted" 1 1 _) (wpAny_pure (wpAny_bind (mus_collect ht hL (wpAny_bind (wpAny_newList ?_ hL)))))
  show wpAny _ _ _ _ _ { s with heap := copyHeap s.heap vs }
  rw [z]
  refine wpAny_bind (wpAny_holding (wpAny_call_entry_kw slot_list_sort ⟨_, copyHeap_at s.heap vs, rfl⟩ entry_list_sort ?sorts (args_list_sort _)))
  case sorts =>
    refine wpAny_mono (body _) (fun f s' q => ?_) fun _ _ e => e
    obtain ⟨rfl, q⟩ := q
    exact ⟨_, rfl, wpAny_pure ⟨_, rfl, q⟩⟩
theorem mus_sorted {β : Type} {R : Value → β → Prop} {enc : β → PyData} {bs : List β} {a : Addr} {vs : List Value} {Q : Value → Shared → Prop} (ht : s.heap.IsTuple a vs.toArray) (e : EachIs R vs bs) (er : EachIs (fun v b => ∃ as, Reads s.heap v (enc b) as) vs bs) (hal : AllAlike (bs.map enc)) (hk : Sortable (bs.map enc)) (hL : bs.length ≤ sizeLine)
    (hu : ∀ b, b ∈ bs → A.units + 2 + (enc b).depth < cLine) (h : ∀ out, out.length = bs.length → EachIs R out (bs.mergeSort (dataLe false enc)) → Q (.ref (s.heap.objs.size + 1)) { s with heap := sortedAll s.heap vs (List.toArray out) }) :
    wpAny (model prog w) A (call (.builtin "sorted") [.ref a]) Q E s := by
  have lv : vs.length ≤ sizeLine := e.length ▸ hL
  have er' : EachIs (fun v b => ∃ as, Reads (sortingHeap (copyHeap s.heap vs) (s.heap.objs.size + 1) vs) v (enc b) as) vs bs := er.mono fun _ _ ⟨as, r⟩ => ⟨as, PyProof.Rows.Reads.keeps (fun _ _ => sorting_copy_old) r⟩
  have S := SortsAt.data (prog := prog) (w := w) (A := A.in1.in1) (s := { s with heap := sortingHeap (copyHeap s.heap vs) (s.heap.objs.size + 1) vs }) (each_map (R := fun v d => ∃ as, Reads (sortingHeap (copyHeap s.heap vs) (s.heap.objs.size + 1) vs) v d as) enc er') hal hk (bound_map hu)
  exact mus_sortedT ht lv fun _ => list_sort_vals (s := { s with heap := copyHeap s.heap vs }) (copyHeap_at s.heap vs) S lv ⟨rfl, h _ (by rw [sortVals_length false rfl]; exact e.length) (sortVals_data false e er' hal)⟩
end
end PySem.W
namespace Mus
open PySem PySem.Spec PyProof.Rows L2
def rSortedD (K : PySem.W.Frag) : List V → Hp → VK → Prop := fun vs H Q => ∃ (a : Addr) (xs : List V) (ds : List PyData), vs = [V.ref a] ∧ (SqL K H a xs ∨ SqT K H a xs) ∧ DpAll K H xs ds ∧ PySem.W.AllAlike ds ∧ PySem.W.Sortable ds ∧ (∀ d ∈ ds, d.depth ≤ 20) ∧
  ∀ (ps : List (V × PyData)) p, ps = (xs.zip ds).mergeSort (PySem.W.dataLe false (·.2)) → H p = none → Q (.ref p) (upd H p (.lst (ps.map (·.1))))
theorem each_zip {h : Heap} : ∀ {xs : List V} {ds : List PyData} {vs : List Value}, Vals xs vs → xs.length = ds.length → PySem.W.EachIs (fun v (b : V × PyData) => RelV b.1 v) vs (xs.zip ds)
  | [], [], _, .nil, _ => .nil
  | x :: xs, d :: ds, _, .cons r rs, hl => .cons r (each_zip (h := h) rs (by simpa using hl))
  | [], _ :: _, _, _, hl => by cases hl
  | _ :: _, [], _, _, hl => by cases hl
theorem each_reads {h : Heap} : ∀ {xs : List V} {ds : List PyData} {vs : List Value} {as : List Addr}, xs.length = ds.length → ReadsAll h vs ds as → vs.length = xs.length → PySem.W.EachIs (fun v (b : V × PyData) => ∃ as, Reads h v b.2 as) vs (xs.zip ds)
  | [], [], _, _, _, .nil, _ => .nil
  | x :: xs, d :: ds, _, _, hl, .cons r rs, h2 => .cons ⟨_, r⟩ (each_reads (by simpa using hl) rs (by simpa using h2))
  | [], _ :: _, _, _, hl, _, _ => by cases hl
  | _ :: _, [], _, _, hl, _, _ => by cases hl
theorem vals_of_each : ∀ {ps : List (V × PyData)} {out : List Value}, PySem.W.EachIs (fun v (b : V × PyData) => RelV b.1 v) out ps → Vals (ps.map (·.1)) out
  | _, _, .nil => .nil
  | _, _, .cons r rs => .cons r (vals_of_each rs)
theorem dpAll_len {K : PySem.W.Frag} {H : Hp} : ∀ {xs : List V} {ds : List PyData}, DpAll K H xs ds → xs.length = ds.length
  | _, _, .nil => rfl
  | _, _, .cons _ r => congrArg (· + 1) (dpAll_len r)
section
variable {X : Cx}
theorem cr_sortedD (hu : X.A.units + 64 < cLine) : CallR X (.builtin "sorted") (rSortedD X.K) := by
  intro pins s σ H vs us Q I r h
  obtain ⟨a, xs, ds, rfl, hs, hd, hal, hk, hdep, q⟩ := h
  obtain ⟨u, rfl, ru⟩ := vals1 r
  obtain rfl : u = Value.ref a := ru
  have ll := dpAll_len hd
  have lz : (xs.zip ds).length = ds.length := by rw [List.length_zip, ll, Nat.min_self]
  have em : (xs.zip ds).map (·.2) = ds := List.map_snd_zip (by omega)
  have hu' : ∀ b ∈ xs.zip ds, X.A.units + 2 + b.2.depth < cLine := fun b hb => by
    have := hdep b.2 (by rw [← em]; exact List.mem_map.mpr ⟨b, hb, rfl⟩)
    omega
  have fin : ∀ {vs : List Value}, Vals xs vs → ∀ out, out.length = (xs.zip ds).length → PySem.W.EachIs (fun v (b : V × PyData) => RelV b.1 v) out ((xs.zip ds).mergeSort (PySem.W.dataLe false (·.2))) → EP X pins σ Q (.ref (s.heap.objs.size + 1)) { s with heap := sortedAll s.heap vs (List.toArray out) } := fun {vs} rv out hl he => by
    obtain ⟨n, hn⟩ := sortedAll_at s.heap vs (List.toArray out)
    have nd : H (s.heap.objs.size + 1) = none := I.hok.fresh (Nat.le_succ _)
    have hz : ((xs.zip ds).mergeSort (PySem.W.dataLe false (·.2))).length ≤ sizeLine := by
      rw [List.length_mergeSort, lz, ← ll]
      rcases hs with hs | hs
      · obtain ⟨_, _, _, hz⟩ := I.list hs; exact hz
      · obtain ⟨_, _, _, hz⟩ := I.tuple hs; exact hz
    exact ⟨.ref (s.heap.objs.size + 1), _, I.laid (t' := s.toks) (o := .lst (((xs.zip ds).mergeSort (PySem.W.dataLe false (·.2))).map (·.1))) (fun b o e => sortedAll_old e) (Nat.le_succ _) ⟨by rw [List.length_map]; exact hz, out, n, vals_of_each he, hn⟩, rfl, q _ _ rfl nd⟩
  rcases hs with hs | hs
  · obtain ⟨its, rv, hl, hz⟩ := I.list hs
    obtain ⟨as, ra⟩ := Dp.readsAll I ds xs its hd rv
    exact PySem.W.sorted_data hl.isList (each_zip (h := s.heap) rv ll) (each_reads ll ra rv.length.symm) (by rw [em]; exact hal) (by rw [em]; exact hk) (by rw [lz, ← ll]; exact hz) hu' (fin rv)
  · obtain ⟨its, rv, hl, hz⟩ := I.tuple hs
    obtain ⟨as, ra⟩ := Dp.readsAll I ds xs its hd rv
    exact PySem.W.mus_sorted hl (each_zip (h := s.heap) rv ll) (each_reads ll ra rv.length.symm) (by rw [em]; exact hal) (by rw [em]; exact hk) (by rw [lz, ← ll]; exact hz) hu' (fin rv)
end
end Mus

set_option maxRecDepth 100000
set_option maxHeartbeats 4000000
/-! sorted(d) and d.get(k, x) of a dict whose keys are nested tuples. -/
namespace PySem.W
open PySem PySem.Calls PyProof.Rows
theorem mus_raw {prog : Program} {w : World} {d : Addr} {es : Array DictEntry} {ep : Nat} (lo : (d == sysModules) = false) : KdlSrc prog w "dict" d d es.size (fun i v => ∃ hi : i < es.size, v = es[i].key) (fun h => h.DictRaw d es ep) where
  type := fun _ hm => hm.typeIs
  there := fun _ hm => ⟨let ⟨_, ho, _⟩ := hm; Heap.lt_size ho, let ⟨_, ho, _⟩ := hm; Heap.lt_size ho⟩
  keep := fun _ _ hm hk => hm.at fun o e => hk d (.inl rfl) o e
  notList := by decide
  notTuple := by decide
  hint := fun _ _ _ _ hm hq => kdl_hint_dict hm.typeIs hq
  iter := fun _ _ hh hm => ⟨_, _, (fun _ _ hq => wpAny_pyIter_dict_raw lo hm hq), Walks.rawKeys hh _ d (Nat.ne_of_lt (let ⟨_, ho, _⟩ := hm; Heap.lt_size ho)) es ep, ⟨⟨_, Heap.get?_push_size _ rfl, rfl, rfl⟩, hm.at fun _ e => Heap.get?_push_of_some _ e⟩⟩
end PySem.W
namespace Mus
open PySem PySem.Spec PyProof.Rows L2
def rSortedN (K : PySem.W.Frag) (w : World) : List V → Hp → VK → Prop := fun vs H Q => ∃ (a : Addr) (kvs : NKV) (ds : List PyData), vs = [V.ref a] ∧ Nd w H a kvs ∧ DpAll K H (kvs.map fun x => V.ref x.2.1) ds ∧ PySem.W.AllAlike ds ∧ PySem.W.Sortable ds ∧ (∀ d ∈ ds, d.depth ≤ 20) ∧
  ∀ (ps : List (V × PyData)) p, ps = ((kvs.map fun x => V.ref x.2.1).zip ds).mergeSort (PySem.W.dataLe false (·.2)) → H p = none → Q (.ref p) (upd H p (.lst (ps.map (·.1))))
theorem vals_refs : ∀ kvs : NKV, Vals (kvs.map fun x => V.ref x.2.1) (kvs.map fun x => Value.ref x.2.1)
  | [] => .nil
  | x :: r => .cons rfl (vals_refs r)
theorem KN.ref {ks : NKV} {xs : List (NestedKey × Addr × Value)} (r : KN ks xs) : xs.map (fun x => Value.ref x.2.1) = ks.map fun x => Value.ref x.2.1 := by
  induction r with
  | nil => rfl
  | cons h t ih => rw [List.map_cons, List.map_cons, ih, h.2.1]
section
variable {X : Cx}
theorem cr_sortedN (hc : X.calm = true) (hu : X.A.units + 64 < cLine) : CallR X (.builtin "sorted") (rSortedN X.K X.w) := by
  intro pins s σ H vs us Q I r h
  obtain ⟨a, kvs, ds, rfl, n, hd, hal, hk, hdep, q⟩ := h
  obtain ⟨u, rfl, ru⟩ := vals1 r
  obtain rfl : u = Value.ref a := ru
  obtain ⟨xs, rel, dd⟩ := n.heap I
  obtain ⟨es, ep, raw, hs, hx⟩ := dd.raw
  have hl : es.size = kvs.length := by rw [hs, Paired.length rel]
  have h16 : es.size ≤ sizeLine := by rw [hl]; exact n.sz
  refine Calls.call_function_entry PyProof.Rows.kind_sorted PyProof.Rows.plain_sorted PyProof.Rows.entry_sorted (PyProof.Rows.args_sorted1 _) ?_
  unfold Builtin.«sorted»
  refine wpAny_bind (m := checkCount "sorted" 1 1 _) (wpAny_pure ?_)
  refine wpAny_bind (PySem.W.kdu_collect (A := X.A.in1) (PySem.W.mus_raw n.sm) (I.ok.hd hc) raw h16 fun h' tk acc hk' hacc => ?_)
  have e1 : acc.toList = kvs.map fun x => Value.ref x.2.1 := by
    rw [← rel.ref]
    refine List.ext_getElem? fun j => ?_
    rw [List.getElem?_map]
    cases e : acc.toList[j]? with
    | none =>
      have : acc.toList.length ≤ j := List.getElem?_eq_none_iff.mp e
      rw [Array.length_toList, hacc.1, hs] at this
      rw [List.getElem?_eq_none this]; rfl
    | some v =>
      obtain ⟨hi, rfl⟩ := hacc.2 j v (by rw [← Array.getElem?_toList]; exact e)
      obtain ⟨y, hy, ey, _⟩ := hx j hi
      rw [hy, ey]; rfl
  have rv : Vals (kvs.map fun x => V.ref x.2.1) acc.toList := by rw [e1]; exact vals_refs kvs
  have I1 : Inv X pins σ H { s with heap := h', toks := tk } := I.kept hk'
  have ll := dpAll_len hd
  have lz : ((kvs.map fun x => V.ref x.2.1).zip ds).length = ds.length := by rw [List.length_zip, ll, Nat.min_self]
  have em : ((kvs.map fun x => V.ref x.2.1).zip ds).map (·.2) = ds := List.map_snd_zip (by omega)
  have la : acc.toList.length = ds.length := by rw [← rv.length]; exact ll
  have hL : acc.toList.length ≤ sizeLine := by rw [Array.length_toList, hacc.1]; exact h16
  obtain ⟨as, ra⟩ := Dp.readsAll I1 ds _ _ hd rv
  refine wpAny_bind (wpAny_newList ?_ hL)
  have hoL : (h'.push (seqObj "list" acc.toList.toArray 0)).get? h'.objs.size = some (seqObj "list" acc.toList.toArray 0) := Heap.get?_push_size _ rfl
  show wpAny _ _ _ _ _ { s with heap := h'.push (seqObj "list" acc.toList.toArray 0), toks := tk }
  have old : ∀ b o, h'.get? b = some o → (PySem.W.sortingHeap (h'.push (seqObj "list" acc.toList.toArray 0)) h'.objs.size acc.toList).get? b = some o := fun b o e => PySem.W.sortingHeap_old (Nat.ne_of_lt (Heap.lt_size e)) (Heap.get?_push_of_some _ e)
  have er : PySem.W.EachIs (fun v (b : V × PyData) => ∃ as, Reads (PySem.W.sortingHeap (h'.push (seqObj "list" acc.toList.toArray 0)) h'.objs.size acc.toList) v b.2 as) acc.toList ((kvs.map fun x => V.ref x.2.1).zip ds) :=
    (each_reads ll ra rv.length.symm).mono fun _ _ ⟨as, r⟩ => ⟨as, PyProof.Rows.Reads.keeps old r⟩
  have hu' : ∀ b ∈ (kvs.map fun x => V.ref x.2.1).zip ds, X.A.in1.in1.units + b.2.depth < cLine := fun b hb => by
    have := hdep b.2 (by rw [← em]; exact List.mem_map.mpr ⟨b, hb, rfl⟩)
    have e : X.A.in1.in1.units = X.A.units + 2 := rfl
    omega
  have S := PySem.W.SortsAt.data (prog := X.prog) (w := X.w) (A := X.A.in1.in1) (s := { s with heap := PySem.W.sortingHeap (h'.push (seqObj "list" acc.toList.toArray 0)) h'.objs.size acc.toList, toks := tk }) (PySem.W.each_map (R := fun v d => ∃ as, Reads _ v d as) (fun b : V × PyData => b.2) er) (by rw [em]; exact hal) (by rw [em]; exact hk) (PySem.W.bound_map hu')
  have he := PySem.W.sortVals_data false (each_zip (h := h') rv ll) er (by rw [em]; exact hal)
  refine wpAny_bind (wpAny_holding (wpAny_call_entry PyProof.Rows.slot_list_sort ⟨_, hoL, rfl⟩ PyProof.Rows.entry_list_sort
    (PySem.W.list_sort_vals (s := { s with heap := h'.push (seqObj "list" acc.toList.toArray 0), toks := tk }) hoL S hL ⟨_, rfl, ?_⟩) (PyProof.Rows.args_list_sort _)))
  generalize PySem.W.sortVals _ false acc.toList acc.toList = out at he ⊢
  obtain ⟨e', he'⟩ := PyProof.Rows.sortedHeap_at (vs := acc.toList) (out := out.toArray) hoL
  refine wpAny_pure ⟨_, rfl, .ref h'.objs.size, upd H h'.objs.size (.lst ((((kvs.map fun x => V.ref x.2.1).zip ds).mergeSort (PySem.W.dataLe false (·.2))).map (·.1))), I1.laid (t' := tk) (fun b u e => ?_) (Nat.le_refl _)
    (show ObjOk X.prog X.w _ _ _ (.lst _) from ⟨?_, out, e', vals_of_each he, he'⟩), rfl, q _ _ rfl (I1.hok.fresh (Nat.le_refl _))⟩
  · have hb : b < h'.objs.size := Heap.lt_size e
    rw [PyProof.Rows.sortedHeap_old (Nat.ne_of_lt hb) (by rw [size_push']; exact Nat.lt_succ_of_lt hb)]
    exact Heap.get?_push_of_some _ e
  · rw [List.length_map, List.length_mergeSort, lz, ← la]; exact hL
end
end Mus

set_option maxRecDepth 100000
set_option maxHeartbeats 4000000
/-! Data stand where a thing that is no list and no tuple changes. -/
namespace Mus
open PySem L2
mutual
theorem Rp.upN {p D : Addr} {H : Hp} {o : HO} (h1 : ∀ xs, H D ≠ some (.lst xs)) (h2 : ∀ xs, H D ≠ some (.tup xs)) : ∀ {v : V} {d : PyData}, Rp p H v d → Rp p (upd H D o) v d
  | _, _, .non => .non
  | _, _, .bl b => .bl b
  | _, _, .int i => .int i
  | _, _, .str x => .str x
  | _, _, .lst h n r => .lst (by rw [upd_ne fun z => h1 _ (by rw [← z]; exact h)]; exact h) n (Rps.upN h1 h2 r)
  | _, _, .tup h n l r => .tup (by rw [upd_ne fun z => h2 _ (by rw [← z]; exact h)]; exact h) n l (Rps.upN h1 h2 r)
theorem Rps.upN {p D : Addr} {H : Hp} {o : HO} (h1 : ∀ xs, H D ≠ some (.lst xs)) (h2 : ∀ xs, H D ≠ some (.tup xs)) : ∀ {vs : List V} {ds : List PyData}, Rps p H vs ds → Rps p (upd H D o) vs ds
  | _, _, .nil => .nil
  | _, _, .cons a b => .cons (Rp.upN h1 h2 a) (Rps.upN h1 h2 b)
end
theorem rp_tup {p t : Addr} {c : Int} {H : Hp} {vs : List V} {ds : List PyData} (g : Bag p c H) (nt : H t = none) (r : Rps p H vs ds) (hl : vs.length ≤ 100000 := by exact Nat.le_of_ble_eq_true rfl) : Rp p (upd H t (.tup vs)) (.ref t) (.tuple ds) :=
  .tup upd_same (g.ne nt).symm hl (r.same (same_new nt _))
theorem atI_intsU {ns : List Int} {r : Int} (h0 : 0 ≤ r) (h1 : r < ns.length) : ∃ x, x ∈ ns ∧ atI (ns.map V.int) r = some (.int x) := by
  have hi : r.toNat < ns.length := by omega
  refine ⟨ns[r.toNat], List.getElem_mem _, at_int h0 ?_⟩
  rw [List.getElem?_map, List.getElem?_eq_getElem hi]; rfl
/-- one of the listed values -/
theorem atI_mem {xs : List V} {r : Int} (h0 : 0 ≤ r) (h1 : r < xs.length) : ∃ x, x ∈ xs ∧ atI xs r = some x := by
  have hi : r.toNat < xs.length := by omega
  exact ⟨xs[r.toNat], List.getElem_mem _, at_int h0 (List.getElem?_eq_getElem hi)⟩
end Mus

set_option maxRecDepth 100000
set_option maxHeartbeats 4000000
/-! View ids as data and as keys; their order; lists sorted by them. -/
namespace Mus
open PySem PySem.Spec PyProof.Rows L2
def vKey (k i l : Int) : NestedKey := .tup [.num k, .tup [.num i, .num l]]
def vD (k i l : Int) : PyData := .tuple [.int k, .tuple [.int i, .int l]]
mutual
def kD : NestedKey → PyData
  | .none => .none
  | .num i => .int i
  | .text x => .str x
  | .tup ks => .tuple (kDs ks)
def kDs : List NestedKey → List PyData
  | [] => []
  | k :: ks => kD k :: kDs ks
end
theorem kD_v (k i l : Int) : kD (vKey k i l) = vD k i l := rfl
theorem vKey_depth (k i l : Int) : (vKey k i l).depth ≤ 8 := by simp [vKey, NestedKey.depth, NestedKey.depthAll]
theorem vKey_inj {k i l k' i' l' : Int} (h : vKey k i l = vKey k' i' l') : k = k' ∧ i = i' ∧ l = l' := by
  injection h with h
  injection h with h1 h2
  injection h1 with h1
  injection h2 with h2 _
  injection h2 with h2
  injection h2 with h2 h3
  injection h2 with h2
  injection h3 with h3 _
  injection h3 with h3
  exact ⟨h1, h2, h3⟩
theorem nk_vid {p : Addr} {H : Hp} {a : Addr} {k i l : Int} (h : Rp p H (.ref a) (vD k i l)) : NK H (.ref a) (vKey k i l) := by
  obtain _ | _ | _ | _ | _ | @⟨_, xs, _, ha, _, _, hr⟩ := h
  obtain _ | ⟨h1, _ | ⟨h2, hn⟩⟩ := hr
  cases hn
  cases h1
  obtain _ | _ | _ | _ | _ | @⟨b, ys, _, hb, _, _, hr2⟩ := h2
  obtain _ | ⟨h3, _ | ⟨h4, hn⟩⟩ := hr2
  cases hn
  cases h3
  cases h4
  exact .tup ha (.cons (.int _) (.cons (.tup hb (.cons (.int _) (.cons (.int _) .nil))) .nil))
theorem v_alike (k i l k' i' l' : Int) : PySem.W.alike (vD k i l) (vD k' i' l') = true := rfl
theorem v_depth (k i l : Int) : (vD k i l).depth ≤ 20 := by simp [vD, PyData.depth, PyData.depthAll]
/-- the order of view ids -/
def vLt (k i l k' i' l' : Int) : Bool := decide (k < k' ∨ k = k' ∧ (i < i' ∨ i = i' ∧ l < l'))
theorem v_lt (k i l k' i' l' : Int) : PySem.W.dataLt (vD k i l) (vD k' i' l') = vLt k i l k' i' l' := by
  unfold vD vLt
  rw [PySem.W.dataLt_pair rfl rfl, PySem.W.dataLt_ii, PySem.W.dataLt_int]
  have e1 : PyData.eqv (.int k) (.int k') = decide (k = k') := rfl
  have e2 : PyData.eqv (.tuple [.int i, .int l]) (.tuple [.int i', .int l']) = (decide (i = i') && decide (l = l')) := by
    show (decide (i = i') && (decide (l = l') && true)) = _
    rw [Bool.and_true]
  rw [e1, e2]
  by_cases h1 : k = k'
  · subst h1
    by_cases h2 : i = i'
    · subst h2
      by_cases h3 : l = l'
      · subst h3; simp
      · simp [h3]
    · simp [h2]
  · simp [h1]
theorem valN_mem {ks : NKV} {x : NestedKey × Addr × V} (h : (ks.map (·.1)).Nodup) (hx : x ∈ ks) : valN ks x.1 = some x.2.2 := by
  induction ks with
  | nil => cases hx
  | cons y ys ih =>
    rw [List.map_cons, List.nodup_cons] at h
    unfold valN
    rw [List.find?_cons]
    rcases List.mem_cons.mp hx with rfl | hx
    · simp
    · have ne : ¬ y.1 = x.1 := fun e => h.1 (by rw [e]; exact List.mem_map.mpr ⟨x, hx, rfl⟩)
      rw [decide_eq_false ne]
      exact ih h.2 hx
theorem putN_all {ks : NKV} {k : NestedKey} {b : Addr} {v : V} {A : NestedKey → Addr → Prop} {B : V → Prop} (h : ∀ x ∈ ks, A x.1 x.2.1 ∧ B x.2.2) (hk : A k b) (hv : B v) : ∀ x ∈ putN ks k b v, A x.1 x.2.1 ∧ B x.2.2 := by
  intro x hx
  unfold putN at hx
  split at hx
  · obtain ⟨y, hy, rfl⟩ := List.mem_map.mp hx
    split
    · exact ⟨(h y hy).1, hv⟩
    · exact h y hy
  · rcases List.mem_append.mp hx with hx | hx
    · exact h x hx
    · rw [List.mem_singleton.mp hx]; exact ⟨hk, hv⟩
/-- the entries, sorted by their keys -/
theorem sort_split {kvs : NKV} {ps : List (V × PyData)} (e : ps = ((kvs.map fun x => V.ref x.2.1).zip (kvs.map fun x => kD x.1)).mergeSort (PySem.W.dataLe false (·.2))) :
    ∃ ys : NKV, ys.Perm kvs ∧ ps.map (·.1) = ys.map (fun x => V.ref x.2.1) ∧ ys = kvs.mergeSort fun a b => !(PySem.W.dataLt (kD b.1) (kD a.1)) := by
  refine ⟨_, List.mergeSort_perm _ _, ?_, rfl⟩
  have z : (kvs.map fun x => V.ref x.2.1).zip (kvs.map fun x => kD x.1) = kvs.map fun x => (V.ref x.2.1, kD x.1) := List.zip_map' ..
  rw [e, z, ← List.map_mergeSort (r := fun a b => !(PySem.W.dataLt (kD b.1) (kD a.1))) (fun _ _ _ _ => rfl), List.map_map]
  rfl
theorem v_sorted {kvs : NKV} (h : ∀ x ∈ kvs, ∃ k i l, x.1 = vKey k i l) (n : (kvs.map (·.1)).Nodup) : (kvs.mergeSort fun a b => !(PySem.W.dataLt (kD b.1) (kD a.1))).Pairwise fun a b => PySem.W.dataLt (kD a.1) (kD b.1) = true := by
  have P : (kvs.mergeSort fun a b => !(PySem.W.dataLt (kD b.1) (kD a.1))).Perm kvs := List.mergeSort_perm _ _
  have S : (kvs.mergeSort fun a b => !(PySem.W.dataLt (kD b.1) (kD a.1))).Pairwise fun a b => (!(PySem.W.dataLt (kD b.1) (kD a.1))) = true := by
    refine List.pairwise_mergeSort (fun a b c h1 h2 => ?_) (fun a b => ?_) _
    · simp only [Bool.not_eq_true'] at h1 h2 ⊢
      cases e : PySem.W.dataLt (kD c.1) (kD a.1) with
      | false => rfl
      | true =>
        by_cases h3 : PySem.W.dataLt (kD b.1) (kD c.1) = true
        · have := PyProof.Rows.lex_trans _ _ _ h3 e
          rw [show PyProof.Rows.lexLt PyProof.Rows.itemOrd _ _ = PySem.W.dataLt (kD b.1) (kD a.1) from rfl, h1] at this
          cases this
        · have h3 : PySem.W.dataLt (kD b.1) (kD c.1) = false := by simpa using h3
          have e2 := PyProof.Rows.lex_total _ _ h2 h3
          have : PySem.W.dataLt (kD c.1) (kD a.1) = PySem.W.dataLt (kD b.1) (kD a.1) := by unfold PySem.W.dataLt; rw [e2]
          rw [this, h1] at e; cases e
    · cases e : PySem.W.dataLt (kD b.1) (kD a.1) with
      | false => rfl
      | true =>
        cases e2 : PySem.W.dataLt (kD a.1) (kD b.1) with
        | false => rfl
        | true =>
          have := PyProof.Rows.lex_trans _ _ _ e e2
          rw [PyProof.Rows.lex_irrefl] at this
          cases this
  have N : (kvs.mergeSort fun a b => !(PySem.W.dataLt (kD b.1) (kD a.1))).Pairwise fun a b => a.1 ≠ b.1 := by
    have : ((kvs.mergeSort fun a b => !(PySem.W.dataLt (kD b.1) (kD a.1))).map (·.1)).Nodup := (P.map _).nodup_iff.mpr n
    exact List.pairwise_map.mp this
  refine (S.and N).imp_of_mem fun {a b} ha hb ⟨h1, h2⟩ => ?_
  obtain ⟨k, i, l, ea⟩ := h a (P.mem_iff.mp ha)
  obtain ⟨k', i', l', eb⟩ := h b (P.mem_iff.mp hb)
  rw [ea, eb] at h1 h2 ⊢
  rw [kD_v, kD_v, v_lt] at h1 ⊢
  unfold vLt at h1 ⊢
  have ne : ¬ (k = k' ∧ i = i' ∧ l = l') := fun ⟨e1, e2, e3⟩ => h2 (by rw [e1, e2, e3])
  simp only [Bool.not_eq_true', decide_eq_false_iff_not, decide_eq_true_eq] at h1 ⊢
  omega
end Mus

set_option maxRecDepth 100000
set_option maxHeartbeats 4000000
/-! in, not in: data in a list or a tuple of data. -/
namespace Mus
open PySem PySem.Spec PyProof.Rows L2
def rInDD (K : PySem.W.Frag) (f : Bool → Bool) : R2 := fun x y H Q => ∃ d ds, Dp K H x d ∧ (Dp K H y (.list ds) ∨ Dp K H y (.tuple ds)) ∧ d.canLay0 = true ∧ PyData.canLayAll0 ds = true ∧ d.depth ≤ 20 ∧ Q (.bl (f (ds.any fun z => PyData.eqv z d))) H
section
variable {X : Cx}
theorem op_inDD (hu : X.A.units + 64 < cLine) : OpR X (compareOp .In) (rInDD X.K id) := by
  intro pins s σ H x y v u Q I rx ry h
  obtain ⟨d, ds, hd, hs, cd, cs, dp, q⟩ := h
  obtain ⟨as, r1⟩ := Dp.reads I d x v hd rx
  have hr : X.A.units + 1 + min (PyData.depthAll ds) d.depth < cLine := by
    have : min (PyData.depthAll ds) d.depth ≤ d.depth := Nat.min_le_right _ _
    omega
  rcases hs with hs | hs
  · obtain ⟨bs, r2⟩ := Dp.reads I _ y u hs ry
    exact SeqAt.in_list_reads r2 r1 cs cd hr ⟨.bl _, H, I, rfl, q⟩
  · obtain ⟨bs, r2⟩ := Dp.reads I _ y u hs ry
    exact SeqAt.in_tuple_reads r2 r1 cs cd hr ⟨.bl _, H, I, rfl, q⟩
theorem op_notInDD (hu : X.A.units + 64 < cLine) : OpR X (compareOp .NotIn) (rInDD X.K not) := by
  intro pins s σ H x y v u Q I rx ry h
  obtain ⟨d, ds, hd, hs, cd, cs, dp, q⟩ := h
  obtain ⟨as, r1⟩ := Dp.reads I d x v hd rx
  have hr : X.A.units + 1 + min (PyData.depthAll ds) d.depth < cLine := by
    have : min (PyData.depthAll ds) d.depth ≤ d.depth := Nat.min_le_right _ _
    omega
  rcases hs with hs | hs
  · obtain ⟨bs, r2⟩ := Dp.reads I _ y u hs ry
    exact SeqAt.notIn_list_reads r2 r1 cs cd hr ⟨.bl _, H, I, rfl, q⟩
  · obtain ⟨bs, r2⟩ := Dp.reads I _ y u hs ry
    exact SeqAt.notIn_tuple_reads r2 r1 cs cd hr ⟨.bl _, H, I, rfl, q⟩
end
end Mus

set_option maxRecDepth 100000
set_option maxHeartbeats 4000000
/-! Data without lists, wherever it stands; frames: what a call may have changed. -/
namespace Mus
open PySem PySem.Spec PyProof.Rows L2
mutual
inductive TD (H : Hp) : V → PyData → Prop
  | non : TD H .non .none
  | bl (b : Bool) : TD H (.bl b) (.bool b)
  | int (i : Int) : TD H (.int i) (.int i)
  | str (x : Str) : TD H (.str x) (.str x)
  | tup {a : Addr} {xs : List V} {ds : List PyData} : H a = some (.tup xs) → xs.length ≤ 100000 → TDs H xs ds → TD H (.ref a) (.tuple ds)
inductive TDs (H : Hp) : List V → List PyData → Prop
  | nil : TDs H [] []
  | cons {v : V} {vs : List V} {d : PyData} {ds : List PyData} : TD H v d → TDs H vs ds → TDs H (v :: vs) (d :: ds)
end
/-- tuples stay -/
def TupK (H H' : Hp) : Prop := ∀ b xs, H b = some (.tup xs) → H' b = some (.tup xs)
theorem TupK.refl (H : Hp) : TupK H H := fun _ _ h => h
theorem TupK.trans {H H1 H2 : Hp} (a : TupK H H1) (b : TupK H1 H2) : TupK H H2 := fun c xs h => b c xs (a c xs h)
theorem TupK.of {H H' : Hp} (s : Same H H') : TupK H H' := fun b xs h => s b _ h
theorem tupK_upd {H : Hp} {D : Addr} {o : HO} (h : ∀ xs, H D ≠ some (.tup xs)) : TupK H (upd H D o) := fun b xs e => by
  rw [upd_ne fun z => h xs (by rw [← z]; exact e)]; exact e
mutual
theorem TD.mono {H H' : Hp} (k : TupK H H') : ∀ {v : V} {d : PyData}, TD H v d → TD H' v d
  | _, _, .non => .non
  | _, _, .bl b => .bl b
  | _, _, .int i => .int i
  | _, _, .str x => .str x
  | _, _, .tup h l r => .tup (k _ _ h) l (r.mono k)
theorem TDs.mono {H H' : Hp} (k : TupK H H') : ∀ {vs : List V} {ds : List PyData}, TDs H vs ds → TDs H' vs ds
  | _, _, .nil => .nil
  | _, _, .cons a r => .cons (a.mono k) (r.mono k)
end
theorem TD.same {H H' : Hp} {v : V} {d : PyData} (h : TD H v d) (s : Same H H') : TD H' v d := h.mono (TupK.of s)
theorem TDs.same {H H' : Hp} {vs : List V} {ds : List PyData} (h : TDs H vs ds) (s : Same H H') : TDs H' vs ds := h.mono (TupK.of s)
mutual
theorem TD.dp {K : PySem.W.Frag} {H : Hp} : ∀ {v : V} {d : PyData}, TD H v d → Dp K H v d
  | _, _, .non => .non
  | _, _, .bl b => .bl b
  | _, _, .int i => .int i
  | _, _, .str x => .str x
  | _, _, .tup h _ r => .tup (SqT.of h) r.dp
theorem TDs.dp {K : PySem.W.Frag} {H : Hp} : ∀ {vs : List V} {ds : List PyData}, TDs H vs ds → DpAll K H vs ds
  | _, _, .nil => .nil
  | _, _, .cons a r => .cons a.dp r.dp
end
mutual
/-- none of it at p, where no tuple stands -/
theorem TD.rp {p : Addr} {H : Hp} (hp : ∀ xs, H p ≠ some (.tup xs)) : ∀ {v : V} {d : PyData}, TD H v d → Rp p H v d
  | _, _, .non => .non
  | _, _, .bl b => .bl b
  | _, _, .int i => .int i
  | _, _, .str x => .str x
  | _, _, .tup h l r => .tup h (fun z => hp _ (z ▸ h)) l (r.rp hp)
theorem TDs.rp {p : Addr} {H : Hp} (hp : ∀ xs, H p ≠ some (.tup xs)) : ∀ {vs : List V} {ds : List PyData}, TDs H vs ds → Rps p H vs ds
  | _, _, .nil => .nil
  | _, _, .cons a r => .cons (a.rp hp) (r.rp hp)
end
theorem TDs.length {H : Hp} : ∀ {vs : List V} {ds : List PyData}, TDs H vs ds → vs.length = ds.length
  | _, _, .nil => rfl
  | _, _, .cons _ r => congrArg (· + 1) r.length
theorem TDs.append {H : Hp} : ∀ {vs : List V} {ds : List PyData} {us : List V} {es : List PyData}, TDs H vs ds → TDs H us es → TDs H (vs ++ us) (ds ++ es)
  | _, _, _, _, .nil, r => r
  | _, _, _, _, .cons a b, r => .cons a (b.append r)
theorem TDs.at {H : Hp} : ∀ {vs : List V} {ds : List PyData} {i : Nat} {y : V}, TDs H vs ds → vs[i]? = some y → ∃ d, ds[i]? = some d ∧ TD H y d
  | _, _, _, _, .nil, h => by cases h
  | _, _, 0, _, .cons a b, h => by cases h; exact ⟨_, rfl, a⟩
  | _, _, i + 1, _, .cons a b, h => b.at (i := i) h
theorem TDs.get {H : Hp} : ∀ {vs : List V} {ds : List PyData} {i : Nat} {d : PyData}, TDs H vs ds → ds[i]? = some d → ∃ y, vs[i]? = some y ∧ TD H y d
  | _, _, _, _, .nil, h => by cases h
  | _, _, 0, _, .cons a b, h => by cases h; exact ⟨_, rfl, a⟩
  | _, _, i + 1, _, .cons a b, h => b.get (i := i) h
theorem TDs.take {H : Hp} : ∀ {vs : List V} {ds : List PyData} (n : Nat), TDs H vs ds → TDs H (vs.take n) (ds.take n)
  | _, _, 0, _ => .nil
  | _, _, n + 1, .nil => .nil
  | _, _, n + 1, .cons a q => .cons a (q.take n)
theorem TDs.drop {H : Hp} : ∀ {vs : List V} {ds : List PyData} (n : Nat), TDs H vs ds → TDs H (vs.drop n) (ds.drop n)
  | _, _, 0, r => r
  | _, _, n + 1, .nil => .nil
  | _, _, n + 1, .cons a q => q.drop n
theorem TDs.cut {H : Hp} {vs : List V} {ds : List PyData} (r : TDs H vs ds) (lo hi : Option Int) : TDs H (cutV vs lo hi) (cutD ds lo hi) := by
  unfold cutV cutD
  rw [r.length]
  exact (r.drop _).take _
/-! ### frames -/
/-- of what stood in H all but what is at fp is as it was; fp' is of fp or new; tuples stay -/
structure Fr (fp fp' : List Addr) (H H' : Hp) : Prop where
  k : ∀ b o, H b = some o → b ∉ fp → H' b = some o
  n : ∀ b ∈ fp', b ∈ fp ∨ H b = none
  t : TupK H H'
  s : ∀ b, H' b = none → H b = none
theorem Fr.refl (fp : List Addr) (H : Hp) : Fr fp fp H H := ⟨fun _ _ h _ => h, fun _ h => .inl h, TupK.refl H, fun _ h => h⟩
theorem Fr.of {fp : List Addr} {H H' : Hp} (s : Same H H') : Fr fp fp H H' := ⟨fun b o h _ => s b o h, fun _ h => .inl h, TupK.of s, fun b h => by
  cases e : H b with
  | none => rfl
  | some o => rw [s b o e] at h; cases h⟩
theorem Fr.trans {fp fp1 fp2 : List Addr} {H H1 H2 : Hp} (a : Fr fp fp1 H H1) (b : Fr fp1 fp2 H1 H2) : Fr fp fp2 H H2 := by
  refine ⟨fun c o h n => b.k c o (a.k c o h n) fun m => ?_, fun c m => ?_, a.t.trans b.t, fun c h => a.s c (b.s c h)⟩
  · rcases a.n c m with z | z
    · exact n z
    · rw [h] at z; cases z
  · rcases b.n c m with z | z
    · exact a.n c z
    · by_cases q : c ∈ fp
      · exact .inl q
      · cases e : H c with
        | none => exact .inr rfl
        | some o => rw [a.k c o e q] at z; cases z
theorem Fr.same {fp : List Addr} {H H' : Hp} (f : Fr [] fp H H') : Same H H' := fun b o h => f.k b o h List.not_mem_nil
theorem fr_upd {fp : List Addr} {H : Hp} {p : Addr} {o0 o : HO} (hp : p ∈ fp) (ho : H p = some o0) (nt : ∀ xs, o0 ≠ .tup xs) : Fr fp fp H (upd H p o) :=
  ⟨fun b u e n => by rw [upd_ne (show b ≠ p from fun z => n (by rw [z]; exact hp))]; exact e, fun _ h => .inl h, tupK_upd fun xs e => nt xs (Option.some.inj (ho.symm.trans e)), fun b h => by
    by_cases z : b = p
    · rw [z, upd_same] at h; cases h
    · rwa [upd_ne z] at h⟩
theorem fr_new {fp : List Addr} {H : Hp} {p : Addr} {o : HO} (ho : H p = none) : Fr fp (p :: fp) H (upd H p o) :=
  ⟨fun b u e n => by rw [upd_ne (ne_of_none e ho)]; exact e, fun b h => by
    rcases List.mem_cons.mp h with rfl | h
    · exact .inr ho
    · exact .inl h, tupK_upd fun xs e => (by rw [ho] at e; cases e), fun b h => by
    by_cases z : b = p
    · rw [z, upd_same] at h; cases h
    · rwa [upd_ne z] at h⟩
theorem Fr.sub {fp fp1 fp2 : List Addr} {H H' : Hp} (f : Fr fp fp1 H H') (h : ∀ b ∈ fp2, b ∈ fp1) : Fr fp fp2 H H' := ⟨f.k, fun b m => f.n b (h b m), f.t, f.s⟩
theorem Fr.wide {fp fp0 fp1 : List Addr} {H H' : Hp} (f : Fr fp fp1 H H') (h : ∀ b ∈ fp, b ∈ fp0) : Fr fp0 (fp0 ++ fp1) H H' :=
  ⟨fun b o e n => f.k b o e fun m => n (h b m), fun b m => by
    rcases List.mem_append.mp m with m | m
    · exact .inl m
    · exact (f.n b m).imp (h b) id, f.t, f.s⟩
/-! ### members, ids, messages -/
abbrev Mem := Int × Int
abbrev Vid := Int × Mem
abbrev Msg := Mem × Int × Str
abbrev Cst := Int × Str
def eM (m : Mem) : PyData := .tuple [.int m.1, .int m.2]
def eV (v : Vid) : PyData := .tuple [.int v.1, eM v.2]
def eG (g : Msg) : PyData := .tuple [eM g.1, .int g.2.1, .str g.2.2]
def eC (c : Cst) : PyData := .tuple [.int c.1, .str c.2]
def eMs (ms : List Mem) : PyData := .tuple (ms.map eM)
def kM (m : Mem) : NestedKey := .tup [.num m.1, .num m.2]
theorem kM_inj {a b : Mem} (h : kM a = kM b) : a = b := by
  injection h with h
  injection h with h1 h2
  injection h1 with h1
  injection h2 with h2 _
  injection h2 with h2
  exact Prod.ext h1 h2
theorem kM_depth (m : Mem) : (kM m).depth ≤ 8 := by simp [kM, NestedKey.depth, NestedKey.depthAll]
theorem TD.mem {H : Hp} {v : V} {m : Mem} (h : TD H v (eM m)) : ∃ a, v = .ref a ∧ H a = some (.tup [.int m.1, .int m.2]) := by
  cases h with
  | tup h _ r =>
    obtain _ | ⟨h1, _ | ⟨h2, hn⟩⟩ := r
    cases hn; cases h1; cases h2
    exact ⟨_, rfl, h⟩
theorem TD.vid {H : Hp} {v : V} {m : Vid} (h : TD H v (eV m)) : ∃ a u, v = .ref a ∧ H a = some (.tup [.int m.1, u]) ∧ TD H u (eM m.2) := by
  cases h with
  | tup h _ r =>
    obtain _ | ⟨h1, _ | ⟨h2, hn⟩⟩ := r
    cases hn; cases h1
    exact ⟨_, _, rfl, h, h2⟩
theorem TD.msg {H : Hp} {v : V} {g : Msg} (h : TD H v (eG g)) : ∃ a u, v = .ref a ∧ H a = some (.tup [u, .int g.2.1, .str g.2.2]) ∧ TD H u (eM g.1) := by
  cases h with
  | tup h _ r =>
    obtain _ | ⟨h1, _ | ⟨h2, _ | ⟨h3, hn⟩⟩⟩ := r
    cases hn; cases h2; cases h3
    exact ⟨_, _, rfl, h, h1⟩
theorem TD.cst {H : Hp} {v : V} {c : Cst} (h : TD H v (eC c)) : ∃ a, v = .ref a ∧ H a = some (.tup [.int c.1, .str c.2]) := by
  cases h with
  | tup h _ r =>
    obtain _ | ⟨h1, _ | ⟨h2, hn⟩⟩ := r
    cases hn; cases h1; cases h2
    exact ⟨_, rfl, h⟩
theorem td_mem {H : Hp} {a : Addr} {m : Mem} (h : H a = some (.tup [.int m.1, .int m.2])) : TD H (.ref a) (eM m) := .tup h (by show 2 ≤ 100000; decide) (.cons (.int _) (.cons (.int _) .nil))
theorem td_msg {H : Hp} {a : Addr} {u : V} {g : Msg} (h : H a = some (.tup [u, .int g.2.1, .str g.2.2])) (hu : TD H u (eM g.1)) : TD H (.ref a) (eG g) := .tup h (by show 3 ≤ 100000; decide) (.cons hu (.cons (.int _) (.cons (.str _) .nil)))
theorem td_cst {H : Hp} {a : Addr} {c : Cst} (h : H a = some (.tup [.int c.1, .str c.2])) : TD H (.ref a) (eC c) := .tup h (by show 2 ≤ 100000; decide) (.cons (.int _) (.cons (.str _) .nil))
theorem TD.nk {H : Hp} {v : V} {m : Mem} (h : TD H v (eM m)) : ∃ a, v = .ref a ∧ NK H (.ref a) (kM m) := by
  obtain ⟨a, rfl, h2⟩ := h.mem
  exact ⟨a, rfl, .tup h2 (.cons (.int _) (.cons (.int _) .nil))⟩
theorem eM_eqv (a b : Mem) : PyData.eqv (eM a) (eM b) = decide (a = b) := by
  show (decide (a.1 = b.1) && (decide (a.2 = b.2) && true)) = _
  rw [Bool.and_true, ← Bool.decide_and]
  exact decide_eq_decide.mpr ⟨fun h => Prod.ext h.1 h.2, fun h => by rw [h]; exact ⟨rfl, rfl⟩⟩
theorem eV_eqv (a b : Vid) : PyData.eqv (eV a) (eV b) = decide (a = b) := by
  show (decide (a.1 = b.1) && (PyData.eqv (eM a.2) (eM b.2) && true)) = _
  rw [Bool.and_true, eM_eqv, ← Bool.decide_and]
  exact decide_eq_decide.mpr ⟨fun h => Prod.ext h.1 h.2, fun h => by rw [h]; exact ⟨rfl, rfl⟩⟩
theorem eM_lay (m : Mem) : (eM m).canLay0 = true ∧ (eM m).depth = 1 ∧ SeqAt.shaped (eM m) = true := by
  refine ⟨rfl, by simp [eM, PyData.depth, PyData.depthAll], ?_⟩
  simp [eM, SeqAt.shaped, PyData.canLay0, PyData.canLayAll0, PyData.depth, PyData.depthAll]
theorem eV_lay (v : Vid) : (eV v).canLay0 = true ∧ (eV v).depth = 2 ∧ SeqAt.shaped (eV v) = true := by
  refine ⟨rfl, by simp [eV, eM, PyData.depth, PyData.depthAll], ?_⟩
  simp [eV, eM, SeqAt.shaped, PyData.canLay0, PyData.canLayAll0, PyData.depth, PyData.depthAll]
theorem eMs_lay : ∀ ms : List Mem, PyData.canLayAll0 (ms.map eM) = true
  | [] => rfl
  | m :: ms => by show ((eM m).canLay0 && PyData.canLayAll0 (ms.map eM)) = true; rw [(eM_lay m).1, eMs_lay ms]; rfl
theorem eMs_any (ms : List Mem) (m : Mem) : ((ms.map eM).any fun z => PyData.eqv z (eM m)) = decide (m ∈ ms) := by
  rw [List.any_map, Bool.eq_iff_iff, List.any_eq_true, decide_eq_true_eq]
  constructor
  · rintro ⟨x, hx, h⟩
    have h : decide (x = m) = true := by rw [← eM_eqv]; exact h
    rw [← of_decide_eq_true h]; exact hx
  · intro h
    exact ⟨m, h, by show PyData.eqv (eM m) (eM m) = true; rw [eM_eqv]; simp⟩
section
variable {K : PySem.W.Frag} {H : Hp} {x y : V} {a b : Mem} {Q : VK}
theorem rd_eqM (hx : TD H x (eM a)) (hy : TD H y (eM b)) (q : Q (.bl (decide (a = b))) H) : rEqD K x y H Q :=
  ⟨_, _, hx.dp, hy.dp, (eM_lay a).2.2, (eM_lay b).2.2, by rw [eM_eqv]; exact q⟩
theorem rd_neM (hx : TD H x (eM a)) (hy : TD H y (eM b)) (q : Q (.bl (!decide (a = b))) H) : rNeD K x y H Q :=
  ⟨_, _, hx.dp, hy.dp, (eM_lay a).2.2, (eM_lay b).2.2, by rw [eM_eqv]; exact q⟩
theorem rd_neV {a b : Vid} (hx : TD H x (eV a)) (hy : TD H y (eV b)) (q : Q (.bl (!decide (a = b))) H) : rNeD K x y H Q :=
  ⟨_, _, hx.dp, hy.dp, (eV_lay a).2.2, (eV_lay b).2.2, by rw [eV_eqv]; exact q⟩
theorem rd_eqV {a b : Vid} (hx : TD H x (eV a)) (hy : TD H y (eV b)) (q : Q (.bl (decide (a = b))) H) : rEqD K x y H Q :=
  ⟨_, _, hx.dp, hy.dp, (eV_lay a).2.2, (eV_lay b).2.2, by rw [eV_eqv]; exact q⟩
theorem rd_inMs {ms : List Mem} {f : Bool → Bool} (hx : TD H x (eM a)) (hy : TD H y (eMs ms)) (q : Q (.bl (f (decide (a ∈ ms)))) H) : rInDD K f x y H Q :=
  ⟨_, _, hx.dp, .inr hy.dp, (eM_lay a).1, eMs_lay ms, by rw [(eM_lay a).2.1]; decide, by rw [eMs_any]; exact q⟩
theorem rd_inMl {ms : List Mem} {l : Addr} {vs : List V} {f : Bool → Bool} (hx : TD H x (eM a)) (hl : H l = some (.lst vs)) (hv : TDs H vs (ms.map eM)) (q : Q (.bl (f (decide (a ∈ ms)))) H) : rInDD K f x (.ref l) H Q :=
  ⟨_, _, hx.dp, .inl (.lst (SqL.of hl) hv.dp), (eM_lay a).1, eMs_lay ms, by rw [(eM_lay a).2.1]; decide, by rw [eMs_any]; exact q⟩
end
end Mus

set_option maxRecDepth 100000
set_option maxHeartbeats 4000000
/-! Methods and makers of own classes, as DefOk is for defs. -/
namespace Mus
open PySem L2
structure MethOk (P : Program) (w : World) (K : PySem.W.Frag) (mg : Str → Option Value) (base : Heap) (CX : CXT) (C : Addr) (x : Str) (ps : List Str) (k : Nat) (sp : Sp) where
  f : Addr
  fd : FuncData
  G : FnOk P w K mg base CX k f fd ps sp
  m : Meth K C x f
  b : Binds K fd ps []
structure MethAt (K : PySem.W.Frag) (C : Addr) (x qual : Str) (ps : List Str) (st : Stmt) where
  f : Addr
  fd : FuncData
  F : Fun K x qual st f fd
  m : Meth K C x f
  b : Binds K fd ps []
def MethAt.ok {P : Program} {w : World} {K : PySem.W.Frag} {mg : Str → Option Value} {base : Heap} {CX : CXT} {C : Addr} {x qual : Str} {ps : List Str} {st : Stmt} {k : Nat} {sp : Sp} (d : MethAt K C x qual ps st) (h : ∀ {f : Addr} {fd : FuncData}, Fun K x qual st f fd → FnOk P w K mg base CX k f fd ps sp) : MethOk P w K mg base CX C x ps k sp :=
  ⟨d.f, d.fd, h d.F, d.m, d.b⟩
/-- a class whose __init__ keeps the promise -/
structure MkOk (P : Program) (w : World) (K : PySem.W.Frag) (mg : Str → Option Value) (base : Heap) (C : Addr) (x : Str) (ps : List Str) (k : Nat) (sp : Sp) where
  f : Addr
  fd : FuncData
  G : FnOk P w K mg base CX0 k f fd ps sp
  M : Mk K C f
  g : mg x = some (.ref C)
  b : Binds K fd ps []
def MethAt.mk' {P : Program} {w : World} {K : PySem.W.Frag} {mg : Str → Option Value} {base : Heap} {C : Addr} {x : Str} {qual : Str} {ps : List Str} {st : Stmt} {k : Nat} {sp : Sp} (d : MethAt K C "__init__" qual ps st) (hm : PySem.W.makesIn K C = true) (hk : PySem.W.keepIn K (.ref C) = true) (g : mg x = some (.ref C))
    (h : ∀ {f : Addr} {fd : FuncData}, Fun K "__init__" qual st f fd → FnOk P w K mg base CX0 k f fd ps sp) : MkOk P w K mg base C x ps k sp :=
  ⟨d.f, d.fd, h d.F, ⟨hm, d.m.at_, d.m.fn, hk⟩, g, d.b⟩
section
variable {X : Cx} {C : Addr} {x m : Str} {ps : List Str} {j k : Nat} {sp : Sp} {o e : Expr} {es : List Expr} {to : TE} {t : TA} {p pos apos : Pos}
theorem pmeth {pl : Sem Bool} (c : MethOk X.prog X.w X.K X.mg X.base CX0 C m ps j sp) (cl : Cls X.K C) (ho : PE X o to) (hr : Room k X.A) (ha : PA X (e :: es) t) (hj : j ≤ k := by first | decide | omega)
    (st0 : starEach (e :: es) X.env = (false, eval e X.env) :: starEach es X.env := by rfl) (pl0 : (backTo pos (starEach es X.env)).any (·.1) = false := by rfl)
    (ht : eval (.Call (.Attribute o m apos) (e :: es) [] pos) X.env = (do
      let v ← eval o X.env; standAt apos.atName; let (f, one) ← holding [v] (getMethod v m pl)
      callWith pos f one (backTo pos (starEach (e :: es) X.env)) (backToKw pos (keywordEach [] X.env))) := by rfl) :
    PE X (.Call (.Attribute o m apos) (e :: es) [] pos) (tMeth C m sp [] E0 to t) := pe_meth ho cl c.m c.G (hr.mono hj) c.b .nil pass0 ha st0 pl0 ht
theorem pmeth0 {pl : Sem Bool} (c : MethOk X.prog X.w X.K X.mg X.base CX0 C m ps j sp) (cl : Cls X.K C) (ho : PE X o to) (hr : Room k X.A) (hj : j ≤ k := by first | decide | omega)
    (ht : eval (.Call (.Attribute o m apos) [] [] pos) X.env = (do
      let v ← eval o X.env; standAt apos.atName; let (f, one) ← holding [v] (getMethod v m pl)
      callWith pos f one (backTo pos (starEach [] X.env)) (backToKw pos (keywordEach [] X.env))) := by rfl) :
    PE X (.Call (.Attribute o m apos) [] [] pos) (tMeth C m sp [] E0 to tNil) := pe_meth0 ho cl c.m c.G (hr.mono hj) c.b .nil pass0 ht
theorem pmake (c : MkOk X.prog X.w X.K X.mg X.base C x ps j sp) (hr : Room k X.A) (ha : PA X (e :: es) t) (hj : j + 1 ≤ k := by first | decide | omega) (hg : Gl X x := by rfl)
    (d0 : (x == ("__debug__" : Str)) = false := by decide) (st0 : starEach (e :: es) X.env = (false, eval e X.env) :: starEach es X.env := by rfl) (pl0 : (backTo pos (starEach es X.env)).any (·.1) = false := by rfl) :
    PE X (.Call (.Name x p) (e :: es) [] pos) (tMake C sp [] E0 t) := pe_make c.M c.G (hr.mono hj) hg c.g c.b .nil pass0 ha d0 st0 pl0
theorem pmake0 (c : MkOk X.prog X.w X.K X.mg X.base C x ps j sp) (hr : Room k X.A) (hj : j + 1 ≤ k := by first | decide | omega) (hg : Gl X x := by rfl) (d0 : (x == ("__debug__" : Str)) = false := by decide) :
    PE X (.Call (.Name x p) [] [] pos) (tMake C sp [] E0 tNil) := pe_make0 c.M c.G (hr.mono hj) hg c.g c.b .nil pass0 d0
end
end Mus

set_option maxRecDepth 100000
set_option maxHeartbeats 4000000
/-! enumerate of a list from a start: for i, x in enumerate(xs, start=n). -/
namespace Mus
open PySem PySem.Spec PyProof.Rows L2
/-- the pairs (k + i, the list's item i) -/
def ItK (K : PySem.W.Frag) (a : Addr) (k : Int) : It where
  go := fun i H => ∃ (xs : List V) (x : V), SqL K H a xs ∧ xs[i]? = some x
  yld := fun i H v H' => ∃ T x, v = .ref T ∧ H T = none ∧ H' = upd H T (.tup [.int (k + (i : Int)), x]) ∧ ∀ xs, SqL K H a xs → xs[i]? = some x
  stop := fun i H => ∃ xs : List V, SqL K H a xs ∧ xs.length = i
theorem turn_enK {P : Program} {w : World} {K : PySem.W.Frag} {elts : List Expr} {kk : Nat} {tpos : Pos} (k : Int) (a e it : Addr) :
    Turn P w K (.Tuple elts kk tpos) (ItK K a k) [e, it] e (fun i h => (∃ old, IsEnum h e it (k + (i : Int)) old) ∧ h.IsListIter it a i ∧ e ≠ it ∧ a ≠ it ∧ a ≠ e) where
  mem := by simp
  obj := fun i h st b hb => by
    obtain ⟨⟨old, he⟩, ⟨o, ho, hc, hd⟩, _⟩ := st
    rcases List.mem_cons.mp hb with z | z
    · rw [z]; exact ⟨_, he, fun v q => nomatch q⟩
    · exact ⟨o, List.mem_singleton.mp z ▸ ho, fun v q => by rw [hd] at q; cases q⟩
  keep := fun i h h' st k => by
    obtain ⟨⟨old, he⟩, hi, r⟩ := st
    exact ⟨⟨old, k e List.mem_cons_self _ he⟩, hi.at fun o q => k it (by simp) o q, r⟩
  item := by
    intro X hP hw hK hc i pins s σ H E I hf st hg
    subst hP hw hK
    obtain ⟨⟨old, he⟩, hit, hne, hai, hae⟩ := st
    obtain ⟨xs, x, hq, hx⟩ := hg
    obtain ⟨its, rv, p, hz⟩ := I.list hq
    obtain ⟨u, hu, ru⟩ := rv.get hx
    have lt : i < its.toArray.size := by simpa using (List.getElem?_eq_some_iff.mp hu).1
    refine wpAny_pyNext_enum_itemC (Draws.list (A := X.A.in1) (I.ok.hd hc) it a hai its.toArray) he ⟨hit, p.isList⟩ lt hne (by simp [hne, Ne.symm hae]) fun y h1 tk hy ho st1 hT hsz hk => ?_
    have ey : y = u := by
      have hy : its.toArray[i]? = some y := hy
      rw [List.getElem?_toArray, hu] at hy
      exact (Option.some.inj hy).symm
    subst ey
    refine ⟨_, rfl, wpAny_letOwnedTupleGo_enum (s := { s with heap := h1, toks := tk + 1 }) ho fun h2 he2 sb => ?_⟩
    have hel := Heap.lt_size he
    have hT2 := (sb.2 s.heap.objs.size (Nat.ne_of_gt hel)).trans hT
    have new : ObjOk X.prog X.w (upd H s.heap.objs.size (.tup [.int (k + (i : Int)), x])) h2 s.heap.objs.size (.tup [.int (k + (i : Int)), x]) := ⟨by show 2 ≤ sizeLine; decide, [.int (k + (i : Int)) tk, y], .cons ⟨_, rfl⟩ (.cons ru .nil), ⟨_, hT2, rfl, _, rfl⟩⟩
    have I1 : Inv X pins σ (upd H s.heap.objs.size (.tup [.int (k + (i : Int)), x])) { s with heap := h2, toks := tk + 1 } :=
      I.turnedNew (ch := [e, it]) (fun b ob hb q => by
        have n1 : b ≠ e := fun z => hb (by simp [z])
        have n2 : b ≠ it := fun z => hb (by simp [z])
        exact (sb.2 b n1).trans (hk b ob n1 n2 q)) hf (Nat.le_refl _) new
    have hfr : H s.heap.objs.size = none := I.hok.fresh (Nat.le_refl _)
    have ei : k + (i : Int) + 1 = k + ((i + 1 : Nat) : Int) := by omega
    rw [ei] at he2
    refine ⟨.ref s.heap.objs.size, _, I1, rfl, ⟨_, x, rfl, hfr, rfl, fun ys hy => by rw [I.list_inj hy hq]; exact hx⟩, ⟨⟨y, he2⟩, st1.1.at fun o q => (sb.2 it (Ne.symm hne)).trans q, hne, hai, hae⟩, fun b hb => ?_⟩
    have hb0 := (hf b hb).1
    rw [upd_ne]
    · exact hb0
    · intro z
      have hl : b < s.heap.objs.size := by
        rcases List.mem_cons.mp hb with z | z
        · rw [z]; exact hel
        · obtain ⟨o, q, _⟩ := hit
          rw [List.mem_singleton.mp z]; exact Heap.lt_size q
      exact Nat.ne_of_lt hl z
  done := by
    intro X hP hw hK hc i pins s σ H E I hf st hg
    subst hP hw hK
    obtain ⟨⟨old, he⟩, hit, hne, hai, hae⟩ := st
    obtain ⟨xs, hq, hx⟩ := hg
    obtain ⟨its, rv, p, hz⟩ := I.list hq
    have hl := rv.length
    have ei : i = its.toArray.size := by rw [← hx, hl]; rfl
    subst ei
    obtain ⟨f0, f1, f2, f3, f4, f5⟩ := hf it (by simp)
    exact wpAny_pyNext_enum_endD (Draws.list (A := X.A.in1) (I.ok.hd hc) it a hai its.toArray) he ⟨hit, p.isList⟩ fun h1 eb => ⟨rfl, I.turned (t' := s.toks) (fun b o hb q => eb b o hb q) f0 f1 f3 f4 f5⟩
  self := fun A i s Q E st h => by
    obtain ⟨⟨_, he⟩, _⟩ := st
    exact wpAny_pyIter_enum he h
theorem callWith_typeK {M : Model} {env : Env} {A : Around} {E : Value → Shared → Prop} {s : Shared} {pos : Pos} {T : String} {e : Expr} {rest : List Expr} {kws : List Keyword} {Q : Value → Shared → Prop}
    (h : wpAny M A (spliced (backTo pos (starEach (e :: rest) env))) (fun vs s₁ => wpAny M A (evalAll ((backToKw pos (keywordEach kws env)).map (·.2)))
      (fun kvs s₂ => wpAny M A (call (.type T) vs (((backToKw pos (keywordEach kws env)).filterMap (·.1)).zip kvs)) Q E s₂) E s₁) E s)
    (he : backTo pos (starEach (e :: rest) env) = (false, eval e env) :: backTo pos (starEach rest env) := by rfl)
    (hplain : (backTo pos (starEach (e :: rest) env)).any (·.1) = false := by rfl)
    (hall : (backToKw pos (keywordEach kws env)).all (·.1.isSome) = true := by rfl)
    (hkw : (backToKw pos (keywordEach kws env)).any (·.1.isNone) = false := by rfl) :
    wpAny M A (callWith pos (.type T) [] (backTo pos (starEach (e :: rest) env)) (backToKw pos (keywordEach kws env))) Q E s := by
  have g : wpAny M A (evalArgs (.type T) true (backTo pos (starEach (e :: rest) env)) (backToKw pos (keywordEach kws env))) (fun a s₁ => wpAny M A (call (.type T) ([] ++ a.pos) a.kw) Q E s₁) E s := by
    rw [he] at h ⊢
    exact evalArgs_kwB hall h
  unfold callWith
  refine wpAny_bind (wpAny_holding (wpAny_mono g (fun a s₁ h₁ => wpAny_bind (wpAny_standAt ?_)) fun _ _ x => x))
  simp only [hplain, hkw, Bool.or_false]
  refine wpAny_bind (wpAny_pure ?_)
  exact wpAny_bind (wpAny_mono h₁ (fun r s₂ hr => wpAny_bind (wpAny_holding (wpAny_point (wpAny_pure hr)))) fun _ _ x => x)
def iEnK (K : PySem.W.Frag) (ta tk : TA) : TI := fun σ H R => ta σ H fun vs H1 => tk σ H1 fun zs H2 => ∃ a xs k, vs = [.ref a] ∧ zs = [.int k] ∧ SqL K H2 a xs ∧ 0 ≤ k ∧ k < 2 ^ 62 ∧ R (ItK K a k) H2
theorem pi_enK {X : Cx} {e : Expr} {kws : List Keyword} {ta tk : TA} {p pos tpos : Pos} {elts : List Expr} {kk : Nat} (hg : Gl X "enumerate") (hm : X.mg "enumerate" = none) (ha : PA X [e] ta) (hk : PK X kws tk)
    (he : backTo pos (starEach [e] X.env) = (false, eval e X.env) :: backTo pos (starEach [] X.env) := by rfl) (hpl : (backTo pos (starEach [e] X.env)).any (·.1) = false := by rfl)
    (hall : (backToKw pos (keywordEach kws X.env)).all (·.1.isSome) = true := by rfl) (hnone : (backToKw pos (keywordEach kws X.env)).any (·.1.isNone) = false := by rfl) (hks : (backToKw pos (keywordEach kws X.env)).filterMap (·.1) = [Str.ofString "start"] := by rfl) :
    PI X (.Tuple elts kk tpos) (.Call (.Name "enumerate" p) [e] kws pos) (iEnK X.K ta tk) := by
  refine ⟨fun pins s σ H R I h => ?_⟩
  refine wpAny_Call_Name_kw (ld_blt I hg hm boot_enumerate (callWith_typeK (thn (ha.run pos pins s σ H _ I h) fun us s1 ⟨vs, H1, I1, r1, q1⟩ => thn (hk.run pos pins s1 σ H1 _ I1 q1) fun ws s2 ⟨zs, H2, I2, r2, q2⟩ => ?_) he hpl hall hnone))
  rw [hks]
  obtain ⟨a, xs, k, rfl, rfl, hq, k0, k1, q⟩ := q2
  obtain _ | ⟨r, _ | _⟩ := r1
  cases r
  obtain _ | ⟨r, _ | _⟩ := r2
  obtain ⟨t, rfl⟩ := (show ∃ t, _ = Value.int k t from r)
  obtain ⟨its, rv, p', hz⟩ := I2.list hq
  have p'' : s2.heap.IsList a its.toArray := p'.isList
  have la : a < s2.heap.objs.size := by
    obtain ⟨o, y, _⟩ := p''
    exact Heap.lt_size y
  refine enum_begins_start (begins_list a its.toArray) p'' (by omega) (by omega) fun h1 he' ho _ hk' => wpAny_pyIter_enum he' ?_
  have I3 : Inv X pins σ H2 { s2 with heap := h1 } := I2.kept (t' := s2.toks) hk'
  have e0 : k + ((0 : Nat) : Int) = k := by omega
  refine ⟨s2.heap.objs.size + 1, [s2.heap.objs.size + 1, s2.heap.objs.size], _, _, H2, rfl, I3, turn_enK k a (s2.heap.objs.size + 1) s2.heap.objs.size, ⟨⟨.none, by rw [e0]; exact he'⟩, ⟨_, ho, rfl, rfl⟩, Nat.succ_ne_self _, Nat.ne_of_lt la, Nat.ne_of_lt (Nat.lt_succ_of_lt la)⟩, fun b hb => ?_, q⟩
  have hle : s2.heap.objs.size ≤ b := by
    rcases List.mem_cons.mp hb with z | z
    · rw [z]; exact Nat.le_succ _
    · rw [List.mem_singleton.mp z]; exact Nat.le_refl _
  exact I2.fpOk hle (I2.hok.fresh hle)
theorem walk_enK {K : PySem.W.Frag} {a : Addr} {k : Int} {xs : List V} : Walk (ItK K a k) xs.length (fun H => SqL K H a xs) (YPair (fun i => some (.int (k + (i : Int)))) (fun i => xs[i]?)) where
  goes := fun i H hi h => ⟨xs, _, h, List.getElem?_eq_getElem hi⟩
  stops := fun H h => ⟨xs, h, rfl⟩
  yields := fun i H v H' hi h y => by
    obtain ⟨T, x, e1, e2, e3, e4⟩ := y
    exact ⟨T, _, x, e1, e2, e3, rfl, e4 xs h⟩
end Mus

set_option maxRecDepth 100000
set_option maxHeartbeats 4000000
namespace Mus
open PySem PySem.Spec PyProof.Rows L2
theorem valN_put {ks : NKV} {k k' : NestedKey} {b : Addr} {v : V} : valN (putN ks k b v) k' = if k' = k then some v else valN ks k' := by
  have rep : ∀ ks : NKV, (valN ks k).isSome → valN (ks.map fun x => if x.1 = k then (x.1, x.2.1, v) else x) k' = if k' = k then some v else valN ks k' := by
    intro ks
    induction ks with
    | nil => intro h; cases h
    | cons y ys ih =>
      intro h
      unfold valN at h ih ⊢
      rw [List.map_cons, List.find?_cons, List.find?_cons]
      rw [List.find?_cons] at h
      by_cases e : y.1 = k
      · simp only [e, if_true]
        by_cases e2 : k = k'
        · simp [e2]
        · have e3 : ¬ k' = k := fun z => e2 z.symm
          simp only [decide_eq_false e2, if_neg e3]
          have nomem : ∀ zs : NKV, (zs.map fun x => if x.1 = k then (x.1, x.2.1, v) else x).find? (fun x => decide (x.1 = k')) = zs.find? (fun x => decide (x.1 = k')) := by
            intro zs
            induction zs with
            | nil => rfl
            | cons z zs ih2 =>
              rw [List.map_cons, List.find?_cons, List.find?_cons]
              by_cases e4 : z.1 = k
              · simp [e4, e2, ih2]
              · simp [e4, ih2]
          rw [nomem]
      · simp only [e, if_false]
        simp only [e, decide_false] at h
        by_cases e2 : y.1 = k'
        · have e3 : ¬ k' = k := fun z => e (e2.trans z)
          simp [e2, e3]
        · simp only [decide_eq_false e2]
          exact ih h
  have app : ∀ ks : NKV, valN ks k = none → valN (ks ++ [(k, b, v)]) k' = if k' = k then some v else valN ks k' := by
    intro ks
    induction ks with
    | nil =>
      intro _
      unfold valN
      by_cases e : k' = k
      · simp [e]
      · have e3 : ¬ k = k' := fun z => e z.symm
        simp [e, e3]
    | cons y ys ih =>
      intro h
      unfold valN at h ih ⊢
      rw [List.find?_cons] at h
      rw [List.cons_append, List.find?_cons, List.find?_cons]
      by_cases e : y.1 = k
      · simp [e] at h
      · simp only [e, decide_false] at h
        by_cases e2 : y.1 = k'
        · have e3 : ¬ k' = k := fun z => e (e2.trans z)
          simp [e2, e3]
        · simp only [decide_eq_false e2]
          exact ih h
  unfold putN
  cases h : valN ks k with
  | none => simp only [Option.isSome_none]; exact app ks h
  | some x => simp only [Option.isSome_some, if_true]; exact rep ks (by rw [h]; rfl)
theorem putN_len' (ks : NKV) (k : NestedKey) (b : Addr) (v : V) : (putN ks k b v).length = if (valN ks k).isSome then ks.length else ks.length + 1 := by
  unfold putN
  split
  · rw [List.length_map]
  · rw [List.length_append]; rfl
end Mus

set_option maxRecDepth 100000
set_option maxHeartbeats 4000000
namespace Mus
open PySem PySem.Spec PyProof.Rows L2
/-! ### the order of a view, as a state -/
inductive Ltr
  | here (m : Mem) (v : Vid) (n : Int) (p : Vid)
  | cast (m : Mem) (v : Vid) (ix : Int) (z : Str)
  | order (m : Mem) (v : Vid) (place : Int) (g : Msg)
  | propose (m : Mem) (v : Vid) (ms : List Mem)
  | state (m : Mem) (v : Vid) (old : Vid) (log : List Msg) (pend : List Cst)
  | install (m : Mem) (v : Vid) (ms : List Mem) (fins : List (Vid × List Msg))
  | higher (m : Mem) (v : Vid) (p : Vid)
def eGs (gs : List Msg) : PyData := .tuple (gs.map eG)
def eCs (cs : List Cst) : PyData := .tuple (cs.map eC)
def eL : Ltr → PyData
  | .here m v n p => .tuple [.str "here", eM m, eV v, .int n, eV p]
  | .cast m v i z => .tuple [.str "cast", eM m, eV v, .int i, .str z]
  | .order m v i g => .tuple [.str "order", eM m, eV v, .int i, eG g]
  | .propose m v ms => .tuple [.str "propose", eM m, eV v, eMs ms]
  | .state m v o l c => .tuple [.str "state", eM m, eV v, eV o, eGs l, eCs c]
  | .install m v ms fs => .tuple [.str "install", eM m, eV v, eMs ms, .tuple (fs.map fun f => .tuple [eV f.1, eGs f.2])]
  | .higher m v p => .tuple [.str "higher", eM m, eV v, eV p]
abbrev Pkt := Int × Ltr
def ePk (k : Pkt) : PyData := .tuple [.int k.1, eL k.2]
structure OS where
  me : Mem
  vid : Vid
  mems : List Mem
  fd : Mem
  log : List Msg
  last : Mem → Option Int
  casts : Int
  pend : List Cst
  kept : Int → Option Msg
  kn : Nat
  told : Mem → Option Int
  tn : Nat
namespace OS
def new (me : Mem) (vid : Vid) (mems : List Mem) (fd : Mem) : OS := ⟨me, vid, mems, fd, [], fun _ => none, 0, [], fun _ => none, 0, fun _ => none, 0⟩
def others (s : OS) : List Mem := s.mems.filter fun m => !decide (m = s.me)
def deliver (s : OS) (g : Msg) : OS :=
  { s with log := s.log ++ [g], last := fun m => if m = g.1 then some g.2.1 else s.last m, pend := if g.1 = s.me then s.pend.filter (fun c => !decide (c.1 = g.2.1)) else s.pend }
/-- the letters that tell the message at the place -/
def ords (s : OS) (place : Int) (g : Msg) : List Pkt := s.others.map fun m => (m.1, .order s.me s.vid place g)
def decide (s : OS) (g : Msg) : OS × List Msg × List Pkt := (s.deliver g, [g], s.ords ((s.log.length : Int) + 1) g)
def castL (s : OS) (c : Cst) : Pkt := (s.fd.1, .cast s.me s.vid c.1 c.2)
def cast (s : OS) (z : Str) : OS × Int × List Msg × List Pkt :=
  let n := s.casts + 1
  if s.me = s.fd then
    let r := ({ s with casts := n }).decide (s.me, n, z)
    (r.1, n, r.2.1, r.2.2)
  else ({ s with casts := n, pend := s.pend ++ [(n, z)] }, n, [], [s.castL (n, z)])
def takeCast (s : OS) (m : Mem) (v : Vid) (i : Int) (z : Str) : OS × List Msg × List Pkt :=
  if s.me ≠ s.fd ∨ v ≠ s.vid ∨ m ∉ s.others then (s, [], [])
  else if i ≠ (s.last m).getD 0 + 1 then (s, [], [])
  else s.decide (m, i, z)
def drop (s : OS) (i : Int) : OS := { s with kept := fun j => if j = i then none else s.kept j, kn := s.kn - 1 }
/-- deliver what is next, as long as it is there; at most n times -/
def flush : Nat → OS → OS × List Msg
  | 0, s => (s, [])
  | n + 1, s => match s.kept ((s.log.length : Int) + 1) with
    | none => (s, [])
    | some g => let r := flush n ((s.drop ((s.log.length : Int) + 1)).deliver g); (r.1, g :: r.2)
def keep (s : OS) (i : Int) (g : Msg) : OS := if i > (s.log.length : Int) ∧ s.kept i = none then { s with kept := fun j => if j = i then some g else s.kept j, kn := s.kn + 1 } else s
def takeOrder (s : OS) (m : Mem) (v : Vid) (i : Int) (g : Msg) : OS × List Msg :=
  if s.me = s.fd ∨ m ≠ s.fd ∨ v ≠ s.vid then (s, []) else flush (s.keep i g).kn (s.keep i g)
def heard (s : OS) (m : Mem) (n : Int) : OS :=
  if m ∈ s.mems then { s with told := fun x => if x = m then some (if (s.told m).getD 0 > n then (s.told m).getD 0 else n) else s.told x, tn := if (s.told m).isSome then s.tn else s.tn + 1 } else s
def behind (s : OS) (m : Mem) : List Pkt :=
  let t := ((s.told m).getD 0).toNat
  ((s.log.drop t).take 16).mapIdx fun j g => (m.1, .order s.me s.vid (((s.told m).getD 0) + 1 + (j : Int)) g)
def again (s : OS) : List Pkt := if s.me ≠ s.fd then (s.pend.take 16).map s.castL else (s.others.map s.behind).flatten
end OS
/-! ### how it stands in the heap -/
def oF (vme vvid vms vfd : V) (lg li : Addr) (c : Int) (pn kp tl : Addr) : List (Str × V) :=
  [("_me", vme), ("_view_id", vvid), ("_members", vms), ("_founder", vfd), ("_log", .ref lg), ("_last_indexes", .ref li), ("_casts", .int c), ("_pending", .ref pn), ("_kept", .ref kp), ("_told", .ref tl)]
structure OA where
  dx : Addr
  vme : V
  vvid : V
  vms : V
  vfd : V
  lg : Addr
  li : Addr
  pn : Addr
  kp : Addr
  tl : Addr
def OA.fp (a : OA) (p : Addr) : List Addr := [p, a.lg, a.li, a.pn, a.kp, a.tl]
def KpAt (H : Hp) : Option V → Option Msg → Prop
  | none, none => True
  | some v, some g => TD H v (eG g)
  | _, _ => False
theorem KpAt.mono {H H' : Hp} {v : Option V} {g : Option Msg} (h : KpAt H v g) (t : TupK H H') : KpAt H' v g := by
  cases v <;> cases g <;> first | exact h | exact TD.mono t h
/-- a list of data at l -/
def LstAt (H : Hp) (l : Addr) (ds : List PyData) : Prop := ∃ vs, H l = some (.lst vs) ∧ TDs H vs ds
theorem LstAt.mono {H H' : Hp} {l : Addr} {ds : List PyData} (h : LstAt H l ds) (e : ∀ o, H l = some o → H' l = some o) (t : TupK H H') : LstAt H' l ds := by
  obtain ⟨vs, h1, h2⟩ := h
  exact ⟨vs, e _ h1, h2.mono t⟩
/-- a dict of ints by members at d -/
def DctAt (w : World) (H : Hp) (d : Addr) (f : Mem → Option Int) (n : Nat) : Prop := ∃ kvs, Nd w H d kvs ∧ (∀ m, valN kvs (kM m) = (f m).map V.int) ∧ kvs.length ≤ n
theorem nd_putK {κ : Type} [DecidableEq κ] {kvs : List (κ × V)} {k : κ} {v : V} (h : (kvs.map (·.1)).Nodup) : ((putK kvs k v).map (·.1)).Nodup := by
  unfold putK
  split
  · have e : (kvs.map fun kv => if kv.1 = k then (kv.1, v) else kv).map (·.1) = kvs.map (·.1) := by
      rw [List.map_map]
      refine List.map_congr_left fun x _ => ?_
      show (if x.1 = k then (x.1, v) else x).1 = x.1
      split <;> rfl
    rw [e]; exact h
  · rename_i q
    rw [List.map_append, List.nodup_append]
    refine ⟨h, by simp, fun x hx y hy e => ?_⟩
    rw [List.map_singleton, List.mem_singleton] at hy
    have hy : y = k := hy
    obtain ⟨z, hz, ez⟩ := List.mem_map.mp hx
    exact q (List.any_eq_true.mpr ⟨z, hz, by rw [ez, e, hy]; simp⟩)
theorem DctAt.mono {w : World} {H H' : Hp} {d : Addr} {f : Mem → Option Int} {n : Nat} (h : DctAt w H d f n) (e : ∀ o, H d = some o → H' d = some o) (t : TupK H H') : DctAt w H' d f n := by
  obtain ⟨kvs, h1, h2⟩ := h
  exact ⟨kvs, h1.mono (e _ h1.ob) t, h2⟩
structure OAt (w : World) (CO : Addr) (H : Hp) (p : Addr) (a : OA) (s : OS) : Prop where
  ob : H p = some (.ins CO a.dx (oF a.vme a.vvid a.vms a.vfd a.lg a.li s.casts a.pn a.kp a.tl))
  me : TD H a.vme (eM s.me)
  vid : TD H a.vvid (eV s.vid)
  ms : TD H a.vms (eMs s.mems)
  fd : TD H a.vfd (eM s.fd)
  lg : LstAt H a.lg (s.log.map eG)
  li : DctAt w H a.li s.last s.log.length
  pn : LstAt H a.pn (s.pend.map eC)
  kp : ∃ kvs, H a.kp = some (.dK kvs) ∧ (∀ i, KpAt H (valV kvs (.inl i)) (s.kept i)) ∧ kvs.length = s.kn ∧ (kvs.map (·.1)).Nodup
  tl : DctAt w H a.tl s.told s.tn
  ap : a.lg ≠ a.pn ∧ a.li ≠ a.tl
theorem OAt.mono {w : World} {CO : Addr} {H H' : Hp} {p : Addr} {a : OA} {s : OS} (h : OAt w CO H p a s) (e : ∀ b ∈ a.fp p, ∀ o, H b = some o → H' b = some o) (t : TupK H H') : OAt w CO H' p a s := by
  refine ⟨e p (by simp [OA.fp]) _ h.ob, h.me.mono t, h.vid.mono t, h.ms.mono t, h.fd.mono t, h.lg.mono (e _ (by simp [OA.fp])) t, h.li.mono (e _ (by simp [OA.fp])) t, h.pn.mono (e _ (by simp [OA.fp])) t, ?_, h.tl.mono (e _ (by simp [OA.fp])) t, h.ap⟩
  obtain ⟨kvs, h1, h2, h3⟩ := h.kp
  exact ⟨kvs, e _ (by simp [OA.fp]) _ h1, fun i => (h2 i).mono t, h3⟩
theorem OAt.same {w : World} {CO : Addr} {H H' : Hp} {p : Addr} {a : OA} {s : OS} (h : OAt w CO H p a s) (e : Same H H') : OAt w CO H' p a s := h.mono (fun b _ o x => e b o x) (TupK.of e)
/-- the places are all taken, by no tuples -/
theorem OAt.taken {w : World} {CO : Addr} {H : Hp} {p : Addr} {a : OA} {s : OS} (h : OAt w CO H p a s) : ∀ b ∈ a.fp p, ∃ o, H b = some o ∧ ∀ xs, o ≠ .tup xs := by
  obtain ⟨v1, l1, _⟩ := h.lg
  obtain ⟨v2, l2, _⟩ := h.li
  obtain ⟨v3, l3, _⟩ := h.pn
  obtain ⟨v4, l4, _⟩ := h.kp
  obtain ⟨v5, l5, _⟩ := h.tl
  intro b hb
  simp only [OA.fp, List.mem_cons, List.not_mem_nil, or_false] at hb
  rcases hb with rfl | rfl | rfl | rfl | rfl | rfl
  · exact ⟨_, h.ob, fun _ z => by cases z⟩
  · exact ⟨_, l1, fun _ z => by cases z⟩
  · exact ⟨_, l2.ob, fun _ z => by cases z⟩
  · exact ⟨_, l3, fun _ z => by cases z⟩
  · exact ⟨_, l4, fun _ z => by cases z⟩
  · exact ⟨_, l5.ob, fun _ z => by cases z⟩
/-- a change elsewhere -/
theorem OAt.upd {w : World} {CO : Addr} {H : Hp} {p q : Addr} {a : OA} {s : OS} {o : HO} (h : OAt w CO H p a s) (hq : q ∉ a.fp p) (nt : ∀ xs, H q ≠ some (.tup xs)) : OAt w CO (L2.upd H q o) p a s :=
  h.mono (fun b hb u e => by rw [upd_ne (show b ≠ q from fun z => hq (z ▸ hb))]; exact e) (tupK_upd nt)
theorem OAt.fresh {w : World} {CO : Addr} {H : Hp} {p q : Addr} {a : OA} {s : OS} (h : OAt w CO H p a s) (hq : H q = none) : q ∉ a.fp p := fun m => by
  obtain ⟨o, e, _⟩ := h.taken q m
  rw [hq] at e; cases e
/-- a new list of data -/
structure NewL (H0 : Hp) (fp : List Addr) (H : Hp) (l : Addr) (ds : List PyData) : Prop where
  at_ : LstAt H l ds
  new : H0 l = none
  out : l ∉ fp
theorem NewL.mono {H0 : Hp} {fp : List Addr} {H H' : Hp} {l : Addr} {ds : List PyData} (h : NewL H0 fp H l ds) (e : ∀ o, H l = some o → H' l = some o) (t : TupK H H') : NewL H0 fp H' l ds := ⟨h.at_.mono e t, h.new, h.out⟩
end Mus

set_option maxRecDepth 100000
set_option maxHeartbeats 4000000
/-! Errors of the program's own: made without arguments, let out by methods. -/
namespace Mus
open PySem PySem.Spec PyProof.Rows L2
section
variable {X : Cx} {C : Addr} {bmB : List Value} {B newId initId : String}
theorem pmk_own0 {x : Str} {p pos : Pos} (F : ExcBaseFacts B newId initId bmB) (q : PySem.W.excIn X.K C bmB newId = true) (gC : X.mg x = some (.ref C)) (kC : PySem.W.keepIn X.K (.ref C) = true) (r : Raises X (.ref C)) (hg : Gl X x := by rfl)
    (hdb : (x == ("__debug__" : Str)) = false := by decide) : PMk X (.Call (.Name x p) [] [] pos) (fun _ H Q => Q (.ref C) none H) := by
  intro pins s σ H Q I h
  refine wpAny_Call_Name_kw (ld_glob I hg gC ?_ hdb)
  refine PySem.W.callWith_K0 I.kIn kC ?_
  show wpAny _ _ (call (.ref C) []) _ _ _
  obtain ⟨mem, g, dw, tn, io⟩ := s
  obtain ⟨chain, N, nm0, qn, bs, hdct, sn, sub, ab, col, dd, k0, k1, k2, k3, k5, mN, cC, hN, hni, T⟩ := exc_obj I.kIn q
  exact wpAny_call_exc_subT F T cC hN hni (fun h' a hm => mk_of I hm r h (I.hok.gone hm.new)) (by show 0 ≤ sizeLine; rw [sizeLine_eq]; omega)
end
section
variable {X : Cx} {C : Addr} {x m : Str} {ps : List Str} {j k : Nat} {sp : Sp} {o e : Expr} {es : List Expr} {to : TE} {t : TA} {p pos apos : Pos} {W : WX} {E : XK}
/-- o.m(e, ..), what it lets out leaves this def, too -/
theorem pmethE {pl : Sem Bool} (c : MethOk X.prog X.w X.K X.mg X.base (L2.CX X.prog X.w) C m ps j sp) (cl : Cls X.K C) (tk : Takes X W) (hW : ∀ cls d σ H, E cls d H → W cls d σ H) (ho : PE X o to) (hr : Room k X.A) (ha : PA X (e :: es) t) (hj : j ≤ k := by first | decide | omega)
    (st0 : starEach (e :: es) X.env = (false, eval e X.env) :: starEach es X.env := by rfl) (pl0 : (backTo pos (starEach es X.env)).any (·.1) = false := by rfl)
    (ht : eval (.Call (.Attribute o m apos) (e :: es) [] pos) X.env = (do
      let v ← eval o X.env; standAt apos.atName; let (f, one) ← holding [v] (getMethod v m pl)
      callWith pos f one (backTo pos (starEach (e :: es) X.env)) (backToKw pos (keywordEach [] X.env))) := by rfl) :
    PE X (.Call (.Attribute o m apos) (e :: es) [] pos) (tMeth C m sp [] E to t) := pe_meth ho cl c.m c.G (hr.mono hj) c.b .nil (passes_call tk hW) ha st0 pl0 ht
theorem pmethE0 {pl : Sem Bool} (c : MethOk X.prog X.w X.K X.mg X.base (L2.CX X.prog X.w) C m ps j sp) (cl : Cls X.K C) (tk : Takes X W) (hW : ∀ cls d σ H, E cls d H → W cls d σ H) (ho : PE X o to) (hr : Room k X.A) (hj : j ≤ k := by first | decide | omega)
    (ht : eval (.Call (.Attribute o m apos) [] [] pos) X.env = (do
      let v ← eval o X.env; standAt apos.atName; let (f, one) ← holding [v] (getMethod v m pl)
      callWith pos f one (backTo pos (starEach [] X.env)) (backToKw pos (keywordEach [] X.env))) := by rfl) :
    PE X (.Call (.Attribute o m apos) [] [] pos) (tMeth C m sp [] E to tNil) := pe_meth0 ho cl c.m c.G (hr.mono hj) c.b .nil (passes_call tk hW) ht
/-- f(e, ..), the same of a def -/
theorem pcallE (c : DefOk X.prog X.w X.K X.mg X.base (L2.CX X.prog X.w) x ps j sp) (tk : Takes X W) (hW : ∀ cls d σ H, E cls d H → W cls d σ H) (hr : Room k X.A) (ha : PA X (e :: es) t) (hj : j ≤ k := by first | decide | omega) (hg : Gl X x := by rfl)
    (db0 : (x == ("__debug__" : Str)) = false := by decide) (st0 : starEach (e :: es) X.env = (false, eval e X.env) :: starEach es X.env := by rfl) (pl0 : (backTo pos (starEach es X.env)).any (·.1) = false := by rfl) :
    PE X (.Call (.Name x p) (e :: es) [] pos) (tCall sp [] E t) := pe_call c.G (hr.mono hj) hg c.m c.kp c.b .nil (passes_call tk hW) ha db0 st0 pl0
end
end Mus

set_option maxRecDepth 100000
set_option maxHeartbeats 4000000
/-! Calls whose errors are caught where the slots stand. -/
namespace Mus
open PySem PySem.Spec PyProof.Rows L2
/-! ### calls in a try's body -/
def tMethA (C : Addr) (m : Str) (sp : Sp) (E : L2.St → XK) (ta : TE) (t : TA) : TE := fun σ H Q => ta σ H fun x H1 => ∃ a dx fs, x = .ref a ∧ H1 a = some (.ins C dx fs) ∧ fs.lookup m = none ∧ t σ H1 fun vs H2 => sp (x :: vs) H2 Q (E σ)
section
variable {X : Cx} {C : Addr} {x m : Str} {ps : List Str} {j k : Nat} {sp : Sp} {o e : Expr} {es : List Expr} {to : TE} {t : TA} {p pos apos : Pos} {W : WX}
theorem pmethA {pl : Sem Bool} (c : MethOk X.prog X.w X.K X.mg X.base (L2.CX X.prog X.w) C m ps j sp) (cl : Cls X.K C) (tk : Takes X W) (ho : PE X o to) (hr : Room k X.A) (ha : PA X (e :: es) t) (hj : j ≤ k := by first | decide | omega)
    (st0 : starEach (e :: es) X.env = (false, eval e X.env) :: starEach es X.env := by rfl) (pl0 : (backTo pos (starEach es X.env)).any (·.1) = false := by rfl)
    (ht : eval (.Call (.Attribute o m apos) (e :: es) [] pos) X.env = (do
      let v ← eval o X.env; standAt apos.atName; let (f, one) ← holding [v] (getMethod v m pl)
      callWith pos f one (backTo pos (starEach (e :: es) X.env)) (backToKw pos (keywordEach [] X.env))) := by rfl) :
    PE X (.Call (.Attribute o m apos) (e :: es) [] pos) (tMethA C m sp (WE W) to t) := by
  refine ⟨fun pins s σ H Q I h => ?_⟩
  refine PySem.W.methodCall_KW (pl := pl) (thn (ho.run pins s σ H _ I h) fun u s1 ⟨x, H1, I1, rx, a, dx, fs, ex, ea, l, q⟩ => ?_) ht
  subst ex
  obtain rfl : u = Value.ref a := rx
  refine getmeth_ok I1 ea cl c.m l ?_
  refine PySem.W.callWith_K (first := [.ref a]) (h₀ := X.base) I.ok.mod.kin c.m.kp (thn (ha.run pos pins s1 σ H1 _ I1 q) fun us s2 ⟨vs, H2, I2, r, q2⟩ => ⟨I2.kIn, ?_⟩) st0 pl0
  exact run_fnS (us := .ref a :: us) (vs := .ref a :: vs) c.G (hr.mono hj) c.b (passAt tk σ) I2 (.cons rfl r) q2
theorem pmethA0 {pl : Sem Bool} (c : MethOk X.prog X.w X.K X.mg X.base (L2.CX X.prog X.w) C m ps j sp) (cl : Cls X.K C) (tk : Takes X W) (ho : PE X o to) (hr : Room k X.A) (hj : j ≤ k := by first | decide | omega)
    (ht : eval (.Call (.Attribute o m apos) [] [] pos) X.env = (do
      let v ← eval o X.env; standAt apos.atName; let (f, one) ← holding [v] (getMethod v m pl)
      callWith pos f one (backTo pos (starEach [] X.env)) (backToKw pos (keywordEach [] X.env))) := by rfl) :
    PE X (.Call (.Attribute o m apos) [] [] pos) (tMethA C m sp (WE W) to tNil) := by
  refine ⟨fun pins s σ H Q I h => ?_⟩
  refine PySem.W.methodCall_KW (pl := pl) (thn (ho.run pins s σ H _ I h) fun u s1 ⟨x, H1, I1, rx, a, dx, fs, ex, ea, l, q⟩ => ?_) ht
  subst ex
  obtain rfl : u = Value.ref a := rx
  refine getmeth_ok I1 ea cl c.m l ?_
  refine PySem.W.callWith_K0 (first := [.ref a]) I1.kIn c.m.kp ?_
  exact run_fnS (us := [.ref a]) (vs := [.ref a]) c.G (hr.mono hj) c.b (passAt tk σ) I1 (.cons rfl .nil) q
theorem pcallA (c : DefOk X.prog X.w X.K X.mg X.base (L2.CX X.prog X.w) x ps j sp) (tk : Takes X W) (hr : Room k X.A) (ha : PA X (e :: es) t) (hj : j ≤ k := by first | decide | omega) (hg : Gl X x := by rfl)
    (db0 : (x == ("__debug__" : Str)) = false := by decide) (st0 : starEach (e :: es) X.env = (false, eval e X.env) :: starEach es X.env := by rfl) (pl0 : (backTo pos (starEach es X.env)).any (·.1) = false := by rfl) :
    PE X (.Call (.Name x p) (e :: es) [] pos) (tCallS sp (WE W) t) := pe_callS c.G (hr.mono hj) hg c.m c.kp c.b (fun σ => passAt tk σ) ha db0 st0 pl0
end
end Mus

set_option maxRecDepth 100000
set_option maxHeartbeats 4000000
/-! The same rules, so that Lean finds the inner readings: they may name what they don't depend on. -/
namespace Mus
open PySem PySem.Spec PyProof.Rows L2
def s00 : Shared := {}
def h00 : Hp := fun _ => none
def o00 : Obj := default
def x00 : Value → Shared → Prop := fun _ _ => False
section
variable {X : Cx} {x n : Str} {c : Value} {i : Nat} {body suite : List Stmt} {b₀ : Stmt} {np pos pos' : Pos} {tb : WX → List (Addr × Obj) → (Value → Shared → Prop) → TS} {ts : Addr → Obj → Value → Option Addr → List (Addr × Obj) → TS} {Wout : WX}
theorem ps_tryAs (hs : X.stack = X.env :: X.outer) (hf : X.env.frame = some X.env.locals) (hN : X.N.Nodup) (hi : X.N[i]? = some n) (hln : X.env.kindOf n = some .local) (hc : Names X x c) (tk : Takes X Wout)
    (hb : ∀ W pn xe, Takes (X.tr pn xe) W → PassesOwn (model X.prog X.w) X.A X.env xe → PSs (X.tr pn xe) body (tb W pn xe)) (hsu : ∀ a oe cls d pn, Zc cls d oe → (∃ vs, oe.data = .fields vs) → PSs (X.suite a ((a, oe) :: pn)) (b₀ :: suite) (ts a oe cls d pn))
    (i1 : ∀ W pn xe, tb W pn xe = tb W [] x00 := by intros; rfl) (i2 : ∀ a oe cls d pn, ts a oe cls d pn = ts a o00 cls d [] := by intros; rfl) :
    PS X (.Try body [.ExceptHandler (some (.Name x np)) (some n) (b₀ :: suite) pos'] [] [] pos) (fun D σ H => tb (wAs X.K c i (fun a cls d => ts a o00 cls d []) Wout D) [] x00 D σ H) :=
  ps_try_as (tb := fun W => tb W [] x00) hs hf hN hi hln hc tk (fun W pn xe t p => i1 W pn xe ▸ hb W pn xe t p) fun a oe cls d pn z f => i2 a oe cls d pn ▸ hsu a oe cls d pn z f
end
section
variable {X : Cx} {body : List Stmt} {h₀ : ExceptHandler} {hds : List ExceptHandler} {l : List (Value × (Addr → Value → Option Addr → TS))} {pos : Pos} {tb : WX → List (Addr × Obj) → (Value → Shared → Prop) → TS} {Wout : WX}
theorem ps_tryX (hs : X.stack = X.env :: X.outer) (hf : X.env.frame = some X.env.locals) (tk : Takes X Wout)
    (hb : ∀ W pn xe, Takes (X.tr pn xe) W → PassesOwn (model X.prog X.w) X.A X.env xe → PSs (X.tr pn xe) body (tb W pn xe)) (hh : HdsOk X (h₀ :: hds) l) (i1 : ∀ W pn xe, tb W pn xe = tb W [] x00 := by intros; rfl) :
    PS X (.Try body (h₀ :: hds) [] [] pos) (fun D σ H => tb (wMany X.K Wout D l) [] x00 D σ H) :=
  ps_try_many (tb := fun W => tb W [] x00) hs hf tk (fun W pn xe t p => i1 W pn xe ▸ hb W pn xe t p) hh
theorem hd_one {x : Str} {c : Value} {ts : Addr → Obj → Value → Option Addr → List (Addr × Obj) → TS} {b₀ : Stmt} {suite : List Stmt} {np pos' : Pos} (hc : Names X x c)
    (hsu : ∀ a oe cls d pn, Zc cls d oe → (∃ vs, oe.data = .fields vs) → PSs (X.suite a ((a, oe) :: pn)) (b₀ :: suite) (ts a oe cls d pn)) (r : HdsOk X hds l) (i2 : ∀ a oe cls d pn, ts a oe cls d pn = ts a o00 cls d [] := by intros; rfl) :
    HdsOk X (.ExceptHandler (some (.Name x np)) none (b₀ :: suite) pos' :: hds) ((c, fun a cls d => ts a o00 cls d []) :: l) :=
  .cons hc (fun a oe cls d pn z f => i2 a oe cls d pn ▸ hsu a oe cls d pn z f) r
end
section
variable {X : Cx} {elt tg iter : Expr} {ifs : List Expr} {scope : Scope} {own : List (Str × Nat)} {pos : Pos} {wi : TI} {g : Shared → Hp → Addr → List (Str × Addr) → List Addr → TG} {tt : Shared → Hp → Addr → List (Str × Addr) → List Addr → TT} {te : Shared → Hp → Addr → List (Str × Addr) → List Addr → TE}
theorem pe_lcX (hc : X.calm = true) (hN : X.N.Nodup) (hi : PI X tg iter wi) (ok : BlkOk X.N X.env.scope scope own)
    (hg : ∀ (s : Shared) (H : Hp) (C : Addr) (cl : List (Str × Addr)) (fp : List Addr), PG (X.blk s H scope (compEnvC scope cl C X.env) fp) tg (g s H C cl fp)) (ht : ∀ (s : Shared) (H : Hp) (C : Addr) (cl : List (Str × Addr)) (fp : List Addr), PTs (X.blk s H scope (compEnvC scope cl C X.env) fp) ifs (tt s H C cl fp))
    (he : ∀ (s : Shared) (H : Hp) (C : Addr) (cl : List (Str × Addr)) (fp : List Addr), PE (X.blk s H scope (compEnvC scope cl C X.env) fp) elt (te s H C cl fp)) (hs : ∀ x, foldedSetIterable iter X.env x = pure x := by intro _; rfl)
    (i1 : ∀ s H C cl fp, g s H C cl fp = g s00 h00 0 [] [] := by intros; rfl) (i2 : ∀ s H C cl fp, tt s H C cl fp = tt s00 h00 0 [] [] := by intros; rfl) (i3 : ∀ s H C cl fp, te s H C cl fp = te s00 h00 0 [] [] := by intros; rfl) :
    PE X (.ListComp elt [⟨tg, iter, ifs, 0⟩] scope pos) (tLc wi (g s00 h00 0 [] []) (tt s00 h00 0 [] []) (te s00 h00 0 [] []) (own.map (·.2))) :=
  pe_lc hc hN hi ok (fun s H C cl fp => i1 s H C cl fp ▸ hg s H C cl fp) (fun s H C cl fp => i2 s H C cl fp ▸ ht s H C cl fp) (fun s H C cl fp => i3 s H C cl fp ▸ he s H C cl fp) hs
theorem ps_setLcX {i : Nat} {y : Str} {py : Pos} {spos : Pos} (hc : X.calm = true) (hN : X.N.Nodup) (hy : X.N[i]? = some y) (hyl : X.env.scope.names.lookup y = some .local)
    (hsw : swapsWith (.ListComp elt [⟨tg, iter, ifs, 0⟩] scope pos) (some (.Name y py)) spos.line X.env = pure true) (hi : PI X tg iter wi) (ok : BlkOk X.N X.env.scope scope own)
    (hg : ∀ (s : Shared) (H : Hp) (C : Addr) (cl : List (Str × Addr)) (fp : List Addr), PG (X.blk s H scope (compEnvC scope cl C X.env) fp) tg (g s H C cl fp)) (ht : ∀ (s : Shared) (H : Hp) (C : Addr) (cl : List (Str × Addr)) (fp : List Addr), PTs (X.blk s H scope (compEnvC scope cl C X.env) fp) ifs (tt s H C cl fp))
    (he : ∀ (s : Shared) (H : Hp) (C : Addr) (cl : List (Str × Addr)) (fp : List Addr), PE (X.blk s H scope (compEnvC scope cl C X.env) fp) elt (te s H C cl fp)) (hs : ∀ x, foldedSetIterable iter X.env x = pure x := by intro _; rfl)
    (i1 : ∀ s H C cl fp, g s H C cl fp = g s00 h00 0 [] [] := by intros; rfl) (i2 : ∀ s H C cl fp, tt s H C cl fp = tt s00 h00 0 [] [] := by intros; rfl) (i3 : ∀ s H C cl fp, te s H C cl fp = te s00 h00 0 [] [] := by intros; rfl) :
    PS X (.Assign [.Name y py] (.ListComp elt [⟨tg, iter, ifs, 0⟩] scope pos) spos) (tAsg (tLc wi (g s00 h00 0 [] []) (tt s00 h00 0 [] []) (te s00 h00 0 [] []) (own.map (·.2))) (gName i)) :=
  ps_setLc hc hN hy hyl hsw hi ok (fun s H C cl fp => i1 s H C cl fp ▸ hg s H C cl fp) (fun s H C cl fp => i2 s H C cl fp ▸ ht s H C cl fp) (fun s H C cl fp => i3 s H C cl fp ▸ he s H C cl fp) hs
end
end Mus

set_option maxRecDepth 100000
set_option maxHeartbeats 4000000
namespace Mus
open PySem L2
local macro_rules | `(tactic| walk_at "rd") => `(tactic| first
  | refine ⟨_, rfl, ?_⟩ | refine ⟨(True.intro : True), ?_⟩
  | refine ⟨_, _, rfl, rfl, (⟨by decide, by decide, by decide⟩ : CPow _ _), ?_⟩
  | refine ⟨_, _, rfl, rfl, (⟨by decide, by decide⟩ : CDiv _ _), ?_⟩
  | refine ⟨_, _, rfl, rfl, (by show (0 : Int) < _; decide), ?_⟩
  | refine ⟨_, _, rfl, rfl, ?_⟩ | refine ⟨rfl, ?_⟩ | refine iteT ?_ | refine iteF ?_ | refine ⟨_, _, rfl, ?_⟩ | refine .inl ⟨_, rfl, ?_⟩
  | refine ⟨_, _, _, _, _, rfl, (by assumption), (by assumption), (by assumption), rfl, ?_⟩ | refine ⟨_, _, _, _, rfl, rfl, SqT.of (by assumption), rfl, ?_⟩ | refine ⟨_, _, rfl, SqT.of (by assumption), rfl, ?_⟩
  | refine ⟨_, _, _, _, _, rfl, .ty _, Rp.ty (by assumption), kit_int _, ?_⟩ | refine ⟨_, _, _, _, _, rfl, .ty _, Rp.ty (by assumption), kit_bool _, ?_⟩
  | refine ⟨_, _, _, _, _, rfl, .ty _, Rp.ty (by assumption), kit_str _, ?_⟩ | refine ⟨_, _, _, _, _, rfl, .ty _, Rp.ty (by assumption), kit_tup _, ?_⟩)
local macro_rules | `(tactic| walk_at "cal") => `(tactic| first
  | refine ⟨_, _, _, _, _, rfl, (by assumption), ?_⟩ | refine ⟨_, _, _, _, _, rfl, (by assumption), (by assumption), ?_⟩)
local macro_rules | `(tactic| walk_at "sq") => `(tactic| first
  | refine ⟨_, _, rfl, Or.inr (SqT.of (by assumption)), ?_⟩ | refine ⟨_, _, _, _, rfl, rfl, SqT.of (by assumption), rfl, ?_⟩)
local macro_rules | `(tactic| walk_at "rds") => `(tactic| repeat first | walk_at "rd" | walk_at "cal" | walk_at "sq")
local macro_rules | `(tactic| walk_at "ze") => `(tactic| repeat first
  | exact zes_nil | exact ze_bl | exact ze_str | exact ze_non | apply zes_cons | apply ze_tup | apply ze_lst | apply ze_cat | exact di_c | exact di_v rfl | apply di_opC | apply di_op | apply di_neg | apply ze_i | (refine (⟨?_, ?_, ?_⟩ : CPow _ _) <;> decide) | exact Nat.le_of_ble_eq_true rfl | exact ze_varD rfl (by assumption))
local macro_rules | `(tactic| walk_at "rdz") => `(tactic| repeat (fail_if_success (first | show tLst _ _ _ _ | show tAsg (tLst _) _ _ _ _ | show tSeq (tAsg (tLst _) _) _ _ _ _)); first | walk_at "rd" | walk_at "cal" | walk_at "sq")
def top (i : Nat) : Stmt := PySem.Challenge.pw_mustercall_k20_order_step_by_step.main.body.getD i (.Pass ⟨0, 0, 0, 0⟩)
structure Tx (K : PySem.W.Frag) (mg : Str → Option Value) (CO CV : Addr) : Prop where
  b_len : mg "len" = none
  b_isinstance : mg "isinstance" = none
  b_int : mg "int" = none
  b_list : mg "list" = none
  b_tuple : mg "tuple" = none
  b_range : mg "range" = none
  b_min : mg "min" = none
  b_max : mg "max" = none
  b_abs : mg "abs" = none
  b_enumerate : mg "enumerate" = none
  c_WINDOW : ∃ t, mg "WINDOW" = some (.int 16 t)
  g_Order : mg "Order" = some (.ref CO)
  cl_Order : L2.Cls K CO
  n_Order__me : NoAttr K CO "_me"
  n_Order__view_id : NoAttr K CO "_view_id"
  n_Order__members : NoAttr K CO "_members"
  n_Order__founder : NoAttr K CO "_founder"
  n_Order__log : NoAttr K CO "_log"
  n_Order__last_indexes : NoAttr K CO "_last_indexes"
  n_Order__casts : NoAttr K CO "_casts"
  n_Order__pending : NoAttr K CO "_pending"
  n_Order__kept : NoAttr K CO "_kept"
  n_Order__told : NoAttr K CO "_told"
  g_BadView : mg "BadView" = some (.ref CV)
  x_BadView : PySem.W.excIn K CV [.type "ValueError", .type "Exception", .type "BaseException", .type "object"] "ValueError.__new__" = true
  k_BadView : PySem.W.keepIn K (.ref CV) = true
  b_BadView : PySem.W.subIn K (.ref CV) (.type "BaseException") = some true
  t_BadView : PySem.W.typeIn K (.ref CV) = some (.type "type")
  m_VV : PySem.W.exmOne K (.ref CV) (.ref CV) = some true
section
variable {P : Program} {w : World} {K : PySem.W.Frag} {mg : Str → Option Value} {base : Heap} {CO CV : Addr}
/-! ### Order -/
abbrev s_Order__order_letter : Stmt := inClass (top 5) 15
abbrev N_Order__order_letter : List Str := ["self", "member", "place", "message"]
abbrev P_Order__order_letter : List Str := ["self", "member", "place", "message"]
theorem sc_Order__order_letter : FnScope N_Order__order_letter P_Order__order_letter (defScope s_Order__order_letter) := ⟨rfl, rfl, rfl, by decide +kernel, rfl, by decide +kernel, by decide +kernel⟩
def sp_ordl (CO : Addr) : Sp := fun vs H Q _ => ∃ (w : World) (p : Addr) (a : OA) (s : OS) (v u : V) (m : Mem) (i : Int) (g : Msg), vs = [.ref p, v, .int i, u] ∧ OAt w CO H p a s ∧ TD H v (eM m) ∧ TD H u (eG g) ∧ ∀ r H', Same H H' → TD H' (.ref r) (ePk (m.1, .order s.me s.vid i g)) → Q (.ref r) H'
theorem ok_ordl {f : Addr} {fd : FuncData} (T : Tx K mg CO CV) (F : Fun K "_order_letter" "Order._order_letter" s_Order__order_letter f fd) : FnOk P w K mg base CX0 1 f fd P_Order__order_letter (sp_ordl CO) := by
  have nd := sc_Order__order_letter.nd
  refine F.ok sc_Order__order_letter (fun vs H Q E h => ?_) (fun cdv A outer s H vs Q E hr h => ?_)
  · obtain ⟨_, _, _, _, _, _, _, _, _, rfl, _⟩ := h
    rfl
  · obtain ⟨w0, p, a, s, v, u, m, i, g, rfl, O, hv, hu, q⟩ := h
    have hs := sl
    have ob := O.ob
    obtain ⟨c1, n1, n2⟩ : L2.Cls K CO ∧ NoAttr K CO "_me" ∧ NoAttr K CO "_view_id" := ⟨T.cl_Order, T.n_Order__me, T.n_Order__view_id⟩
    obtain ⟨b, rfl, hb⟩ := hv.mem
    refine ⟨_, (pss_one (ps_ret (pe_tup (pa_cons (pe_ix ix_tup (pv 1) pe_int (fun _ _ => rfl)) (pa_cons (pe_tup (pa_cons pe_str (pa_cons (pe_fld (pv 0) (by rfl)) (pa_cons (pe_fld (pv 0) (by rfl)) (pa_cons (pv 2) (pa_cons (pv 3) pa_nil)))))) pa_nil))))), ?_⟩
    walk_at "rds"
    refine ⟨by show 5 ≤ sizeLine; omega, fun t1 nt1 => ?_⟩
    have s1 := same_new nt1 (.tup [V.str "order", a.vme, a.vvid, V.int i, u])
    have d1 : TD (upd H t1 (.tup [V.str "order", a.vme, a.vvid, V.int i, u])) (.ref t1) (eL (.order s.me s.vid i g)) := .tup upd_same (by show 5 ≤ 100000; decide) (.cons (.str _) (.cons (O.me.same s1) (.cons (O.vid.same s1) (.cons (.int _) (.cons (hu.same s1) .nil)))))
    refine ⟨by show 2 ≤ sizeLine; omega, fun t2 nt2 => ?_⟩
    have s2 := same_new nt2 (.tup [V.int m.1, V.ref t1])
    exact q t2 _ (s1.trans s2) (.tup upd_same (by show 2 ≤ 100000; decide) (.cons (.int _) (.cons (d1.same s2) .nil)))
abbrev s_Order__cast_letter : Stmt := inClass (top 5) 14
abbrev N_Order__cast_letter : List Str := ["self", "index", "payload"]
abbrev P_Order__cast_letter : List Str := ["self", "index", "payload"]
theorem sc_Order__cast_letter : FnScope N_Order__cast_letter P_Order__cast_letter (defScope s_Order__cast_letter) := ⟨rfl, rfl, rfl, by decide +kernel, rfl, by decide +kernel, by decide +kernel⟩
def sp_casl (CO : Addr) : Sp := fun vs H Q _ => ∃ (w : World) (p : Addr) (a : OA) (s : OS) (c : Cst), vs = [.ref p, .int c.1, .str c.2] ∧ OAt w CO H p a s ∧ ∀ r H', Same H H' → TD H' (.ref r) (ePk (s.castL c)) → Q (.ref r) H'
theorem ok_casl {f : Addr} {fd : FuncData} (T : Tx K mg CO CV) (F : Fun K "_cast_letter" "Order._cast_letter" s_Order__cast_letter f fd) : FnOk P w K mg base CX0 1 f fd P_Order__cast_letter (sp_casl CO) := by
  have nd := sc_Order__cast_letter.nd
  refine F.ok sc_Order__cast_letter (fun vs H Q E h => ?_) (fun cdv A outer s H vs Q E hr h => ?_)
  · obtain ⟨_, _, _, _, _, rfl, _⟩ := h
    rfl
  · obtain ⟨w0, p, a, s, c, rfl, O, q⟩ := h
    have hs := sl
    have ob := O.ob
    obtain ⟨c1, n1, n2, n3⟩ : L2.Cls K CO ∧ NoAttr K CO "_me" ∧ NoAttr K CO "_view_id" ∧ NoAttr K CO "_founder" := ⟨T.cl_Order, T.n_Order__me, T.n_Order__view_id, T.n_Order__founder⟩
    obtain ⟨b, eb, hb⟩ := O.fd.mem
    rw [eb] at ob
    refine ⟨_, (pss_one (ps_ret (pe_tup (pa_cons (pe_ix ix_tup (pe_fld (pv 0) (by rfl)) pe_int (fun _ _ => rfl)) (pa_cons (pe_tup (pa_cons pe_str (pa_cons (pe_fld (pv 0) (by rfl)) (pa_cons (pe_fld (pv 0) (by rfl)) (pa_cons (pv 1) (pa_cons (pv 2) pa_nil)))))) pa_nil))))), ?_⟩
    walk_at "rds"
    refine ⟨by show 5 ≤ sizeLine; omega, fun t1 nt1 => ?_⟩
    have s1 := same_new nt1 (.tup [V.str "cast", a.vme, a.vvid, V.int c.1, V.str c.2])
    have d1 : TD (upd H t1 (.tup [V.str "cast", a.vme, a.vvid, V.int c.1, V.str c.2])) (.ref t1) (eL (.cast s.me s.vid c.1 c.2)) := .tup upd_same (by show 5 ≤ 100000; decide) (.cons (.str _) (.cons (O.me.same s1) (.cons (O.vid.same s1) (.cons (.int _) (.cons (.str _) .nil)))))
    refine ⟨by show 2 ≤ sizeLine; omega, fun t2 nt2 => ?_⟩
    have s2 := same_new nt2 (.tup [V.int s.fd.1, V.ref t1])
    exact q t2 _ (s1.trans s2) (.tup upd_same (by show 2 ≤ 100000; decide) (.cons (.int _) (.cons (d1.same s2) .nil)))
abbrev s_Order__others : Stmt := inClass (top 5) 12
abbrev N_Order__others : List Str := ["self", "member"]
abbrev P_Order__others : List Str := ["self"]
theorem sc_Order__others : FnScope N_Order__others P_Order__others (defScope s_Order__others) := ⟨rfl, rfl, rfl, by decide +kernel, rfl, by decide +kernel, by decide +kernel⟩
def sp_oth (CO : Addr) : Sp := fun vs H Q _ => ∃ (w : World) (p : Addr) (a : OA) (s : OS), vs = [.ref p] ∧ OAt w CO H p a s ∧ ∀ r H', Same H H' → H r = none → LstAt H' r (s.others.map eM) → Q (.ref r) H'
theorem ok_oth {f : Addr} {fd : FuncData} (T : Tx K mg CO CV) (F : Fun K "_others" "Order._others" s_Order__others f fd) : FnOk P w K mg base CX0 1 f fd P_Order__others (sp_oth CO) := by
  have nd := sc_Order__others.nd
  refine F.ok sc_Order__others (fun vs H Q E h => ?_) (fun cdv A outer s H vs Q E hr h => ?_)
  · obtain ⟨_, _, _, _, rfl, _⟩ := h
    rfl
  · obtain ⟨w0, p, a, s, rfl, O, q⟩ := h
    have hs := sl
    have ob := O.ob
    obtain ⟨c1, n1, n2⟩ : L2.Cls K CO ∧ NoAttr K CO "_me" ∧ NoAttr K CO "_members" := ⟨T.cl_Order, T.n_Order__me, T.n_Order__members⟩
    obtain ⟨am, xs, em, ham, lx, hx⟩ : ∃ am xs, a.vms = .ref am ∧ H am = some (.tup xs) ∧ xs.length ≤ 100000 ∧ TDs H xs (s.mems.map eM) := by
      have := O.ms
      cases e : a.vms with
      | ref b => rw [e] at this; cases this with | tup h l r => exact ⟨_, _, rfl, h, l, r⟩
      | _ => rw [e] at this; cases this
    rw [em] at ob
    refine ⟨_, (pss_one (ps_ret (pe_lcX (own := [("member", 1)]) rfl nd (pi_tup (pe_fld (pv 0) (by rfl))) (blkOk_by (own := [("member", 1)]) (N := N_Order__others) (sc := defScope s_Order__others) (by decide +kernel)) (fun _ _ _ _ _ => (pg_name (i := 1) nd rfl (Or.inl rfl))) (fun _ _ _ _ _ => (pts_one (pt_cmpR (op_neD hr.units) (pv 1) (pe_fld (pv 0) (by rfl)) (nomark _)))) (fun _ _ _ _ _ => (pv 1))))), ?_⟩
    walk_at "rds"
    refine ⟨⟨_, SqT.of ham⟩, fun D nD => ?_⟩
    have lm := hx.length
    rw [List.length_map] at lm
    refine lc_tup (K := K) (a := am) (xs := xs) (fun i H' => LstAt H' D (((s.mems.take i).filter fun m => !decide (m = s.me)).map eM) ∧ Same H H') ?_ ?_ ?_ ?_
    · exact ⟨⟨[], upd_same, .nil⟩, same_new nD _⟩
    · rintro i H' _ ⟨_, s1⟩
      exact SqT.of (s1 _ _ ham)
    · rintro i x H' hi ⟨⟨ws, hD, hw⟩, s1⟩
      obtain ⟨d, hd, rd⟩ := hx.at hi
      rw [List.getElem?_map] at hd
      obtain ⟨m, hm, rfl⟩ := Option.map_eq_some_iff.mp hd
      have ht : s.mems.take (i + 1) = s.mems.take i ++ [m] := by rw [List.take_succ, hm]; rfl
      have ob1 := s1 _ _ ob
      refine ⟨rfl, ?_⟩
      walk_at "rds"
      refine rd_neM (rd.same s1) (O.me.same s1) ?_
      walk_at "rds"
      have lw := hw.length
      rw [List.length_map] at lw
      have := List.length_filter_le (fun m => !decide (m = s.me)) (s.mems.take i)
      rw [List.length_take] at this
      have sD : ∀ o, Same H (upd H' D o) := fun o b u e => by rw [upd_ne (ne_of_none e nD)]; exact s1 b u e
      refine iB (fun h => ?_) (fun h => ?_)
      · walk_at "rds"
        refine ⟨ws, hD, by omega, ⟨ws ++ [x], upd_same, ?_⟩, sD _⟩
        rw [ht, List.filter_append, List.map_append, show [m].filter (fun m => !decide (m = s.me)) = [m] by rw [List.filter_cons, if_pos h]; rfl]
        exact (hw.mono (tupK_upd fun xs e => by rw [hD] at e; cases e)).append (.cons (rd.mono (TupK.of (sD _))) .nil)
      · refine ⟨⟨ws, hD, ?_⟩, s1⟩
        rw [ht, List.filter_append, show [m].filter (fun m => !decide (m = s.me)) = [] by rw [List.filter_cons, if_neg (by rw [h]; decide)]; rfl, List.append_nil]
        exact hw
    · rintro H' ⟨hD, s1⟩
      rw [lm, List.take_length] at hD
      exact q D H' s1 nD hD
end
end Mus

set_option maxRecDepth 100000
set_option maxHeartbeats 4000000
namespace Mus
open PySem L2
local macro_rules | `(tactic| walk_at "rd") => `(tactic| first
  | refine ⟨_, rfl, ?_⟩ | refine ⟨(True.intro : True), ?_⟩
  | refine ⟨_, _, rfl, rfl, (⟨by decide, by decide, by decide⟩ : CPow _ _), ?_⟩
  | refine ⟨_, _, rfl, rfl, (⟨by decide, by decide⟩ : CDiv _ _), ?_⟩
  | refine ⟨_, _, rfl, rfl, (by show (0 : Int) < _; decide), ?_⟩
  | refine ⟨_, _, rfl, rfl, ?_⟩ | refine ⟨rfl, ?_⟩ | refine iteT ?_ | refine iteF ?_ | refine ⟨_, _, rfl, ?_⟩ | refine .inl ⟨_, rfl, ?_⟩
  | refine ⟨_, _, _, _, _, rfl, (by assumption), (by assumption), (by assumption), rfl, ?_⟩ | refine ⟨_, _, _, _, rfl, rfl, SqT.of (by assumption), rfl, ?_⟩ | refine ⟨_, _, rfl, SqT.of (by assumption), rfl, ?_⟩
  | refine ⟨_, _, _, _, _, rfl, .ty _, Rp.ty (by assumption), kit_int _, ?_⟩ | refine ⟨_, _, _, _, _, rfl, .ty _, Rp.ty (by assumption), kit_bool _, ?_⟩
  | refine ⟨_, _, _, _, _, rfl, .ty _, Rp.ty (by assumption), kit_str _, ?_⟩ | refine ⟨_, _, _, _, _, rfl, .ty _, Rp.ty (by assumption), kit_tup _, ?_⟩)
local macro_rules | `(tactic| walk_at "cal") => `(tactic| first
  | refine ⟨_, _, _, _, _, rfl, (by assumption), ?_⟩ | refine ⟨_, _, _, _, _, rfl, (by assumption), (by assumption), ?_⟩)
local macro_rules | `(tactic| walk_at "sq") => `(tactic| first
  | refine ⟨_, _, rfl, Or.inr (SqT.of (by assumption)), ?_⟩ | refine ⟨_, _, _, _, rfl, rfl, SqT.of (by assumption), rfl, ?_⟩)
local macro_rules | `(tactic| walk_at "rds") => `(tactic| repeat first | walk_at "rd" | walk_at "cal" | walk_at "sq")
local macro_rules | `(tactic| walk_at "ze") => `(tactic| repeat first
  | exact zes_nil | exact ze_bl | exact ze_str | exact ze_non | apply zes_cons | apply ze_tup | apply ze_lst | apply ze_cat | exact di_c | exact di_v rfl | apply di_opC | apply di_op | apply di_neg | apply ze_i | (refine (⟨?_, ?_, ?_⟩ : CPow _ _) <;> decide) | exact Nat.le_of_ble_eq_true rfl | exact ze_varD rfl (by assumption))
local macro_rules | `(tactic| walk_at "rdz") => `(tactic| repeat (fail_if_success (first | show tLst _ _ _ _ | show tAsg (tLst _) _ _ _ _ | show tSeq (tAsg (tLst _) _) _ _ _ _)); first | walk_at "rd" | walk_at "cal" | walk_at "sq")
section
variable {P : Program} {w : World} {K : PySem.W.Frag} {mg : Str → Option Value} {base : Heap} {CO CV : Addr}
abbrev s_Order__deliver : Stmt := inClass (top 5) 11
abbrev N_Order__deliver : List Str := ["self", "message", "sender", "index", "_", "pair"]
abbrev P_Order__deliver : List Str := ["self", "message"]
theorem sc_Order__deliver : FnScope N_Order__deliver P_Order__deliver (defScope s_Order__deliver) := ⟨rfl, rfl, rfl, by decide +kernel, rfl, by decide +kernel, by decide +kernel⟩
def sp_del (w : World) (CO : Addr) : Sp := fun vs H Q _ => ∃ (p : Addr) (a : OA) (s : OS) (v : V) (g : Msg), vs = [.ref p, v] ∧ OAt w CO H p a s ∧ TD H v (eG g) ∧ s.log.length ≤ 90000 ∧ s.pend.length ≤ 90000 ∧ ∀ H' a', OAt w CO H' p a' (s.deliver g) → Fr (a.fp p) (a'.fp p) H H' → Q .non H'
theorem ok_del {f : Addr} {fd : FuncData} (T : Tx K mg CO CV) (F : Fun K "_deliver" "Order._deliver" s_Order__deliver f fd) : FnOk P w K mg base CX0 1 f fd P_Order__deliver (sp_del w CO) := by
  have nd := sc_Order__deliver.nd
  refine F.ok sc_Order__deliver (fun vs H Q E h => ?_) (fun cdv A outer s H vs Q E hr h => ?_)
  · obtain ⟨_, _, _, _, _, rfl, _⟩ := h
    rfl
  · obtain ⟨p, a, s, v, g, rfl, O, hv, hl, hp, q⟩ := h
    have hs := sl
    have ob := O.ob
    obtain ⟨c1, n1, n2, n3, n4⟩ : L2.Cls K CO ∧ NoAttr K CO "_me" ∧ NoAttr K CO "_log" ∧ NoAttr K CO "_last_indexes" ∧ NoAttr K CO "_pending" := ⟨T.cl_Order, T.n_Order__me, T.n_Order__log, T.n_Order__last_indexes, T.n_Order__pending⟩
    obtain ⟨b, u, rfl, hb, hu⟩ := hv.msg
    obtain ⟨bm, rfl, nk⟩ := hu.nk
    obtain ⟨vl, hlg, tl⟩ := O.lg
    obtain ⟨kvs, N, hN, lN⟩ := O.li
    have ll := tl.length
    rw [List.length_map] at ll
    have lgli : a.lg ≠ a.li := ne_of hlg N.ob (by intro z; cases z)
    have lgp : a.lg ≠ p := ne_of hlg ob (by intro z; cases z)
    have lip : a.li ≠ p := ne_of N.ob ob (by intro z; cases z)
    refine ⟨_, (pss_cons (ps_asg (pv 1) (pg_tup (by rfl) (pgs_cons (pg_name (i := 2) nd rfl (Or.inl rfl)) (pgs_cons (pg_name (i := 3) nd rfl (Or.inr rfl)) (pgs_cons (pg_name (i := 4) nd rfl (Or.inl rfl)) pgs_nil)))))
      (pss_cons (ps_expr (pe_bm PySem.F.plainAttrs_list PySem.F.slot_list_append PySem.F.type_list_append mt_append (pe_fld (pv 0) (by rfl)) (pa_cons (pv 1) pa_nil)))
      (pss_cons (ps_nput hr.units (pe_fld (pv 0) (by rfl)) (pv 2) (pv 3) rfl)
      (pss_one (ps_if (pt_cmpR (op_eqD hr.units) (pv 2) (pe_fld (pv 0) (by rfl)) (nomark _))
        (pss_one (ps_fld (pv 0) (pe_lcX (own := [("pair", 5)]) rfl nd (pi_list (pe_fld (pv 0) (by rfl))) (blkOk_by (own := [("pair", 5)]) (N := N_Order__deliver) (sc := defScope s_Order__deliver) (by decide +kernel)) (fun _ _ _ _ _ => (pg_name (i := 5) nd rfl (Or.inl rfl))) (fun _ _ _ _ _ => (pts_one (pt_cmpR op_ne (pe_ix ix_tup (pv 5) pe_int (fun _ _ => rfl)) (pv 3) (nomark _)))) (fun _ _ _ _ _ => (pv 5))) rfl))
        pss_nil))))), ?_⟩
    walk_at "rds"
    refine ⟨.inl ⟨rfl, _, SqL.of hlg⟩, ?_⟩
    walk_at "rds"
    refine ⟨a.lg, _, _, rfl, rfl, hlg, by omega, ?_⟩
    generalize hh2 : upd H a.lg (HO.lst (vl ++ [V.ref b])) = H2
    have k2 : TupK H H2 := by subst hh2; exact tupK_upd fun xs e => by rw [hlg] at e; cases e
    have at2 : ∀ c, c ≠ a.lg → ∀ o, H c = some o → H2 c = some o := fun c h o e => by subst hh2; rw [upd_ne h]; exact e
    have lg2 : H2 a.lg = some (.lst (vl ++ [V.ref b])) := by subst hh2; exact upd_same
    have ob2 := at2 _ lgp.symm _ ob
    have N2 : Nd w H2 a.li kvs := N.mono (at2 _ lgli.symm _ N.ob) k2
    have nk2 := nk.mono k2
    have F2 : Fr (a.fp p) (a.fp p) H H2 := by subst hh2; exact fr_upd (by simp [OA.fp]) hlg (fun _ z => by cases z)
    walk_at "rds"
    refine ⟨a.li, bm, kvs, kM g.1, rfl, rfl, N2, nk2, kM_depth _, ?_⟩
    generalize hh3 : upd H2 a.li _ = H3
    have N3 : Nd w H3 a.li (putN kvs (kM g.1) bm (.int g.2.1)) := by subst hh3; exact N2.put (v := .int g.2.1) nk2 (kM_depth _) (by omega)
    have k23 : TupK H2 H3 := by subst hh3; exact tupK_upd fun xs e => by rw [N2.ob] at e; cases e
    have k3 := k2.trans k23
    have at3 : ∀ c, c ≠ a.li → ∀ o, H2 c = some o → H3 c = some o := fun c h o e => by subst hh3; rw [upd_ne h]; exact e
    have ob3 := at3 _ lip.symm _ ob2
    have F3 : Fr (a.fp p) (a.fp p) H H3 := by subst hh3; exact F2.trans (fr_upd (by simp [OA.fp]) N2.ob (fun _ z => by cases z))
    have O3 : OAt w CO H3 p a { s with log := s.log ++ [g], last := fun m => if m = g.1 then some g.2.1 else s.last m } := by
      have at_ : ∀ c, c ≠ a.lg → c ≠ a.li → ∀ o, H c = some o → H3 c = some o := fun c h1 h2 o e => at3 c h2 o (at2 c h1 o e)
      refine ⟨ob3, O.me.mono k3, O.vid.mono k3, O.ms.mono k3, O.fd.mono k3, ?_, ?_, O.pn.mono (at_ _ O.ap.1.symm ?_) k3, ?_, O.tl.mono (at_ _ ?_ O.ap.2.symm) k3, O.ap⟩
      · refine ⟨vl ++ [.ref b], at3 _ lgli _ lg2, ?_⟩
        rw [List.map_append]
        exact (tl.mono k3).append (.cons (hv.mono k3) .nil)
      · refine ⟨_, N3, fun m => ?_, by rw [List.length_append]; exact Nat.le_trans (putN_len _ _ _ _) (by show _ + 1 ≤ _ + 1; omega)⟩
        show _ = Option.map V.int (if m = g.1 then some g.2.1 else s.last m)
        rw [valN_put]
        by_cases e : m = g.1
        · rw [if_pos (by rw [e]), if_pos e]; rfl
        · rw [if_neg fun z => e (kM_inj z), if_neg e]; exact hN m
      · obtain ⟨v3, h3, _⟩ := O.pn
        exact ne_of h3 N.ob (by intro z; cases z)
      · obtain ⟨v4, h4, e4, l4⟩ := O.kp
        exact ⟨v4, at_ _ (ne_of h4 hlg (by intro z; cases z)) (ne_of h4 N.ob (by intro z; cases z)) _ h4, fun i => (e4 i).mono k3, l4⟩
      · obtain ⟨v5, h5, _⟩ := O.tl
        exact ne_of h5.ob hlg (by intro z; cases z)
    clear ob ob2
    have hu3 := hu.mono k3
    walk_at "rds"
    refine rd_eqM hu3 O3.me ?_
    walk_at "rds"
    refine iB (fun h => ?_) (fun h => ?_)
    · have h : g.1 = s.me := of_decide_eq_true h
      obtain ⟨vp, hpn, tp⟩ := O3.pn
      have tp : TDs H3 vp (s.pend.map eC) := tp
      have lp := tp.length
      rw [List.length_map] at lp
      walk_at "rds"
      refine ⟨⟨_, SqL.of hpn⟩, fun D nD => ?_⟩
      have Dn : D ∉ a.fp p := O3.fresh nD
      have sD : ∀ o, Same H3 (upd H3 D o) := same_new nD
      refine lc_list (K := K) (a := a.pn) (xs := vp) (fun i H' => LstAt H' D (((s.pend.take i).filter fun c => !decide (c.1 = g.2.1)).map eC) ∧ Same H3 H') ?_ ?_ ?_ ?_
      · exact ⟨⟨[], upd_same, .nil⟩, sD _⟩
      · rintro i H' _ ⟨_, s1⟩
        exact SqL.of (s1 _ _ hpn)
      · rintro i x H' hi ⟨⟨ws, hD, hw⟩, s1⟩
        obtain ⟨d, hd, rd⟩ := tp.at hi
        rw [List.getElem?_map] at hd
        obtain ⟨c, hc, rfl⟩ := Option.map_eq_some_iff.mp hd
        obtain ⟨bc, rfl, hbc⟩ := rd.cst
        have hbc1 := s1 _ _ hbc
        have ht : s.pend.take (i + 1) = s.pend.take i ++ [c] := by rw [List.take_succ, hc]; rfl
        have lw := hw.length
        rw [List.length_map] at lw
        have := List.length_filter_le (fun c : Cst => !decide (c.1 = g.2.1)) (s.pend.take i)
        rw [List.length_take] at this
        have sD1 : ∀ o, Same H3 (upd H' D o) := fun o b u e => by rw [upd_ne (ne_of_none e nD)]; exact s1 b u e
        refine ⟨rfl, ?_⟩
        walk_at "rds"
        have dt : (!decide (V.int c.1 = V.int g.2.1)) = !decide (c.1 = g.2.1) := by
          congr 1
          exact decide_eq_decide.mpr ⟨fun h => V.int.inj h, fun h => by rw [h]⟩
        rw [dt]
        refine iB (fun h => ?_) (fun h => ?_)
        · walk_at "rds"
          refine ⟨ws, hD, by omega, ⟨ws ++ [.ref bc], upd_same, ?_⟩, sD1 _⟩
          rw [ht, List.filter_append, List.map_append, show [c].filter (fun c => !decide (c.1 = g.2.1)) = [c] by rw [List.filter_cons, if_pos h]; rfl]
          exact (hw.mono (tupK_upd fun xs e => by rw [hD] at e; cases e)).append (.cons (rd.mono (TupK.of (sD1 _))) .nil)
        · refine ⟨⟨ws, hD, ?_⟩, s1⟩
          rw [ht, List.filter_append, show [c].filter (fun c => !decide (c.1 = g.2.1)) = [] by rw [List.filter_cons, if_neg (by rw [h]; decide)]; rfl, List.append_nil]
          exact hw
      · rintro H' ⟨hD, s1⟩
        rw [lp, List.take_length] at hD
        have O4 := O3.same s1
        have ob4 := O4.ob
        have Dp : D ≠ p := fun z => Dn (by rw [z]; simp [OA.fp])
        walk_at "rds"
        refine ⟨p, CO, a.dx, _, rfl, ob4, c1, n4, (by show 10 < 1000; decide), ?_⟩
        have pd : p ≠ D := Dp.symm
        have kt : TupK H' (upd H' p (.ins CO a.dx (oF a.vme a.vvid a.vms a.vfd a.lg a.li s.casts D a.kp a.tl))) := tupK_upd fun xs e => by rw [ob4] at e; cases e
        have at_ : ∀ c, c ≠ p → ∀ o, H' c = some o → (upd H' p (.ins CO a.dx (oF a.vme a.vvid a.vms a.vfd a.lg a.li s.casts D a.kp a.tl))) c = some o := fun c h1 o e => by rw [upd_ne h1]; exact e
        obtain ⟨w1, x1, x2⟩ := O4.lg
        obtain ⟨w2, x3, x4⟩ := O4.li
        obtain ⟨w4, x5, x6, x7⟩ := O4.kp
        obtain ⟨w5, x8, x9⟩ := O4.tl
        refine q _ { a with pn := D } ⟨upd_same, O4.me.mono kt, O4.vid.mono kt, O4.ms.mono kt, O4.fd.mono kt, ⟨w1, at_ _ (ne_of x1 ob4 (by intro z; cases z)) _ x1, x2.mono kt⟩, ⟨w2, x3.mono (at_ _ (ne_of x3.ob ob4 (by intro z; cases z)) _ x3.ob) kt, x4⟩, ?_, ⟨w4, at_ _ (ne_of x5 ob4 (by intro z; cases z)) _ x5, fun i => (x6 i).mono kt, x7⟩, ⟨w5, x8.mono (at_ _ (ne_of x8.ob ob4 (by intro z; cases z)) _ x8.ob) kt, x9⟩, ⟨fun z => Dn (by have z : a.lg = D := z; rw [← z]; simp [OA.fp]), O4.ap.2⟩⟩ ?_
        · have e : (s.deliver g).pend = s.pend.filter fun c => !decide (c.1 = g.2.1) := by show (if g.1 = s.me then _ else _) = _; rw [if_pos h]
          rw [e]
          obtain ⟨ws, h1, h2⟩ := hD
          exact ⟨ws, (upd_ne Dp).trans h1, h2.mono kt⟩
        · have F4 : Fr (a.fp p) (a.fp p) H H' := F3.trans (Fr.of s1)
          have hD0 : H D = none := by
            cases e : H D with
            | none => rfl
            | some o => rw [F3.k D o e Dn] at nD; cases nD
          refine ⟨fun b o e n => by rw [upd_ne (show b ≠ p from fun z => n (by rw [z]; simp [OA.fp]))]; exact F4.k b o e n, fun b hb => ?_, F4.t.trans kt, fun b e => F4.s b (by
            by_cases z : b = p
            · rw [z, upd_same] at e; cases e
            · rwa [upd_ne z] at e)⟩
          simp only [OA.fp, List.mem_cons, List.not_mem_nil, or_false] at hb ⊢
          rcases hb with hb | hb | hb | hb | hb | hb
          · exact .inl (.inl hb)
          · exact .inl (.inr (.inl hb))
          · exact .inl (.inr (.inr (.inl hb)))
          · rw [hb]; exact .inr hD0
          · exact .inl (.inr (.inr (.inr (.inr (.inl hb)))))
          · exact .inl (.inr (.inr (.inr (.inr (.inr hb)))))
    · have h : ¬ g.1 = s.me := of_decide_eq_false h
      have e : s.deliver g = { s with log := s.log ++ [g], last := fun m => if m = g.1 then some g.2.1 else s.last m } := by
        show ({ s with log := _, last := _, pend := if g.1 = s.me then _ else _ } : OS) = _
        rw [if_neg h]
      exact q _ a (by rw [e]; exact O3) F3
end
end Mus

set_option maxRecDepth 100000
set_option maxHeartbeats 4000000
namespace Mus
open PySem L2
local macro_rules | `(tactic| walk_at "rd") => `(tactic| first
  | refine ⟨_, rfl, ?_⟩ | refine ⟨(True.intro : True), ?_⟩
  | refine ⟨_, _, rfl, rfl, (⟨by decide, by decide, by decide⟩ : CPow _ _), ?_⟩
  | refine ⟨_, _, rfl, rfl, (⟨by decide, by decide⟩ : CDiv _ _), ?_⟩
  | refine ⟨_, _, rfl, rfl, (by show (0 : Int) < _; decide), ?_⟩
  | refine ⟨_, _, rfl, rfl, ?_⟩ | refine ⟨rfl, ?_⟩ | refine iteT ?_ | refine iteF ?_ | refine ⟨_, _, rfl, ?_⟩ | refine .inl ⟨_, rfl, ?_⟩
  | refine ⟨_, _, _, _, _, rfl, (by assumption), (by assumption), (by assumption), rfl, ?_⟩ | refine ⟨_, _, _, _, rfl, rfl, SqT.of (by assumption), rfl, ?_⟩ | refine ⟨_, _, rfl, SqT.of (by assumption), rfl, ?_⟩
  | refine ⟨_, _, _, _, _, rfl, .ty _, Rp.ty (by assumption), kit_int _, ?_⟩ | refine ⟨_, _, _, _, _, rfl, .ty _, Rp.ty (by assumption), kit_bool _, ?_⟩
  | refine ⟨_, _, _, _, _, rfl, .ty _, Rp.ty (by assumption), kit_str _, ?_⟩ | refine ⟨_, _, _, _, _, rfl, .ty _, Rp.ty (by assumption), kit_tup _, ?_⟩)
local macro_rules | `(tactic| walk_at "cal") => `(tactic| first
  | refine ⟨_, _, _, _, _, rfl, (by assumption), ?_⟩ | refine ⟨_, _, _, _, _, rfl, (by assumption), (by assumption), ?_⟩)
local macro_rules | `(tactic| walk_at "sq") => `(tactic| first
  | refine ⟨_, _, rfl, Or.inr (SqT.of (by assumption)), ?_⟩ | refine ⟨_, _, _, _, rfl, rfl, SqT.of (by assumption), rfl, ?_⟩)
local macro_rules | `(tactic| walk_at "rds") => `(tactic| repeat first | walk_at "rd" | walk_at "cal" | walk_at "sq")
local macro_rules | `(tactic| walk_at "ze") => `(tactic| repeat first
  | exact zes_nil | exact ze_bl | exact ze_str | exact ze_non | apply zes_cons | apply ze_tup | apply ze_lst | apply ze_cat | exact di_c | exact di_v rfl | apply di_opC | apply di_op | apply di_neg | apply ze_i | (refine (⟨?_, ?_, ?_⟩ : CPow _ _) <;> decide) | exact Nat.le_of_ble_eq_true rfl | exact ze_varD rfl (by assumption))
local macro_rules | `(tactic| walk_at "rdz") => `(tactic| repeat (fail_if_success (first | show tLst _ _ _ _ | show tAsg (tLst _) _ _ _ _ | show tSeq (tAsg (tLst _) _) _ _ _ _)); first | walk_at "rd" | walk_at "cal" | walk_at "sq")
section
variable {P : Program} {w : World} {K : PySem.W.Frag} {mg : Str → Option Value} {base : Heap} {CO CV : Addr}
abbrev s_Order__decide : Stmt := inClass (top 5) 8
abbrev N_Order__decide : List Str := ["self", "message", "place", "member"]
abbrev P_Order__decide : List Str := ["self", "message"]
theorem sc_Order__decide : FnScope N_Order__decide P_Order__decide (defScope s_Order__decide) := ⟨rfl, rfl, rfl, by decide +kernel, rfl, by decide +kernel, by decide +kernel⟩
def sp_dec (w : World) (CO : Addr) : Sp := fun vs H Q _ => ∃ (p : Addr) (a : OA) (s : OS) (v : V) (g : Msg), vs = [.ref p, v] ∧ OAt w CO H p a s ∧ TD H v (eG g) ∧ s.log.length ≤ 90000 ∧ s.pend.length ≤ 90000 ∧ s.mems.length ≤ 1000 ∧
  ∀ t H' a' l1 l2, OAt w CO H' p a' (s.deliver g) → Fr (a.fp p) (a'.fp p) H H' → H' t = some (.tup [.ref l1, .ref l2]) → NewL H (a'.fp p) H' l1 [eG g] → NewL H (a'.fp p) H' l2 ((s.ords ((s.log.length : Int) + 1) g).map ePk) → l1 ≠ l2 → Q (.ref t) H'
theorem ok_dec {f : Addr} {fd : FuncData} (T : Tx K mg CO CV) (m_Order__deliver : MethOk P w K mg base CX0 CO "_deliver" P_Order__deliver 1 (sp_del w CO)) (m_Order__others : MethOk P w K mg base CX0 CO "_others" P_Order__others 1 (sp_oth CO)) (m_Order__order_letter : MethOk P w K mg base CX0 CO "_order_letter" P_Order__order_letter 1 (sp_ordl CO))
    (F : Fun K "_decide" "Order._decide" s_Order__decide f fd) : FnOk P w K mg base CX0 2 f fd P_Order__decide (sp_dec w CO) := by
  have nd := sc_Order__decide.nd
  refine F.ok sc_Order__decide (fun vs H Q E h => ?_) (fun cdv A outer s H vs Q E hr h => ?_)
  · obtain ⟨_, _, _, _, _, rfl, _⟩ := h
    rfl
  · obtain ⟨p, a, s, v, g, rfl, O, hv, hl, hp, hm, q⟩ := h
    have hs := sl
    obtain ⟨c1, n2⟩ : L2.Cls K CO ∧ NoAttr K CO "_log" := ⟨T.cl_Order, T.n_Order__log⟩
    refine ⟨_, (pss_cons (ps_expr (pmeth m_Order__deliver T.cl_Order (pv 0) hr (pa_cons (pv 1) pa_nil)))
      (pss_cons (ps_set (i := 2) nd rfl (Or.inr rfl) (pe_callB call_len_seq (by rfl) T.b_len (by decide +kernel) (pa_cons (pe_fld (pv 0) (by rfl)) pa_nil)))
      (pss_one (ps_ret (pe_tup (pa_cons (pe_lst (pa_cons (pv 1) pa_nil)) (pa_cons (pe_lcX (own := [("member", 3)]) rfl nd (pi_list (pmeth0 m_Order__others T.cl_Order (pv 0) hr)) (blkOk_by (own := [("member", 3)]) (N := N_Order__decide) (sc := defScope s_Order__decide) (by decide +kernel)) (fun _ _ _ _ _ => (pg_name (i := 3) nd rfl (Or.inl rfl))) (fun _ _ _ _ _ => pts_nil) (fun _ _ _ _ _ => (pmeth m_Order__order_letter T.cl_Order (pv 0) hr (pa_cons (pv 3) (pa_cons (pv 2) (pa_cons (pv 1) pa_nil)))))) pa_nil))))))), ?_⟩
    refine ⟨_, rfl, p, a.dx, _, rfl, O.ob, rfl, _, rfl, p, a, s, v, g, rfl, O, hv, hl, hp, fun H1 a1 O1 F1 => ?_⟩
    have ob := O1.ob
    have hv1 := hv.mono F1.t
    obtain ⟨vl, hlg, tl⟩ := O1.lg
    have ll : vl.length = s.log.length + 1 := by
      have := tl.length
      rw [List.length_map] at this
      show vl.length = _
      rw [this]
      show (s.log ++ [g]).length = _
      rw [List.length_append]; rfl
    walk_at "rds"
    refine ⟨a1.lg, _, rfl, .inl (SqL.of hlg), ?_⟩
    refine ⟨_, rfl, by show 1 ≤ sizeLine; omega, fun l1 nl1 => ?_⟩
    have s1 := same_new nl1 (.lst [v])
    have h1 : (upd H1 l1 (.lst [v])) l1 = some (.lst [v]) := upd_same
    generalize upd H1 l1 (.lst [v]) = H2 at *
    have O2 := O1.same s1
    refine ⟨_, rfl, p, a1.dx, _, rfl, O2.ob, rfl, w, p, a1, _, rfl, O2, fun r H3 s3 nr hr3 => ?_⟩
    have O3 := O2.same s3
    obtain ⟨vo, hvo, to⟩ := hr3
    have lo := to.length
    rw [List.length_map] at lo
    have lo2 : (s.deliver g).others.length ≤ 1000 := Nat.le_trans (List.length_filter_le _ _) hm
    refine ⟨r, rfl, ⟨_, SqL.of hvo⟩, fun D nD => ?_⟩
    have s13 := s1.trans s3
    have hv3 := hv1.same s13
    refine lc_list (K := K) (a := r) (xs := vo) (fun i H' => LstAt H' D ((((s.deliver g).others.take i).map fun m => ((m.1, Ltr.order s.me s.vid ((s.log.length : Int) + 1) g) : Pkt)).map ePk) ∧ Same H3 H') ?_ ?_ ?_ ?_
    · exact ⟨⟨[], upd_same, .nil⟩, same_new nD _⟩
    · rintro i H' _ ⟨_, s4⟩
      exact SqL.of (s4 _ _ hvo)
    · rintro i x H' hi ⟨⟨ws, hD, hw⟩, s4⟩
      obtain ⟨d, hd, rd⟩ := to.at hi
      rw [List.getElem?_map] at hd
      obtain ⟨m, hm, rfl⟩ := Option.map_eq_some_iff.mp hd
      have ht : (s.deliver g).others.take (i + 1) = (s.deliver g).others.take i ++ [m] := by rw [List.take_succ, hm]; rfl
      have O4 := O3.same s4
      have lw := hw.length
      rw [List.length_map, List.length_map, List.length_take] at lw
      refine ⟨rfl, ?_⟩
      refine ⟨_, rfl, p, a1.dx, _, rfl, O4.ob, rfl, ?_⟩
      walk_at "rds"
      have el : (vl.length : Int) = (s.log.length : Int) + 1 := by omega
      refine ⟨w, p, a1, s.deliver g, x, v, m, (s.log.length : Int) + 1, g, by rw [← el]; rfl, O4, rd.same s4, hv3.same s4, fun r5 H5 s5 d5 => ?_⟩
      refine ⟨ws, s5 _ _ hD, by omega, ⟨ws ++ [.ref r5], upd_same, ?_⟩, fun b o e => by rw [upd_ne (ne_of_none e nD)]; exact s5 _ _ (s4 _ _ e)⟩
      rw [ht, List.map_append, List.map_append]
      have kt : TupK H5 (upd H5 D (.lst (ws ++ [.ref r5]))) := tupK_upd fun xs e => by rw [s5 _ _ hD] at e; cases e
      exact ((hw.same s5).mono kt).append (.cons (d5.mono kt) .nil)
    · rintro H' ⟨hD, s4⟩
      rw [lo, List.take_length] at hD
      refine ⟨by show 2 ≤ sizeLine; omega, fun t nt => ?_⟩
      have st := same_new nt (.tup [.ref l1, .ref D])
      have hn2 := F1.s
      have O5 := ((O3.same s4).same st)
      refine q t _ a1 l1 D O5 (F1.trans (Fr.of (s13.trans (s4.trans st)))) upd_same ⟨⟨[v], st _ _ (s4 _ _ (s3 _ _ h1)), .cons ((hv3.same s4).same st) .nil⟩, hn2 _ nl1, O1.fresh nl1⟩ ⟨hD.mono (fun o e => st _ _ e) (TupK.of st), hn2 _ ?_, O3.fresh nD⟩ ?_
      · cases e : H1 D with
        | none => rfl
        | some o => rw [s3 _ _ (s1 _ _ e)] at nD; cases nD
      · exact ne_of_none (s3 _ _ h1) nD
end
end Mus

set_option maxRecDepth 100000
set_option maxHeartbeats 4000000
namespace Mus
open PySem L2
local macro_rules | `(tactic| walk_at "rd") => `(tactic| first
  | refine ⟨_, rfl, ?_⟩ | refine ⟨(True.intro : True), ?_⟩
  | refine ⟨_, _, rfl, rfl, (⟨by decide, by decide, by decide⟩ : CPow _ _), ?_⟩
  | refine ⟨_, _, rfl, rfl, (⟨by decide, by decide⟩ : CDiv _ _), ?_⟩
  | refine ⟨_, _, rfl, rfl, (by show (0 : Int) < _; decide), ?_⟩
  | refine ⟨_, _, rfl, rfl, ?_⟩ | refine ⟨rfl, ?_⟩ | refine iteT ?_ | refine iteF ?_ | refine ⟨_, _, rfl, ?_⟩ | refine .inl ⟨_, rfl, ?_⟩
  | refine ⟨_, _, _, _, _, rfl, (by assumption), (by assumption), (by assumption), rfl, ?_⟩ | refine ⟨_, _, _, _, rfl, rfl, SqT.of (by assumption), rfl, ?_⟩ | refine ⟨_, _, rfl, SqT.of (by assumption), rfl, ?_⟩
  | refine ⟨_, _, _, _, _, rfl, .ty _, Rp.ty (by assumption), kit_int _, ?_⟩ | refine ⟨_, _, _, _, _, rfl, .ty _, Rp.ty (by assumption), kit_bool _, ?_⟩
  | refine ⟨_, _, _, _, _, rfl, .ty _, Rp.ty (by assumption), kit_str _, ?_⟩ | refine ⟨_, _, _, _, _, rfl, .ty _, Rp.ty (by assumption), kit_tup _, ?_⟩)
local macro_rules | `(tactic| walk_at "cal") => `(tactic| first
  | refine ⟨_, _, _, _, _, rfl, (by assumption), ?_⟩ | refine ⟨_, _, _, _, _, rfl, (by assumption), (by assumption), ?_⟩)
local macro_rules | `(tactic| walk_at "sq") => `(tactic| first
  | refine ⟨_, _, rfl, Or.inr (SqT.of (by assumption)), ?_⟩ | refine ⟨_, _, _, _, rfl, rfl, SqT.of (by assumption), rfl, ?_⟩)
local macro_rules | `(tactic| walk_at "rds") => `(tactic| repeat first | walk_at "rd" | walk_at "cal" | walk_at "sq")
local macro_rules | `(tactic| walk_at "ze") => `(tactic| repeat first
  | exact zes_nil | exact ze_bl | exact ze_str | exact ze_non | apply zes_cons | apply ze_tup | apply ze_lst | apply ze_cat | exact di_c | exact di_v rfl | apply di_opC | apply di_op | apply di_neg | apply ze_i | (refine (⟨?_, ?_, ?_⟩ : CPow _ _) <;> decide) | exact Nat.le_of_ble_eq_true rfl | exact ze_varD rfl (by assumption))
local macro_rules | `(tactic| walk_at "rdz") => `(tactic| repeat (fail_if_success (first | show tLst _ _ _ _ | show tAsg (tLst _) _ _ _ _ | show tSeq (tAsg (tLst _) _) _ _ _ _)); first | walk_at "rd" | walk_at "cal" | walk_at "sq")
theorem cut16 {α : Type} (xs : List α) (t : Nat) : ∀ lo hi : Option Int, lo = some (t : Int) → hi = some ((t : Int) + 16) → (xs.drop (HT.sIx xs.length 0 lo)).take (HT.sIx xs.length xs.length hi - HT.sIx xs.length 0 lo) = (xs.drop t).take 16 := by
  rintro _ _ rfl rfl
  have e : (t : Int) + 16 = ((t + 16 : Nat) : Int) := by omega
  rw [e, HT.sIx_nat, HT.sIx_nat]
  by_cases h : t ≤ xs.length
  · rw [Nat.min_eq_left h]
    by_cases h2 : t + 16 ≤ xs.length
    · rw [Nat.min_eq_left h2, show t + 16 - t = 16 by omega]
    · rw [Nat.min_eq_right (by omega)]
      rw [List.take_of_length_le (by rw [List.length_drop]; exact Nat.le_refl _), List.take_of_length_le (by rw [List.length_drop]; omega)]
  · rw [Nat.min_eq_right (show xs.length ≤ t by omega), Nat.min_eq_right (show xs.length ≤ t + 16 by omega), List.drop_length, List.drop_eq_nil_of_le (show xs.length ≤ t by omega), List.take_nil, List.take_nil]
section
variable {P : Program} {w : World} {K : PySem.W.Frag} {mg : Str → Option Value} {base : Heap} {CO CV : Addr}
abbrev s_Order__letters_behind : Stmt := inClass (top 5) 13
abbrev N_Order__letters_behind : List Str := ["self", "member", "told", "behind", "place", "message"]
abbrev P_Order__letters_behind : List Str := ["self", "member"]
theorem sc_Order__letters_behind : FnScope N_Order__letters_behind P_Order__letters_behind (defScope s_Order__letters_behind) := ⟨rfl, rfl, rfl, by decide +kernel, rfl, by decide +kernel, by decide +kernel⟩
def sp_beh (w : World) (CO : Addr) : Sp := fun vs H Q _ => ∃ (p : Addr) (a : OA) (s : OS) (v : V) (m : Mem), vs = [.ref p, v] ∧ OAt w CO H p a s ∧ TD H v (eM m) ∧ 0 ≤ (s.told m).getD 0 ∧ (s.told m).getD 0 ≤ 2 ^ 61 ∧ s.log.length ≤ 100000 ∧
  ∀ r H', Same H H' → H r = none → LstAt H' r ((s.behind m).map ePk) → Q (.ref r) H'
theorem ok_beh {f : Addr} {fd : FuncData} (T : Tx K mg CO CV) (m_Order__order_letter : MethOk P w K mg base CX0 CO "_order_letter" P_Order__order_letter 1 (sp_ordl CO)) (F : Fun K "_letters_behind" "Order._letters_behind" s_Order__letters_behind f fd) : FnOk P w K mg base CX0 2 f fd P_Order__letters_behind (sp_beh w CO) := by
  have nd := sc_Order__letters_behind.nd
  refine F.ok sc_Order__letters_behind (fun vs H Q E h => ?_) (fun cdv A outer s H vs Q E hr h => ?_)
  · obtain ⟨_, _, _, _, _, rfl, _⟩ := h
    rfl
  · obtain ⟨p, a, s, v, m, rfl, O, hv, t0, t1, hl, q⟩ := h
    have hs := sl
    have ob := O.ob
    obtain ⟨c1, n1, n2⟩ : L2.Cls K CO ∧ NoAttr K CO "_log" ∧ NoAttr K CO "_told" := ⟨T.cl_Order, T.n_Order__log, T.n_Order__told⟩
    obtain ⟨vl, hlg, tl⟩ := O.lg
    obtain ⟨kvs, N, hN, lN⟩ := O.tl
    obtain ⟨bm, rfl, nk⟩ := hv.nk
    have ll := tl.length
    rw [List.length_map] at ll
    refine ⟨_, (pss_cons (ps_set (i := 2) nd rfl (Or.inl rfl) (pe_nget2 hr.units (pe_fld (pv 0) (by rfl)) (pv 1) pe_int ⟨rfl, rfl, rfl, rfl⟩))
      (pss_cons (ps_set (i := 3) nd rfl (Or.inl rfl) (pe_slice sl_list (pe_fld (pv 0) (by rfl)) (po_some (pv 2)) (po_some (pe_op op_add (pv 2) (pe_const T.c_WINDOW)))))
      (pss_one (ps_ret (pe_lcX (own := [("place", 4), ("message", 5)]) rfl nd (pi_enK (by rfl) T.b_enumerate (pa_cons (pv 3) pa_nil) (pk_cons (pe_op op_add (pv 2) pe_int) pk_nil)) (blkOk_by (own := [("place", 4), ("message", 5)]) (N := N_Order__letters_behind) (sc := defScope s_Order__letters_behind) (by decide +kernel)) (fun _ _ _ _ _ => (pg_tup (by rfl) (pgs_cons (pg_name (i := 4) nd rfl (Or.inl rfl)) (pgs_cons (pg_name (i := 5) nd rfl (Or.inl rfl)) pgs_nil)))) (fun _ _ _ _ _ => pts_nil) (fun _ _ _ _ _ => (pmeth m_Order__order_letter T.cl_Order (pv 0) hr (pa_cons (pv 1) (pa_cons (pv 4) (pa_cons (pv 5) pa_nil)))))))))), ?_⟩
    walk_at "rds"
    refine ⟨a.tl, kvs, rfl, N, ?_⟩
    walk_at "rds"
    refine ⟨bm, (s.told m).map V.int, rfl, ⟨kvs, kM m, N, nk, kM_depth _, (hN m).symm⟩, ?_⟩
    have eg : ((s.told m).map V.int).getD (V.int 0) = V.int ((s.told m).getD 0) := by cases s.told m <;> rfl
    rw [eg]
    generalize ht : (s.told m).getD 0 = t at *
    walk_at "rds"
    refine ⟨a.lg, _, rfl, SqL.of hlg, fun b nb => ?_⟩
    obtain ⟨n, rfl⟩ : ∃ n : Nat, t = (n : Int) := ⟨t.toNat, by omega⟩
    have ec : cutV vl (some (n : Int)) (some ((n : Int) + 16)) = (vl.drop n).take 16 := cut16 vl n _ _ rfl rfl
    rw [ec]
    have sb := same_new nb (.lst ((vl.drop n).take 16))
    have hb : (upd H b (.lst ((vl.drop n).take 16))) b = some (.lst ((vl.drop n).take 16)) := upd_same
    generalize upd H b (.lst ((vl.drop n).take 16)) = H2 at *
    have tc : TDs H2 ((vl.drop n).take 16) (((s.log.drop n).take 16).map eG) := by
      rw [List.map_take, List.map_drop]
      exact ((tl.same sb).drop n).take 16
    have lc := tc.length
    rw [List.length_map] at lc
    have l16 : ((s.log.drop n).take 16).length ≤ 16 := by rw [List.length_take]; omega
    walk_at "rds"
    refine ⟨b, _, (n : Int) + 1, rfl, rfl, SqL.of hb, by omega, by omega, fun D nD => ?_⟩
    have O2 := O.same sb
    have hv2 := hv.same sb
    refine lc_it (walk_enK (K := K) (a := b) (k := (n : Int) + 1) (xs := (vl.drop n).take 16)) (fun i H' => LstAt H' D (((((s.log.drop n).take 16).take i).mapIdx fun j g => ((m.1, Ltr.order s.me s.vid (((s.told m).getD 0) + 1 + (j : Int)) g) : Pkt)).map ePk) ∧ Same H2 H') ?_ ?_ ?_ ?_
    · exact ⟨⟨[], upd_same, .nil⟩, same_new nD _⟩
    · rintro i H' _ ⟨_, s1⟩
      exact SqL.of (s1 _ _ hb)
    · rintro i x H' H'' hi ⟨⟨ws, hD, hw⟩, s1⟩ ⟨tt, y0, y, rfl, nt, rfl, e0, ey⟩
      cases e0
      obtain ⟨d, hd, rd⟩ := tc.at ey
      rw [List.getElem?_map] at hd
      obtain ⟨g, hg, rfl⟩ := Option.map_eq_some_iff.mp hd
      have st := same_new nt (.tup [V.int ((n : Int) + 1 + (i : Int)), y])
      have s2 := s1.trans st
      have hg' : ((s.log.drop n).take 16).take (i + 1) = ((s.log.drop n).take 16).take i ++ [g] := by rw [List.take_succ, hg]; rfl
      have lw := hw.length
      rw [List.length_map, List.length_mapIdx, List.length_take] at lw
      have O3 := O2.same s2
      refine ⟨tt, _, rfl, SqT.of upd_same, rfl, ?_⟩
      refine ⟨_, _, rfl, _, _, rfl, rfl, rfl, ?_⟩
      refine ⟨_, rfl, p, a.dx, _, rfl, O3.ob, rfl, ?_⟩
      walk_at "rds"
      refine ⟨w, p, a, s, .ref bm, y, m, _, g, rfl, O3, hv2.same s2, rd.same s2, fun r5 H5 s5 d5 => ?_⟩
      have hD5 := s5 _ _ (st _ _ hD)
      refine ⟨ws, hD5, by omega, ⟨ws ++ [.ref r5], upd_same, ?_⟩, fun c o e => by rw [upd_ne (ne_of_none e nD)]; exact s5 _ _ (s2 _ _ e)⟩
      have kt : TupK H5 (upd H5 D (.lst (ws ++ [.ref r5]))) := tupK_upd fun xs e => by rw [hD5] at e; cases e
      rw [hg', List.mapIdx_append, List.map_append]
      have ei : (((s.log.drop n).take 16).take i).length = i := by rw [List.length_take]; omega
      refine (((hw.same st).same s5).mono kt).append ?_
      rw [ei]
      refine .cons ?_ .nil
      have d6 := d5.mono kt
      have e2 : (0 + i : Nat) = i := Nat.zero_add i
      show TD _ _ (ePk (m.1, Ltr.order s.me s.vid (((s.told m).getD 0) + 1 + ((0 + i : Nat) : Int)) g))
      rw [e2, ht]
      exact d6
    · rintro H' ⟨hD, s1⟩
      rw [lc, List.take_length] at hD
      have eb : s.behind m = ((s.log.drop n).take 16).mapIdx fun j g => ((m.1, Ltr.order s.me s.vid (((s.told m).getD 0) + 1 + (j : Int)) g) : Pkt) := by
        show (((s.log.drop (((s.told m).getD 0).toNat)).take 16).mapIdx _) = _
        rw [ht]; rfl
      refine q D H' (sb.trans s1) ?_ (by rw [eb]; exact hD)
      cases e : H D with
      | none => rfl
      | some o => rw [sb _ _ e] at nD; cases nD
end
end Mus

set_option maxRecDepth 100000
set_option maxHeartbeats 4000000
namespace Mus
open PySem L2
local macro_rules | `(tactic| walk_at "rd") => `(tactic| first
  | refine ⟨_, rfl, ?_⟩ | refine ⟨(True.intro : True), ?_⟩
  | refine ⟨_, _, rfl, rfl, (⟨by decide, by decide, by decide⟩ : CPow _ _), ?_⟩
  | refine ⟨_, _, rfl, rfl, (⟨by decide, by decide⟩ : CDiv _ _), ?_⟩
  | refine ⟨_, _, rfl, rfl, (by show (0 : Int) < _; decide), ?_⟩
  | refine ⟨_, _, rfl, rfl, ?_⟩ | refine ⟨rfl, ?_⟩ | refine iteT ?_ | refine iteF ?_ | refine ⟨_, _, rfl, ?_⟩ | refine .inl ⟨_, rfl, ?_⟩
  | refine ⟨_, _, _, _, _, rfl, (by assumption), (by assumption), (by assumption), rfl, ?_⟩ | refine ⟨_, _, _, _, rfl, rfl, SqT.of (by assumption), rfl, ?_⟩ | refine ⟨_, _, rfl, SqT.of (by assumption), rfl, ?_⟩
  | refine ⟨_, _, _, _, _, rfl, .ty _, Rp.ty (by assumption), kit_int _, ?_⟩ | refine ⟨_, _, _, _, _, rfl, .ty _, Rp.ty (by assumption), kit_bool _, ?_⟩
  | refine ⟨_, _, _, _, _, rfl, .ty _, Rp.ty (by assumption), kit_str _, ?_⟩ | refine ⟨_, _, _, _, _, rfl, .ty _, Rp.ty (by assumption), kit_tup _, ?_⟩)
local macro_rules | `(tactic| walk_at "cal") => `(tactic| first
  | refine ⟨_, _, _, _, _, rfl, (by assumption), ?_⟩ | refine ⟨_, _, _, _, _, rfl, (by assumption), (by assumption), ?_⟩)
local macro_rules | `(tactic| walk_at "sq") => `(tactic| first
  | refine ⟨_, _, rfl, Or.inr (SqT.of (by assumption)), ?_⟩ | refine ⟨_, _, _, _, rfl, rfl, SqT.of (by assumption), rfl, ?_⟩)
local macro_rules | `(tactic| walk_at "rds") => `(tactic| repeat first | walk_at "rd" | walk_at "cal" | walk_at "sq")
local macro_rules | `(tactic| walk_at "ze") => `(tactic| repeat first
  | exact zes_nil | exact ze_bl | exact ze_str | exact ze_non | apply zes_cons | apply ze_tup | apply ze_lst | apply ze_cat | exact di_c | exact di_v rfl | apply di_opC | apply di_op | apply di_neg | apply ze_i | (refine (⟨?_, ?_, ?_⟩ : CPow _ _) <;> decide) | exact Nat.le_of_ble_eq_true rfl | exact ze_varD rfl (by assumption))
local macro_rules | `(tactic| walk_at "rdz") => `(tactic| repeat (fail_if_success (first | show tLst _ _ _ _ | show tAsg (tLst _) _ _ _ _ | show tSeq (tAsg (tLst _) _) _ _ _ _)); first | walk_at "rd" | walk_at "cal" | walk_at "sq")
theorem valV_drop {κ : Type} [DecidableEq κ] (kvs : List (κ × V)) (k j : κ) : valV (dropK kvs k) j = if j = k then none else valV kvs j := by
  induction kvs with
  | nil => unfold dropK; simp [valV_nil]
  | cons p r ih =>
    by_cases e : p.1 = k
    · rw [dropK_pos e, ih]
      by_cases e2 : j = k
      · rw [if_pos e2, if_pos e2]
      · rw [if_neg e2, if_neg e2, valV_neg (fun z => e2 (z.symm.trans e))]
    · rw [dropK_neg e]
      by_cases e2 : p.1 = j
      · rw [valV_pos e2, valV_pos e2, if_neg (fun z => e (e2.trans z))]
      · rw [valV_neg e2, valV_neg e2, ih]
theorem valV_memk {κ : Type} [DecidableEq κ] {kvs : List (κ × V)} {k : κ} {v : V} (h : valV kvs k = some v) : k ∈ kvs.map (·.1) := by
  induction kvs with
  | nil => cases h
  | cons p r ih =>
    by_cases e : p.1 = k
    · exact List.mem_cons.mpr (.inl e.symm)
    · rw [valV_neg e] at h
      exact List.mem_cons_of_mem _ (ih h)
theorem flush_none {s : OS} (n : Nat) (h : s.kept ((s.log.length : Int) + 1) = none) : OS.flush n s = (s, []) := by
  cases n with
  | zero => rfl
  | succ n => show (match s.kept ((s.log.length : Int) + 1) with | none => (s, []) | some g => _) = _; rw [h]
theorem flush_some {s : OS} {n : Nat} {g : Msg} (h : s.kept ((s.log.length : Int) + 1) = some g) : OS.flush (n + 1) s = ((OS.flush n ((s.drop ((s.log.length : Int) + 1)).deliver g)).1, g :: (OS.flush n ((s.drop ((s.log.length : Int) + 1)).deliver g)).2) := by
  show (match s.kept ((s.log.length : Int) + 1) with | none => (s, []) | some g => _) = _
  rw [h]
section
variable {P : Program} {w : World} {K : PySem.W.Frag} {mg : Str → Option Value} {base : Heap} {CO CV : Addr}
abbrev s_Order__deliver_kept : Stmt := inClass (top 5) 10
abbrev N_Order__deliver_kept : List Str := ["self", "delivered", "message"]
abbrev P_Order__deliver_kept : List Str := ["self"]
theorem sc_Order__deliver_kept : FnScope N_Order__deliver_kept P_Order__deliver_kept (defScope s_Order__deliver_kept) := ⟨rfl, rfl, rfl, by decide +kernel, rfl, by decide +kernel, by decide +kernel⟩
def sp_dk (w : World) (CO : Addr) : Sp := fun vs H Q _ => ∃ (p : Addr) (a : OA) (s : OS), vs = [.ref p] ∧ OAt w CO H p a s ∧ s.log.length + s.kn ≤ 90000 ∧ s.pend.length ≤ 90000 ∧
  ∀ r H' a', OAt w CO H' p a' (OS.flush s.kn s).1 → Fr (a.fp p) (a'.fp p) H H' → NewL H (a'.fp p) H' r ((OS.flush s.kn s).2.map eG) → Q (.ref r) H'
theorem ok_dk {f : Addr} {fd : FuncData} (T : Tx K mg CO CV) (m_Order__deliver : MethOk P w K mg base CX0 CO "_deliver" P_Order__deliver 1 (sp_del w CO)) (F : Fun K "_deliver_kept" "Order._deliver_kept" s_Order__deliver_kept f fd) : FnOk P w K mg base CX0 2 f fd P_Order__deliver_kept (sp_dk w CO) := by
  have nd := sc_Order__deliver_kept.nd
  refine F.ok sc_Order__deliver_kept (fun vs H Q E h => ?_) (fun cdv A outer s H vs Q E hr h => ?_)
  · obtain ⟨_, _, _, rfl, _⟩ := h
    rfl
  · obtain ⟨p, a, s, rfl, O, hl, hp, q⟩ := h
    have hs := sl
    have hu := hu_of hr
    obtain ⟨c1, n1, n2⟩ : L2.Cls K CO ∧ NoAttr K CO "_log" ∧ NoAttr K CO "_kept" := ⟨T.cl_Order, T.n_Order__log, T.n_Order__kept⟩
    refine ⟨_, (pss_cons (ps_set (i := 1) nd rfl (Or.inl rfl) (pe_lst pa_nil))
      (pss_cons (ps_while PassesOwn.never (pt_cmp (pc_din hu (pe_op op_add (pe_callB call_len_seq (by rfl) T.b_len (by decide +kernel) (pa_cons (pe_fld (pv 0) (by rfl)) pa_nil)) pe_int) (pe_fld (pv 0) (by rfl))))
        (pss_cons (ps_set (i := 2) nd rfl (Or.inl rfl) (pe_dpop1 (pe_fld (pv 0) (by rfl)) (pe_op op_add (pe_callB call_len_seq (by rfl) T.b_len (by decide +kernel) (pa_cons (pe_fld (pv 0) (by rfl)) pa_nil)) pe_int) ⟨rfl, rfl, rfl, rfl⟩))
        (pss_cons (ps_expr (pmeth m_Order__deliver T.cl_Order (pv 0) hr (pa_cons (pv 2) pa_nil)))
        (pss_one (ps_expr (pe_bm PySem.F.plainAttrs_list PySem.F.slot_list_append PySem.F.type_list_append mt_append (pv 1) (pa_cons (pv 2) pa_nil)))))))
      (pss_one (ps_ret (pv 1))))), ?_⟩
    refine ⟨by show 0 ≤ sizeLine; omega, fun D nD => ?_⟩
    have s0 := same_new nD (.lst [])
    have Dn := O.fresh nD
    refine ⟨fun m σ H' => ∃ (a1 : OA) (s1 : OS) (gs : List Msg) (vs : List V) (x2 : Option V), m = s1.kn ∧ σ = [some (.ref p), some (.ref D), x2] ∧ OAt w CO H' p a1 s1 ∧ Fr (a.fp p) (a1.fp p) H H' ∧ H' D = some (.lst vs) ∧ TDs H' vs (gs.map eG) ∧ D ∉ a1.fp p ∧
      OS.flush s.kn s = ((OS.flush s1.kn s1).1, gs ++ (OS.flush s1.kn s1).2) ∧ s1.log.length + s1.kn ≤ s.log.length + s.kn ∧ gs.length + s1.kn ≤ s.kn ∧ s1.pend.length ≤ s.pend.length, ⟨s.kn, a, s, [], [], none, rfl, rfl, O.same s0, Fr.of s0, upd_same, .nil, Dn, rfl, Nat.le_refl _, by simp, Nat.le_refl _⟩, ?_⟩
    rintro m σ H1 ⟨a1, s1, gs, vs, x2, rfl, rfl, O1, F1, hD, tD, D1, ef, b1, b2, b3⟩
    have ob := O1.ob
    obtain ⟨vl, hlg, tl⟩ := O1.lg
    obtain ⟨kvs, hk, ek, lk, ndk⟩ := O1.kp
    have ll := tl.length
    rw [List.length_map] at ll
    walk_at "rds"
    refine ⟨a1.lg, _, rfl, .inl (SqL.of hlg), ?_⟩
    walk_at "rds"
    have ei : (vl.length : Int) + 1 = (s1.log.length : Int) + 1 := by omega
    have dg : DGet H1 a1.kp (V.int ((vl.length : Int) + 1)) (valV kvs (Sum.inl ((s1.log.length : Int) + 1))) := by rw [ei]; exact DGet.k (k := Sum.inl ((s1.log.length : Int) + 1)) hk
    refine ⟨a1.kp, _, rfl, dg, ?_⟩
    refine ⟨_, rfl, ?_⟩
    have ekk := ek ((s1.log.length : Int) + 1)
    cases hkg : s1.kept ((s1.log.length : Int) + 1) with
    | none =>
      rw [hkg] at ekk
      have e0 : valV kvs (Sum.inl ((s1.log.length : Int) + 1)) = none := by
        cases e : valV kvs (Sum.inl ((s1.log.length : Int) + 1)) with
        | none => rfl
        | some v => rw [e] at ekk; cases ekk
      rw [e0]
      refine iteF ?_
      rw [flush_none _ hkg, List.append_nil] at ef
      refine ⟨_, rfl, ?_⟩
      refine q D H1 a1 (by rw [ef]; exact O1) F1 ⟨⟨vs, hD, by rw [ef]; exact tD⟩, nD, D1⟩
    | some g =>
      rw [hkg] at ekk
      obtain ⟨v, e0, hv⟩ : ∃ v, valV kvs (Sum.inl ((s1.log.length : Int) + 1)) = some v ∧ TD H1 v (eG g) := by
        cases e : valV kvs (Sum.inl ((s1.log.length : Int) + 1)) with
        | none => rw [e] at ekk; cases ekk
        | some v => rw [e] at ekk; exact ⟨v, rfl, ekk⟩
      have hdl := dropK_len (kvs := kvs) (k := Sum.inl ((s1.log.length : Int) + 1)) ndk (valV_memk e0)
      obtain ⟨n, hn⟩ : ∃ n, s1.kn = n + 1 := ⟨s1.kn - 1, by omega⟩
      rw [hn, flush_some hkg] at ef
      rw [e0]
      refine iteT ?_
      refine ⟨fun σ' H' => ∃ (a2 : OA) (gs' : List Msg) (vs : List V) (x2 : Option V), σ' = [some (.ref p), some (.ref D), x2] ∧ OAt w CO H' p a2 ((s1.drop ((s1.log.length : Int) + 1)).deliver g) ∧ Fr (a.fp p) (a2.fp p) H H' ∧ H' D = some (.lst vs) ∧ TDs H' vs (gs'.map eG) ∧ D ∉ a2.fp p ∧ gs' = gs ++ [g], fun σ' H' h => ?_, ?_⟩
      · obtain ⟨a2, gs', vs2, x2', rfl, O2, F2, hD2, tD2, D2, rfl⟩ := h
        have hkn : ((s1.drop ((s1.log.length : Int) + 1)).deliver g).kn = n := by show s1.kn - 1 = n; omega
        refine ⟨n, by omega, a2, _, _, vs2, _, hkn.symm, rfl, O2, F2, hD2, tD2, D2, ?_, ?_, ?_, ?_⟩
        · rw [ef, hkn, List.append_assoc]; rfl
        · rw [hkn]
          show (s1.log ++ [g]).length + n ≤ _
          rw [List.length_append]
          show s1.log.length + 1 + n ≤ _
          omega
        · rw [hkn, List.length_append]
          show gs.length + 1 + n ≤ _
          omega
        · refine Nat.le_trans ?_ b3
          show (if g.1 = s1.me then s1.pend.filter _ else s1.pend).length ≤ _
          split
          · exact List.length_filter_le _ _
          · exact Nat.le_refl _
      · walk_at "rds"
        refine ⟨.inl ⟨kvs, .inl hk⟩, ?_⟩
        walk_at "rds"
        refine ⟨a1.lg, _, rfl, .inl (SqL.of hlg), ?_⟩
        walk_at "rds"
        refine ⟨kvs, Sum.inl ((s1.log.length : Int) + 1), v, hk, congrArg V.int ei, e0, ?_⟩
        generalize hh2 : upd H1 a1.kp _ = H2
        have k2 : TupK H1 H2 := by subst hh2; exact tupK_upd fun xs e => by rw [hk] at e; cases e
        have at2 : ∀ c, c ≠ a1.kp → ∀ o, H1 c = some o → H2 c = some o := fun c h o e => by subst hh2; rw [upd_ne h]; exact e
        have kp2 : H2 a1.kp = some (.dK (dropK kvs (Sum.inl ((s1.log.length : Int) + 1)))) := by subst hh2; exact upd_same
        have F2 : Fr (a1.fp p) (a1.fp p) H1 H2 := by subst hh2; exact fr_upd (by simp [OA.fp]) hk (fun _ z => by cases z)
        have Dk : D ≠ a1.kp := fun z => D1 (by rw [z]; simp [OA.fp])
        have O2 : OAt w CO H2 p a1 (s1.drop ((s1.log.length : Int) + 1)) := by
          obtain ⟨w3, x3, y3⟩ := O1.pn
          obtain ⟨w4, x4, y4⟩ := O1.li
          obtain ⟨w5, x5, y5⟩ := O1.tl
          refine ⟨at2 _ (ne_of ob hk (by intro z; cases z)) _ ob, O1.me.mono k2, O1.vid.mono k2, O1.ms.mono k2, O1.fd.mono k2, ⟨vl, at2 _ (ne_of hlg hk (by intro z; cases z)) _ hlg, tl.mono k2⟩, ⟨w4, x4.mono (at2 _ (ne_of x4.ob hk (by intro z; cases z)) _ x4.ob) k2, y4⟩, ⟨w3, at2 _ (ne_of x3 hk (by intro z; cases z)) _ x3, y3.mono k2⟩, ⟨_, kp2, fun i => ?_, ?_, nd_dropK ndk⟩, ⟨w5, x5.mono (at2 _ (ne_of x5.ob hk (by intro z; cases z)) _ x5.ob) k2, y5⟩, O1.ap⟩
          · show KpAt H2 (valV (dropK kvs (Sum.inl ((s1.log.length : Int) + 1))) (Sum.inl i)) (if i = (s1.log.length : Int) + 1 then none else s1.kept i)
            rw [valV_drop]
            by_cases e : i = (s1.log.length : Int) + 1
            · rw [if_pos (by rw [e]), if_pos e]; trivial
            · rw [if_neg (fun z => e (Sum.inl.inj z)), if_neg e]; exact (ek i).mono k2
          · show _ = s1.kn - 1
            omega
        refine ⟨_, rfl, p, a1.dx, _, rfl, O2.ob, rfl, _, rfl, p, a1, _, v, g, rfl, O2, hv.mono k2, by show s1.log.length ≤ 90000; omega, by show s1.pend.length ≤ 90000; omega, fun H3 a3 O3 F3 => ?_⟩
        have F13 := F2.trans F3
        have hD3 := F13.k D _ hD D1
        have D3 : D ∉ a3.fp p := fun m => by
          rcases F13.n D m with z | z
          · exact D1 z
          · rw [hD] at z; cases z
        have ltD := tD.length
        rw [List.length_map] at ltD
        walk_at "rds"
        refine ⟨.inl ⟨rfl, _, SqL.of hD3⟩, ?_⟩
        refine ⟨_, rfl, D, _, _, rfl, rfl, hD3, by omega, ?_⟩
        have k4 : TupK H3 (upd H3 D (.lst (vs ++ [v]))) := tupK_upd fun xs e => by rw [hD3] at e; cases e
        refine ⟨a3, gs ++ [g], vs ++ [v], _, rfl, O3.upd D3 fun xs e => (by rw [hD3] at e; cases e), ?_, upd_same, ?_, D3, rfl⟩
        · have F := F1.trans F13
          refine ⟨fun b o e n => by rw [upd_ne (ne_of_none e nD)]; exact F.k b o e n, F.n, F.t.trans k4, fun b e => F.s b (by
            by_cases z : b = D
            · rw [z, upd_same] at e; cases e
            · rwa [upd_ne z] at e)⟩
        · rw [List.map_append]
          exact ((tD.mono F13.t).mono k4).append (.cons (((hv.mono F13.t)).mono k4) .nil)
end
end Mus

set_option maxRecDepth 100000
set_option maxHeartbeats 4000000
namespace Mus
open PySem L2
local macro_rules | `(tactic| walk_at "rd") => `(tactic| first
  | refine ⟨_, rfl, ?_⟩ | refine ⟨(True.intro : True), ?_⟩
  | refine ⟨_, _, rfl, rfl, (⟨by decide, by decide, by decide⟩ : CPow _ _), ?_⟩
  | refine ⟨_, _, rfl, rfl, (⟨by decide, by decide⟩ : CDiv _ _), ?_⟩
  | refine ⟨_, _, rfl, rfl, (by show (0 : Int) < _; decide), ?_⟩
  | refine ⟨_, _, rfl, rfl, ?_⟩ | refine ⟨rfl, ?_⟩ | refine iteT ?_ | refine iteF ?_ | refine ⟨_, _, rfl, ?_⟩ | refine .inl ⟨_, rfl, ?_⟩
  | refine ⟨_, _, _, _, _, rfl, (by assumption), (by assumption), (by assumption), rfl, ?_⟩ | refine ⟨_, _, _, _, rfl, rfl, SqT.of (by assumption), rfl, ?_⟩ | refine ⟨_, _, rfl, SqT.of (by assumption), rfl, ?_⟩
  | refine ⟨_, _, _, _, _, rfl, .ty _, Rp.ty (by assumption), kit_int _, ?_⟩ | refine ⟨_, _, _, _, _, rfl, .ty _, Rp.ty (by assumption), kit_bool _, ?_⟩
  | refine ⟨_, _, _, _, _, rfl, .ty _, Rp.ty (by assumption), kit_str _, ?_⟩ | refine ⟨_, _, _, _, _, rfl, .ty _, Rp.ty (by assumption), kit_tup _, ?_⟩)
local macro_rules | `(tactic| walk_at "cal") => `(tactic| first
  | refine ⟨_, _, _, _, _, rfl, (by assumption), ?_⟩ | refine ⟨_, _, _, _, _, rfl, (by assumption), (by assumption), ?_⟩)
local macro_rules | `(tactic| walk_at "sq") => `(tactic| first
  | refine ⟨_, _, rfl, Or.inr (SqT.of (by assumption)), ?_⟩ | refine ⟨_, _, _, _, rfl, rfl, SqT.of (by assumption), rfl, ?_⟩)
local macro_rules | `(tactic| walk_at "rds") => `(tactic| repeat first | walk_at "rd" | walk_at "cal" | walk_at "sq")
local macro_rules | `(tactic| walk_at "ze") => `(tactic| repeat first
  | exact zes_nil | exact ze_bl | exact ze_str | exact ze_non | apply zes_cons | apply ze_tup | apply ze_lst | apply ze_cat | exact di_c | exact di_v rfl | apply di_opC | apply di_op | apply di_neg | apply ze_i | (refine (⟨?_, ?_, ?_⟩ : CPow _ _) <;> decide) | exact Nat.le_of_ble_eq_true rfl | exact ze_varD rfl (by assumption))
local macro_rules | `(tactic| walk_at "rdz") => `(tactic| repeat (fail_if_success (first | show tLst _ _ _ _ | show tAsg (tLst _) _ _ _ _ | show tSeq (tAsg (tLst _) _) _ _ _ _)); first | walk_at "rd" | walk_at "cal" | walk_at "sq")
theorem TD.castL {H : Hp} {v : V} {m : Mem} {d : Vid} {i : Int} {z : Str} (h : TD H v (eL (.cast m d i z))) : ∃ b u x, v = .ref b ∧ H b = some (.tup [.str "cast", u, x, .int i, .str z]) ∧ TD H u (eM m) ∧ TD H x (eV d) := by
  cases h with
  | tup h _ r =>
    obtain _ | ⟨h1, _ | ⟨h2, _ | ⟨h3, _ | ⟨h4, _ | ⟨h5, hn⟩⟩⟩⟩⟩ := r
    cases hn; cases h1; cases h4; cases h5
    exact ⟨_, _, _, rfl, h, h2, h3⟩
theorem TD.ordL {H : Hp} {v : V} {m : Mem} {d : Vid} {i : Int} {g : Msg} (h : TD H v (eL (.order m d i g))) : ∃ b u x y, v = .ref b ∧ H b = some (.tup [.str "order", u, x, .int i, y]) ∧ TD H u (eM m) ∧ TD H x (eV d) ∧ TD H y (eG g) := by
  cases h with
  | tup h _ r =>
    obtain _ | ⟨h1, _ | ⟨h2, _ | ⟨h3, _ | ⟨h4, _ | ⟨h5, hn⟩⟩⟩⟩⟩ := r
    cases hn; cases h1; cases h4
    exact ⟨_, _, _, _, rfl, h, h2, h3, h5⟩
section
variable {P : Program} {w : World} {K : PySem.W.Frag} {mg : Str → Option Value} {base : Heap} {CO CV : Addr}
/-- two new lists in a tuple -/
def Two (H0 : Hp) (fp : List Addr) (H : Hp) (t : Addr) (d1 d2 : List PyData) : Prop := ∃ l1 l2, H t = some (.tup [.ref l1, .ref l2]) ∧ NewL H0 fp H l1 d1 ∧ NewL H0 fp H l2 d2 ∧ l1 ≠ l2
theorem two_nil {H : Hp} {p : Addr} {a : OA} {s : OS} {Q : VK} (O : OAt w CO H p a s) (q : ∀ t H', OAt w CO H' p a s → Fr (a.fp p) (a.fp p) H H' → Two H (a.fp p) H' t [] [] → Q (.ref t) H') : tTup (tCons (tLst tNil) (tCons (tLst tNil) tNil)) ([] : L2.St) H Q := by
  have hs := sl
  refine ⟨by show 0 ≤ sizeLine; omega, fun l1 n1 => ⟨by show 0 ≤ sizeLine; omega, fun l2 n2 => ⟨by show 2 ≤ sizeLine; omega, fun t nt => ?_⟩⟩⟩
  have s1 := same_new n1 (.lst [])
  have s2 := same_new n2 (.lst [])
  have st := same_new nt (.tup [.ref l1, .ref l2])
  have h1 : (upd H l1 (.lst [])) l1 = some (.lst []) := upd_same
  have h2 : (upd (upd H l1 (.lst [])) l2 (.lst [])) l2 = some (.lst []) := upd_same
  have n2' : H l2 = none := by
    cases e : H l2 with
    | none => rfl
    | some o => rw [s1 _ _ e] at n2; cases n2
  exact q t _ (((O.same s1).same s2).same st) (Fr.of (s1.trans (s2.trans st))) ⟨l1, l2, upd_same, ⟨⟨[], st _ _ (s2 _ _ h1), .nil⟩, n1, O.fresh n1⟩, ⟨⟨[], st _ _ h2, .nil⟩, n2', O.fresh n2'⟩, ne_of_none h1 n2⟩
abbrev s_Order__take_cast : Stmt := inClass (top 5) 7
abbrev N_Order__take_cast : List Str := ["self", "letter", "_", "sender", "view_id", "index", "payload"]
abbrev P_Order__take_cast : List Str := ["self", "letter"]
theorem sc_Order__take_cast : FnScope N_Order__take_cast P_Order__take_cast (defScope s_Order__take_cast) := ⟨rfl, rfl, rfl, by decide +kernel, rfl, by decide +kernel, by decide +kernel⟩
def sp_tc (w : World) (CO : Addr) : Sp := fun vs H Q _ => ∃ (p : Addr) (a : OA) (s : OS) (v : V) (m : Mem) (d : Vid) (i : Int) (z : Str), vs = [.ref p, v] ∧ OAt w CO H p a s ∧ TD H v (eL (.cast m d i z)) ∧ s.log.length ≤ 90000 ∧ s.pend.length ≤ 90000 ∧ s.mems.length ≤ 1000 ∧
  ∀ t H' a', OAt w CO H' p a' (s.takeCast m d i z).1 → Fr (a.fp p) (a'.fp p) H H' → Two H (a'.fp p) H' t ((s.takeCast m d i z).2.1.map eG) ((s.takeCast m d i z).2.2.map ePk) → Q (.ref t) H'
theorem ok_tc {f : Addr} {fd : FuncData} (T : Tx K mg CO CV) (m_Order__others : MethOk P w K mg base CX0 CO "_others" P_Order__others 1 (sp_oth CO)) (m_Order__decide : MethOk P w K mg base CX0 CO "_decide" P_Order__decide 2 (sp_dec w CO))
    (F : Fun K "_take_cast" "Order._take_cast" s_Order__take_cast f fd) : FnOk P w K mg base CX0 3 f fd P_Order__take_cast (sp_tc w CO) := by
  have nd := sc_Order__take_cast.nd
  refine F.ok sc_Order__take_cast (fun vs H Q E h => ?_) (fun cdv A outer s H vs Q E hr h => ?_)
  · obtain ⟨_, _, _, _, _, _, _, _, rfl, _⟩ := h
    rfl
  · obtain ⟨p, a, s, v, m, d, i, z, rfl, O, hv, hl, hp, hm, q⟩ := h
    have hs := sl
    have ob := O.ob
    obtain ⟨c1, n1, n2, n3, n4⟩ : L2.Cls K CO ∧ NoAttr K CO "_me" ∧ NoAttr K CO "_founder" ∧ NoAttr K CO "_view_id" ∧ NoAttr K CO "_last_indexes" := ⟨T.cl_Order, T.n_Order__me, T.n_Order__founder, T.n_Order__view_id, T.n_Order__last_indexes⟩
    obtain ⟨b, u, x, rfl, hb, tu, tx⟩ := hv.castL
    refine ⟨_, (pss_cons (ps_asg (pv 1) (pg_tup (by rfl) (pgs_cons (pg_name (i := 2) nd rfl (Or.inl rfl)) (pgs_cons (pg_name (i := 3) nd rfl (Or.inl rfl)) (pgs_cons (pg_name (i := 4) nd rfl (Or.inl rfl)) (pgs_cons (pg_name (i := 5) nd rfl (Or.inl rfl)) (pgs_cons (pg_name (i := 6) nd rfl (Or.inl rfl)) pgs_nil)))))))
      (pss_cons (ps_if (PW.pt (pw_or (pt_cmpR (op_neD hr.units) (pe_fld (pv 0) (by rfl)) (pe_fld (pv 0) (by rfl)) (nomark _)) (pw_or (pt_cmpR (op_neD hr.units) (pv 4) (pe_fld (pv 0) (by rfl)) (nomark _)) (pw_or1 (pt_cmpR (op_notInDD hr.units) (pv 3) (pmeth0 m_Order__others T.cl_Order (pv 0) hr) (by rfl))))))
        (pss_one (ps_ret (pe_tup (pa_cons (pe_lst pa_nil) (pa_cons (pe_lst pa_nil) pa_nil)))))
        pss_nil)
      (pss_cons (ps_if (pt_cmpR op_ne (pv 5) (pe_op op_add (pe_nget2 hr.units (pe_fld (pv 0) (by rfl)) (pv 3) pe_int ⟨rfl, rfl, rfl, rfl⟩) pe_int) (nomark _))
        (pss_one (ps_ret (pe_tup (pa_cons (pe_lst pa_nil) (pa_cons (pe_lst pa_nil) pa_nil)))))
        pss_nil)
      (pss_one (ps_ret (pmeth m_Order__decide T.cl_Order (pv 0) hr (pa_cons (pe_tup (pa_cons (pv 3) (pa_cons (pv 5) (pa_cons (pv 6) pa_nil)))) pa_nil))))))), ?_⟩
    have no : ∀ H', Same H H' → (s.me ≠ s.fd ∨ d ≠ s.vid ∨ m ∉ s.others) ∨ i ≠ (s.last m).getD 0 + 1 → tTup (tCons (tLst tNil) (tCons (tLst tNil) tNil)) ([] : L2.St) H' Q := fun H' s' hno => by
      refine two_nil (w := w) (O.same s') fun t H'' O2 F2 T2 => ?_
      have e : s.takeCast m d i z = (s, [], []) := by
        unfold OS.takeCast
        by_cases h : s.me ≠ s.fd ∨ d ≠ s.vid ∨ m ∉ s.others
        · rw [if_pos h]
        · rw [if_neg h, if_pos (hno.resolve_left h)]
      obtain ⟨l1, l2, t1, ⟨x1, x2, x3⟩, ⟨y1, y2, y3⟩, t4⟩ := T2
      have hn2 := (Fr.of (fp := []) s').s
      refine q t H'' a (by rw [e]; exact O2) ((Fr.of s').trans F2) (by rw [e]; exact ⟨l1, l2, t1, ⟨x1, hn2 _ x2, x3⟩, ⟨y1, hn2 _ y2, y3⟩, t4⟩)
    walk_at "rds"
    refine rd_neM O.me O.fd ?_
    walk_at "rds"
    refine iB (fun h => ?_) (fun h => ?_)
    · have h : ¬ s.me = s.fd := by simpa using h
      walk_at "rds"
      exact no H (Same.rfl' H) (.inl (.inl h))
    · have h : s.me = s.fd := by simpa using h
      walk_at "rds"
      refine rd_neV tx O.vid ?_
      walk_at "rds"
      refine iB (fun h2 => ?_) (fun h2 => ?_)
      · have h2 : ¬ d = s.vid := by simpa using h2
        walk_at "rds"
        exact no H (Same.rfl' H) (.inl (.inr (.inl h2)))
      · have h2 : d = s.vid := by simpa using h2
        refine ⟨_, rfl, _, rfl, p, a.dx, _, rfl, ob, rfl, w, p, a, s, rfl, O, fun r H1 s1 nr hr1 => ?_⟩
        obtain ⟨vo, hvo, to⟩ := hr1
        refine rd_inMl (tu.same s1) hvo to ?_
        have O1 := O.same s1
        have ob1 := O1.ob
        walk_at "rds"
        refine iB (fun h3 => ?_) (fun h3 => ?_)
        · have h3 : ¬ m ∈ s.others := by simpa using h3
          walk_at "rds"
          exact no H1 s1 (.inl (.inr (.inr h3)))
        · have h3 : m ∈ s.others := by simpa using h3
          obtain ⟨kvs, N, hN, lN⟩ := O1.li
          obtain ⟨bm, rfl, nk⟩ := (tu.same s1).nk
          walk_at "rds"
          refine ⟨a.li, kvs, rfl, N, ?_⟩
          walk_at "rds"
          refine ⟨bm, (s.last m).map V.int, rfl, ⟨kvs, kM m, N, nk, kM_depth _, (hN m).symm⟩, ?_⟩
          have eg : ((s.last m).map V.int).getD (V.int 0) = V.int ((s.last m).getD 0) := by cases s.last m <;> rfl
          rw [eg]
          walk_at "rds"
          have dt : (!decide (V.int i = V.int ((s.last m).getD 0 + 1))) = !decide (i = (s.last m).getD 0 + 1) := by
            congr 1
            exact decide_eq_decide.mpr ⟨fun h => V.int.inj h, fun h => by rw [h]⟩
          rw [dt]
          refine iB (fun h4 => ?_) (fun h4 => ?_)
          · have h4 : ¬ i = (s.last m).getD 0 + 1 := by simpa using h4
            walk_at "rds"
            exact no H1 s1 (.inr h4)
          · have h4 : i = (s.last m).getD 0 + 1 := by simpa using h4
            have e : s.takeCast m d i z = s.decide (m, i, z) := by
              unfold OS.takeCast
              rw [if_neg (by simp only [not_or, Classical.not_not]; exact ⟨h, h2, h3⟩), if_neg (by simp only [Classical.not_not]; exact h4)]
            rw [e] at q
            refine ⟨_, rfl, p, a.dx, _, rfl, ob1, rfl, ?_⟩
            refine ⟨_, rfl, _, rfl, _, rfl, by show 3 ≤ sizeLine; omega, fun t nt => ?_⟩
            have st := same_new nt (.tup [V.ref bm, V.int i, V.str z])
            refine ⟨p, a, s, .ref t, (m, i, z), rfl, O1.same st, td_msg upd_same (((tu.same s1)).same st), hl, hp, hm, fun t2 H2 a2 l1 l2 O2 F2 ht2 L1 L2' hne => ?_⟩
            have F := (Fr.of (fp := a.fp p) (s1.trans st)).trans F2
            have hn2 := (Fr.of (fp := []) (s1.trans st)).s
            exact q t2 H2 a2 O2 F ⟨l1, l2, ht2, ⟨L1.at_, hn2 _ L1.new, L1.out⟩, ⟨L2'.at_, hn2 _ L2'.new, L2'.out⟩, hne⟩
abbrev s_Order__take_order : Stmt := inClass (top 5) 9
abbrev N_Order__take_order : List Str := ["self", "letter", "_", "sender", "view_id", "place", "message"]
abbrev P_Order__take_order : List Str := ["self", "letter"]
theorem sc_Order__take_order : FnScope N_Order__take_order P_Order__take_order (defScope s_Order__take_order) := ⟨rfl, rfl, rfl, by decide +kernel, rfl, by decide +kernel, by decide +kernel⟩
def sp_to (w : World) (CO : Addr) : Sp := fun vs H Q _ => ∃ (p : Addr) (a : OA) (s : OS) (v : V) (m : Mem) (d : Vid) (i : Int) (g : Msg), vs = [.ref p, v] ∧ OAt w CO H p a s ∧ TD H v (eL (.order m d i g)) ∧ s.log.length + s.kn ≤ 80000 ∧ s.pend.length ≤ 90000 ∧
  ∀ r H' a', OAt w CO H' p a' (s.takeOrder m d i g).1 → Fr (a.fp p) (a'.fp p) H H' → NewL H (a'.fp p) H' r ((s.takeOrder m d i g).2.map eG) → Q (.ref r) H'
theorem ok_to {f : Addr} {fd : FuncData} (T : Tx K mg CO CV) (m_Order__deliver_kept : MethOk P w K mg base CX0 CO "_deliver_kept" P_Order__deliver_kept 2 (sp_dk w CO)) (F : Fun K "_take_order" "Order._take_order" s_Order__take_order f fd) : FnOk P w K mg base CX0 3 f fd P_Order__take_order (sp_to w CO) := by
  have nd := sc_Order__take_order.nd
  refine F.ok sc_Order__take_order (fun vs H Q E h => ?_) (fun cdv A outer s H vs Q E hr h => ?_)
  · obtain ⟨_, _, _, _, _, _, _, _, rfl, _⟩ := h
    rfl
  · obtain ⟨p, a, s, v, m, d, i, g, rfl, O, hv, hl, hp, q⟩ := h
    have hs := sl
    have hu := hu_of hr
    have ob := O.ob
    obtain ⟨c1, n1, n2, n3, n4, n5⟩ : L2.Cls K CO ∧ NoAttr K CO "_me" ∧ NoAttr K CO "_founder" ∧ NoAttr K CO "_view_id" ∧ NoAttr K CO "_log" ∧ NoAttr K CO "_kept" := ⟨T.cl_Order, T.n_Order__me, T.n_Order__founder, T.n_Order__view_id, T.n_Order__log, T.n_Order__kept⟩
    obtain ⟨b, u, x, y, rfl, hb, tu, tx, ty⟩ := hv.ordL
    obtain ⟨vl, hlg, tl⟩ := O.lg
    have ll := tl.length
    rw [List.length_map] at ll
    obtain ⟨kvs, hk, ek, lk, ndk⟩ := O.kp
    refine ⟨_, (pss_cons (ps_asg (pv 1) (pg_tup (by rfl) (pgs_cons (pg_name (i := 2) nd rfl (Or.inl rfl)) (pgs_cons (pg_name (i := 3) nd rfl (Or.inl rfl)) (pgs_cons (pg_name (i := 4) nd rfl (Or.inl rfl)) (pgs_cons (pg_name (i := 5) nd rfl (Or.inl rfl)) (pgs_cons (pg_name (i := 6) nd rfl (Or.inl rfl)) pgs_nil)))))))
      (pss_cons (ps_if (PW.pt (pw_or (pt_cmpR (op_eqD hr.units) (pe_fld (pv 0) (by rfl)) (pe_fld (pv 0) (by rfl)) (nomark _)) (pw_or (pt_cmpR (op_neD hr.units) (pv 3) (pe_fld (pv 0) (by rfl)) (nomark _)) (pw_or1 (pt_cmpR (op_neD hr.units) (pv 4) (pe_fld (pv 0) (by rfl)) (nomark _))))))
        (pss_one (ps_ret (pe_lst pa_nil)))
        pss_nil)
      (pss_cons (ps_if (PW.pt (pw_and (pt_cmpR op_gt (pv 5) (pe_callB call_len_seq (by rfl) T.b_len (by decide +kernel) (pa_cons (pe_fld (pv 0) (by rfl)) pa_nil)) (nomark _)) (pw_and1 (pt_cmp (pc_dnotin hu (pv 5) (pe_fld (pv 0) (by rfl)))))))
        (pss_one (ps_dput hu (pe_fld (pv 0) (by rfl)) (pv 5) (pv 6) rfl))
        pss_nil)
      (pss_one (ps_ret (pmeth0 m_Order__deliver_kept T.cl_Order (pv 0) hr)))))), ?_⟩
    have no : (s.me = s.fd ∨ m ≠ s.fd ∨ d ≠ s.vid) → tLst tNil ([] : L2.St) H Q := fun hno => by
      have e : s.takeOrder m d i g = (s, []) := if_pos hno
      refine ⟨by show 0 ≤ sizeLine; omega, fun l nl => ?_⟩
      have s1 := same_new nl (.lst [])
      exact q l _ a (by rw [e]; exact O.same s1) (Fr.of s1) (by rw [e]; exact ⟨⟨[], upd_same, .nil⟩, nl, O.fresh nl⟩)
    walk_at "rds"
    refine rd_eqM O.me O.fd ?_
    walk_at "rds"
    refine iB (fun h => ?_) (fun h => ?_)
    · have h : s.me = s.fd := of_decide_eq_true h
      walk_at "rds"
      exact no (.inl h)
    · have h : ¬ s.me = s.fd := of_decide_eq_false h
      walk_at "rds"
      refine rd_neM tu O.fd ?_
      walk_at "rds"
      refine iB (fun h2 => ?_) (fun h2 => ?_)
      · have h2 : ¬ m = s.fd := by simpa using h2
        walk_at "rds"
        exact no (.inr (.inl h2))
      · have h2 : m = s.fd := by simpa using h2
        walk_at "rds"
        refine rd_neV tx O.vid ?_
        walk_at "rds"
        refine iB (fun h3 => ?_) (fun h3 => ?_)
        · have h3 : ¬ d = s.vid := by simpa using h3
          walk_at "rds"
          exact no (.inr (.inr h3))
        · have h3 : d = s.vid := by simpa using h3
          have e : s.takeOrder m d i g = OS.flush (s.keep i g).kn (s.keep i g) := if_neg (by simp only [not_or, Classical.not_not]; exact ⟨h, h2, h3⟩)
          rw [e] at q
          have fin : ∀ H', Fr (a.fp p) (a.fp p) H H' → OAt w CO H' p a (s.keep i g) → ∀ (σ : L2.St), σ[0]? = some (some (.ref p)) → tMeth CO "_deliver_kept" (sp_dk w CO) [] E0 (tVar 0) tNil σ H' Q := fun H' F' O' σ hσ => by
            refine ⟨_, hσ, p, a.dx, _, rfl, O'.ob, rfl, p, a, s.keep i g, rfl, O', ?_, ?_, fun r H'' a' O2 F2 L2' => ?_⟩
            · unfold OS.keep; split
              · show s.log.length + (s.kn + 1) ≤ _; omega
              · omega
            · unfold OS.keep; split <;> exact hp
            · exact q r H'' a' O2 (F'.trans F2) ⟨L2'.at_, F'.s _ L2'.new, L2'.out⟩
          walk_at "rds"
          refine ⟨a.lg, _, rfl, .inl (SqL.of hlg), ?_⟩
          walk_at "rds"
          refine iB (fun h4 => ?_) (fun h4 => ?_)
          · have h4 : i > (s.log.length : Int) := by have := of_decide_eq_true h4; omega
            walk_at "rds"
            refine ⟨a.kp, _, rfl, DGet.k (k := Sum.inl i) hk, ?_⟩
            refine ⟨_, rfl, ?_⟩
            have eki := ek i
            cases hkg : s.kept i with
            | none =>
              rw [hkg] at eki
              have e0 : valV kvs (Sum.inl i) = none := by
                cases e : valV kvs (Sum.inl i) with
                | none => rfl
                | some v => rw [e] at eki; cases eki
              rw [e0]
              refine iteT ?_
              walk_at "rds"
              refine ⟨a.kp, _, rfl, DPut.k (k := Sum.inl i) hk (by omega), ?_⟩
              generalize hh2 : upd H a.kp _ = H2
              have k2 : TupK H H2 := by subst hh2; exact tupK_upd fun xs e => by rw [hk] at e; cases e
              have at2 : ∀ c, c ≠ a.kp → ∀ o, H c = some o → H2 c = some o := fun c h o e => by subst hh2; rw [upd_ne h]; exact e
              have kp2 : H2 a.kp = some (.dK (putK kvs (Sum.inl i) y)) := by subst hh2; exact upd_same
              have F2 : Fr (a.fp p) (a.fp p) H H2 := by subst hh2; exact fr_upd (by simp [OA.fp]) hk (fun _ z => by cases z)
              have ke : s.keep i g = { s with kept := fun j => if j = i then some g else s.kept j, kn := s.kn + 1 } := if_pos ⟨h4, hkg⟩
              refine fin H2 F2 ?_ _ rfl
              rw [ke]
              obtain ⟨w3, x3, y3⟩ := O.pn
              obtain ⟨w4, x4, y4⟩ := O.li
              obtain ⟨w5, x5, y5⟩ := O.tl
              refine ⟨at2 _ (ne_of ob hk (by intro z; cases z)) _ ob, O.me.mono k2, O.vid.mono k2, O.ms.mono k2, O.fd.mono k2, ⟨vl, at2 _ (ne_of hlg hk (by intro z; cases z)) _ hlg, tl.mono k2⟩, ⟨w4, x4.mono (at2 _ (ne_of x4.ob hk (by intro z; cases z)) _ x4.ob) k2, y4⟩, ⟨w3, at2 _ (ne_of x3 hk (by intro z; cases z)) _ x3, y3.mono k2⟩, ⟨_, kp2, fun j => ?_, ?_, nd_putK ndk⟩, ⟨w5, x5.mono (at2 _ (ne_of x5.ob hk (by intro z; cases z)) _ x5.ob) k2, y5⟩, O.ap⟩
              · show KpAt H2 (valV (putK kvs (Sum.inl i) y) (Sum.inl j)) (if j = i then some g else s.kept j)
                rw [valV_put]
                by_cases e : j = i
                · rw [if_pos (by rw [e]), if_pos e]; exact ty.mono k2
                · rw [if_neg (fun z => e (Sum.inl.inj z)), if_neg e]; exact (ek j).mono k2
              · show _ = s.kn + 1
                unfold putK
                rw [valV_any, e0]
                show (kvs ++ [(Sum.inl i, y)]).length = _
                rw [List.length_append, lk]; rfl
            | some g0 =>
              rw [hkg] at eki
              obtain ⟨v, e0⟩ : ∃ v, valV kvs (Sum.inl i) = some v := by
                cases e : valV kvs (Sum.inl i) with
                | none => rw [e] at eki; cases eki
                | some v => exact ⟨v, rfl⟩
              rw [e0]
              refine iteF ?_
              have ke : s.keep i g = s := if_neg (by rw [hkg]; intro z; cases z.2)
              exact fin H (Fr.refl _ _) (by rw [ke]; exact O) _ rfl
          · have h4 : ¬ i > (s.log.length : Int) := by have := of_decide_eq_false h4; omega
            have ke : s.keep i g = s := if_neg fun z => h4 z.1
            exact fin H (Fr.refl _ _) (by rw [ke]; exact O) _ rfl
end
end Mus

set_option maxRecDepth 100000
set_option maxHeartbeats 4000000
namespace Mus
open PySem L2
local macro_rules | `(tactic| walk_at "rd") => `(tactic| first
  | refine ⟨_, rfl, ?_⟩ | refine ⟨(True.intro : True), ?_⟩
  | refine ⟨_, _, rfl, rfl, (⟨by decide, by decide, by decide⟩ : CPow _ _), ?_⟩
  | refine ⟨_, _, rfl, rfl, (⟨by decide, by decide⟩ : CDiv _ _), ?_⟩
  | refine ⟨_, _, rfl, rfl, (by show (0 : Int) < _; decide), ?_⟩
  | refine ⟨_, _, rfl, rfl, ?_⟩ | refine ⟨rfl, ?_⟩ | refine iteT ?_ | refine iteF ?_ | refine ⟨_, _, rfl, ?_⟩ | refine .inl ⟨_, rfl, ?_⟩
  | refine ⟨_, _, _, _, _, rfl, (by assumption), (by assumption), (by assumption), rfl, ?_⟩ | refine ⟨_, _, _, _, rfl, rfl, SqT.of (by assumption), rfl, ?_⟩ | refine ⟨_, _, rfl, SqT.of (by assumption), rfl, ?_⟩
  | refine ⟨_, _, _, _, _, rfl, .ty _, Rp.ty (by assumption), kit_int _, ?_⟩ | refine ⟨_, _, _, _, _, rfl, .ty _, Rp.ty (by assumption), kit_bool _, ?_⟩
  | refine ⟨_, _, _, _, _, rfl, .ty _, Rp.ty (by assumption), kit_str _, ?_⟩ | refine ⟨_, _, _, _, _, rfl, .ty _, Rp.ty (by assumption), kit_tup _, ?_⟩)
local macro_rules | `(tactic| walk_at "cal") => `(tactic| first
  | refine ⟨_, _, _, _, _, rfl, (by assumption), ?_⟩ | refine ⟨_, _, _, _, _, rfl, (by assumption), (by assumption), ?_⟩)
local macro_rules | `(tactic| walk_at "sq") => `(tactic| first
  | refine ⟨_, _, rfl, Or.inr (SqT.of (by assumption)), ?_⟩ | refine ⟨_, _, _, _, rfl, rfl, SqT.of (by assumption), rfl, ?_⟩)
local macro_rules | `(tactic| walk_at "rds") => `(tactic| repeat first | walk_at "rd" | walk_at "cal" | walk_at "sq")
local macro_rules | `(tactic| walk_at "ze") => `(tactic| repeat first
  | exact zes_nil | exact ze_bl | exact ze_str | exact ze_non | apply zes_cons | apply ze_tup | apply ze_lst | apply ze_cat | exact di_c | exact di_v rfl | apply di_opC | apply di_op | apply di_neg | apply ze_i | (refine (⟨?_, ?_, ?_⟩ : CPow _ _) <;> decide) | exact Nat.le_of_ble_eq_true rfl | exact ze_varD rfl (by assumption))
local macro_rules | `(tactic| walk_at "rdz") => `(tactic| repeat (fail_if_success (first | show tLst _ _ _ _ | show tAsg (tLst _) _ _ _ _ | show tSeq (tAsg (tLst _) _) _ _ _ _)); first | walk_at "rd" | walk_at "cal" | walk_at "sq")
section
variable {P : Program} {w : World} {K : PySem.W.Frag} {mg : Str → Option Value} {base : Heap} {CO CV : Addr}
abbrev s_Order_log : Stmt := inClass (top 5) 5
abbrev N_Order_log : List Str := ["self"]
abbrev P_Order_log : List Str := ["self"]
theorem sc_Order_log : FnScope N_Order_log P_Order_log (defScope s_Order_log) := ⟨rfl, rfl, rfl, by decide +kernel, rfl, by decide +kernel, by decide +kernel⟩
def sp_olog (w : World) (CO : Addr) : Sp := fun vs H Q _ => ∃ (p : Addr) (a : OA) (s : OS), vs = [.ref p] ∧ OAt w CO H p a s ∧ s.log.length ≤ 100000 ∧ ∀ r H', Same H H' → TD H' (.ref r) (eGs s.log) → Q (.ref r) H'
theorem ok_olog {f : Addr} {fd : FuncData} (T : Tx K mg CO CV) (F : Fun K "log" "Order.log" s_Order_log f fd) : FnOk P w K mg base CX0 1 f fd P_Order_log (sp_olog w CO) := by
  have nd := sc_Order_log.nd
  refine F.ok sc_Order_log (fun vs H Q E h => ?_) (fun cdv A outer s H vs Q E hr h => ?_)
  · obtain ⟨_, _, _, rfl, _⟩ := h
    rfl
  · obtain ⟨p, a, s, rfl, O, hl, q⟩ := h
    have ob := O.ob
    obtain ⟨c1, n1⟩ : L2.Cls K CO ∧ NoAttr K CO "_log" := ⟨T.cl_Order, T.n_Order__log⟩
    obtain ⟨vl, hlg, tl⟩ := O.lg
    have ll := tl.length
    rw [List.length_map] at ll
    refine ⟨_, (pss_one (ps_ret (pe_callTy call_tuple_of (by rfl) T.b_tuple (by decide +kernel) (pa_cons (pe_fld (pv 0) (by rfl)) pa_nil)))), ?_⟩
    walk_at "rds"
    refine ⟨a.lg, _, rfl, .inl ⟨SqL.of hlg, fun t nt => ?_⟩⟩
    exact q t _ (same_new nt _) (.tup upd_same (by omega) (tl.same (same_new nt _)))
abbrev s_Order_pending : Stmt := inClass (top 5) 6
abbrev N_Order_pending : List Str := ["self"]
abbrev P_Order_pending : List Str := ["self"]
theorem sc_Order_pending : FnScope N_Order_pending P_Order_pending (defScope s_Order_pending) := ⟨rfl, rfl, rfl, by decide +kernel, rfl, by decide +kernel, by decide +kernel⟩
def sp_open (w : World) (CO : Addr) : Sp := fun vs H Q _ => ∃ (p : Addr) (a : OA) (s : OS), vs = [.ref p] ∧ OAt w CO H p a s ∧ s.pend.length ≤ 100000 ∧ ∀ r H', Same H H' → TD H' (.ref r) (eCs s.pend) → Q (.ref r) H'
theorem ok_open {f : Addr} {fd : FuncData} (T : Tx K mg CO CV) (F : Fun K "pending" "Order.pending" s_Order_pending f fd) : FnOk P w K mg base CX0 1 f fd P_Order_pending (sp_open w CO) := by
  have nd := sc_Order_pending.nd
  refine F.ok sc_Order_pending (fun vs H Q E h => ?_) (fun cdv A outer s H vs Q E hr h => ?_)
  · obtain ⟨_, _, _, rfl, _⟩ := h
    rfl
  · obtain ⟨p, a, s, rfl, O, hl, q⟩ := h
    have ob := O.ob
    obtain ⟨c1, n1⟩ : L2.Cls K CO ∧ NoAttr K CO "_pending" := ⟨T.cl_Order, T.n_Order__pending⟩
    obtain ⟨vl, hlg, tl⟩ := O.pn
    have ll := tl.length
    rw [List.length_map] at ll
    refine ⟨_, (pss_one (ps_ret (pe_callTy call_tuple_of (by rfl) T.b_tuple (by decide +kernel) (pa_cons (pe_fld (pv 0) (by rfl)) pa_nil)))), ?_⟩
    walk_at "rds"
    refine ⟨a.pn, _, rfl, .inl ⟨SqL.of hlg, fun t nt => ?_⟩⟩
    exact q t _ (same_new nt _) (.tup upd_same (by omega) (tl.same (same_new nt _)))
abbrev s_Order_take : Stmt := inClass (top 5) 2
abbrev N_Order_take : List Str := ["self", "letter"]
abbrev P_Order_take : List Str := ["self", "letter"]
theorem sc_Order_take : FnScope N_Order_take P_Order_take (defScope s_Order_take) := ⟨rfl, rfl, rfl, by decide +kernel, rfl, by decide +kernel, by decide +kernel⟩
/-- the letters that an order takes -/
def OS.take (s : OS) : Ltr → OS × List Msg × List Pkt
  | .cast m d i z => s.takeCast m d i z
  | .order m d i g => ((s.takeOrder m d i g).1, (s.takeOrder m d i g).2, [])
  | _ => (s, [], [])
def Ltr.flows : Ltr → Prop
  | .cast _ _ _ _ => True
  | .order _ _ _ _ => True
  | _ => False
def sp_otk (w : World) (CO : Addr) : Sp := fun vs H Q _ => ∃ (p : Addr) (a : OA) (s : OS) (v : V) (l : Ltr), vs = [.ref p, v] ∧ OAt w CO H p a s ∧ TD H v (eL l) ∧ l.flows ∧ s.log.length + s.kn ≤ 80000 ∧ s.pend.length ≤ 90000 ∧ s.mems.length ≤ 1000 ∧
  ∀ t H' a', OAt w CO H' p a' (s.take l).1 → Fr (a.fp p) (a'.fp p) H H' → Two H (a'.fp p) H' t ((s.take l).2.1.map eG) ((s.take l).2.2.map ePk) → Q (.ref t) H'
theorem ok_otk {f : Addr} {fd : FuncData} (T : Tx K mg CO CV) (m_Order__take_cast : MethOk P w K mg base CX0 CO "_take_cast" P_Order__take_cast 3 (sp_tc w CO)) (m_Order__take_order : MethOk P w K mg base CX0 CO "_take_order" P_Order__take_order 3 (sp_to w CO))
    (F : Fun K "take" "Order.take" s_Order_take f fd) : FnOk P w K mg base CX0 4 f fd P_Order_take (sp_otk w CO) := by
  have nd := sc_Order_take.nd
  refine F.ok sc_Order_take (fun vs H Q E h => ?_) (fun cdv A outer s H vs Q E hr h => ?_)
  · obtain ⟨_, _, _, _, _, rfl, _⟩ := h
    rfl
  · obtain ⟨p, a, s, v, l, rfl, O, hv, hf, hl, hp, hm, q⟩ := h
    have hs := sl
    refine ⟨_, (pss_cons (ps_if (pt_cmpR op_eq (pe_ix ix_tup (pv 1) pe_int (fun _ _ => rfl)) pe_str (nomark _))
        (pss_one (ps_ret (pmeth m_Order__take_cast T.cl_Order (pv 0) hr (pa_cons (pv 1) pa_nil))))
        pss_nil)
      (pss_one (ps_ret (pe_tup (pa_cons (pmeth m_Order__take_order T.cl_Order (pv 0) hr (pa_cons (pv 1) pa_nil)) (pa_cons (pe_lst pa_nil) pa_nil)))))), ?_⟩
    cases l <;> try (exact hf.elim)
    case cast m d i z =>
      obtain ⟨b, u, x, rfl, hb, tu, tx⟩ := id hv.castL
      walk_at "rds"
      refine ⟨p, a.dx, _, rfl, O.ob, rfl, _, rfl, p, a, s, .ref b, m, d, i, z, rfl, O, hv, by omega, hp, hm, fun t H' a' O' F' T' => q t H' a' O' F' T'⟩
    case order m d i g =>
      obtain ⟨b, u, x, y, rfl, hb, tu, tx, ty⟩ := id hv.ordL
      walk_at "rds"
      refine ⟨p, a.dx, _, rfl, O.ob, rfl, _, rfl, p, a, s, .ref b, m, d, i, g, rfl, O, hv, hl, hp, fun r H1 a1 O1 F1 L1 => ?_⟩
      refine ⟨by show 0 ≤ sizeLine; omega, fun l2 n2 => ⟨by show 2 ≤ sizeLine; omega, fun t nt => ?_⟩⟩
      have s2 := same_new n2 (.lst [])
      have st := same_new nt (.tup [.ref r, .ref l2])
      have h2 : (upd H1 l2 (.lst [])) l2 = some (.lst []) := upd_same
      obtain ⟨ws, hw, tw⟩ := L1.at_
      refine q t _ a1 ((O1.same s2).same st) (F1.trans (Fr.of (s2.trans st))) ⟨r, l2, upd_same, ⟨⟨ws, st _ _ (s2 _ _ hw), (tw.same s2).same st⟩, L1.new, L1.out⟩, ⟨⟨[], st _ _ h2, .nil⟩, F1.s _ n2, O1.fresh n2⟩, ne_of_none hw n2⟩
abbrev s_Order_cast : Stmt := inClass (top 5) 1
abbrev N_Order_cast : List Str := ["self", "payload", "index", "delivered", "letters"]
abbrev P_Order_cast : List Str := ["self", "payload"]
theorem sc_Order_cast : FnScope N_Order_cast P_Order_cast (defScope s_Order_cast) := ⟨rfl, rfl, rfl, by decide +kernel, rfl, by decide +kernel, by decide +kernel⟩
def sp_ocast (w : World) (CO : Addr) : Sp := fun vs H Q _ => ∃ (p : Addr) (a : OA) (s : OS) (z : Str), vs = [.ref p, .str z] ∧ OAt w CO H p a s ∧ s.log.length ≤ 90000 ∧ s.pend.length ≤ 90000 ∧ s.mems.length ≤ 1000 ∧
  ∀ t H' a' l1 l2, OAt w CO H' p a' (s.cast z).1 → Fr (a.fp p) (a'.fp p) H H' → H' t = some (.tup [.int (s.cast z).2.1, .ref l1, .ref l2]) → NewL H (a'.fp p) H' l1 ((s.cast z).2.2.1.map eG) → NewL H (a'.fp p) H' l2 ((s.cast z).2.2.2.map ePk) → l1 ≠ l2 → Q (.ref t) H'
theorem ok_ocast {f : Addr} {fd : FuncData} (T : Tx K mg CO CV) (m_Order__decide : MethOk P w K mg base CX0 CO "_decide" P_Order__decide 2 (sp_dec w CO)) (m_Order__cast_letter : MethOk P w K mg base CX0 CO "_cast_letter" P_Order__cast_letter 1 (sp_casl CO))
    (F : Fun K "cast" "Order.cast" s_Order_cast f fd) : FnOk P w K mg base CX0 3 f fd P_Order_cast (sp_ocast w CO) := by
  have nd := sc_Order_cast.nd
  refine F.ok sc_Order_cast (fun vs H Q E h => ?_) (fun cdv A outer s H vs Q E hr h => ?_)
  · obtain ⟨_, _, _, _, rfl, _⟩ := h
    rfl
  · obtain ⟨p, a, s, z, rfl, O, hl, hp, hm, q⟩ := h
    have hs := sl
    have ob := O.ob
    obtain ⟨c1, n1, n2, n3, n4⟩ : L2.Cls K CO ∧ NoAttr K CO "_me" ∧ NoAttr K CO "_founder" ∧ NoAttr K CO "_casts" ∧ NoAttr K CO "_pending" := ⟨T.cl_Order, T.n_Order__me, T.n_Order__founder, T.n_Order__casts, T.n_Order__pending⟩
    refine ⟨_, (pss_cons (ps_fldaug (pv 0) pe_int in_add)
      (pss_cons (ps_set (i := 2) nd rfl (Or.inl rfl) (pe_fld (pv 0) (by rfl)))
      (pss_cons (ps_if (pt_cmpR (op_eqD hr.units) (pe_fld (pv 0) (by rfl)) (pe_fld (pv 0) (by rfl)) (nomark _))
        (pss_cons (ps_asg (pmeth m_Order__decide T.cl_Order (pv 0) hr (pa_cons (pe_tup (pa_cons (pe_fld (pv 0) (by rfl)) (pa_cons (pv 2) (pa_cons (pv 1) pa_nil)))) pa_nil)) (pg_tup (by rfl) (pgs_cons (pg_name (i := 3) nd rfl (Or.inl rfl)) (pgs_cons (pg_name (i := 4) nd rfl (Or.inl rfl)) pgs_nil))))
        (pss_one (ps_ret (pe_tup (pa_cons (pv 2) (pa_cons (pv 3) (pa_cons (pv 4) pa_nil)))))))
        pss_nil)
      (pss_cons (ps_expr (pe_bm PySem.F.plainAttrs_list PySem.F.slot_list_append PySem.F.type_list_append mt_append (pe_fld (pv 0) (by rfl)) (pa_cons (pe_tup (pa_cons (pv 2) (pa_cons (pv 1) pa_nil))) pa_nil)))
      (pss_one (ps_ret (pe_tup (pa_cons (pv 2) (pa_cons (pe_lst pa_nil) (pa_cons (pe_lst (pa_cons (pmeth m_Order__cast_letter T.cl_Order (pv 0) hr (pa_cons (pv 2) (pa_cons (pv 1) pa_nil))) pa_nil)) pa_nil)))))))))), ?_⟩
    refine ⟨_, rfl, p, CO, a.dx, _, .int s.casts, rfl, ob, c1, n3, rfl, s.casts, 1, rfl, rfl, a.dx, _, ob, by show 10 < 1000; decide, ?_⟩
    generalize hh2 : upd H p _ = H2
    have ob2 : H2 p = some (.ins CO a.dx (oF a.vme a.vvid a.vms a.vfd a.lg a.li (s.casts + 1) a.pn a.kp a.tl)) := by subst hh2; exact upd_same
    have k2 : TupK H H2 := by subst hh2; exact tupK_upd fun xs e => by rw [ob] at e; cases e
    have at2 : ∀ c, c ≠ p → ∀ o, H c = some o → H2 c = some o := fun c h o e => by subst hh2; rw [upd_ne h]; exact e
    have F2 : Fr (a.fp p) (a.fp p) H H2 := by subst hh2; exact fr_upd (by simp [OA.fp]) ob (fun _ z => by cases z)
    have O2 : OAt w CO H2 p a { s with casts := s.casts + 1 } := by
      obtain ⟨w1, x1, x2⟩ := O.lg
      obtain ⟨w2, x3, x4⟩ := O.li
      obtain ⟨w3, y1, y2⟩ := O.pn
      obtain ⟨w4, x5, x6, x7⟩ := O.kp
      obtain ⟨w5, x8, x9⟩ := O.tl
      exact ⟨ob2, O.me.mono k2, O.vid.mono k2, O.ms.mono k2, O.fd.mono k2, ⟨w1, at2 _ (ne_of x1 ob (by intro z; cases z)) _ x1, x2.mono k2⟩, ⟨w2, x3.mono (at2 _ (ne_of x3.ob ob (by intro z; cases z)) _ x3.ob) k2, x4⟩, ⟨w3, at2 _ (ne_of y1 ob (by intro z; cases z)) _ y1, y2.mono k2⟩,
        ⟨w4, at2 _ (ne_of x5 ob (by intro z; cases z)) _ x5, fun i => (x6 i).mono k2, x7⟩, ⟨w5, x8.mono (at2 _ (ne_of x8.ob ob (by intro z; cases z)) _ x8.ob) k2, x9⟩, O.ap⟩
    walk_at "rds"
    refine rd_eqM O2.me O2.fd ?_
    walk_at "rds"
    refine iB (fun h => ?_) (fun h => ?_)
    · have h : s.me = s.fd := of_decide_eq_true h
      have e : s.cast z = (let r := ({ s with casts := s.casts + 1 } : OS).decide (s.me, s.casts + 1, z); (r.1, s.casts + 1, r.2.1, r.2.2)) := if_pos h
      rw [e] at q
      refine ⟨_, rfl, p, a.dx, _, rfl, ob2, rfl, ?_⟩
      walk_at "rds"
      refine ⟨by show 3 ≤ sizeLine; omega, fun t nt => ?_⟩
      have st := same_new nt (.tup [a.vme, V.int (s.casts + 1), V.str z])
      refine ⟨p, a, _, .ref t, (s.me, s.casts + 1, z), rfl, O2.same st, td_msg upd_same (O2.me.same st), hl, hp, hm, fun t2 H3 a3 l1 l2 O3 F3 ht2 L1 L2' hne => ?_⟩
      have F := (F2.trans (Fr.of st)).trans F3
      have hn2 := (F2.trans (Fr.of (fp := a.fp p) st)).s
      walk_at "rds"
      refine ⟨by show 3 ≤ sizeLine; omega, fun t4 n4 => ?_⟩
      have s4 := same_new n4 (.tup [V.int (s.casts + 1), V.ref l1, V.ref l2])
      obtain ⟨v1, b1, b2⟩ := L1.at_
      obtain ⟨v2, b3, b4⟩ := L2'.at_
      exact q t4 _ a3 l1 l2 (O3.same s4) (F.trans (Fr.of s4)) upd_same ⟨⟨v1, s4 _ _ b1, b2.same s4⟩, hn2 _ L1.new, L1.out⟩ ⟨⟨v2, s4 _ _ b3, b4.same s4⟩, hn2 _ L2'.new, L2'.out⟩ hne
    · have h : ¬ s.me = s.fd := of_decide_eq_false h
      have e : s.cast z = ({ s with casts := s.casts + 1, pend := s.pend ++ [(s.casts + 1, z)] }, s.casts + 1, [], [s.castL (s.casts + 1, z)]) := if_neg h
      rw [e] at q
      obtain ⟨vp, hpn, tp⟩ := O2.pn
      have tp : TDs H2 vp (s.pend.map eC) := tp
      have lp := tp.length
      rw [List.length_map] at lp
      walk_at "rds"
      refine ⟨.inl ⟨rfl, _, SqL.of hpn⟩, ?_⟩
      walk_at "rds"
      refine ⟨by show 2 ≤ sizeLine; omega, fun t nt => ?_⟩
      have st := same_new nt (.tup [V.int (s.casts + 1), V.str z])
      have ht : (upd H2 t (.tup [V.int (s.casts + 1), V.str z])) t = some (.tup [V.int (s.casts + 1), V.str z]) := upd_same
      have O3 := O2.same st
      have hpn3 := st _ _ hpn
      generalize upd H2 t (.tup [V.int (s.casts + 1), V.str z]) = H3 at *
      refine ⟨a.pn, _, _, rfl, rfl, hpn3, by omega, ?_⟩
      generalize hh4 : upd H3 a.pn (HO.lst (vp ++ [V.ref t])) = H4
      have pn4 : H4 a.pn = some (.lst (vp ++ [V.ref t])) := by subst hh4; exact upd_same
      have k4 : TupK H3 H4 := by subst hh4; exact tupK_upd fun xs e => by rw [hpn3] at e; cases e
      have at4 : ∀ c, c ≠ a.pn → ∀ o, H3 c = some o → H4 c = some o := fun c h o e => by subst hh4; rw [upd_ne h]; exact e
      have F4 : Fr (a.fp p) (a.fp p) H3 H4 := by subst hh4; exact fr_upd (by simp [OA.fp]) hpn3 (fun _ z => by cases z)
      have O4 : OAt w CO H4 p a { s with casts := s.casts + 1, pend := s.pend ++ [(s.casts + 1, z)] } := by
        obtain ⟨w1, x1, x2⟩ := O3.lg
        obtain ⟨w2, x3, x4⟩ := O3.li
        obtain ⟨w4, x5, x6, x7⟩ := O3.kp
        obtain ⟨w5, x8, x9⟩ := O3.tl
        refine ⟨at4 _ (ne_of O3.ob hpn3 (by intro z; cases z)) _ O3.ob, O3.me.mono k4, O3.vid.mono k4, O3.ms.mono k4, O3.fd.mono k4, ⟨w1, at4 _ O3.ap.1 _ x1, x2.mono k4⟩, ⟨w2, x3.mono (at4 _ (ne_of x3.ob hpn3 (by intro z; cases z)) _ x3.ob) k4, x4⟩, ⟨_, pn4, ?_⟩,
          ⟨w4, at4 _ (ne_of x5 hpn3 (by intro z; cases z)) _ x5, fun i => (x6 i).mono k4, x7⟩, ⟨w5, x8.mono (at4 _ (ne_of x8.ob hpn3 (by intro z; cases z)) _ x8.ob) k4, x9⟩, O3.ap⟩
        show TDs H4 _ ((s.pend ++ [(s.casts + 1, z)]).map eC)
        rw [List.map_append]
        exact ((tp.same st).mono k4).append (.cons (td_cst (c := (s.casts + 1, z)) (k4 _ _ ht)) .nil)
      have ob4 := O4.ob
      have F := (F2.trans (Fr.of (fp := a.fp p) st)).trans F4
      refine ⟨_, rfl, by show 0 ≤ sizeLine; omega, fun l1 n1' => ?_⟩
      have s5 := same_new n1' (.lst [])
      have h1 : (upd H4 l1 (.lst [])) l1 = some (.lst []) := upd_same
      have O5 := O4.same s5
      generalize upd H4 l1 (.lst []) = H5 at *
      refine ⟨_, rfl, p, a.dx, _, rfl, O5.ob, rfl, _, rfl, _, rfl, w, p, a, _, (s.casts + 1, z), rfl, O5, fun r6 H6 s6 d6 => ?_⟩
      refine ⟨by show 1 ≤ sizeLine; omega, fun l2 n2' => ?_⟩
      have s7 := same_new n2' (.lst [V.ref r6])
      have h2 : (upd H6 l2 (.lst [V.ref r6])) l2 = some (.lst [V.ref r6]) := upd_same
      refine ⟨by show 3 ≤ sizeLine; omega, fun t8 n8 => ?_⟩
      have s8 := same_new n8 (.tup [V.int (s.casts + 1), V.ref l1, V.ref l2])
      have h16 := s7 _ _ (s6 _ _ h1)
      have nl2 : H4 l2 = none := (Fr.of (fp := []) (s5.trans s6)).s _ n2'
      exact q t8 _ a l1 l2 (((O5.same s6).same s7).same s8) (F.trans (Fr.of (s5.trans (s6.trans (s7.trans s8))))) upd_same ⟨⟨[], s8 _ _ h16, .nil⟩, F.s _ n1', O4.fresh n1'⟩ ⟨⟨_, s8 _ _ h2, .cons ((d6.same s7).same s8) .nil⟩, F.s _ nl2, O4.fresh nl2⟩ (ne_of_none (s6 _ _ h1) n2')
end
end Mus

set_option maxRecDepth 100000
set_option maxHeartbeats 4000000
/-! Objects whose __init__ may raise: made in a try's body, and where the error leaves the def. -/
namespace Mus
open PySem PySem.Spec PyProof.Rows L2
structure MkOkX (P : Program) (w : World) (K : PySem.W.Frag) (mg : Str → Option Value) (base : Heap) (C : Addr) (x : Str) (ps : List Str) (k : Nat) (sp : Sp) where
  f : Addr
  fd : FuncData
  G : FnOk P w K mg base (L2.CX P w) k f fd ps sp
  M : Mk K C f
  g : mg x = some (.ref C)
  b : Binds K fd ps []
def MethAt.mkX {P : Program} {w : World} {K : PySem.W.Frag} {mg : Str → Option Value} {base : Heap} {C : Addr} {x : Str} {qual : Str} {ps : List Str} {st : Stmt} {k : Nat} {sp : Sp} (d : MethAt K C "__init__" qual ps st) (hm : PySem.W.makesIn K C = true) (hk : PySem.W.keepIn K (.ref C) = true) (g : mg x = some (.ref C))
    (h : ∀ {f : Addr} {fd : FuncData}, Fun K "__init__" qual st f fd → FnOk P w K mg base (L2.CX P w) k f fd ps sp) : MkOkX P w K mg base C x ps k sp :=
  ⟨d.f, d.fd, h d.F, ⟨hm, d.m.at_, d.m.fn, hk⟩, g, d.b⟩
def tMakeA (C : Addr) (sp : Sp) (E : L2.St → XK) (t : TA) : TE := fun σ H Q => t σ H fun vs H1 => ∀ x dx, H1 x = none → H1 dx = none → dx ≠ x →
  sp (.ref x :: vs) (upd (upd H1 dx (.own x)) x (.ins C dx [])) (fun v H2 => v = .non ∧ Q (.ref x) H2) (E σ)
section
variable {X : Cx} {C : Addr} {x : Str} {ps : List Str} {j k : Nat} {sp : Sp} {e : Expr} {es : List Expr} {t : TA} {p pos : Pos} {W : WX} {E : XK}
theorem run_makeA {pins : List (Addr × Obj)} {σ : L2.St} {H : Hp} {s : Shared} {Q : VK} {us : List Value} {vs : List V} {f : Addr} {fd : FuncData} {E : XK} (M : Mk X.K C f) (F : FnOk X.prog X.w X.K X.mg X.base (L2.CX X.prog X.w) k f fd ps sp) (hr : Room (k + 1) X.A) (hb : Binds X.K fd ps [])
    (hx : PassesAt (L2.CX X.prog X.w) X σ E) (I : Inv X pins σ H s) (r : Vals vs us)
    (h : ∀ x dx, H x = none → H dx = none → dx ≠ x → sp (.ref x :: vs) (upd (upd H dx (.own x)) x (.ins C dx [])) (fun v H2 => v = .non ∧ Q (.ref x) H2) E) :
    wpAny (model X.prog X.w) X.A (call (.ref C) us) (EP X pins σ Q) X.xe s := by
  have hq := h (s.heap.objs.size + 1) s.heap.objs.size (I.hok.fresh (Nat.le_succ _)) (I.hok.fresh (Nat.le_refl _)) (Nat.ne_of_lt (Nat.lt_succ_self _))
  have I2 := Inv.made (C := C) I
  have r2 : Vals (V.ref (s.heap.objs.size + 1) :: vs) (Value.ref (s.heap.objs.size + 1) :: us) := .cons rfl r
  have hl : (Value.ref (s.heap.objs.size + 1) :: us).length = ps.length := by
    have e := r2.length
    rw [F.len _ _ _ _ hq] at e
    exact e.symm
  have hl' : (Value.ref (s.heap.objs.size + 1) :: us ++ ([] : List Value)).length = ps.length := by rw [List.append_nil]; exact hl
  have bd := hb _ (Value.ref (s.heap.objs.size + 1) :: us) I2.kIn hl'
  rw [List.append_nil] at bd
  refine wpAny_call (make_map (f := f) I.kIn M.makes M.init (beq_iff_eq.mp M.fn) (codeAny_mono (F.run _ X.stack _ _ ⟨Value.ref (s.heap.objs.size + 1) :: us, []⟩ (Value.ref (s.heap.objs.size + 1) :: us) _ _ E (hr.make C us [])
    (I2.env0.make C us []) bd r2 hq) fun r s' hq' => ?_))
  cases r with
  | error e => exact hx pins _ _ e s' I2 hq'
  | ok fl =>
    cases fl with
    | ret u =>
      obtain ⟨v, H', I3, rv, ev, q3⟩ := I2.after hq'
      subst ev
      exact ⟨rv, ⟨V.ref (s.heap.objs.size + 1), H', I3, rfl, q3⟩⟩
    | next => exact False.elim hq'
    | brk => exact False.elim hq'
    | cont => exact False.elim hq'
/-- C(e, ..) in a try's body -/
theorem pmakeA (c : MkOkX X.prog X.w X.K X.mg X.base C x ps j sp) (tk : Takes X W) (hr : Room k X.A) (ha : PA X (e :: es) t) (hj : j + 1 ≤ k := by first | decide | omega) (hg : Gl X x := by rfl)
    (d0 : (x == ("__debug__" : Str)) = false := by decide) (st0 : starEach (e :: es) X.env = (false, eval e X.env) :: starEach es X.env := by rfl) (pl0 : (backTo pos (starEach es X.env)).any (·.1) = false := by rfl) :
    PE X (.Call (.Name x p) (e :: es) [] pos) (tMakeA C sp (WE W) t) := by
  refine ⟨fun pins s σ H Q I h => ?_⟩
  refine wpAny_Call_Name_kw (ld_glob I hg c.g ?_ d0)
  refine PySem.W.callWith_K (h₀ := X.base) I.ok.mod.kin c.M.kp (thn (ha.run pos pins s σ H _ I h) fun us s1 ⟨vs, H1, I1, r, q⟩ => ⟨I1.kIn, ?_⟩) st0 pl0
  exact run_makeA c.M c.G (hr.mono hj) c.b (passAt tk σ) I1 r q
/-- where it raises nothing -/
theorem pmakeN (c : MkOkX X.prog X.w X.K X.mg X.base C x ps j sp) (tk : Takes X (fun _ _ _ _ => False)) (hr : Room k X.A) (ha : PA X (e :: es) t) (hj : j + 1 ≤ k := by first | decide | omega) (hg : Gl X x := by rfl)
    (d0 : (x == ("__debug__" : Str)) = false := by decide) (st0 : starEach (e :: es) X.env = (false, eval e X.env) :: starEach es X.env := by rfl) (pl0 : (backTo pos (starEach es X.env)).any (·.1) = false := by rfl) :
    PE X (.Call (.Name x p) (e :: es) [] pos) (tMakeA C sp (fun _ _ _ _ => False) t) := pmakeA c tk hr ha hj hg d0 st0 pl0
end
end Mus

set_option maxRecDepth 100000
set_option maxHeartbeats 4000000
/-! An object whose fields are stored one after another, beside new things. -/
namespace Mus
open PySem L2
structure Bld (H : Hp) (p dx CO : Addr) (fs : List (Str × V)) (X : Hp) : Prop where
  ob : X p = some (.ins CO dx fs)
  k : ∀ b o, H b = some o → b ≠ p → X b = some o
  s : ∀ b, X b = none → H b = none
variable {H X : Hp} {p dx CO q : Addr} {fs fs' : List (Str × V)} {o : HO}
theorem Bld.start (h : H p = some (.ins CO dx fs)) : Bld H p dx CO fs H := ⟨h, fun _ _ e _ => e, fun _ e => e⟩
theorem Bld.put (B : Bld H p dx CO fs X) : Bld H p dx CO fs' (upd X p (.ins CO dx fs')) :=
  ⟨upd_same, fun b u e n => by rw [upd_ne n]; exact B.k b u e n, fun b e => B.s b (by
    by_cases z : b = p
    · rw [z, upd_same] at e; cases e
    · rwa [upd_ne z] at e)⟩
theorem Bld.new (B : Bld H p dx CO fs X) (hq : X q = none) : Bld H p dx CO fs (upd X q o) :=
  ⟨by rw [upd_ne (ne_of_none B.ob hq)]; exact B.ob, fun b u e n => by rw [upd_ne (ne_of_none (B.k b u e n) hq)]; exact B.k b u e n, fun b e => B.s b (by
    by_cases z : b = q
    · rw [z, upd_same] at e; cases e
    · rwa [upd_ne z] at e)⟩
theorem Bld.tup (B : Bld H p dx CO fs X) (hp : ∀ xs, H p ≠ some (.tup xs)) : TupK H X := fun b xs e => B.k b _ e fun z => hp xs (z ▸ e)
end Mus

set_option maxRecDepth 100000
set_option maxHeartbeats 4000000
namespace Mus
open PySem L2
local macro_rules | `(tactic| walk_at "rd") => `(tactic| first
  | refine ⟨_, rfl, ?_⟩ | refine ⟨(True.intro : True), ?_⟩
  | refine ⟨_, _, rfl, rfl, (⟨by decide, by decide, by decide⟩ : CPow _ _), ?_⟩
  | refine ⟨_, _, rfl, rfl, (⟨by decide, by decide⟩ : CDiv _ _), ?_⟩
  | refine ⟨_, _, rfl, rfl, (by show (0 : Int) < _; decide), ?_⟩
  | refine ⟨_, _, rfl, rfl, ?_⟩ | refine ⟨rfl, ?_⟩ | refine iteT ?_ | refine iteF ?_ | refine ⟨_, _, rfl, ?_⟩ | refine .inl ⟨_, rfl, ?_⟩
  | refine ⟨_, _, _, _, _, rfl, (by assumption), (by assumption), (by assumption), rfl, ?_⟩ | refine ⟨_, _, _, _, rfl, rfl, SqT.of (by assumption), rfl, ?_⟩ | refine ⟨_, _, rfl, SqT.of (by assumption), rfl, ?_⟩
  | refine ⟨_, _, _, _, _, rfl, .ty _, Rp.ty (by assumption), kit_int _, ?_⟩ | refine ⟨_, _, _, _, _, rfl, .ty _, Rp.ty (by assumption), kit_bool _, ?_⟩
  | refine ⟨_, _, _, _, _, rfl, .ty _, Rp.ty (by assumption), kit_str _, ?_⟩ | refine ⟨_, _, _, _, _, rfl, .ty _, Rp.ty (by assumption), kit_tup _, ?_⟩)
local macro_rules | `(tactic| walk_at "cal") => `(tactic| first
  | refine ⟨_, _, _, _, _, rfl, (by assumption), ?_⟩ | refine ⟨_, _, _, _, _, rfl, (by assumption), (by assumption), ?_⟩)
local macro_rules | `(tactic| walk_at "sq") => `(tactic| first
  | refine ⟨_, _, rfl, Or.inr (SqT.of (by assumption)), ?_⟩ | refine ⟨_, _, _, _, rfl, rfl, SqT.of (by assumption), rfl, ?_⟩)
local macro_rules | `(tactic| walk_at "rds") => `(tactic| repeat first | walk_at "rd" | walk_at "cal" | walk_at "sq")
local macro_rules | `(tactic| walk_at "ze") => `(tactic| repeat first
  | exact zes_nil | exact ze_bl | exact ze_str | exact ze_non | apply zes_cons | apply ze_tup | apply ze_lst | apply ze_cat | exact di_c | exact di_v rfl | apply di_opC | apply di_op | apply di_neg | apply ze_i | (refine (⟨?_, ?_, ?_⟩ : CPow _ _) <;> decide) | exact Nat.le_of_ble_eq_true rfl | exact ze_varD rfl (by assumption))
local macro_rules | `(tactic| walk_at "rdz") => `(tactic| repeat (fail_if_success (first | show tLst _ _ _ _ | show tAsg (tLst _) _ _ _ _ | show tSeq (tAsg (tLst _) _) _ _ _ _)); first | walk_at "rd" | walk_at "cal" | walk_at "sq")
theorem again_len (s : OS) (h1 : s.mems.length ≤ 1000) : s.again.length ≤ 16000 := by
  unfold OS.again
  split
  · rw [List.length_map, List.length_take]; omega
  · have hb : ∀ m, (s.behind m).length ≤ 16 := fun m => by
      show (List.mapIdx _ _).length ≤ 16
      rw [List.length_mapIdx, List.length_take]; omega
    have : ∀ ms : List Mem, (ms.map s.behind).flatten.length ≤ 16 * ms.length := by
      intro ms
      induction ms with
      | nil => simp
      | cons m ms ih => rw [List.map_cons, List.flatten_cons, List.length_append, List.length_cons]; have := hb m; omega
    have h2 := this s.others
    have h3 : s.others.length ≤ s.mems.length := List.length_filter_le _ _
    omega
section
variable {P : Program} {w : World} {K : PySem.W.Frag} {mg : Str → Option Value} {base : Heap} {CO CV : Addr}
abbrev s_Order_heard : Stmt := inClass (top 5) 3
abbrev N_Order_heard : List Str := ["self", "member", "count"]
abbrev P_Order_heard : List Str := ["self", "member", "count"]
theorem sc_Order_heard : FnScope N_Order_heard P_Order_heard (defScope s_Order_heard) := ⟨rfl, rfl, rfl, by decide +kernel, rfl, by decide +kernel, by decide +kernel⟩
def sp_ohr (w : World) (CO : Addr) : Sp := fun vs H Q _ => ∃ (p : Addr) (a : OA) (s : OS) (v : V) (m : Mem) (n : Int), vs = [.ref p, v, .int n] ∧ OAt w CO H p a s ∧ TD H v (eM m) ∧ s.tn ≤ 90000 ∧ ∀ H', OAt w CO H' p a (s.heard m n) → Fr (a.fp p) (a.fp p) H H' → Q .non H'
theorem ok_ohr {f : Addr} {fd : FuncData} (T : Tx K mg CO CV) (F : Fun K "heard" "Order.heard" s_Order_heard f fd) : FnOk P w K mg base CX0 1 f fd P_Order_heard (sp_ohr w CO) := by
  have nd := sc_Order_heard.nd
  refine F.ok sc_Order_heard (fun vs H Q E h => ?_) (fun cdv A outer s H vs Q E hr h => ?_)
  · obtain ⟨_, _, _, _, _, _, rfl, _⟩ := h
    rfl
  · obtain ⟨p, a, s, v, m, n, rfl, O, hv, htn, q⟩ := h
    have hs := sl
    have ob := O.ob
    obtain ⟨c1, n1, n2⟩ : L2.Cls K CO ∧ NoAttr K CO "_members" ∧ NoAttr K CO "_told" := ⟨T.cl_Order, T.n_Order__members, T.n_Order__told⟩
    refine ⟨_, (pss_one (ps_if (pt_cmpR (op_inDD hr.units) (pv 1) (pe_fld (pv 0) (by rfl)) (by rfl))
        (pss_one (ps_nput hr.units (pe_fld (pv 0) (by rfl)) (pv 1) (pe_callB (call_max2 rfl) (by rfl) T.b_max (by decide +kernel) (pa_cons (pv 2) (pa_cons (pe_nget2 hr.units (pe_fld (pv 0) (by rfl)) (pv 1) pe_int ⟨rfl, rfl, rfl, rfl⟩) pa_nil))) rfl))
        pss_nil)), ?_⟩
    walk_at "rds"
    refine rd_inMs hv O.ms ?_
    walk_at "rds"
    refine iB (fun h => ?_) (fun h => ?_)
    · have h : m ∈ s.mems := of_decide_eq_true h
      obtain ⟨kvs, N, hN, lN⟩ := O.tl
      obtain ⟨bm, rfl, nk⟩ := hv.nk
      walk_at "rds"
      refine ⟨a.tl, kvs, rfl, N, ?_⟩
      walk_at "rds"
      refine ⟨bm, (s.told m).map V.int, rfl, ⟨kvs, kM m, N, nk, kM_depth _, (hN m).symm⟩, ?_⟩
      have eg : ((s.told m).map V.int).getD (V.int 0) = V.int ((s.told m).getD 0) := by cases s.told m <;> rfl
      rw [eg]
      refine ⟨n, (s.told m).getD 0, rfl, ?_⟩
      walk_at "rds"
      refine ⟨a.tl, bm, kvs, kM m, rfl, rfl, N, nk, kM_depth _, ?_⟩
      have e : s.heard m n = { s with told := fun x => if x = m then some (if (s.told m).getD 0 > n then (s.told m).getD 0 else n) else s.told x, tn := if (s.told m).isSome then s.tn else s.tn + 1 } := if_pos h
      generalize hx : (if (s.told m).getD 0 > n then (s.told m).getD 0 else n) = x at *
      generalize hh2 : upd H a.tl _ = H2
      have N2 : Nd w H2 a.tl (putN kvs (kM m) bm (.int x)) := by subst hh2; exact N.put (v := .int x) nk (kM_depth _) (by omega)
      have k2 : TupK H H2 := by subst hh2; exact tupK_upd fun xs e => by rw [N.ob] at e; cases e
      have at2 : ∀ c, c ≠ a.tl → ∀ o, H c = some o → H2 c = some o := fun c h o e => by subst hh2; rw [upd_ne h]; exact e
      have F2 : Fr (a.fp p) (a.fp p) H H2 := by subst hh2; exact fr_upd (by simp [OA.fp]) N.ob (fun _ z => by cases z)
      refine q H2 ?_ F2
      rw [e]
      obtain ⟨w1, x1, x2⟩ := O.lg
      obtain ⟨w2, x3, x4⟩ := O.li
      obtain ⟨w3, y1, y2⟩ := O.pn
      obtain ⟨w4, x5, x6, x7⟩ := O.kp
      refine ⟨at2 _ (ne_of ob N.ob (by intro z; cases z)) _ ob, O.me.mono k2, O.vid.mono k2, O.ms.mono k2, O.fd.mono k2, ⟨w1, at2 _ (ne_of x1 N.ob (by intro z; cases z)) _ x1, x2.mono k2⟩, ⟨w2, x3.mono (at2 _ O.ap.2 _ x3.ob) k2, x4⟩, ⟨w3, at2 _ (ne_of y1 N.ob (by intro z; cases z)) _ y1, y2.mono k2⟩,
        ⟨w4, at2 _ (ne_of x5 N.ob (by intro z; cases z)) _ x5, fun i => (x6 i).mono k2, x7⟩, ⟨_, N2, fun m' => ?_, ?_⟩, O.ap⟩
      · show _ = Option.map V.int (if m' = m then some x else s.told m')
        rw [valN_put]
        by_cases e : m' = m
        · rw [if_pos (by rw [e]), if_pos e]; rfl
        · rw [if_neg fun z => e (kM_inj z), if_neg e]; exact hN m'
      · show _ ≤ (if (s.told m).isSome then s.tn else s.tn + 1)
        rw [putN_len', hN m, Option.isSome_map]
        split <;> omega
    · have h : ¬ m ∈ s.mems := of_decide_eq_false h
      have e : s.heard m n = s := if_neg h
      exact q H (by rw [e]; exact O) (Fr.refl _ _)
abbrev s_Order_again : Stmt := inClass (top 5) 4
abbrev N_Order_again : List Str := ["self", "letters", "member", "index", "payload"]
abbrev P_Order_again : List Str := ["self"]
theorem sc_Order_again : FnScope N_Order_again P_Order_again (defScope s_Order_again) := ⟨rfl, rfl, rfl, by decide +kernel, rfl, by decide +kernel, by decide +kernel⟩
def sp_oag (w : World) (CO : Addr) : Sp := fun vs H Q _ => ∃ (p : Addr) (a : OA) (s : OS), vs = [.ref p] ∧ OAt w CO H p a s ∧ s.log.length ≤ 100000 ∧ s.pend.length ≤ 100000 ∧ s.mems.length ≤ 1000 ∧ (∀ m, 0 ≤ (s.told m).getD 0 ∧ (s.told m).getD 0 ≤ 2 ^ 61) ∧
  ∀ r H', Same H H' → H r = none → LstAt H' r (s.again.map ePk) → Q (.ref r) H'
theorem ok_oag {f : Addr} {fd : FuncData} (T : Tx K mg CO CV) (m_Order__others : MethOk P w K mg base CX0 CO "_others" P_Order__others 1 (sp_oth CO)) (m_Order__cast_letter : MethOk P w K mg base CX0 CO "_cast_letter" P_Order__cast_letter 1 (sp_casl CO)) (m_Order__letters_behind : MethOk P w K mg base CX0 CO "_letters_behind" P_Order__letters_behind 2 (sp_beh w CO))
    (F : Fun K "again" "Order.again" s_Order_again f fd) : FnOk P w K mg base CX0 3 f fd P_Order_again (sp_oag w CO) := by
  have nd := sc_Order_again.nd
  refine F.ok sc_Order_again (fun vs H Q E h => ?_) (fun cdv A outer s H vs Q E hr h => ?_)
  · obtain ⟨_, _, _, rfl, _⟩ := h
    rfl
  · obtain ⟨p, a, s, rfl, O, hl, hp, hm, hT, q⟩ := h
    have hs := sl
    have ob := O.ob
    obtain ⟨c1, n1, n2, n3⟩ : L2.Cls K CO ∧ NoAttr K CO "_me" ∧ NoAttr K CO "_founder" ∧ NoAttr K CO "_pending" := ⟨T.cl_Order, T.n_Order__me, T.n_Order__founder, T.n_Order__pending⟩
    have al := again_len s hm
    refine ⟨_, (pss_cons (ps_if (pt_cmpR (op_neD hr.units) (pe_fld (pv 0) (by rfl)) (pe_fld (pv 0) (by rfl)) (nomark _))
        (pss_one (ps_ret (pe_lcX (own := [("index", 3), ("payload", 4)]) rfl nd (pi_list (pe_slice sl_list (pe_fld (pv 0) (by rfl)) po_none (po_some (pe_const T.c_WINDOW)))) (blkOk_by (own := [("index", 3), ("payload", 4)]) (N := N_Order_again) (sc := defScope s_Order_again) (by decide +kernel)) (fun _ _ _ _ _ => (pg_tup (by rfl) (pgs_cons (pg_name (i := 3) nd rfl (Or.inl rfl)) (pgs_cons (pg_name (i := 4) nd rfl (Or.inl rfl)) pgs_nil)))) (fun _ _ _ _ _ => pts_nil) (fun _ _ _ _ _ => (pmeth m_Order__cast_letter T.cl_Order (pv 0) hr (pa_cons (pv 3) (pa_cons (pv 4) pa_nil)))))))
        pss_nil)
      (pss_cons (ps_set (i := 1) nd rfl (Or.inl rfl) (pe_lst pa_nil))
      (pss_cons (ps_for PassesOwn.never rfl (pi_list (pmeth0 m_Order__others T.cl_Order (pv 0) hr)) (pg_name (i := 2) nd rfl (Or.inl rfl))
        (pss_one (ps_expr (pe_bm PySem.F.plainAttrs_list PySem.F.slot_list_extend PySem.F.type_list_extend mt_extend (pv 1) (pa_cons (pmeth m_Order__letters_behind T.cl_Order (pv 0) hr (pa_cons (pv 2) pa_nil)) pa_nil)))))
      (pss_one (ps_ret (pv 1)))))), ?_⟩
    walk_at "rds"
    refine rd_neM O.me O.fd ?_
    walk_at "rds"
    refine iB (fun h => ?_) (fun h => ?_)
    · have h : ¬ s.me = s.fd := by simpa using h
      have e : s.again = (s.pend.take 16).map s.castL := if_pos h
      obtain ⟨vp, hpn, tp⟩ := O.pn
      walk_at "rds"
      (try unfold tNoPart)
      refine ⟨a.pn, _, rfl, SqL.of hpn, fun b nb => ?_⟩
      have ec : cutV vp none (some 16) = vp.take 16 := cut16 vp 0 (some 0) (some 16) rfl rfl
      rw [ec]
      have sb := same_new nb (.lst (vp.take 16))
      have hb : (upd H b (.lst (vp.take 16))) b = some (.lst (vp.take 16)) := upd_same
      generalize upd H b (.lst (vp.take 16)) = H2 at *
      have tc : TDs H2 (vp.take 16) ((s.pend.take 16).map eC) := by
        rw [List.map_take]
        exact (tp.same sb).take 16
      have lc := tc.length
      rw [List.length_map] at lc
      have l16 : (s.pend.take 16).length ≤ 16 := by rw [List.length_take]; omega
      refine ⟨b, rfl, ⟨_, SqL.of hb⟩, fun D nD => ?_⟩
      have O2 := O.same sb
      refine lc_list (K := K) (a := b) (xs := vp.take 16) (fun i H' => LstAt H' D ((((s.pend.take 16).take i).map s.castL).map ePk) ∧ Same H2 H') ?_ ?_ ?_ ?_
      · exact ⟨⟨[], upd_same, .nil⟩, same_new nD _⟩
      · rintro i H' _ ⟨_, s1⟩
        exact SqL.of (s1 _ _ hb)
      · rintro i x H' hi ⟨⟨ws, hD, hw⟩, s1⟩
        obtain ⟨d, hd, rd⟩ := tc.at hi
        rw [List.getElem?_map] at hd
        obtain ⟨c, hc, rfl⟩ := Option.map_eq_some_iff.mp hd
        obtain ⟨bc, rfl, hbc⟩ := rd.cst
        have ht : (s.pend.take 16).take (i + 1) = (s.pend.take 16).take i ++ [c] := by rw [List.take_succ, hc]; rfl
        have lw := hw.length
        rw [List.length_map, List.length_map, List.length_take] at lw
        have O3 := O2.same s1
        refine ⟨bc, _, rfl, SqT.of (s1 _ _ hbc), rfl, ?_⟩
        refine ⟨_, _, rfl, _, _, rfl, rfl, rfl, ?_⟩
        refine ⟨_, rfl, p, a.dx, _, rfl, O3.ob, rfl, _, rfl, _, rfl, w, p, a, s, c, rfl, O3, fun r5 H5 s5 d5 => ?_⟩
        have hD5 := s5 _ _ hD
        refine ⟨ws, hD5, by omega, ⟨ws ++ [.ref r5], upd_same, ?_⟩, fun c o e => by rw [upd_ne (ne_of_none e nD)]; exact s5 _ _ (s1 _ _ e)⟩
        have kt : TupK H5 (upd H5 D (.lst (ws ++ [.ref r5]))) := tupK_upd fun xs e => by rw [hD5] at e; cases e
        rw [ht, List.map_append, List.map_append]
        exact ((hw.same s5).mono kt).append (.cons (d5.mono kt) .nil)
      · rintro H' ⟨hD, s1⟩
        rw [lc, List.take_length] at hD
        refine q D H' (sb.trans s1) ?_ (by rw [e]; exact hD)
        exact (Fr.of (fp := []) sb).s _ nD
    · have h : s.me = s.fd := by simpa using h
      have e : s.again = (s.others.map s.behind).flatten := if_neg fun z => z h
      rw [e] at q al
      refine ⟨by show 0 ≤ sizeLine; omega, fun D nD => ?_⟩
      have s1 := same_new nD (.lst [])
      have hD : (upd H D (.lst [])) D = some (.lst []) := upd_same
      have O1 := O.same s1
      generalize upd H D (.lst []) = H1 at *
      refine ⟨_, rfl, p, a.dx, _, rfl, O1.ob, rfl, w, p, a, s, rfl, O1, fun r H2 s2 nr hr2 => ?_⟩
      obtain ⟨vo, hvo, to⟩ := hr2
      have lo := to.length
      rw [List.length_map] at lo
      have hD2 := s2 _ _ hD
      have Dr : r ≠ D := fun z => by rw [z, hD] at nr; cases nr
      refine ⟨r, rfl, ⟨_, SqL.of hvo⟩, for_list (K := K) (a := r) (xs := vo) (fun i σ H' => ∃ x2 : Option V, σ = [some (.ref p), some (.ref D), x2, none, none] ∧ LstAt H' D (((s.others.take i).map s.behind).flatten.map ePk) ∧ (∀ b o, H2 b = some o → b ≠ D → H' b = some o)) ?_ ?_ ?_ ?_⟩
      · exact ⟨_, rfl, ⟨[], hD2, .nil⟩, fun b o e _ => e⟩
      · rintro i σ H' _ ⟨_, _, _, k⟩
        exact SqL.of (k _ _ hvo Dr)
      · rintro i x σ H' hi ⟨x2, rfl, ⟨ws, hDw, hw⟩, k⟩
        obtain ⟨d, hd, rd⟩ := to.at hi
        rw [List.getElem?_map] at hd
        obtain ⟨m, hm', rfl⟩ := Option.map_eq_some_iff.mp hd
        have ht : s.others.take (i + 1) = s.others.take i ++ [m] := by rw [List.take_succ, hm']; rfl
        have kt : TupK H2 H' := fun b xs e => k _ _ e (fun z => by rw [z, hD2] at e; cases e)
        have O2 : OAt w CO H' p a s := (O1.same s2).mono (fun b hb o e => k _ _ e (fun z => O.fresh nD (by rw [← z]; exact hb))) kt
        have lw := hw.length
        rw [List.length_map] at lw
        walk_at "rds"
        refine ⟨.inl ⟨rfl, _, SqL.of hDw⟩, ?_⟩
        refine ⟨_, rfl, p, a.dx, _, rfl, O2.ob, rfl, _, rfl, p, a, s, x, m, rfl, O2, rd.mono kt, (hT m).1, (hT m).2, hl, fun r5 H5 s5 n5 h5 => ?_⟩
        obtain ⟨zs, hz, tz⟩ := h5
        have lz := tz.length
        rw [List.length_map] at lz
        have hD5 := s5 _ _ hDw
        have tot : (((s.others.take (i + 1)).map s.behind).flatten).length ≤ 16000 := by
          refine Nat.le_trans ?_ al
          have hsub : ((s.others.take (i + 1)).map s.behind).flatten.length + ((s.others.drop (i + 1)).map s.behind).flatten.length = (s.others.map s.behind).flatten.length := by
            rw [← List.length_append, ← List.flatten_append, ← List.map_append, List.take_append_drop]
          omega
        rw [ht, List.map_append, List.flatten_append, List.length_append] at tot
        have e1 : ([m].map s.behind).flatten = s.behind m := by simp
        rw [e1] at tot
        refine ⟨D, r5, ws, zs, rfl, rfl, hD5, hz, by omega, ?_⟩
        have kt6 : TupK H5 (upd H5 D (.lst (ws ++ zs))) := tupK_upd fun xs e => by rw [hD5] at e; cases e
        refine ⟨_, rfl, ⟨ws ++ zs, upd_same, ?_⟩, fun b o e n => by rw [upd_ne n]; exact s5 _ _ (k _ _ e n)⟩
        rw [ht, List.map_append, List.flatten_append, List.map_append, e1]
        exact ((hw.same s5).mono kt6).append (tz.mono kt6)
      · rintro σ H' ⟨x2, rfl, hDw, k⟩
        rw [lo, List.take_length] at hDw
        refine ⟨_, rfl, ?_⟩
        refine q D H' (fun b o e => k _ _ (s2 _ _ (s1 _ _ e)) (ne_of_none e nD)) nD hDw
abbrev s_Order___init__ : Stmt := inClass (top 5) 0
abbrev N_Order___init__ : List Str := ["self", "me", "view_id", "members"]
abbrev P_Order___init__ : List Str := ["self", "me", "view_id", "members"]
theorem sc_Order___init__ : FnScope N_Order___init__ P_Order___init__ (defScope s_Order___init__) := ⟨rfl, rfl, rfl, by decide +kernel, rfl, by decide +kernel, by decide +kernel⟩
def sp_oini (w : World) (CO CV : Addr) : Sp := fun vs H Q E => ∃ (p dx : Addr) (vme vvid vms : V) (me : Mem) (vid : Vid) (mems : List Mem), vs = [.ref p, vme, vvid, vms] ∧ H p = some (.ins CO dx []) ∧ TD H vme (eM me) ∧ TD H vvid (eV vid) ∧ TD H vms (eMs mems) ∧
  (me ∉ mems → E (.ref CV) none H) ∧ (me ∈ mems → ∀ H' a fd r, mems = fd :: r → OAt w CO H' p a (OS.new me vid mems fd) → Fr [p] (a.fp p) H H' → Q .non H')
theorem ok_oini {f : Addr} {fd : FuncData} (T : Tx K mg CO CV) (F : Fun K "__init__" "Order.__init__" s_Order___init__ f fd) : FnOk P w K mg base (L2.CX P w) 1 f fd P_Order___init__ (sp_oini w CO CV) := by
  have nd := sc_Order___init__.nd
  refine F.okX sc_Order___init__ (fun vs H Q E h => ?_) (fun cdv A outer s H vs Q E hr h => ?_)
  · obtain ⟨_, _, _, _, _, _, _, _, rfl, _⟩ := h
    rfl
  · obtain ⟨p, dx, vme, vvid, vms, me, vid, mems, rfl, hp, tme, tvid, tms, q1, q2⟩ := h
    have hs := sl
    refine ⟨_, (pss_cons (ps_if (pt_cmpR (op_notInDD hr.units) (pv 1) (pv 3) (by rfl))
        (pss_one (ps_raise rfl (takes_of rfl rfl rfl rfl) (pmk_own0 PySem.F.excBase_ValueError T.x_BadView T.g_BadView T.k_BadView (raises_own T.b_BadView T.t_BadView))))
        pss_nil)
      (pss_cons (ps_fld (pv 0) (pv 1) rfl)
      (pss_cons (ps_fld (pv 0) (pv 2) rfl)
      (pss_cons (ps_fld (pv 0) (pv 3) rfl)
      (pss_cons (ps_fld (pv 0) (pe_ix ix_tup (pv 3) pe_int (fun _ _ => rfl)) rfl)
      (pss_cons (ps_fld (pv 0) (pe_lst pa_nil) rfl)
      (pss_cons (ps_fld (pv 0) pe_nnew rfl)
      (pss_cons (ps_fld (pv 0) pe_int rfl)
      (pss_cons (ps_fld (pv 0) (pe_lst pa_nil) rfl)
      (pss_cons (ps_fld (pv 0) pe_dnewK rfl)
      (pss_one (ps_fld (pv 0) pe_nnew rfl)))))))))))), ?_⟩
    walk_at "rds"
    refine rd_inMs tme tms ?_
    walk_at "rds"
    refine iB (fun h => ?_) (fun h => ?_)
    · have h : ¬ me ∈ mems := by simpa using h
      exact q1 h
    · have h : me ∈ mems := by simpa using h
      obtain ⟨fd0, rest, em⟩ : ∃ fd0 rest, mems = fd0 :: rest := by
        cases mems with
        | nil => cases h
        | cons x y => exact ⟨x, y, rfl⟩
      have q := fun H' a => q2 h H' a fd0 rest em
      subst em
      obtain ⟨am, vf, xs, rfl, ham, tf⟩ : ∃ am vf xs, vms = .ref am ∧ H am = some (.tup (vf :: xs)) ∧ TD H vf (eM fd0) := by
        cases tms with
        | tup h l r => cases r with | cons a b => exact ⟨_, _, _, rfl, h, a⟩
      have pam : am ≠ p := ne_of ham hp (by intro z; cases z)
      have a0 : ∀ (x : V) (l : List V), atI (x :: l) 0 = some x := fun x l => at_int (by decide) rfl
      have c1 := T.cl_Order
      have B := Bld.start hp
      have put : ∀ {fs : List (Str × V)} {X : Hp} {x : Str} {v : V} {R : Prop}, True := fun {_ _ _ _ _} => trivial
      refine ⟨_, rfl, _, rfl, p, CO, dx, _, rfl, B.ob, c1, T.n_Order__me, (by decide), ?_⟩
      have B := B.put (fs' := putF "_me" vme [])
      generalize upd H p _ = X1 at *
      refine ⟨_, rfl, _, rfl, p, CO, dx, _, rfl, B.ob, c1, T.n_Order__view_id, (by show 1 < 1000; decide), ?_⟩
      have B := B.put (fs' := putF "_view_id" vvid (putF "_me" vme []))
      generalize upd X1 p _ = X2 at *
      refine ⟨_, rfl, _, rfl, p, CO, dx, _, rfl, B.ob, c1, T.n_Order__members, (by show 2 < 1000; decide), ?_⟩
      have B := B.put (fs' := putF "_members" (.ref am) (putF "_view_id" vvid (putF "_me" vme [])))
      generalize upd X2 p _ = X3 at *
      refine ⟨_, rfl, am, _, _, _, rfl, rfl, SqT.of (B.k _ _ ham pam), a0 _ _, _, rfl, p, CO, dx, _, rfl, B.ob, c1, T.n_Order__founder, (by show 3 < 1000; decide), ?_⟩
      have B := B.put (fs' := putF "_founder" vf (putF "_members" (.ref am) (putF "_view_id" vvid (putF "_me" vme []))))
      generalize upd X3 p _ = X4 at *
      refine ⟨by show 0 ≤ sizeLine; omega, fun lg nl => ?_⟩
      have lgp : lg ≠ p := fun z => by rw [z, B.ob] at nl; cases nl
      have hl0 := B.s _ nl
      have B := B.new (o := .lst []) nl
      have hlg : (upd X4 lg (.lst [])) lg = some (.lst []) := upd_same
      generalize upd X4 lg (.lst []) = X5 at *
      refine ⟨_, rfl, p, CO, dx, _, rfl, B.ob, c1, T.n_Order__log, (by show 4 < 1000; decide), ?_⟩
      have B := B.put (fs' := putF "_log" (.ref lg) (putF "_founder" vf (putF "_members" (.ref am) (putF "_view_id" vvid (putF "_me" vme [])))))
      have kl : ∀ {X : Hp} {o : HO}, X lg = some (.lst []) → (upd X p o) lg = some (.lst []) := fun h => (upd_ne lgp).trans h
      have hlg := kl (o := .ins CO dx (putF "_log" (.ref lg) (putF "_founder" vf (putF "_members" (.ref am) (putF "_view_id" vvid (putF "_me" vme [])))))) hlg
      generalize upd X5 p _ = X6 at *
      intro li nli loli
      have lip : li ≠ p := fun z => by rw [z, B.ob] at nli; cases nli
      have hli0 := B.s _ nli
      have lgli : lg ≠ li := ne_of_none hlg nli
      generalize hh7 : upd X6 li _ = X7
      have B : Bld H p dx CO (putF "_log" (.ref lg) (putF "_founder" vf (putF "_members" (.ref am) (putF "_view_id" vvid (putF "_me" vme []))))) X7 := by subst hh7; exact B.new nli
      have hlg : X7 lg = some (.lst []) := by subst hh7; rw [upd_ne lgli]; exact hlg
      have Nli : Nd w X7 li [] := by subst hh7; exact nd_new loli
      refine ⟨_, rfl, p, CO, dx, _, rfl, B.ob, c1, T.n_Order__last_indexes, (by show 5 < 1000; decide), ?_⟩
      generalize hh8 : upd X7 p _ = X8
      have B : Bld H p dx CO (putF "_last_indexes" (.ref li) (putF "_log" (.ref lg) (putF "_founder" vf (putF "_members" (.ref am) (putF "_view_id" vvid (putF "_me" vme [])))))) X8 := by subst hh8; exact B.put
      have hlg : X8 lg = some (.lst []) := by subst hh8; exact kl hlg
      have hli : X8 li = some (ndO w li []) := by subst hh8; rw [upd_ne lip]; exact Nli.ob
      refine ⟨_, rfl, p, CO, dx, _, rfl, B.ob, c1, T.n_Order__casts, (by show 6 < 1000; decide), ?_⟩
      generalize hh9 : upd X8 p _ = X9
      have B : Bld H p dx CO (putF "_casts" (.int 0) (putF "_last_indexes" (.ref li) (putF "_log" (.ref lg) (putF "_founder" vf (putF "_members" (.ref am) (putF "_view_id" vvid (putF "_me" vme []))))))) X9 := by subst hh9; exact B.put
      have hlg : X9 lg = some (.lst []) := by subst hh9; exact kl hlg
      have hli : X9 li = some (ndO w li []) := by subst hh9; rw [upd_ne lip]; exact hli
      refine ⟨by show 0 ≤ sizeLine; omega, fun pn npn => ?_⟩
      have pnp : pn ≠ p := fun z => by rw [z, B.ob] at npn; cases npn
      have hpn0 := B.s _ npn
      have lgpn : lg ≠ pn := ne_of_none hlg npn
      have lipn : li ≠ pn := ne_of_none hli npn
      have B := B.new (o := .lst []) npn
      have hlg := (upd_ne lgpn (H := X9) (o := .lst [])).trans hlg
      have hli := (upd_ne lipn (H := X9) (o := .lst [])).trans hli
      have hpn : (upd X9 pn (.lst [])) pn = some (.lst []) := upd_same
      generalize upd X9 pn (.lst []) = X10 at *
      refine ⟨_, rfl, p, CO, dx, _, rfl, B.ob, c1, T.n_Order__pending, (by show 7 < 1000; decide), ?_⟩
      generalize hh11 : upd X10 p _ = X11
      have B : Bld H p dx CO (putF "_pending" (.ref pn) (putF "_casts" (.int 0) (putF "_last_indexes" (.ref li) (putF "_log" (.ref lg) (putF "_founder" vf (putF "_members" (.ref am) (putF "_view_id" vvid (putF "_me" vme [])))))))) X11 := by subst hh11; exact B.put
      have hlg : X11 lg = some (.lst []) := by subst hh11; exact kl hlg
      have hli : X11 li = some (ndO w li []) := by subst hh11; rw [upd_ne lip]; exact hli
      have hpn : X11 pn = some (.lst []) := by subst hh11; rw [upd_ne pnp]; exact hpn
      intro kp nkp
      have kpp : kp ≠ p := fun z => by rw [z, B.ob] at nkp; cases nkp
      have hkp0 := B.s _ nkp
      have lgkp : lg ≠ kp := ne_of_none hlg nkp
      have likp : li ≠ kp := ne_of_none hli nkp
      have pnkp : pn ≠ kp := ne_of_none hpn nkp
      have B := B.new (o := .dK []) nkp
      have hlg := (upd_ne lgkp (H := X11) (o := .dK [])).trans hlg
      have hli := (upd_ne likp (H := X11) (o := .dK [])).trans hli
      have hpn := (upd_ne pnkp (H := X11) (o := .dK [])).trans hpn
      have hkp : (upd X11 kp (.dK [])) kp = some (.dK []) := upd_same
      generalize upd X11 kp (.dK []) = X12 at *
      refine ⟨_, rfl, p, CO, dx, _, rfl, B.ob, c1, T.n_Order__kept, (by show 8 < 1000; decide), ?_⟩
      generalize hh13 : upd X12 p _ = X13
      have B : Bld H p dx CO (putF "_kept" (.ref kp) (putF "_pending" (.ref pn) (putF "_casts" (.int 0) (putF "_last_indexes" (.ref li) (putF "_log" (.ref lg) (putF "_founder" vf (putF "_members" (.ref am) (putF "_view_id" vvid (putF "_me" vme []))))))))) X13 := by subst hh13; exact B.put
      have hlg : X13 lg = some (.lst []) := by subst hh13; exact kl hlg
      have hli : X13 li = some (ndO w li []) := by subst hh13; rw [upd_ne lip]; exact hli
      have hpn : X13 pn = some (.lst []) := by subst hh13; rw [upd_ne pnp]; exact hpn
      have hkp : X13 kp = some (.dK []) := by subst hh13; rw [upd_ne kpp]; exact hkp
      intro tl ntl lotl
      have tlp : tl ≠ p := fun z => by rw [z, B.ob] at ntl; cases ntl
      have htl0 := B.s _ ntl
      generalize hh14 : upd X13 tl _ = X14
      have B : Bld H p dx CO (putF "_kept" (.ref kp) (putF "_pending" (.ref pn) (putF "_casts" (.int 0) (putF "_last_indexes" (.ref li) (putF "_log" (.ref lg) (putF "_founder" vf (putF "_members" (.ref am) (putF "_view_id" vvid (putF "_me" vme []))))))))) X14 := by subst hh14; exact B.new ntl
      have litl : li ≠ tl := ne_of_none hli ntl
      have hlg : X14 lg = some (.lst []) := by subst hh14; rw [upd_ne (ne_of_none hlg ntl)]; exact hlg
      have hli : X14 li = some (ndO w li []) := by subst hh14; rw [upd_ne litl]; exact hli
      have hpn : X14 pn = some (.lst []) := by subst hh14; rw [upd_ne (ne_of_none hpn ntl)]; exact hpn
      have hkp : X14 kp = some (.dK []) := by subst hh14; rw [upd_ne (ne_of_none hkp ntl)]; exact hkp
      have Ntl : Nd w X14 tl [] := by subst hh14; exact nd_new lotl
      refine ⟨_, rfl, p, CO, dx, _, rfl, B.ob, c1, T.n_Order__told, (by show 9 < 1000; decide), ?_⟩
      generalize hh15 : upd X14 p _ = X15
      have B : Bld H p dx CO (putF "_told" (.ref tl) (putF "_kept" (.ref kp) (putF "_pending" (.ref pn) (putF "_casts" (.int 0) (putF "_last_indexes" (.ref li) (putF "_log" (.ref lg) (putF "_founder" vf (putF "_members" (.ref am) (putF "_view_id" vvid (putF "_me" vme [])))))))))) X15 := by subst hh15; exact B.put
      have hlg : X15 lg = some (.lst []) := by subst hh15; exact kl hlg
      have hli : X15 li = some (ndO w li []) := by subst hh15; rw [upd_ne lip]; exact hli
      have hpn : X15 pn = some (.lst []) := by subst hh15; rw [upd_ne pnp]; exact hpn
      have hkp : X15 kp = some (.dK []) := by subst hh15; rw [upd_ne kpp]; exact hkp
      have htl : X15 tl = some (ndO w tl []) := by subst hh15; rw [upd_ne tlp]; exact Ntl.ob
      have kt : TupK H X15 := B.tup fun xs e => by rw [hp] at e; cases e
      refine q X15 ⟨dx, vme, vvid, .ref am, vf, lg, li, pn, kp, tl⟩ ⟨B.ob, tme.mono kt, tvid.mono kt, tms.mono kt, tf.mono kt, ⟨[], hlg, .nil⟩, ⟨[], ⟨hli, (fun x h => by cases h), List.nodup_nil, Nat.zero_le _, loli⟩, fun _ => rfl, Nat.le_refl _⟩, ⟨[], hpn, .nil⟩, ⟨[], hkp, fun _ => trivial, rfl, List.nodup_nil⟩, ⟨[], ⟨htl, (fun x h => by cases h), List.nodup_nil, Nat.zero_le _, lotl⟩, fun _ => rfl, Nat.le_refl _⟩, lgpn, litl⟩ ?_
      refine ⟨fun b o e n => B.k b o e fun z => n (by rw [z]; simp), fun b hb => ?_, kt, B.s⟩
      simp only [OA.fp, List.mem_cons, List.not_mem_nil, or_false] at hb ⊢
      rcases hb with hb | hb | hb | hb | hb | hb
      · exact .inl hb
      · rw [hb]; exact .inr hl0
      · rw [hb]; exact .inr hli0
      · rw [hb]; exact .inr hpn0
      · rw [hb]; exact .inr hkp0
      · rw [hb]; exact .inr htl0
end
end Mus

set_option maxRecDepth 100000
set_option maxHeartbeats 4000000
/-! Displays of data, with no bag: p is any place that is taken. -/
namespace Mus
open PySem L2
def Occ (p : Addr) (H : Hp) : Prop := ∃ o, H p = some o
theorem Occ.same {p : Addr} {H H' : Hp} (g : Occ p H) (s : Same H H') : Occ p H' := by
  obtain ⟨o, h⟩ := g
  exact ⟨o, s _ _ h⟩
theorem Occ.ne {p D : Addr} {H : Hp} (g : Occ p H) (h : H D = none) : p ≠ D := by
  obtain ⟨o, hp⟩ := g
  exact ne_of_none hp h
def ZE (p : Addr) (te : TE) (σ : St) (d : PyData) : Prop := ∀ (H : Hp) (Q : VK), Occ p H → (∀ v H', Same H H' → Rp p H' v d → Q v H') → te σ H Q
def ZEs (p : Addr) (ta : TA) (σ : St) (ds : List PyData) : Prop := ∀ (H : Hp) (Q : List V → Hp → Prop), Occ p H → (∀ vs H', Same H H' → Rps p H' vs ds → Q vs H') → ta σ H Q
section
variable {p : Addr} {σ : St} {te ta1 tb1 : TE} {ta : TA} {i j : Int} {d : PyData} {ds : List PyData}
theorem ze_i (h : DI te σ i) : ZE p te σ (.int i) := fun H Q g q => h H Q (q _ H (Same.rfl' H) (.int i))
theorem ze_bl {b : Bool} : ZE p (tC (.bl b)) σ (.bool b) := fun H Q g q => q _ H (Same.rfl' H) (.bl b)
theorem ze_str {z : Str} : ZE p (tC (.str z)) σ (.str z) := fun H Q g q => q _ H (Same.rfl' H) (.str z)
theorem ze_non : ZE p (tC .non) σ .none := fun H Q g q => q _ H (Same.rfl' H) .non
theorem zes_nil : ZEs p tNil σ [] := fun H Q g q => q [] H (Same.rfl' H) .nil
theorem zes_cons (h1 : ZE p te σ d) (h2 : ZEs p ta σ ds) : ZEs p (tCons te ta) σ (d :: ds) := fun H Q g q =>
  h1 H _ g fun v H1 s1 r1 => h2 H1 _ (g.same s1) fun vs H2 s2 r2 => q _ H2 (s1.trans s2) (.cons (r1.same s2) r2)
theorem ze_tup (h : ZEs p ta σ ds) (hl : ds.length ≤ 1000) : ZE p (tTup ta) σ (.tuple ds) := fun H Q g q =>
  h H _ g fun vs H1 s1 r1 => ⟨by have := r1.length; have := sl; omega, fun a na => q _ _ (s1.trans (same_new na _)) (.tup upd_same ((g.same s1).ne na).symm (by have := r1.length; omega) (r1.same (same_new na _)))⟩
theorem ze_lst (h : ZEs p ta σ ds) (hl : ds.length ≤ 1000) : ZE p (tLst ta) σ (.list ds) := fun H Q g q =>
  h H _ g fun vs H1 s1 r1 => ⟨by have := r1.length; have := sl; omega, fun a na => q _ _ (s1.trans (same_new na _)) (.lst upd_same ((g.same s1).ne na).symm (r1.same (same_new na _)))⟩
theorem ze_cat {es : List PyData} (h1 : ZE p ta1 σ (.list ds)) (h2 : ZE p tb1 σ (.list es)) (hl : ds.length + es.length ≤ 1000) : ZE p (tOp rCat ta1 tb1) σ (.list (ds ++ es)) := fun H Q g q =>
  h1 H _ g fun v H1 s1 r1 => h2 H1 _ (g.same s1) fun u H2 s2 r2 => by
    obtain _ | _ | _ | _ | @⟨a, xs, _, ha, na, hr⟩ | _ := r1.same s2
    obtain _ | _ | _ | _ | @⟨b, ys, _, hb, nb, hr2⟩ | _ := r2
    refine ⟨a, b, xs, ys, rfl, rfl, ha, hb, ?_, fun t nt => q _ _ (s1.trans (s2.trans (same_new nt _))) (.lst upd_same (((g.same s1).same s2).ne nt).symm ((hr.append hr2).same (same_new nt _)))⟩
    have := hr.length; have := hr2.length; have := sl; omega
theorem ze_varD {n : Nat} {v : V} (h : σ[n]? = some (some v)) (hd : ∀ H, Rp p H v d) : ZE p (tVar n) σ d := fun H Q g q => ⟨_, h, q _ H (Same.rfl' H) (hd H)⟩
/-- a list of the data D at some place -/
theorem ze_list {H : Hp} {Q : VK} (h : ZE p te σ (.list ds)) (g : Occ p H) (q : ∀ a xs H', Same H H' → H' a = some (.lst xs) → a ≠ p → Rps p H' xs ds → Q (.ref a) H') : te σ H Q :=
  h H Q g fun v H' s r => by
    obtain _ | _ | _ | _ | @⟨a, xs, _, ha, na, hr⟩ | _ := r
    exact q a xs H' s ha na hr
end
end Mus

set_option maxRecDepth 100000
set_option maxHeartbeats 4000000
/-! Displays of data without lists; what stood in G still stands. -/
namespace Mus
open PySem L2
def TZ (G : Hp) (te : TE) (σ : St) (d : PyData) : Prop := ∀ (H : Hp) (Q : VK), Same G H → (∀ v H', Same H H' → TD H' v d → Q v H') → te σ H Q
def TZs (G : Hp) (ta : TA) (σ : St) (ds : List PyData) : Prop := ∀ (H : Hp) (Q : List V → Hp → Prop), Same G H → (∀ vs H', Same H H' → TDs H' vs ds → Q vs H') → ta σ H Q
section
variable {G : Hp} {σ : St} {te : TE} {ta : TA} {i : Int} {d : PyData} {ds : List PyData}
theorem tz_i (h : DI te σ i) : TZ G te σ (.int i) := fun H Q g q => h H Q (q _ H (Same.rfl' H) (.int i))
theorem tz_bl {b : Bool} : TZ G (tC (.bl b)) σ (.bool b) := fun H Q g q => q _ H (Same.rfl' H) (.bl b)
theorem tz_str {z : Str} : TZ G (tC (.str z)) σ (.str z) := fun H Q g q => q _ H (Same.rfl' H) (.str z)
theorem tzs_nil : TZs G tNil σ [] := fun H Q g q => q [] H (Same.rfl' H) .nil
theorem tzs_cons (h1 : TZ G te σ d) (h2 : TZs G ta σ ds) : TZs G (tCons te ta) σ (d :: ds) := fun H Q g q =>
  h1 H _ g fun v H1 s1 r1 => h2 H1 _ (g.trans s1) fun vs H2 s2 r2 => q _ H2 (s1.trans s2) (.cons (r1.same s2) r2)
theorem tz_tup (h : TZs G ta σ ds) (hl : ds.length ≤ 1000) : TZ G (tTup ta) σ (.tuple ds) := fun H Q g q =>
  h H _ g fun vs H1 s1 r1 => ⟨by have := r1.length; have := sl; omega, fun a na => q _ _ (s1.trans (same_new na _)) (.tup upd_same (by have := r1.length; omega) (r1.same (same_new na _)))⟩
theorem tz_var {n : Nat} {v : V} (h : σ[n]? = some (some v)) (hd : TD G v d) : TZ G (tVar n) σ d := fun H Q g q => ⟨_, h, q _ H (Same.rfl' H) (hd.same g)⟩
theorem tz_lst {H : Hp} {Q : VK} (h : TZs H ta σ ds) (hl : ds.length ≤ 1000) (q : ∀ a xs H', Same H H' → H a = none → H' a = some (.lst xs) → TDs H' xs ds → Q (.ref a) H') : tLst ta σ H Q :=
  h H _ (Same.rfl' H) fun vs H1 s1 r1 => ⟨by have := r1.length; have := sl; omega, fun a na => q a vs _ (s1.trans (same_new na _)) ((Fr.of (fp := []) s1).s _ na) upd_same (r1.same (same_new na _))⟩
end
end Mus

set_option maxRecDepth 100000
set_option maxHeartbeats 4000000
namespace Mus
open PySem L2
local macro_rules | `(tactic| walk_at "rd") => `(tactic| first
  | refine ⟨_, rfl, ?_⟩ | refine ⟨(True.intro : True), ?_⟩
  | refine ⟨_, _, rfl, rfl, (⟨by decide, by decide, by decide⟩ : CPow _ _), ?_⟩
  | refine ⟨_, _, rfl, rfl, (⟨by decide, by decide⟩ : CDiv _ _), ?_⟩
  | refine ⟨_, _, rfl, rfl, (by show (0 : Int) < _; decide), ?_⟩
  | refine ⟨_, _, rfl, rfl, ?_⟩ | refine ⟨rfl, ?_⟩ | refine iteT ?_ | refine iteF ?_ | refine ⟨_, _, rfl, ?_⟩ | refine .inl ⟨_, rfl, ?_⟩
  | refine ⟨_, _, _, _, _, rfl, (by assumption), (by assumption), (by assumption), rfl, ?_⟩ | refine ⟨_, _, _, _, rfl, rfl, SqT.of (by assumption), rfl, ?_⟩ | refine ⟨_, _, rfl, SqT.of (by assumption), rfl, ?_⟩
  | refine ⟨_, _, _, _, _, rfl, .ty _, Rp.ty (by assumption), kit_int _, ?_⟩ | refine ⟨_, _, _, _, _, rfl, .ty _, Rp.ty (by assumption), kit_bool _, ?_⟩
  | refine ⟨_, _, _, _, _, rfl, .ty _, Rp.ty (by assumption), kit_str _, ?_⟩ | refine ⟨_, _, _, _, _, rfl, .ty _, Rp.ty (by assumption), kit_tup _, ?_⟩)
local macro_rules | `(tactic| walk_at "cal") => `(tactic| first
  | refine ⟨_, _, _, _, _, rfl, (by assumption), ?_⟩ | refine ⟨_, _, _, _, _, rfl, (by assumption), (by assumption), ?_⟩)
local macro_rules | `(tactic| walk_at "sq") => `(tactic| first
  | refine ⟨_, _, rfl, Or.inr (SqT.of (by assumption)), ?_⟩ | refine ⟨_, _, _, _, rfl, rfl, SqT.of (by assumption), rfl, ?_⟩)
local macro_rules | `(tactic| walk_at "rds") => `(tactic| repeat first | walk_at "rd" | walk_at "cal" | walk_at "sq")
local macro_rules | `(tactic| walk_at "ze") => `(tactic| repeat first
  | exact zes_nil | exact ze_bl | exact ze_str | exact ze_non | apply zes_cons | apply ze_tup | apply ze_lst | apply ze_cat | exact di_c | exact di_v rfl | apply di_opC | apply di_op | apply di_neg | apply ze_i | (refine (⟨?_, ?_, ?_⟩ : CPow _ _) <;> decide) | exact Nat.le_of_ble_eq_true rfl | exact ze_varD rfl (by assumption))
local macro_rules | `(tactic| walk_at "rdz") => `(tactic| repeat (fail_if_success (first | show tLst _ _ _ _ | show tAsg (tLst _) _ _ _ _ | show tSeq (tAsg (tLst _) _) _ _ _ _)); first | walk_at "rd" | walk_at "cal" | walk_at "sq")
local macro_rules | `(tactic| walk_at "dv") => `(tactic| refine ⟨_, _, rfl, rfl, (wide_div (b := 40) (by decide) (by decide) (by decide) (by decide) : CDivW _ _), ?_⟩)
local macro_rules | `(tactic| walk_at "tz") => `(tactic| repeat first
  | exact tzs_nil | exact tz_bl | exact tz_str | apply tzs_cons | apply tz_tup | exact di_c | exact di_v rfl | apply di_opC | apply di_op | apply di_neg | apply tz_i | (refine (⟨?_, ?_, ?_⟩ : CPow _ _) <;> decide) | exact Nat.le_of_ble_eq_true rfl | exact tz_var rfl (by assumption))
theorem pick7 {k : Nat} (h : k < 7) : ∃ x : Int, atI [V.int 1, V.int 2, V.int 4, V.int 8, V.int 16, V.int 32, V.int 64] (k : Int) = some (V.int x) ∧ 0 < x ∧ x.natAbs < 2 ^ 10 := by
  have h : k = 0 ∨ k = 1 ∨ k = 2 ∨ k = 3 ∨ k = 4 ∨ k = 5 ∨ k = 6 := by omega
  rcases h with rfl | rfl | rfl | rfl | rfl | rfl | rfl <;> exact ⟨_, rfl, by decide, by decide⟩
theorem pickS6 {k : Int} (h0 : 0 ≤ k) (h1 : k < 6) : ∃ z : Str, atI [V.str (Str.ofString ""), V.str (Str.ofString "x"), V.str (Str.ofString "a b"), V.str (Str.ofString "Yes"), V.str (Str.ofString " T "), V.str (Str.ofString "q7:;(")] k = some (V.str z) ∧ z.length ≤ 30 ∧ PyData.strOk z = true := by
  have h : k = 0 ∨ k = 1 ∨ k = 2 ∨ k = 3 ∨ k = 4 ∨ k = 5 := by omega
  rcases h with rfl | rfl | rfl | rfl | rfl | rfl <;> exact ⟨_, rfl, by decide +kernel⟩
def chars20 : Str := Str.ofString " !\"#$&'()*+,-./0123456789:;<=>?@ABCDEFGHIJKLMNOPQRSTUVWXYZ[\\]^_`abcdefghijklmnopqrstuvwxyz{|}~"
theorem strOk_cat {x y : Str} (hx : PyData.strOk x = true) (hy : PyData.strOk y = true) : PyData.strOk (x ++ y) = true := by
  show ((x.cps ++ y.cps).all _) = true
  rw [Array.all_append]
  exact Bool.and_eq_true_iff.mpr ⟨hx, hy⟩
theorem strOk_sign {x : Str} (hx : PyData.strOk x = true) {i : Nat} {c : Nat} (h : x.cps.toList[i]? = some c) : PyData.strOk ⟨#[c]⟩ = true := by
  have h2 : x.cps.toList.all (fun c => decide (c < 1114112)) = true := by rw [Array.all_toList]; exact hx
  have := List.all_eq_true.mp h2 c (List.mem_of_getElem? h)
  show (#[c].all fun x => decide (x < 1114112)) = true
  simpa using this
theorem chars20_ok : PyData.strOk chars20 = true := by decide +kernel
theorem chars20_len : chars20.cps.toList.length = 94 := by decide +kernel
section
variable {P : Program} {w : World} {K : PySem.W.Frag} {mg : Str → Option Value} {base : Heap} {CO CV : Addr}
def sp_cell20 (K : PySem.W.Frag) : Sp := fun vs H Q _ => ∃ (a : Addr) (ns : List Int) (k : Int), vs = [.ref a, .int k] ∧ 0 ≤ k ∧ SqL K H a (ns.map V.int) ∧ ∀ x, Q (.int x) H
abbrev s__law_cell : Stmt := top 7
abbrev N__law_cell : List Str := ["script", "k"]
abbrev P__law_cell : List Str := ["script", "k"]
theorem sc__law_cell : FnScope N__law_cell P__law_cell (defScope s__law_cell) := ⟨rfl, rfl, rfl, by decide +kernel, rfl, by decide +kernel, by decide +kernel⟩
theorem ok__law_cell {f : Addr} {fd : FuncData} (T : Tx K mg CO CV) (F : Fun K "_law_cell" "_law_cell" s__law_cell f fd) : FnOk P w K mg base CX0 (1) f fd P__law_cell (sp_cell20 K) := by
  have nd := sc__law_cell.nd
  refine F.ok sc__law_cell (fun vs H Q E h => ?_) (fun cdv A outer s H vs Q E hr h => ?_)
  · obtain ⟨_, _, _, rfl, _⟩ := h
    rfl
  · obtain ⟨a, ns, k, rfl, k0, hS, q⟩ := h
    refine ⟨_, (pss_cons (ps_if (pt_cmpR op_lt (pv 1) (pe_callB call_len_seq (by rfl) T.b_len (by decide +kernel) (pa_cons (pv 0) pa_nil)) (nomark _))
        (pss_one (ps_ret (pe_ix ix_list (pv 0) (pv 1) (fun _ _ => rfl))))
        pss_nil)
      (pss_one (ps_ret pe_int))), ?_⟩
    have hl : (ns.map V.int).length = ns.length := List.length_map _
    walk_at "rds"
    refine ⟨a, _, rfl, .inl hS, ?_⟩
    walk_at "rds"
    refine iB (fun h => ?_) (fun h => ?_)
    · have hk : k < (((ns.map V.int).length : Nat) : Int) := of_decide_eq_true h
      have hk2 : k.toNat < ns.length := by omega
      walk_at "rds"
      exact ⟨a, _, _, .int ns[k.toNat], rfl, rfl, hS, at_int k0 (by rw [List.getElem?_map, List.getElem?_eq_getElem hk2]; rfl), q _⟩
    · exact q _
def sp_pay20 : Sp := fun vs H Q _ => ∃ (c : Int), vs = [.int c] ∧ 0 ≤ c ∧ ∀ z H', Same H H' → z.length ≤ 30 → PyData.strOk z = true → Q (.str z) H'
abbrev s__law_payload : Stmt := top 8
abbrev N__law_payload : List Str := ["cell", "chars", "text", "rest", "k"]
abbrev P__law_payload : List Str := ["cell"]
theorem sc__law_payload : FnScope N__law_payload P__law_payload (defScope s__law_payload) := ⟨rfl, rfl, rfl, by decide +kernel, rfl, by decide +kernel, by decide +kernel⟩
theorem ok__law_payload {f : Addr} {fd : FuncData} (T : Tx K mg CO CV) (F : Fun K "_law_payload" "_law_payload" s__law_payload f fd) : FnOk P w K mg base CX0 (1) f fd P__law_payload (sp_pay20) := by
  have nd := sc__law_payload.nd
  refine F.ok sc__law_payload (fun vs H Q E h => ?_) (fun cdv A outer s H vs Q E hr h => ?_)
  · obtain ⟨_, rfl, _⟩ := h
    rfl
  · obtain ⟨c, rfl, c0, q⟩ := h
    have hs := sl
    refine ⟨_, (pss_cons (ps_set (i := 1) nd rfl (Or.inl rfl) pe_str)
      (pss_cons (ps_if (pt_cmpR op_gt (pe_op op_mod (pe_callTy call_int1 (by rfl) T.b_int (by decide +kernel) (pa_cons (pv 0) pa_nil)) pe_int) pe_int (nomark _))
        (pss_one (ps_ret (pe_ix ix_list (pe_lst (pa_cons pe_str (pa_cons pe_str (pa_cons pe_str (pa_cons pe_str (pa_cons pe_str (pa_cons pe_str pa_nil))))))) (pe_op op_mod (pe_callTy call_int1 (by rfl) T.b_int (by decide +kernel) (pa_cons (pe_op op_fdivW (pv 0) pe_int) pa_nil)) pe_int) (fun _ _ => rfl))))
        pss_nil)
      (pss_cons (ps_set (i := 2) nd rfl (Or.inl rfl) pe_str)
      (pss_cons (ps_set (i := 3) nd rfl (Or.inl rfl) (pe_callTy call_int1 (by rfl) T.b_int (by decide +kernel) (pa_cons (pe_op op_fdivW (pv 0) pe_int) pa_nil)))
      (pss_cons (ps_for PassesOwn.never rfl (pi_range1 (by rfl) T.b_range (pa_cons (pe_op op_mod (pe_callTy call_int1 (by rfl) T.b_int (by decide +kernel) (pa_cons (pe_op op_fdivW (pv 0) pe_int) pa_nil)) pe_int) pa_nil)) (pg_name (i := 4) nd rfl (Or.inl rfl))
        (pss_cons (ps_set (i := 2) nd rfl (Or.inl rfl) (pe_op op_add_str (pv 2) (pe_ix ix_str (pv 1) (pe_op op_mod (pe_op op_add (pv 3) (pe_op op_mul pe_int (pv 4))) pe_int) (fun _ _ => rfl))))
        (pss_one (ps_set (i := 3) nd rfl (Or.inl rfl) (pe_op op_fdivW (pv 3) pe_int)))))
      (pss_one (ps_ret (pv 2)))))))), ?_⟩
    walk_at "rds"
    refine iB (fun h => ?_) (fun h => ?_)
    · refine ⟨by show 6 ≤ sizeLine; omega, fun t nt => ?_⟩
      walk_at "rd"
      walk_at "dv"
      refine .inl ⟨_, rfl, ?_⟩
      walk_at "rd"
      obtain ⟨z, hz, lz, oz⟩ := pickS6 (k := c / 4 % 6) (by omega) (by omega)
      refine ⟨t, _, _, .str z, rfl, rfl, SqL.of upd_same, hz, q z _ (same_new nt _) lz oz⟩
    · walk_at "rd"
      walk_at "dv"
      refine .inl ⟨_, rfl, ?_⟩
      walk_at "rd"
      walk_at "dv"
      refine .inl ⟨_, rfl, ?_⟩
      walk_at "rd"
      refine ⟨_, rfl, by omega, by omega, ?_⟩
      generalize hchars : Str.ofString " !\"#$&'()*+,-./0123456789:;<=>?@ABCDEFGHIJKLMNOPQRSTUVWXYZ[\\]^_`abcdefghijklmnopqrstuvwxyz{|}~" = chars
      have cl2 : chars.length = 94 := by rw [← hchars]; decide +kernel
      have cl : chars.cps.toList.length = 94 := by rw [← hchars]; exact chars20_len
      have cok : PyData.strOk chars = true := by rw [← hchars]; exact chars20_ok
      refine for_range (lo := 0) (n := (c / 4 % 31).toNat) (fun i σ H' => ∃ (z : Str) (r : Int) (x : Option V), σ = [some (.int c), some (.str chars), some (.str z), some (.int r), x] ∧ z.length ≤ i ∧ 0 ≤ r ∧ H' = H ∧ PyData.strOk z = true) ?_ ?_ ?_
      · exact ⟨_, _, none, rfl, Nat.le_of_eq (by decide), by omega, rfl, by decide +kernel⟩
      · rintro i σ H' hi ⟨z, r, x, rfl, lz, r0, rfl, oz⟩
        have hm0 : 0 ≤ (r + 31 * (0 + (i : Int))) % 94 := by omega
        have hm1 : (r + 31 * (0 + (i : Int))) % 94 < 94 := by omega
        obtain ⟨sg, hsg⟩ : ∃ sg, chars.cps.toList[((r + 31 * (0 + (i : Int))) % 94).toNat]? = some sg := ⟨_, List.getElem?_eq_getElem (by rw [cl]; omega)⟩
        walk_at "rds"
        refine ⟨.inl (by decide), ?_⟩
        walk_at "rds"
        refine ⟨chars, _, sg, rfl, rfl, by omega, at_int hm0 hsg, ?_⟩
        have l1 : (⟨#[sg]⟩ : Str).length = 1 := rfl
        refine ⟨z, _, rfl, rfl, by omega, _, rfl, ?_⟩
        walk_at "dv"
        refine ⟨_, _, _, rfl, ?_, by omega, rfl, strOk_cat oz (strOk_sign cok hsg)⟩
        have e1 : (z ++ (⟨#[sg]⟩ : Str)).length = z.length + 1 := by
          show (z.cps ++ #[sg]).size = z.cps.size + 1
          rw [Array.size_append]; rfl
        omega
      · rintro σ H' ⟨z, r, x, rfl, lz, r0, rfl, oz⟩
        exact ⟨_, rfl, q z _ (Same.rfl' _) (by omega) oz⟩
def rows7 : List Mem := [(0, 2), (1, 4), (3, 1), (6, 5), (8, 2), (10, 7), (11, 1000000000000)]
def Mems20 (ms : List Mem) : Prop := ∃ l, ms = l ++ [(11, 1000000000000)] ∧ l.Sublist [(0, 2), (1, 4), (3, 1), (6, 5), (8, 2), (10, 7)]
def sp_mems20 : Sp := fun vs H Q _ => ∃ (c : Int), vs = [.int c] ∧ 0 ≤ c ∧ ∀ r ms H', Same H H' → Mems20 ms → TD H' r (eMs ms) → Q r H'
abbrev s__law_members : Stmt := top 9
abbrev N__law_members : List Str := ["cell", "rows", "k"]
abbrev P__law_members : List Str := ["cell"]
theorem sc__law_members : FnScope N__law_members P__law_members (defScope s__law_members) := ⟨rfl, rfl, rfl, by decide +kernel, rfl, by decide +kernel, by decide +kernel⟩
theorem ok__law_members {f : Addr} {fd : FuncData} (T : Tx K mg CO CV) (F : Fun K "_law_members" "_law_members" s__law_members f fd) : FnOk P w K mg base CX0 (1) f fd P__law_members (sp_mems20) := by
  have nd := sc__law_members.nd
  refine F.ok sc__law_members (fun vs H Q E h => ?_) (fun cdv A outer s H vs Q E hr h => ?_)
  · obtain ⟨_, rfl, _⟩ := h
    rfl
  · obtain ⟨c, rfl, c0, q⟩ := h
    have hs := sl
    refine ⟨_, (pss_cons (ps_set (i := 1) nd rfl (Or.inr rfl) (pe_lst (pa_cons (pe_tup (pa_cons pe_int (pa_cons pe_int pa_nil))) (pa_cons (pe_tup (pa_cons pe_int (pa_cons pe_int pa_nil))) (pa_cons (pe_tup (pa_cons pe_int (pa_cons pe_int pa_nil))) (pa_cons (pe_tup (pa_cons pe_int (pa_cons pe_int pa_nil))) (pa_cons (pe_tup (pa_cons pe_int (pa_cons pe_int pa_nil))) (pa_cons (pe_tup (pa_cons pe_int (pa_cons pe_int pa_nil))) (pa_cons (pe_tup (pa_cons pe_int (pa_cons (pe_op op_pow pe_int pe_int) pa_nil))) pa_nil)))))))))
      (pss_one (ps_ret (pe_callTy call_tuple_of (by rfl) T.b_tuple (by decide +kernel) (pa_cons (pe_lcX (own := [("k", 2)]) rfl nd (pi_range1 (by rfl) T.b_range (pa_cons pe_int pa_nil)) (blkOk_by (own := [("k", 2)]) (N := N__law_members) (sc := defScope s__law_members) (by decide +kernel)) (fun _ _ _ _ _ => (pg_name (i := 2) nd rfl (Or.inl rfl))) (fun _ _ _ _ _ => (pts_one (PW.pt (pw_or (pt_cmpR op_eq (pe_op op_mod (pe_op op_fdivW (pv 0) (pe_ix ix_list (pe_lst (pa_cons pe_int (pa_cons pe_int (pa_cons pe_int (pa_cons pe_int (pa_cons pe_int (pa_cons pe_int (pa_cons pe_int pa_nil)))))))) (pv 2) (fun _ _ => rfl))) pe_int) pe_int (nomark _)) (pw_or1 (pt_cmpR op_eq (pv 2) pe_int (nomark _))))))) (fun _ _ _ _ _ => (pe_ix ix_list (pv 1) (pv 2) (fun _ _ => rfl)))) pa_nil))))), ?_⟩
    show tAsg (tLst _) _ _ _ _
    show tLst _ _ _ _
    refine tz_lst (ds := [.tuple [.int 0, .int 2], .tuple [.int 1, .int 4], .tuple [.int 3, .int 1], .tuple [.int 6, .int 5], .tuple [.int 8, .int 2], .tuple [.int 10, .int 7], .tuple [.int 11, .int ((10 : Int) ^ Int.toNat 12)]]) (by walk_at "tz") (by decide) fun a xs H1 s1 na ha r1 => ?_
    have h10 : (10 : Int) ^ Int.toNat 12 = 1000000000000 := by decide
    rw [h10] at r1
    walk_at "rds"
    refine ⟨by decide, by decide, fun D nD => ?_⟩
    have aD : a ≠ D := ne_of_none ha nD
    refine lc_range (lo := 0) (n := 7) (fun i H' => ∃ ws ms, H' D = some (.lst ws) ∧ TDs H' ws (ms.map eM) ∧ Same H1 H' ∧ ms.Sublist (rows7.take i) ∧ (i = 7 → Mems20 ms)) ?_ ?_ ?_
    · exact ⟨[], [], upd_same, .nil, same_new nD _, List.nil_sublist _, fun h => by cases h⟩
    · rintro i H' hi ⟨ws, ms, hD, tw, s2, sb, _⟩
      refine ⟨rfl, ?_⟩
      have ha2 := s2 _ _ ha
      obtain ⟨x, hx, x0, x1⟩ := pick7 hi
      have e0 : (0 + (i : Int)) = (i : Int) := Int.zero_add _
      have r2 := r1.same s2
      have hD2 : (rows7.map eM)[i]? = some (eM (rows7.getD i (0, 0))) := by
        have : i = 0 ∨ i = 1 ∨ i = 2 ∨ i = 3 ∨ i = 4 ∨ i = 5 ∨ i = 6 := by omega
        rcases this with rfl | rfl | rfl | rfl | rfl | rfl | rfl <;> rfl
      obtain ⟨y, hy, ty⟩ := TDs.get (ds := rows7.map eM) r2 hD2
      have ht : rows7.take (i + 1) = rows7.take i ++ [rows7.getD i (0, 0)] := by
        have : i = 0 ∨ i = 1 ∨ i = 2 ∨ i = 3 ∨ i = 4 ∨ i = 5 ∨ i = 6 := by omega
        rcases this with rfl | rfl | rfl | rfl | rfl | rfl | rfl <;> rfl
      have lw := tw.length
      rw [List.length_map] at lw
      have h7 := sb.length_le
      rw [List.length_take] at h7
      refine ⟨_, rfl, by show 7 ≤ sizeLine; omega, fun t nt => ?_⟩
      have st := same_new nt (.lst [V.int 1, V.int 2, V.int 4, V.int 8, V.int 16, V.int 32, V.int 64])
      have add : ∀ H5, Same H' H5 → H5 D = some (.lst ws) → ∃ ws2 ms2, upd H5 D (.lst (ws ++ [y])) D = some (.lst ws2) ∧ TDs (upd H5 D (.lst (ws ++ [y]))) ws2 (ms2.map eM) ∧ Same H1 (upd H5 D (.lst (ws ++ [y]))) ∧ ms2.Sublist (rows7.take (i + 1)) ∧ (i + 1 = 7 → Mems20 ms2) := by
        intro H5 s5 hD5
        have kt : TupK H5 (upd H5 D (.lst (ws ++ [y]))) := tupK_upd fun xs e => by rw [hD5] at e; cases e
        refine ⟨_, ms ++ [rows7.getD i (0, 0)], upd_same, ?_, fun b o e => by rw [upd_ne (ne_of_none e nD)]; exact s5 _ _ (s2 _ _ e), ?_, fun e => ?_⟩
        · rw [List.map_append]
          exact ((tw.same s5).mono kt).append (.cons ((ty.same s5).mono kt) .nil)
        · rw [ht]; exact sb.append (List.Sublist.refl _)
        · have : i = 6 := by omega
          subst this
          exact ⟨ms, rfl, sb⟩
      refine ⟨_, rfl, t, _, _, .int x, rfl, rfl, SqL.of upd_same, by rw [e0]; exact hx, ?_⟩
      refine ⟨_, _, rfl, rfl, wide_div (b := 10) x0 x1 (by decide) (by decide), ?_⟩
      walk_at "rds"
      have a2 : (upd H' t (.lst [V.int 1, V.int 2, V.int 4, V.int 8, V.int 16, V.int 32, V.int 64])) a = some (.lst xs) := st _ _ ha2
      have d2 : (upd H' t (.lst [V.int 1, V.int 2, V.int 4, V.int 8, V.int 16, V.int 32, V.int 64])) D = some (.lst ws) := st _ _ hD
      have hy2 : atI xs (0 + (i : Int)) = some y := by rw [e0]; exact at_int (by omega) (by rw [Int.toNat_natCast]; exact hy)
      generalize upd H' t _ = H5 at *
      refine iB (fun h => ?_) (fun h => ?_)
      · refine ⟨_, rfl, _, rfl, a, _, _, y, rfl, rfl, SqL.of a2, hy2, _, d2, by omega, ?_⟩
        exact add H5 st d2
      · walk_at "rds"
        refine iB (fun h => ?_) (fun h => ?_)
        · refine ⟨_, rfl, _, rfl, a, _, _, y, rfl, rfl, SqL.of a2, hy2, _, d2, by omega, ?_⟩
          exact add H5 st d2
        · have h6 : ¬ (0 + (i : Int)) = 6 := fun z => of_decide_eq_false h (by rw [z])
          exact ⟨ws, ms, d2, tw.same st, s2.trans st, by rw [ht]; exact sb.trans (List.sublist_append_left _ _), fun z => by omega⟩
    · rintro H' ⟨ws, ms, hD, tw, s2, sb, m7⟩
      refine ⟨D, _, rfl, .inl ⟨SqL.of hD, fun l nl => ?_⟩⟩
      have := tw.length
      rw [List.length_map] at this
      have h7 := sb.length_le
      rw [List.length_take] at h7
      exact q _ ms _ (s1.trans (s2.trans (same_new nl _))) (m7 rfl) (.tup upd_same (by omega) (tw.same (same_new nl _)))
end
end Mus

set_option maxRecDepth 100000
set_option maxHeartbeats 4000000
namespace Mus
open PySem PySem.Spec PyProof.Rows L2
/-! ### the law's own model: pure part -/
def lastI (log : List Msg) (m : Mem) : Int := log.foldl (fun l g => if g.1 = m then g.2.1 else l) 0
def toldI (log : List Msg) (m : Mem) : List Int := (log.filter fun g => decide (g.1 = m)).map (·.2.1)
def pnd : Int → List Str → List Int → List Cst
  | _, [], _ => []
  | i, z :: zs, t => if i ∈ t then pnd (i + 1) zs t else (i, z) :: pnd (i + 1) zs t
theorem pnd_snoc : ∀ (i : Int) (zs : List Str) (z : Str) (t : List Int), pnd i (zs ++ [z]) t = pnd i zs t ++ (if i + (zs.length : Int) ∈ t then [] else [(i + (zs.length : Int), z)])
  | i, [], z, t => by
    have e : i + (([] : List Str).length : Int) = i := by simp
    rw [e]; show pnd i [z] t = _
    unfold pnd; split <;> rfl
  | i, y :: zs, z, t => by
    have e : i + ((y :: zs).length : Int) = i + 1 + (zs.length : Int) := by rw [List.length_cons]; omega
    rw [e]
    show pnd i (y :: (zs ++ [z])) t = _
    unfold pnd
    split
    · exact pnd_snoc (i + 1) zs z t
    · rw [List.cons_append, pnd_snoc (i + 1) zs z t]
theorem pnd_told : ∀ (i : Int) (zs : List Str) (t : List Int) (x : Int), pnd i zs (t ++ [x]) = (pnd i zs t).filter fun c => !decide (c.1 = x)
  | _, [], _, _ => rfl
  | i, z :: zs, t, x => by
    have ih := pnd_told (i + 1) zs t x
    unfold pnd
    by_cases h : i ∈ t
    · rw [if_pos (List.mem_append_left _ h), if_pos h, ih]
    · rw [if_neg h]
      by_cases e : i = x
      · rw [if_pos (by simp [e]), ih, List.filter_cons, if_neg (by simp [e])]
      · rw [if_neg (by simp [h, e]), ih, List.filter_cons, if_pos (by simp [e])]
theorem pnd_mem : ∀ {i : Int} {zs : List Str} {t : List Int} {c : Cst}, c ∈ pnd i zs t → i ≤ c.1 ∧ c.1 < i + (zs.length : Int)
  | _, [], _, _, h => by cases h
  | i, z :: zs, t, c, h => by
    rw [List.length_cons]
    unfold pnd at h
    split at h
    · have := pnd_mem h; omega
    · rcases List.mem_cons.mp h with rfl | h
      · show i ≤ i ∧ i < _; omega
      · have := pnd_mem h; omega
theorem pnd_len : ∀ (i : Int) (zs : List Str) (t : List Int), (pnd i zs t).length ≤ zs.length
  | _, [], _ => Nat.le_refl _
  | i, z :: zs, t => by
    have := pnd_len (i + 1) zs t
    unfold pnd
    split <;> simp only [List.length_cons] <;> omega
theorem lastI_snoc (log : List Msg) (g : Msg) (m : Mem) : lastI (log ++ [g]) m = if g.1 = m then g.2.1 else lastI log m := by
  unfold lastI; rw [List.foldl_append]; rfl
theorem toldI_snoc (log : List Msg) (g : Msg) (m : Mem) : toldI (log ++ [g]) m = if g.1 = m then toldI log m ++ [g.2.1] else toldI log m := by
  unfold toldI
  rw [List.filter_append, List.map_append]
  by_cases h : g.1 = m
  · rw [if_pos h]; simp [h]
  · rw [if_neg h]; simp [h]
structure MS where
  own : List Str
  e : Int → Option Msg
  en : Nat
  c : Mem → Option Int
  cn : Nat
/-- the places that are kept are counted -/
def Cnt (s : OS) : Prop := ∃ ks : List Int, (∀ j g, s.kept j = some g → j ∈ ks) ∧ ks.length ≤ s.kn
theorem Cnt.pos {s : OS} (h : Cnt s) {j : Int} {g : Msg} (e : s.kept j = some g) : 1 ≤ s.kn := by
  obtain ⟨ks, h1, h2⟩ := h
  have := List.length_pos_of_mem (h1 j g e)
  omega
theorem Cnt.drop {s : OS} (h : Cnt s) {i : Int} {g : Msg} (e : s.kept i = some g) : Cnt (s.drop i) := by
  obtain ⟨ks, h1, h2⟩ := h
  refine ⟨ks.erase i, fun j x hj => ?_, ?_⟩
  · have hj : (if j = i then none else s.kept j) = some x := hj
    by_cases q : j = i
    · rw [if_pos q] at hj; cases hj
    · rw [if_neg q] at hj
      exact (List.mem_erase_of_ne q).mpr (h1 j x hj)
  · have := List.length_erase_of_mem (h1 i g e)
    have := List.length_pos_of_mem (h1 i g e)
    show (ks.erase i).length ≤ s.kn - 1
    omega
theorem Cnt.keep {s : OS} (h : Cnt s) (i : Int) (g : Msg) : Cnt (s.keep i g) := by
  unfold OS.keep
  split
  · obtain ⟨ks, h1, h2⟩ := h
    refine ⟨i :: ks, fun j x hj => ?_, by rw [List.length_cons]; show ks.length + 1 ≤ s.kn + 1; omega⟩
    have hj : (if j = i then some g else s.kept j) = some x := hj
    by_cases q : j = i
    · rw [q]; exact List.mem_cons_self
    · rw [if_neg q] at hj
      exact List.mem_cons_of_mem _ (h1 j x hj)
  · exact h
/-- what is kept, as the model's early ones beyond the log -/
structure KR (s : OS) (e : Int → Option Msg) : Prop where
  gt : ∀ j, (s.log.length : Int) < j → s.kept j = e j
  le : ∀ j, j ≤ (s.log.length : Int) → s.kept j = none
/-- what holds of an order and of the model beside it -/
structure RR (s : OS) (m : MS) : Prop where
  hd : ∃ l, s.mems = s.fd :: l
  nd : s.mems.Nodup
  len : s.mems.length ≤ 7
  mein : s.me ∈ s.mems
  own : (m.own.length : Int) = s.casts
  pend : s.pend = pnd 1 m.own (toldI s.log s.me)
  last : ∀ x, (s.last x).getD 0 = lastI s.log x
  kr : KR s m.e
  nx : s.kept ((s.log.length : Int) + 1) = none
  cnt : Cnt s
  tl : ∀ x ∈ s.mems, (s.told x).getD 0 = (m.c x).getD 0
  tb : ∀ x, 0 ≤ (s.told x).getD 0 ∧ (s.told x).getD 0 ≤ (s.log.length : Int)
  cb : ∀ x, 0 ≤ (m.c x).getD 0 ∧ (m.c x).getD 0 ≤ (s.log.length : Int)
  al : ∀ g ∈ s.log, g.1 = s.me → g.2.1 ≤ s.casts
  ak : ∀ j g, s.kept j = some g → g.1 = s.me → g.2.1 ≤ s.casts
  c0 : 0 ≤ s.casts
  kf : s.me = s.fd → ∀ j, s.kept j = none
/-- how much there is -/
structure BB (k : Nat) (s : OS) (m : MS) : Prop where
  l : s.log.length + s.kn ≤ k
  o : m.own.length ≤ k
  e : m.en ≤ k
  c : m.cn ≤ k
  t : s.tn ≤ k
theorem RR.pl {s : OS} {m : MS} (r : RR s m) : s.pend.length ≤ m.own.length := by rw [r.pend]; exact pnd_len _ _ _
theorem RR.told {s : OS} {m : MS} (r : RR s m) : ∀ i ∈ toldI s.log s.me, i ≤ s.casts := fun i h => by
  unfold toldI at h
  obtain ⟨g, hg, rfl⟩ := List.mem_map.mp h
  rw [List.mem_filter] at hg
  exact r.al g hg.1 (of_decide_eq_true hg.2)
theorem OS.others_tail {s : OS} {l : List Mem} (h : s.mems = s.fd :: l) (n : s.mems.Nodup) (e : s.me = s.fd) : s.others = l := by
  unfold OS.others
  rw [h] at n ⊢
  rw [List.nodup_cons] at n
  rw [List.filter_cons, if_neg (by simp [e])]
  exact List.filter_eq_self.mpr fun x hx => by
    have : x ≠ s.me := fun z => n.1 (by rw [← e, ← z]; exact hx)
    simp [this]
/-- the pending of a delivery, of a cast -/
theorem pend_deliver {s : OS} {own : List Str} (h : s.pend = pnd 1 own (toldI s.log s.me)) (g : Msg) : (s.deliver g).pend = pnd 1 own (toldI (s.deliver g).log s.me) := by
  show (if g.1 = s.me then s.pend.filter (fun c => !decide (c.1 = g.2.1)) else s.pend) = pnd 1 own (toldI (s.log ++ [g]) s.me)
  rw [toldI_snoc]
  by_cases q : g.1 = s.me
  · rw [if_pos q, if_pos q, pnd_told, h]
  · rw [if_neg q, if_neg q, h]
theorem last_deliver {s : OS} (h : ∀ x, (s.last x).getD 0 = lastI s.log x) (g : Msg) : ∀ x, ((s.deliver g).last x).getD 0 = lastI (s.deliver g).log x := fun x => by
  show ((if x = g.1 then some g.2.1 else s.last x)).getD 0 = lastI (s.log ++ [g]) x
  rw [lastI_snoc]
  by_cases q : x = g.1
  · rw [if_pos q, if_pos q.symm]; rfl
  · rw [if_neg q, if_neg (Ne.symm q)]; exact h x
/-- a cast -/
theorem RR.cast {s : OS} {m : MS} (r : RR s m) (z : Str) : RR (s.cast z).1 { m with own := m.own ++ [z] } := by
  have hn : ¬ (1 + (m.own.length : Int)) ∈ toldI s.log s.me := fun h => by have := r.told _ h; have := r.own; omega
  have e1 : (1 + (m.own.length : Int)) = s.casts + 1 := by have := r.own; omega
  have p1 : pnd 1 (m.own ++ [z]) (toldI s.log s.me) = s.pend ++ [(s.casts + 1, z)] := by
    rw [pnd_snoc, if_neg hn, ← r.pend, e1]
  have lo : (((m.own ++ [z]).length : Nat) : Int) = s.casts + 1 := by rw [List.length_append, List.length_singleton]; have := r.own; omega
  have c0 := r.c0
  by_cases h : s.me = s.fd
  · have e : (s.cast z).1 = ({ s with casts := s.casts + 1 } : OS).deliver (s.me, s.casts + 1, z) := by
      unfold OS.cast; rw [if_pos h]; rfl
    rw [e]
    have pp : (({ s with casts := s.casts + 1 } : OS).deliver (s.me, s.casts + 1, z)).pend = pnd 1 (m.own ++ [z]) (toldI (s.log ++ [(s.me, s.casts + 1, z)]) s.me) := by
      show (if s.me = s.me then s.pend.filter (fun c => !decide (c.1 = s.casts + 1)) else s.pend) = _
      rw [if_pos rfl, toldI_snoc, if_pos rfl, pnd_told, p1, List.filter_append]
      simp
    have ll : ((s.log ++ [(s.me, s.casts + 1, z)]).length : Int) = (s.log.length : Int) + 1 := by rw [List.length_append, List.length_singleton]; omega
    refine ⟨r.hd, r.nd, r.len, r.mein, lo, pp, last_deliver (s := { s with casts := s.casts + 1 }) r.last _, ⟨fun j hj => r.kr.gt j ?_, fun j hj => ?_⟩, ?_, r.cnt, r.tl, fun x => ?_, fun x => ?_, fun g hg e => ?_, fun j g hk e => ?_, ?_, ?_⟩
    · have hj : ((s.log ++ [(s.me, s.casts + 1, z)]).length : Int) < j := hj
      omega
    · have hj : j ≤ ((s.log ++ [(s.me, s.casts + 1, z)]).length : Int) := hj
      show s.kept j = none
      by_cases q : j = (s.log.length : Int) + 1
      · rw [q]; exact r.nx
      · exact r.kr.le j (by omega)
    · show s.kept (((s.log ++ [(s.me, s.casts + 1, z)]).length : Int) + 1) = none
      exact r.kf h _
    · have := r.tb x
      show _ ∧ _ ≤ ((s.log ++ [(s.me, s.casts + 1, z)]).length : Int)
      exact ⟨this.1, by have := this.2; show (s.told x).getD 0 ≤ _; omega⟩
    · have := r.cb x
      show _ ∧ _ ≤ ((s.log ++ [(s.me, s.casts + 1, z)]).length : Int)
      exact ⟨this.1, by have := this.2; show (m.c x).getD 0 ≤ _; omega⟩
    · have hg : g ∈ s.log ++ [(s.me, s.casts + 1, z)] := hg
      show g.2.1 ≤ s.casts + 1
      rcases List.mem_append.mp hg with hg | hg
      · have := r.al g hg e; omega
      · rw [List.mem_singleton.mp hg]; show s.casts + 1 ≤ _; omega
    · show g.2.1 ≤ s.casts + 1
      have := r.ak j g hk e; omega
    · show 0 ≤ s.casts + 1; omega
    · exact fun _ => r.kf h
  · have e : (s.cast z).1 = { s with casts := s.casts + 1, pend := s.pend ++ [(s.casts + 1, z)] } := by
      unfold OS.cast; rw [if_neg h]
    rw [e]
    refine ⟨r.hd, r.nd, r.len, r.mein, lo, p1.symm, r.last, ⟨r.kr.gt, r.kr.le⟩, r.nx, r.cnt, r.tl, r.tb, r.cb, fun g hg e => ?_, fun j g hk e => ?_, ?_, ?_⟩
    · have := r.al g hg e; show g.2.1 ≤ s.casts + 1; omega
    · have := r.ak j g hk e; show g.2.1 ≤ s.casts + 1; omega
    · show 0 ≤ s.casts + 1; omega
    · exact fun q => absurd q h
/-- a message that the founder gives a place -/
theorem RR.decide {s : OS} {m : MS} (r : RR s m) (g : Msg) (h : s.me = s.fd) (hg : g.1 ≠ s.me) : RR (s.deliver g) m := by
  have ll : ((s.log ++ [g]).length : Int) = (s.log.length : Int) + 1 := by rw [List.length_append, List.length_singleton]; omega
  refine ⟨r.hd, r.nd, r.len, r.mein, r.own, pend_deliver r.pend g, last_deliver r.last g, ⟨fun j hj => r.kr.gt j ?_, fun j hj => r.kf h j⟩, r.kf h _, r.cnt, r.tl, fun x => ?_, fun x => ?_, fun g' hg' e => ?_, fun j g' hk e => r.ak j g' hk e, r.c0, fun _ => r.kf h⟩
  · have hj : ((s.log ++ [g]).length : Int) < j := hj
    omega
  · have := r.tb x
    show _ ∧ _ ≤ ((s.log ++ [g]).length : Int)
    exact ⟨this.1, by have := this.2; show (s.told x).getD 0 ≤ _; omega⟩
  · have := r.cb x
    show _ ∧ _ ≤ ((s.log ++ [g]).length : Int)
    exact ⟨this.1, by have := this.2; omega⟩
  · have hg' : g' ∈ s.log ++ [g] := hg'
    show g'.2.1 ≤ s.casts
    rcases List.mem_append.mp hg' with hg' | hg'
    · exact r.al g' hg' e
    · rw [List.mem_singleton.mp hg'] at e; exact absurd e hg
theorem RR.takeCast {s : OS} {m : MS} (r : RR s m) (x : Mem) (v : Vid) (i : Int) (z : Str) : RR (s.takeCast x v i z).1 m := by
  unfold OS.takeCast
  split
  · exact r
  · rename_i h
    split
    · exact r
    · simp only [not_or, Classical.not_not] at h
      refine r.decide (x, i, z) h.1 fun q => ?_
      have := h.2.2
      unfold OS.others at this
      rw [List.mem_filter] at this
      have q : x = s.me := q
      simp [q] at this
/-- what may be between two steps of the delivery of what was kept: all of RR but that nothing is next -/
structure RF (s : OS) (m : MS) : Prop where
  hd : ∃ l, s.mems = s.fd :: l
  nd : s.mems.Nodup
  len : s.mems.length ≤ 7
  mein : s.me ∈ s.mems
  own : (m.own.length : Int) = s.casts
  pend : s.pend = pnd 1 m.own (toldI s.log s.me)
  last : ∀ x, (s.last x).getD 0 = lastI s.log x
  kr : KR s m.e
  cnt : Cnt s
  tl : ∀ x ∈ s.mems, (s.told x).getD 0 = (m.c x).getD 0
  tb : ∀ x, 0 ≤ (s.told x).getD 0 ∧ (s.told x).getD 0 ≤ (s.log.length : Int)
  cb : ∀ x, 0 ≤ (m.c x).getD 0 ∧ (m.c x).getD 0 ≤ (s.log.length : Int)
  al : ∀ g ∈ s.log, g.1 = s.me → g.2.1 ≤ s.casts
  ak : ∀ j g, s.kept j = some g → g.1 = s.me → g.2.1 ≤ s.casts
  c0 : 0 ≤ s.casts
  nf : s.me ≠ s.fd
theorem RR.rf {s : OS} {m : MS} (r : RR s m) (h : s.me ≠ s.fd) : RF s m := ⟨r.hd, r.nd, r.len, r.mein, r.own, r.pend, r.last, r.kr, r.cnt, r.tl, r.tb, r.cb, r.al, r.ak, r.c0, h⟩
theorem RF.rr {s : OS} {m : MS} (r : RF s m) (h : s.kept ((s.log.length : Int) + 1) = none) : RR s m := ⟨r.hd, r.nd, r.len, r.mein, r.own, r.pend, r.last, r.kr, h, r.cnt, r.tl, r.tb, r.cb, r.al, r.ak, r.c0, fun q => absurd q r.nf⟩
theorem RF.step {s : OS} {m : MS} (r : RF s m) {g : Msg} (h : s.kept ((s.log.length : Int) + 1) = some g) : RF ((s.drop ((s.log.length : Int) + 1)).deliver g) m := by
  have ll : ((s.log ++ [g]).length : Int) = (s.log.length : Int) + 1 := by rw [List.length_append, List.length_singleton]; omega
  refine ⟨r.hd, r.nd, r.len, r.mein, r.own, pend_deliver (s := s.drop ((s.log.length : Int) + 1)) r.pend g, last_deliver (s := s.drop ((s.log.length : Int) + 1)) r.last g, ⟨fun j hj => ?_, fun j hj => ?_⟩, r.cnt.drop h, r.tl, fun x => ?_, fun x => ?_, fun g' hg' e => ?_, fun j g' hk e => ?_, r.c0, r.nf⟩
  · have hj : ((s.log ++ [g]).length : Int) < j := hj
    show (if j = (s.log.length : Int) + 1 then none else s.kept j) = m.e j
    rw [if_neg (by omega)]
    exact r.kr.gt j (by omega)
  · have hj : j ≤ ((s.log ++ [g]).length : Int) := hj
    show (if j = (s.log.length : Int) + 1 then none else s.kept j) = none
    split
    · rfl
    · exact r.kr.le j (by omega)
  · have := r.tb x
    show _ ∧ _ ≤ ((s.log ++ [g]).length : Int)
    exact ⟨this.1, by have := this.2; show (s.told x).getD 0 ≤ _; omega⟩
  · have := r.cb x
    show _ ∧ _ ≤ ((s.log ++ [g]).length : Int)
    exact ⟨this.1, by have := this.2; omega⟩
  · have hg' : g' ∈ s.log ++ [g] := hg'
    show g'.2.1 ≤ s.casts
    rcases List.mem_append.mp hg' with hg' | hg'
    · exact r.al g' hg' e
    · rw [List.mem_singleton.mp hg'] at e ⊢; exact r.ak _ _ h e
  · have hk : (if j = (s.log.length : Int) + 1 then none else s.kept j) = some g' := hk
    show g'.2.1 ≤ s.casts
    split at hk
    · cases hk
    · exact r.ak j g' hk e
/-- one message is kept, unless its place is past or taken -/
def MS.keep (m : MS) (i : Int) (g : Msg) : MS := if m.e i = none then { m with e := fun j => if j = i then some g else m.e j, en := m.en + 1 } else m
theorem RF.keep {s : OS} {m : MS} (r : RF s m) {i : Int} {g : Msg} (hi : (s.log.length : Int) < i) (hg : g.1 = s.me → g.2.1 ≤ s.casts) : RF (s.keep i g) (m.keep i g) := by
  have e0 := r.kr.gt i hi
  by_cases q : s.kept i = none
  · have k1 : s.keep i g = { s with kept := fun j => if j = i then some g else s.kept j, kn := s.kn + 1 } := if_pos ⟨hi, q⟩
    have k2 : m.keep i g = { m with e := fun j => if j = i then some g else m.e j, en := m.en + 1 } := if_pos (by rw [← e0]; exact q)
    have c := r.cnt.keep i g
    rw [k1] at c
    rw [k1, k2]
    refine ⟨r.hd, r.nd, r.len, r.mein, r.own, r.pend, r.last, ⟨fun j hj => ?_, fun j hj => ?_⟩, c, r.tl, r.tb, r.cb, r.al, fun j g' hk e => ?_, r.c0, r.nf⟩
    · show (if j = i then some g else s.kept j) = (if j = i then some g else m.e j)
      split
      · rfl
      · exact r.kr.gt j hj
    · have hj : j ≤ (s.log.length : Int) := hj
      show (if j = i then some g else s.kept j) = none
      rw [if_neg (by omega)]; exact r.kr.le j hj
    · have hk : (if j = i then some g else s.kept j) = some g' := hk
      split at hk
      · cases hk; exact hg e
      · exact r.ak j g' hk e
  · have k1 : s.keep i g = s := if_neg fun z => q z.2
    have k2 : m.keep i g = m := if_neg (by rw [← e0]; exact q)
    rw [k1, k2]; exact r
/-- the delivery ends: nothing is next -/
theorem flush_end {s : OS} (h : s.kept ((s.log.length : Int) + 1) = none) : ∀ n, OS.flush n s = (s, [])
  | 0 => rfl
  | n + 1 => by unfold OS.flush; rw [h]
theorem flush_step {s : OS} {g : Msg} (h : s.kept ((s.log.length : Int) + 1) = some g) (c : Cnt s) : OS.flush s.kn s = ((OS.flush ((s.drop ((s.log.length : Int) + 1)).deliver g).kn ((s.drop ((s.log.length : Int) + 1)).deliver g)).1, g :: (OS.flush ((s.drop ((s.log.length : Int) + 1)).deliver g).kn ((s.drop ((s.log.length : Int) + 1)).deliver g)).2) := by
  have := c.pos h
  obtain ⟨k, hk⟩ : ∃ k, s.kn = k + 1 := ⟨s.kn - 1, by omega⟩
  have e : ((s.drop ((s.log.length : Int) + 1)).deliver g).kn = k := by show s.kn - 1 = k; omega
  rw [e, hk]
  show OS.flush (k + 1) s = _
  conv => lhs; unfold OS.flush
  rw [h]
theorem RR.takeOrder_no {s : OS} {m : MS} (r : RR s m) {x : Mem} {v : Vid} {i : Int} {g : Msg} (h : s.me = s.fd ∨ x ≠ s.fd ∨ v ≠ s.vid ∨ i ≤ (s.log.length : Int)) : s.takeOrder x v i g = (s, []) := by
  unfold OS.takeOrder
  split
  · rfl
  · rename_i q
    have hi : i ≤ (s.log.length : Int) := by
      rcases h with h | h | h | h
      · exact absurd (.inl h) q
      · exact absurd (.inr (.inl h)) q
      · exact absurd (.inr (.inr h)) q
      · exact h
    have k1 : s.keep i g = s := if_neg fun z => by have := z.1; omega
    rw [k1]; exact flush_end r.nx _
theorem takeOrder_yes {s : OS} {x : Mem} {v : Vid} {i : Int} {g : Msg} (h1 : s.me ≠ s.fd) (h2 : x = s.fd) (h3 : v = s.vid) : s.takeOrder x v i g = OS.flush (s.keep i g).kn (s.keep i g) := if_neg (by simp only [not_or, Classical.not_not]; exact ⟨h1, h2, h3⟩)
/-- a count -/
def MS.heard (m : MS) (x : Mem) (n : Int) : MS := { m with c := fun y => if y = x then some (if (m.c x).getD 0 > n then (m.c x).getD 0 else n) else m.c y, cn := m.cn + 1 }
theorem RR.heard {s : OS} {m : MS} (r : RR s m) {x : Mem} {n : Int} (h0 : 0 ≤ n) (h1 : n ≤ (s.log.length : Int)) : RR (s.heard x n) (m.heard x n) := by
  have mx : ∀ t : Int, 0 ≤ t → t ≤ (s.log.length : Int) → 0 ≤ (if t > n then t else n) ∧ (if t > n then t else n) ≤ (s.log.length : Int) := fun t a b => by split <;> omega
  have cb : ∀ y, 0 ≤ ((m.heard x n).c y).getD 0 ∧ ((m.heard x n).c y).getD 0 ≤ (s.log.length : Int) := fun y => by
    show 0 ≤ (if y = x then some _ else m.c y).getD 0 ∧ (if y = x then some _ else m.c y).getD 0 ≤ _
    split
    · exact mx _ (r.cb x).1 (r.cb x).2
    · exact r.cb y
  by_cases q : x ∈ s.mems
  · have e : s.heard x n = { s with told := fun y => if y = x then some (if (s.told x).getD 0 > n then (s.told x).getD 0 else n) else s.told y, tn := if (s.told x).isSome then s.tn else s.tn + 1 } := if_pos q
    rw [e]
    refine ⟨r.hd, r.nd, r.len, r.mein, r.own, r.pend, r.last, ⟨r.kr.gt, r.kr.le⟩, r.nx, r.cnt, fun y hy => ?_, fun y => ?_, cb, r.al, r.ak, r.c0, r.kf⟩
    · show (if y = x then some _ else s.told y).getD 0 = (if y = x then some _ else m.c y).getD 0
      split
      · rw [r.tl x q]
      · exact r.tl y hy
    · show 0 ≤ (if y = x then some _ else s.told y).getD 0 ∧ (if y = x then some _ else s.told y).getD 0 ≤ _
      split
      · exact mx _ (r.tb x).1 (r.tb x).2
      · exact r.tb y
  · have e : s.heard x n = s := if_neg q
    rw [e]
    refine ⟨r.hd, r.nd, r.len, r.mein, r.own, r.pend, r.last, ⟨r.kr.gt, r.kr.le⟩, r.nx, r.cnt, fun y hy => ?_, r.tb, cb, r.al, r.ak, r.c0, r.kf⟩
    show _ = (if y = x then some _ else m.c y).getD 0
    rw [if_neg (fun (z : y = x) => q (by rw [← z]; exact hy))]
    exact r.tl y hy
def MS.new : MS := ⟨[], fun _ => none, 0, fun _ => none, 0⟩
theorem rr_new {me : Mem} {vid : Vid} {mems l : List Mem} {fd : Mem} (h : mems = fd :: l) (n : mems.Nodup) (hl : mems.length ≤ 7) (hm : me ∈ mems) : RR (OS.new me vid mems fd) MS.new :=
  ⟨⟨l, h⟩, n, hl, hm, rfl, rfl, fun _ => rfl, ⟨fun _ _ => rfl, fun _ _ => rfl⟩, rfl, ⟨[], fun j g e => (by cases e), Nat.le_refl _⟩, fun _ _ => rfl, fun _ => ⟨Int.le_refl _, Int.le_refl _⟩, fun _ => ⟨Int.le_refl _, Int.le_refl _⟩, fun g h => (by cases h), fun j g e => (by cases e), Int.le_refl _, fun _ _ => rfl⟩
/-- the letters that tell n messages from the t-th on -/
def ordR (s : OS) (m : Mem) (t n : Nat) : List Pkt := (List.range n).map fun (j : Nat) => (m.1, Ltr.order s.me s.vid ((t : Int) + 1 + (j : Int)) (s.log.getD (t + j) (((0, 0), 0, ⟨#[]⟩) : Msg)))
theorem ordR_behind {s : OS} {m : Mem} {t : Nat} (h : (s.told m).getD 0 = (t : Int)) : s.behind m = ordR s m t (min (s.log.length - t) 16) := by
  unfold OS.behind ordR
  rw [h, Int.toNat_natCast]
  refine List.ext_getElem (by simp [Nat.min_comm]) fun i h1 h2 => ?_
  have h3 : i < s.log.length - t := by
    have : i < (((s.log.drop t).take 16).mapIdx fun j g => (m.1, Ltr.order s.me s.vid ((t : Int) + 1 + (j : Int)) g)).length := h1
    rw [List.length_mapIdx, List.length_take, List.length_drop] at this
    omega
  have h4 : s.log.getD (t + i) (((0, 0), 0, ⟨#[]⟩) : Msg) = s.log[t + i]'(by omega) := by
    rw [List.getD_eq_getElem?_getD, List.getElem?_eq_getElem (by omega)]; rfl
  show (((s.log.drop t).take 16).mapIdx fun j g => (m.1, Ltr.order s.me s.vid ((t : Int) + 1 + (j : Int)) g))[i] = _
  rw [List.getElem_mapIdx, List.getElem_map, List.getElem_range, List.getElem_take, List.getElem_drop, h4]
theorem ordR_one {s : OS} {m : Mem} {l : List Msg} {g : Msg} (h : s.log = l ++ [g]) : ordR s m l.length 1 = [(m.1, Ltr.order s.me s.vid ((l.length : Int) + 1) g)] := by
  unfold ordR
  have : s.log.getD (l.length + 0) (((0, 0), 0, ⟨#[]⟩) : Msg) = g := by rw [h, List.getD_eq_getElem?_getD]; simp
  show [(m.1, Ltr.order s.me s.vid ((l.length : Int) + 1 + ((0 : Nat) : Int)) (s.log.getD (l.length + 0) _))] = _
  rw [this]; simp
end Mus

set_option maxRecDepth 100000
set_option maxHeartbeats 4000000
namespace Mus
open PySem PySem.Spec PyProof.Rows L2
/-! ### the law's own model in the heap -/
theorem TD.tupI {H : Hp} {v : V} {ds : List PyData} (h : TD H v (.tuple ds)) : ∃ a xs, v = .ref a ∧ H a = some (.tup xs) ∧ xs.length ≤ 100000 ∧ TDs H xs ds := by
  cases h with
  | tup h l r => exact ⟨_, _, rfl, h, l, r⟩
theorem TDs.consI {H : Hp} {vs : List V} {d : PyData} {ds : List PyData} (h : TDs H vs (d :: ds)) : ∃ v r, vs = v :: r ∧ TD H v d ∧ TDs H r ds := by
  cases h with
  | cons a b => exact ⟨_, _, rfl, a, b⟩
structure MA where
  vme : V
  vid : V
  vms : V
  lg : Addr
  ea : Addr
  ow : Addr
  ct : Addr
def mF (a : MA) : List (Key × V) := [(.inr "me", a.vme), (.inr "id", a.vid), (.inr "members", a.vms), (.inr "log", .ref a.lg), (.inr "early", .ref a.ea), (.inr "own", .ref a.ow), (.inr "counts", .ref a.ct)]
def MA.fp (a : MA) (d : Addr) : List Addr := [d, a.lg, a.ea, a.ow, a.ct]
structure MAt (w : World) (H : Hp) (d : Addr) (a : MA) (s : OS) (m : MS) : Prop where
  ob : H d = some (.dK (mF a))
  me : TD H a.vme (eM s.me)
  vid : TD H a.vid (eV s.vid)
  ms : TD H a.vms (eMs s.mems)
  lg : LstAt H a.lg (s.log.map eG)
  ea : ∃ kvs, H a.ea = some (.dK kvs) ∧ (∀ i, KpAt H (valV kvs (.inl i)) (m.e i)) ∧ kvs.length ≤ m.en ∧ ∀ kv ∈ kvs, ∃ i : Int, kv.1 = .inl i
  ow : LstAt H a.ow (m.own.map PyData.str)
  ct : DctAt w H a.ct m.c m.cn
  ap : a.lg ≠ a.ow ∧ a.ea ≠ d
theorem MAt.mono {w : World} {H H' : Hp} {d : Addr} {a : MA} {s : OS} {m : MS} (h : MAt w H d a s m) (e : ∀ b ∈ a.fp d, ∀ o, H b = some o → H' b = some o) (t : TupK H H') : MAt w H' d a s m := by
  refine ⟨e d (by simp [MA.fp]) _ h.ob, h.me.mono t, h.vid.mono t, h.ms.mono t, h.lg.mono (e _ (by simp [MA.fp])) t, ?_, h.ow.mono (e _ (by simp [MA.fp])) t, h.ct.mono (e _ (by simp [MA.fp])) t, h.ap⟩
  obtain ⟨kvs, h1, h2, h3⟩ := h.ea
  exact ⟨kvs, e _ (by simp [MA.fp]) _ h1, fun i => (h2 i).mono t, h3⟩
theorem MAt.same {w : World} {H H' : Hp} {d : Addr} {a : MA} {s : OS} {m : MS} (h : MAt w H d a s m) (e : Same H H') : MAt w H' d a s m := h.mono (fun b _ o x => e b o x) (TupK.of e)
theorem MAt.fr {w : World} {H H' : Hp} {d : Addr} {a : MA} {s : OS} {m : MS} {fp fp' : List Addr} (h : MAt w H d a s m) (f : Fr fp fp' H H') (j : ∀ b ∈ a.fp d, b ∉ fp) : MAt w H' d a s m := h.mono (fun b hb o x => f.k b o x (j b hb)) f.t
theorem OAt.fr {w : World} {CO : Addr} {H H' : Hp} {p : Addr} {a : OA} {s : OS} {fp fp' : List Addr} (h : OAt w CO H p a s) (f : Fr fp fp' H H') (j : ∀ b ∈ a.fp p, b ∉ fp) : OAt w CO H' p a s := h.mono (fun b hb o x => f.k b o x (j b hb)) f.t
theorem MAt.taken {w : World} {H : Hp} {d : Addr} {a : MA} {s : OS} {m : MS} (h : MAt w H d a s m) : ∀ b ∈ a.fp d, ∃ o, H b = some o ∧ ∀ xs, o ≠ .tup xs := by
  obtain ⟨v1, l1, _⟩ := h.lg
  obtain ⟨v2, l2, _⟩ := h.ea
  obtain ⟨v3, l3, _⟩ := h.ow
  obtain ⟨v4, l4, _⟩ := h.ct
  intro b hb
  simp only [MA.fp, List.mem_cons, List.not_mem_nil, or_false] at hb
  rcases hb with rfl | rfl | rfl | rfl | rfl
  · exact ⟨_, h.ob, fun _ z => by cases z⟩
  · exact ⟨_, l1, fun _ z => by cases z⟩
  · exact ⟨_, l2, fun _ z => by cases z⟩
  · exact ⟨_, l3, fun _ z => by cases z⟩
  · exact ⟨_, l4.ob, fun _ z => by cases z⟩
theorem MAt.fresh {w : World} {H : Hp} {d q : Addr} {a : MA} {s : OS} {m : MS} (h : MAt w H d a s m) (hq : H q = none) : q ∉ a.fp d := fun z => by
  obtain ⟨o, e, _⟩ := h.taken q z
  rw [hq] at e; cases e
section
variable {w : World} {H : Hp} {d : Addr} {a : MA} {s : OS} {m : MS}
theorem MAt.g_me (h : MAt w H d a s m) : DGet H d (.str "me") (some a.vme) := DGet.k (k := Sum.inr "me") h.ob
theorem MAt.g_id (h : MAt w H d a s m) : DGet H d (.str "id") (some a.vid) := DGet.k (k := Sum.inr "id") h.ob
theorem MAt.g_ms (h : MAt w H d a s m) : DGet H d (.str "members") (some a.vms) := DGet.k (k := Sum.inr "members") h.ob
theorem MAt.g_lg (h : MAt w H d a s m) : DGet H d (.str "log") (some (.ref a.lg)) := DGet.k (k := Sum.inr "log") h.ob
theorem MAt.g_ea (h : MAt w H d a s m) : DGet H d (.str "early") (some (.ref a.ea)) := DGet.k (k := Sum.inr "early") h.ob
theorem MAt.g_ow (h : MAt w H d a s m) : DGet H d (.str "own") (some (.ref a.ow)) := DGet.k (k := Sum.inr "own") h.ob
theorem MAt.g_ct (h : MAt w H d a s m) : DGet H d (.str "counts") (some (.ref a.ct)) := DGet.k (k := Sum.inr "counts") h.ob
/-- the log grows -/
theorem MAt.addLog (h : MAt w H d a s m) {vs : List V} {v : V} {g : Msg} {s2 : OS} (hl : H a.lg = some (.lst vs)) (hv : TDs H vs (s.log.map eG)) (hg : TD H v (eG g)) (e1 : s2.me = s.me) (e2 : s2.vid = s.vid) (e3 : s2.mems = s.mems) (e4 : s2.log = s.log ++ [g]) :
    MAt w (upd H a.lg (.lst (vs ++ [v]))) d a s2 m ∧ Fr (a.fp d) (a.fp d) H (upd H a.lg (.lst (vs ++ [v]))) := by
  have k2 : TupK H (upd H a.lg (.lst (vs ++ [v]))) := tupK_upd fun xs e => by rw [hl] at e; cases e
  have at2 : ∀ c, c ≠ a.lg → ∀ o, H c = some o → (upd H a.lg (.lst (vs ++ [v]))) c = some o := fun c h o e => by rw [upd_ne h]; exact e
  refine ⟨?_, fr_upd (by simp [MA.fp]) hl (fun _ z => by cases z)⟩
  obtain ⟨w2, x3, x4⟩ := h.ea
  obtain ⟨w3, y1, y2⟩ := h.ow
  obtain ⟨w4, z1, z2⟩ := h.ct
  refine ⟨at2 _ (ne_of h.ob hl (by intro z; cases z)) _ h.ob, by rw [e1]; exact h.me.mono k2, by rw [e2]; exact h.vid.mono k2, by rw [e3]; exact h.ms.mono k2, ⟨_, upd_same, ?_⟩, ⟨w2, at2 _ (ne_of x3 hl (by intro z; cases z)) _ x3, fun i => (x4.1 i).mono k2, x4.2⟩, ⟨w3, at2 _ h.ap.1.symm _ y1, y2.mono k2⟩, ⟨w4, z1.mono (at2 _ (ne_of z1.ob hl (by intro z; cases z)) _ z1.ob) k2, z2⟩, h.ap⟩
  rw [e4, List.map_append]
  exact (hv.mono k2).append (.cons (hg.mono k2) .nil)
/-- one's own casts grow -/
theorem MAt.addOwn (h : MAt w H d a s m) {vs : List V} {z : Str} (hl : H a.ow = some (.lst vs)) (hv : TDs H vs (m.own.map PyData.str)) :
    MAt w (upd H a.ow (.lst (vs ++ [.str z]))) d a s { m with own := m.own ++ [z] } ∧ Fr (a.fp d) (a.fp d) H (upd H a.ow (.lst (vs ++ [.str z]))) := by
  have k2 : TupK H (upd H a.ow (.lst (vs ++ [.str z]))) := tupK_upd fun xs e => by rw [hl] at e; cases e
  have at2 : ∀ c, c ≠ a.ow → ∀ o, H c = some o → (upd H a.ow (.lst (vs ++ [.str z]))) c = some o := fun c h o e => by rw [upd_ne h]; exact e
  refine ⟨?_, fr_upd (by simp [MA.fp]) hl (fun _ z => by cases z)⟩
  obtain ⟨w1, l1, l2⟩ := h.lg
  obtain ⟨w2, x3, x4⟩ := h.ea
  obtain ⟨w4, z1, z2⟩ := h.ct
  refine ⟨at2 _ (ne_of h.ob hl (by intro z; cases z)) _ h.ob, h.me.mono k2, h.vid.mono k2, h.ms.mono k2, ⟨w1, at2 _ h.ap.1 _ l1, l2.mono k2⟩, ⟨w2, at2 _ (ne_of x3 hl (by intro z; cases z)) _ x3, fun i => (x4.1 i).mono k2, x4.2⟩, ⟨_, upd_same, ?_⟩, ⟨w4, z1.mono (at2 _ (ne_of z1.ob hl (by intro z; cases z)) _ z1.ob) k2, z2⟩, h.ap⟩
  show TDs _ _ ((m.own ++ [z]).map PyData.str)
  rw [List.map_append]
  exact (hv.mono k2).append (.cons (.str z) .nil)
/-- a message is kept -/
theorem MAt.addEarly (h : MAt w H d a s m) {kvs : List (Key × V)} {v : V} {i : Int} {g : Msg} (hl : H a.ea = some (.dK kvs)) (hk : ∀ i, KpAt H (valV kvs (.inl i)) (m.e i)) (hn : kvs.length ≤ m.en) (hki : ∀ kv ∈ kvs, ∃ i : Int, kv.1 = .inl i) (hg : TD H v (eG g)) (e0 : m.e i = none) :
    MAt w (upd H a.ea (.dK (putK kvs (.inl i) v))) d a s (m.keep i g) ∧ Fr (a.fp d) (a.fp d) H (upd H a.ea (.dK (putK kvs (.inl i) v))) := by
  have k2 : TupK H (upd H a.ea (.dK (putK kvs (.inl i) v))) := tupK_upd fun xs e => by rw [hl] at e; cases e
  have at2 : ∀ c, c ≠ a.ea → ∀ o, H c = some o → (upd H a.ea (.dK (putK kvs (.inl i) v))) c = some o := fun c h o e => by rw [upd_ne h]; exact e
  refine ⟨?_, fr_upd (by simp [MA.fp]) hl (fun _ z => by cases z)⟩
  obtain ⟨w1, l1, l2⟩ := h.lg
  obtain ⟨w3, y1, y2⟩ := h.ow
  obtain ⟨w4, z1, z2⟩ := h.ct
  have e : m.keep i g = { m with e := fun j => if j = i then some g else m.e j, en := m.en + 1 } := if_pos e0
  rw [e]
  refine ⟨at2 _ h.ap.2.symm _ h.ob, h.me.mono k2, h.vid.mono k2, h.ms.mono k2, ⟨w1, at2 _ (ne_of l1 hl (by intro z; cases z)) _ l1, l2.mono k2⟩, ⟨_, upd_same, fun j => ?_, ?_, fun kv hkv => ?_⟩, ⟨w3, at2 _ (ne_of y1 hl (by intro z; cases z)) _ y1, y2.mono k2⟩, ⟨w4, z1.mono (at2 _ (ne_of z1.ob hl (by intro z; cases z)) _ z1.ob) k2, z2⟩, h.ap⟩
  · show KpAt _ (valV (putK kvs (Sum.inl i) v) (Sum.inl j)) (if j = i then some g else m.e j)
    rw [valV_put]
    by_cases q : j = i
    · rw [if_pos (by rw [q]), if_pos q]; exact hg.mono k2
    · rw [if_neg (fun z => q (Sum.inl.inj z)), if_neg q]; exact (hk j).mono k2
  · have := length_putK kvs (Sum.inl i) v
    show _ ≤ m.en + 1
    omega
  · unfold putK at hkv
    split at hkv
    · obtain ⟨x, hx, e⟩ := List.mem_map.mp hkv
      obtain ⟨i', hi'⟩ := hki x hx
      split at e
      · rw [← e]; exact ⟨i', hi'⟩
      · rw [← e]; exact ⟨i', hi'⟩
    · rcases List.mem_append.mp hkv with hkv | hkv
      · exact hki kv hkv
      · rw [List.mem_singleton.mp hkv]; exact ⟨i, rfl⟩
/-- a count is told -/
theorem MAt.addCount (h : MAt w H d a s m) {kvs : NKV} {b : Addr} {x : Mem} {n : Int} (N : Nd w H a.ct kvs) (hN : ∀ y, valN kvs (kM y) = (m.c y).map V.int) (hl : kvs.length ≤ m.cn) (hs : m.cn ≤ 90000) (nk : NK H (.ref b) (kM x)) :
    MAt w (upd H a.ct (ndO w a.ct (putN kvs (kM x) b (.int (if (m.c x).getD 0 > n then (m.c x).getD 0 else n))))) d a s (m.heard x n) ∧ Fr (a.fp d) (a.fp d) H (upd H a.ct (ndO w a.ct (putN kvs (kM x) b (.int (if (m.c x).getD 0 > n then (m.c x).getD 0 else n))))) := by
  have hsl := sl
  generalize hv : (if (m.c x).getD 0 > n then (m.c x).getD 0 else n) = v
  have N2 := N.put (v := .int v) nk (kM_depth _) (by omega)
  generalize hh2 : upd H a.ct _ = H2 at *
  have k2 : TupK H H2 := by subst hh2; exact tupK_upd fun xs e => by rw [N.ob] at e; cases e
  have at2 : ∀ c, c ≠ a.ct → ∀ o, H c = some o → H2 c = some o := fun c h o e => by subst hh2; rw [upd_ne h]; exact e
  refine ⟨?_, by subst hh2; exact fr_upd (by simp [MA.fp]) N.ob (fun _ z => by cases z)⟩
  obtain ⟨w1, l1, l2⟩ := h.lg
  obtain ⟨w2, x3, x4⟩ := h.ea
  obtain ⟨w3, y1, y2⟩ := h.ow
  refine ⟨at2 _ (ne_of h.ob N.ob (by intro z; cases z)) _ h.ob, h.me.mono k2, h.vid.mono k2, h.ms.mono k2, ⟨w1, at2 _ (ne_of l1 N.ob (by intro z; cases z)) _ l1, l2.mono k2⟩, ⟨w2, at2 _ (ne_of x3 N.ob (by intro z; cases z)) _ x3, fun i => (x4.1 i).mono k2, x4.2⟩, ⟨w3, at2 _ (ne_of y1 N.ob (by intro z; cases z)) _ y1, y2.mono k2⟩, ⟨_, N2, fun y => ?_, ?_⟩, h.ap⟩
  · show _ = Option.map V.int (if y = x then some (if (m.c x).getD 0 > n then (m.c x).getD 0 else n) else m.c y)
    rw [valN_put, hv]
    by_cases e : y = x
    · rw [if_pos (by rw [e]), if_pos e]; rfl
    · rw [if_neg fun z => e (kM_inj z), if_neg e]; exact hN y
  · show _ ≤ m.cn + 1
    rw [putN_len']
    split <;> omega
end
end Mus

namespace Mus
open PySem L2
/-! what is walked may be a list or a tuple -/
theorem pi_or {X : Cx} {tg e : Expr} {i1 i2 : TI} (h1 : PI X tg e i1) (h2 : PI X tg e i2) : PI X tg e (fun σ H R => i1 σ H R ∨ i2 σ H R) :=
  ⟨fun pins s σ H R I h => h.elim (h1.run pins s σ H R I) (h2.run pins s σ H R I)⟩
theorem for_seq {K : PySem.W.Frag} {b : Addr} {vs : List V} {k : Nat} {g : TG} {tb : TS} {D : Ends} {σ : St} {H : Hp} (Pv : Nat → St → Hp → Prop) (hv : σ[k]? = some (some (.ref b))) (hb : H b = some (.lst vs) ∨ H b = some (.tup vs))
    (h0 : Pv 0 σ H) (hk : ∀ i σ' H', Pv i σ' H' → ∀ o, H b = some o → H' b = some o)
    (hs : ∀ i x σ H, vs[i]? = some x → Pv i σ H → g x σ H fun σ2 H2 => tb { D with nx := Pv (i + 1), ct := Pv (i + 1), bk := D.nx } σ2 H2) (hd : ∀ σ H, Pv vs.length σ H → D.nx σ H) :
    tFor (fun σ H R => iList K (tVar k) σ H R ∨ iTup K (tVar k) σ H R) g tb D σ H := by
  rcases hb with hb | hb
  · exact .inl ⟨_, hv, b, rfl, ⟨_, SqL.of hb⟩, for_list Pv h0 (fun i σ' H' _ p => SqL.of (hk i σ' H' p _ hb)) hs hd⟩
  · exact .inr ⟨_, hv, b, rfl, ⟨_, SqT.of hb⟩, for_tup Pv h0 (fun i σ' H' _ p => SqT.of (hk i σ' H' p _ hb)) hs hd⟩
end Mus

set_option maxRecDepth 100000
set_option maxHeartbeats 4000000
namespace Mus
open PySem L2
local macro_rules | `(tactic| walk_at "rd") => `(tactic| first
  | refine ⟨_, rfl, ?_⟩ | refine ⟨(True.intro : True), ?_⟩
  | refine ⟨_, _, rfl, rfl, (⟨by decide, by decide, by decide⟩ : CPow _ _), ?_⟩
  | refine ⟨_, _, rfl, rfl, (⟨by decide, by decide⟩ : CDiv _ _), ?_⟩
  | refine ⟨_, _, rfl, rfl, (by show (0 : Int) < _; decide), ?_⟩
  | refine ⟨_, _, rfl, rfl, ?_⟩ | refine ⟨rfl, ?_⟩ | refine iteT ?_ | refine iteF ?_ | refine ⟨_, _, rfl, ?_⟩ | refine .inl ⟨_, rfl, ?_⟩
  | refine ⟨_, _, _, _, _, rfl, (by assumption), (by assumption), (by assumption), rfl, ?_⟩ | refine ⟨_, _, _, _, rfl, rfl, SqT.of (by assumption), rfl, ?_⟩ | refine ⟨_, _, rfl, SqT.of (by assumption), rfl, ?_⟩
  | refine ⟨_, _, _, _, _, rfl, .ty _, Rp.ty (by assumption), kit_int _, ?_⟩ | refine ⟨_, _, _, _, _, rfl, .ty _, Rp.ty (by assumption), kit_bool _, ?_⟩
  | refine ⟨_, _, _, _, _, rfl, .ty _, Rp.ty (by assumption), kit_str _, ?_⟩ | refine ⟨_, _, _, _, _, rfl, .ty _, Rp.ty (by assumption), kit_tup _, ?_⟩)
local macro_rules | `(tactic| walk_at "cal") => `(tactic| first
  | refine ⟨_, _, _, _, _, rfl, (by assumption), ?_⟩ | refine ⟨_, _, _, _, _, rfl, (by assumption), (by assumption), ?_⟩)
local macro_rules | `(tactic| walk_at "sq") => `(tactic| first
  | refine ⟨_, _, rfl, Or.inr (SqT.of (by assumption)), ?_⟩ | refine ⟨_, _, _, _, rfl, rfl, SqT.of (by assumption), rfl, ?_⟩)
local macro_rules | `(tactic| walk_at "rds") => `(tactic| repeat first | walk_at "rd" | walk_at "cal" | walk_at "sq")
local macro_rules | `(tactic| walk_at "ze") => `(tactic| repeat first
  | exact zes_nil | exact ze_bl | exact ze_str | exact ze_non | apply zes_cons | apply ze_tup | apply ze_lst | apply ze_cat | exact di_c | exact di_v rfl | apply di_opC | apply di_op | apply di_neg | apply ze_i | (refine (⟨?_, ?_, ?_⟩ : CPow _ _) <;> decide) | exact Nat.le_of_ble_eq_true rfl | exact ze_varD rfl (by assumption))
local macro_rules | `(tactic| walk_at "rdz") => `(tactic| repeat (fail_if_success (first | show tLst _ _ _ _ | show tAsg (tLst _) _ _ _ _ | show tSeq (tAsg (tLst _) _) _ _ _ _)); first | walk_at "rd" | walk_at "cal" | walk_at "sq")
section
variable {P : Program} {w : World} {K : PySem.W.Frag} {mg : Str → Option Value} {base : Heap} {CO CV : Addr}
abbrev s__law_model : Stmt := top 10
abbrev N__law_model : List Str := ["me", "view_id", "members"]
abbrev P__law_model : List Str := ["me", "view_id", "members"]
theorem sc__law_model : FnScope N__law_model P__law_model (defScope s__law_model) := ⟨rfl, rfl, rfl, by decide +kernel, rfl, by decide +kernel, by decide +kernel⟩
def sp_lmod (w : World) : Sp := fun vs H Q _ => ∃ (vme vvid vms : V) (me : Mem) (vid : Vid) (mems : List Mem) (fd : Mem), vs = [vme, vvid, vms] ∧ TD H vme (eM me) ∧ TD H vvid (eV vid) ∧ TD H vms (eMs mems) ∧
  ∀ d a H', Same H H' → (∀ b ∈ a.fp d, H b = none) → MAt w H' d a (OS.new me vid mems fd) MS.new → Q (.ref d) H'
theorem ok_lmod {f : Addr} {fd : FuncData} (T : Tx K mg CO CV) (F : Fun K "_law_model" "_law_model" s__law_model f fd) : FnOk P w K mg base CX0 1 f fd P__law_model (sp_lmod w) := by
  have nd := sc__law_model.nd
  refine F.ok sc__law_model (fun vs H Q E h => ?_) (fun cdv A outer s H vs Q E hr h => ?_)
  · obtain ⟨_, _, _, _, _, _, _, rfl, _⟩ := h
    rfl
  · obtain ⟨vme, vvid, vms, me, vid, mems, fo, rfl, h1, h2, h3, q⟩ := h
    have hs := sl
    refine ⟨_, (pss_one (ps_ret (pe_disp (pps_cons pe_str (pv 0) (pps_cons pe_str (pv 1) (pps_cons pe_str (pv 2) (pps_cons pe_str (pe_lst pa_nil) (pps_cons pe_str pe_dnewK (pps_cons pe_str (pe_lst pa_nil) (pps_cons pe_str pe_nnew pps_nil))))))) (by rfl) (by rfl) (fun z => by cases z) (by decide)))), ?_⟩
    intro d nd
    walk_at "rds"
    show tPairs _ _ _ _
    dsimp only [tPairs]
    have e1 := same_new nd (.dK [])
    have od : (upd H d (.dK [])) d = some (.dK []) := upd_same
    generalize upd H d (.dK []) = H1 at *
    refine ⟨by show 0 ≤ sizeLine; omega, fun lg n1 => ?_⟩
    have e2 := same_new n1 (.lst [])
    have o1 : (upd H1 lg (.lst [])) lg = some (.lst []) := upd_same
    generalize upd H1 lg (.lst []) = H2 at *
    intro ea n2
    have e3 := same_new n2 (.dK [])
    have o2 : (upd H2 ea (.dK [])) ea = some (.dK []) := upd_same
    generalize upd H2 ea (.dK []) = H3 at *
    refine ⟨by show 0 ≤ sizeLine; omega, fun ow n3 => ?_⟩
    have e4 := same_new n3 (.lst [])
    have o3 : (upd H3 ow (.lst [])) ow = some (.lst []) := upd_same
    generalize upd H3 ow (.lst []) = H4 at *
    intro ct n4 loct
    generalize hh5 : upd H4 ct _ = H5
    have e5 : Same H4 H5 := by subst hh5; exact same_new n4 _
    have N : Nd w H5 ct [] := by subst hh5; exact nd_new loct
    have d5 := e5 _ _ (e4 _ _ (e3 _ _ (e2 _ _ od)))
    have l5 := e5 _ _ (e4 _ _ (e3 _ _ o1))
    have a5 := e5 _ _ (e4 _ _ o2)
    have w5 := e5 _ _ o3
    refine ⟨d5, mF ⟨vme, vvid, vms, lg, ea, ow, ct⟩, rfl, by show 7 ≤ 15; decide, ?_⟩
    have em : mergeK [] (mF ⟨vme, vvid, vms, lg, ea, ow, ct⟩) = mF ⟨vme, vvid, vms, lg, ea, ow, ct⟩ := rfl
    rw [em]
    have s5 : Same H H5 := e1.trans (e2.trans (e3.trans (e4.trans e5)))
    have k6 : TupK H5 (upd H5 d (.dK (mF ⟨vme, vvid, vms, lg, ea, ow, ct⟩))) := tupK_upd fun xs e => by rw [d5] at e; cases e
    have k0 : TupK H (upd H5 d (.dK (mF ⟨vme, vvid, vms, lg, ea, ow, ct⟩))) := (TupK.of s5).trans k6
    have at2 : ∀ c, c ≠ d → ∀ o, H5 c = some o → (upd H5 d (.dK (mF ⟨vme, vvid, vms, lg, ea, ow, ct⟩))) c = some o := fun c h o e => by rw [upd_ne h]; exact e
    have back := fun b (h : H1 b = none) => (Fr.of (fp := []) e1).s b h
    have m1 := back _ n1
    have m2 := back _ ((Fr.of (fp := []) e2).s _ n2)
    have m3 := back _ ((Fr.of (fp := []) e2).s _ ((Fr.of (fp := []) e3).s _ n3))
    have m4 := back _ ((Fr.of (fp := []) e2).s _ ((Fr.of (fp := []) e3).s _ ((Fr.of (fp := []) e4).s _ n4)))
    have dl : d ≠ ea := ne_of_none (e2 _ _ od) n2
    have lw : lg ≠ ow := ne_of_none (e3 _ _ o1) n3
    refine q d ⟨vme, vvid, vms, lg, ea, ow, ct⟩ _ (fun b o e => by rw [upd_ne (ne_of_none e nd)]; exact s5 _ _ e) (fun b hb => ?_) ?_
    · simp only [MA.fp, List.mem_cons, List.not_mem_nil, or_false] at hb
      rcases hb with rfl | rfl | rfl | rfl | rfl <;> assumption
    · exact ⟨upd_same, h1.mono k0, h2.mono k0, h3.mono k0, ⟨[], at2 _ (ne_of l5 d5 (by intro z; cases z)) _ l5, .nil⟩, ⟨[], at2 _ dl.symm _ a5, fun _ => True.intro, Nat.le_refl _, fun _ h => by cases h⟩, ⟨[], at2 _ (ne_of w5 d5 (by intro z; cases z)) _ w5, .nil⟩,
        ⟨[], N.mono (at2 _ (ne_of N.ob d5 (by intro z; cases z)) _ N.ob) k6, fun _ => rfl, Nat.le_refl _⟩, lw, dl.symm⟩
abbrev s__law_last : Stmt := top 11
abbrev N__law_last : List Str := ["model", "sender", "last", "message"]
abbrev P__law_last : List Str := ["model", "sender"]
theorem sc__law_last : FnScope N__law_last P__law_last (defScope s__law_last) := ⟨rfl, rfl, rfl, by decide +kernel, rfl, by decide +kernel, by decide +kernel⟩
def sp_llast (w : World) : Sp := fun vs H Q _ => ∃ (d : Addr) (a : MA) (s : OS) (m : MS) (v : V) (x : Mem), vs = [.ref d, v] ∧ MAt w H d a s m ∧ TD H v (eM x) ∧ Q (.int (lastI s.log x)) H
theorem ok_llast {f : Addr} {fd : FuncData} (T : Tx K mg CO CV) (F : Fun K "_law_last" "_law_last" s__law_last f fd) : FnOk P w K mg base CX0 1 f fd P__law_last (sp_llast w) := by
  have nd := sc__law_last.nd
  refine F.ok sc__law_last (fun vs H Q E h => ?_) (fun cdv A outer s H vs Q E hr h => ?_)
  · obtain ⟨_, _, _, _, _, _, rfl, _⟩ := h
    rfl
  · obtain ⟨d, a, s, m, v, x, rfl, M, hv, q⟩ := h
    have hs := sl
    have hu := hu_of hr
    obtain ⟨vl, hlg, tl⟩ := M.lg
    have ll := tl.length
    rw [List.length_map] at ll
    refine ⟨_, (pss_cons (ps_set (i := 2) nd rfl (Or.inl rfl) pe_int)
      (pss_cons (ps_for PassesOwn.never rfl (pi_list (pe_dget hu (pv 0) pe_str (fun _ _ => rfl))) (pg_name (i := 3) nd rfl (Or.inl rfl))
        (pss_one (ps_if (pt_cmpR (op_eqD hr.units) (pe_ix ix_tup (pv 3) pe_int (fun _ _ => rfl)) (pv 1) (nomark _))
          (pss_one (ps_set (i := 2) nd rfl (Or.inl rfl) (pe_ix ix_tup (pv 3) pe_int (fun _ _ => rfl))))
          pss_nil)))
      (pss_one (ps_ret (pv 2))))), ?_⟩
    walk_at "rds"
    refine ⟨d, _, rfl, M.g_lg, ?_⟩
    refine ⟨a.lg, rfl, ⟨_, SqL.of hlg⟩, for_list (K := K) (a := a.lg) (xs := vl) (fun i σ H' => ∃ x2 : Option V, σ = [some (.ref d), some v, some (.int (lastI (s.log.take i) x)), x2] ∧ H' = H) ?_ ?_ ?_ ?_⟩
    · exact ⟨_, rfl, rfl⟩
    · rintro i σ H' _ ⟨_, _, rfl⟩
      exact SqL.of hlg
    · rintro i y σ H' hi ⟨x2, rfl, rfl⟩
      obtain ⟨e, he, re⟩ := tl.at hi
      rw [List.getElem?_map] at he
      obtain ⟨g, hg, rfl⟩ := Option.map_eq_some_iff.mp he
      have ht : s.log.take (i + 1) = s.log.take i ++ [g] := by rw [List.take_succ, hg]; rfl
      obtain ⟨b, u, rfl, hb, tu⟩ := re.msg
      walk_at "rds"
      refine rd_eqM tu hv ?_
      walk_at "rds"
      refine iB (fun h => ?_) (fun h => ?_)
      · have h : g.1 = x := of_decide_eq_true h
        walk_at "rds"
        exact ⟨_, by rw [ht, lastI_snoc, if_pos h]; rfl, rfl⟩
      · have h : ¬ g.1 = x := of_decide_eq_false h
        walk_at "rds"
        exact ⟨_, by rw [ht, lastI_snoc, if_neg h]; rfl, rfl⟩
    · rintro σ H' ⟨x2, rfl, rfl⟩
      refine ⟨_, rfl, ?_⟩
      rw [ll, List.take_length]
      exact q
abbrev s__law_orders : Stmt := top 12
abbrev N__law_orders : List Str := ["model", "first", "last", "members", "letters", "member", "place"]
abbrev P__law_orders : List Str := ["model", "first", "last", "members"]
theorem sc__law_orders : FnScope N__law_orders P__law_orders (defScope s__law_orders) := ⟨rfl, rfl, rfl, by decide +kernel, rfl, by decide +kernel, by decide +kernel⟩
/-- members in a list or in a tuple -/
def SeqM (H : Hp) (v : V) (ms : List Mem) : Prop := ∃ b vs, v = .ref b ∧ (H b = some (.lst vs) ∨ H b = some (.tup vs)) ∧ TDs H vs (ms.map eM)
theorem seq_of {H : Hp} {v : V} {ms : List Mem} (h : TD H v (eMs ms)) : SeqM H v ms := by
  cases h with
  | tup h _ r => exact ⟨_, _, rfl, .inr h, r⟩
def sp_lords (w : World) : Sp := fun vs H Q _ => ∃ (d : Addr) (a : MA) (s : OS) (m : MS) (v : V) (ms : List Mem) (t n : Nat), vs = [.ref d, .int ((t : Int) + 1), .int ((t : Int) + (n : Int)), v] ∧ MAt w H d a s m ∧ SeqM H v ms ∧ ms.length ≤ 7 ∧ t + n ≤ s.log.length ∧ s.log.length ≤ 100000 ∧
  ∀ r H', Same H H' → H r = none → LstAt H' r ((ms.map fun x => ordR s x t n).flatten.map ePk) → Q (.ref r) H'
theorem ok_lords {f : Addr} {fd : FuncData} (T : Tx K mg CO CV) (F : Fun K "_law_orders" "_law_orders" s__law_orders f fd) : FnOk P w K mg base CX0 1 f fd P__law_orders (sp_lords w) := by
  have nd := sc__law_orders.nd
  refine F.ok sc__law_orders (fun vs H Q E h => ?_) (fun cdv A outer s H vs Q E hr h => ?_)
  · obtain ⟨_, _, _, _, _, _, _, _, rfl, _⟩ := h
    rfl
  · obtain ⟨d, a, s, m, v, ms, t, n, rfl, M, ⟨b, vs, rfl, hb, tv⟩, h7, htn, hl, q⟩ := h
    have hs := sl
    have hu := hu_of hr
    refine ⟨_, (pss_cons (ps_set (i := 4) nd rfl (Or.inl rfl) (pe_lst pa_nil))
      (pss_cons (ps_for PassesOwn.never rfl (pi_or (pi_list (pv 3)) (pi_tup (pv 3))) (pg_name (i := 5) nd rfl (Or.inl rfl))
        (pss_one (ps_for PassesOwn.never rfl (pi_range2 (by rfl) T.b_range (pa_cons (pv 1) (pa_cons (pe_op op_add (pv 2) pe_int) pa_nil))) (pg_name (i := 6) nd rfl (Or.inl rfl))
          (pss_one (ps_expr (pe_bm PySem.F.plainAttrs_list PySem.F.slot_list_append PySem.F.type_list_append mt_append (pv 4) (pa_cons (pe_tup (pa_cons (pe_ix ix_tup (pv 5) pe_int (fun _ _ => rfl)) (pa_cons (pe_tup (pa_cons pe_str (pa_cons (pe_dget hu (pv 0) pe_str (fun _ _ => rfl)) (pa_cons (pe_dget hu (pv 0) pe_str (fun _ _ => rfl)) (pa_cons (pv 6) (pa_cons (pe_ix ix_list (pe_dget hu (pv 0) pe_str (fun _ _ => rfl)) (pe_op op_sub (pv 6) pe_int) (fun _ _ => rfl)) pa_nil)))))) pa_nil))) pa_nil)))))))
      (pss_one (ps_ret (pv 4))))), ?_⟩
    refine ⟨by show 0 ≤ sizeLine; omega, fun D nD => ?_⟩
    have s1 := same_new nD (.lst [])
    have hD : (upd H D (.lst [])) D = some (.lst []) := upd_same
    generalize upd H D (.lst []) = H1 at *
    have lv := tv.length
    rw [List.length_map] at lv
    have hb1 : H1 b = some (.lst vs) ∨ H1 b = some (.tup vs) := hb.imp (s1 _ _) (s1 _ _)
    have tv1 := tv.same s1
    have M1 := M.same s1
    obtain ⟨vl, hlg, tl⟩ := M1.lg
    have ll := tl.length
    rw [List.length_map] at ll
    have olen : ∀ x, (ordR s x t n).length = n := fun x => by unfold ordR; simp
    have flen : ∀ l : List Mem, ((l.map fun x => ordR s x t n).flatten).length = l.length * n := by
      intro l
      induction l with
      | nil => simp
      | cons x l ih => rw [List.map_cons, List.flatten_cons, List.length_append, ih, olen, List.length_cons]; rw [Nat.add_mul]; omega
    have bD : b ≠ D := by rcases hb with hb | hb <;> exact ne_of_none hb nD
    refine for_seq (K := K) (k := 3) (b := b) (vs := vs) (fun i σ H' => ∃ x5 x6 : Option V, σ = [some (.ref d), some (.int ((t : Int) + 1)), some (.int ((t : Int) + (n : Int))), some (.ref b), some (.ref D), x5, x6] ∧ LstAt H' D (((ms.take i).map fun x => ordR s x t n).flatten.map ePk) ∧ (∀ c o, H1 c = some o → c ≠ D → H' c = some o)) rfl hb1 ?_ ?_ ?_ ?_
    · exact ⟨_, _, rfl, ⟨[], hD, .nil⟩, fun c o e _ => e⟩
    · rintro i σ H' ⟨_, _, _, _, k⟩ o e
      exact k b o e bD
    · rintro i y σ H' hi ⟨x5, x6, rfl, L, k⟩
      obtain ⟨e, he, re⟩ := tv1.at hi
      rw [List.getElem?_map] at he
      obtain ⟨x, hx, rfl⟩ := Option.map_eq_some_iff.mp he
      have ht : ms.take (i + 1) = ms.take i ++ [x] := by rw [List.take_succ, hx]; rfl
      have hi2 : i < ms.length := (List.getElem?_eq_some_iff.mp hx).1
      obtain ⟨bx, rfl, hbx⟩ := re.mem
      have lt : ((ms.take i).map fun x => ordR s x t n).flatten.length ≤ 700000 := by
        rw [flen, List.length_take]
        have : min i ms.length * n ≤ 7 * 100000 := Nat.mul_le_mul (by omega) (by omega)
        omega
      walk_at "rds"
      refine ⟨by omega, ?_⟩
      have en : ((t : Int) + (n : Int) + 1 - ((t : Int) + 1)).toNat = n := by omega
      rw [en]
      refine for_range (fun j σ H' => ∃ x6 : Option V, σ = [some (.ref d), some (.int ((t : Int) + 1)), some (.int ((t : Int) + (n : Int))), some (.ref b), some (.ref D), some (.ref bx), x6] ∧ LstAt H' D ((((ms.take i).map fun x => ordR s x t n).flatten ++ ordR s x t j).map ePk) ∧ (∀ c o, H1 c = some o → c ≠ D → H' c = some o)) ?_ ?_ ?_
      · have e0 : ordR s x t 0 = [] := rfl
        exact ⟨_, rfl, by rw [e0, List.append_nil]; exact L, k⟩
      · rintro j σ H2 hj ⟨x6, rfl, ⟨ws, hD2, hw⟩, k2⟩
        have lw := hw.length
        rw [List.length_map, List.length_append] at lw
        have lj : (ordR s x t j).length = j := by unfold ordR; simp
        have t12 : TupK H1 H2 := fun c xs e => k2 _ _ e (by rintro rfl; rw [hD] at e; cases e)
        have M2 : MAt w H2 d a s m := M1.mono (fun c hc o e => k2 c o e fun z => M.fresh nD (z ▸ hc)) t12
        have hbx2 : H2 bx = some (.tup [.int x.1, .int x.2]) := k2 _ _ hbx (by rintro rfl; rw [hD] at hbx; cases hbx)
        have hlg2 : H2 a.lg = some (.lst vl) := k2 _ _ hlg fun z => M.fresh nD (by rw [← z]; simp [MA.fp])
        obtain ⟨g, hg⟩ : ∃ g, s.log[t + j]? = some g := ⟨_, List.getElem?_eq_getElem (by omega)⟩
        obtain ⟨y, hy, ty⟩ := TDs.get (i := t + j) (d := eG g) tl (by rw [List.getElem?_map, hg]; rfl)
        have hgd : s.log.getD (t + j) (((0, 0), 0, ⟨#[]⟩) : Msg) = g := by rw [List.getD_eq_getElem?_getD, hg]; rfl
        have hoj : ordR s x t (j + 1) = ordR s x t j ++ [(x.1, Ltr.order s.me s.vid ((t : Int) + 1 + (j : Int)) g)] := by
          unfold ordR
          rw [List.range_succ, List.map_append, ← hgd]; rfl
        walk_at "rds"
        refine ⟨.inl ⟨rfl, _, SqL.of hD2⟩, ?_⟩
        walk_at "rds"
        refine ⟨d, _, rfl, M2.g_me, ?_⟩
        walk_at "rds"
        refine ⟨d, _, rfl, M2.g_id, ?_⟩
        walk_at "rds"
        refine ⟨d, _, rfl, M2.g_lg, ?_⟩
        walk_at "rds"
        refine ⟨a.lg, _, _, y, rfl, rfl, SqL.of hlg2, at_int (by omega) (by rw [show ((t : Int) + 1 + (j : Int) - 1).toNat = t + j by omega]; exact hy), ?_⟩
        refine ⟨by show 5 ≤ sizeLine; omega, fun u nu => ?_⟩
        refine ⟨by show 2 ≤ sizeLine; omega, fun u2 nu2 => ?_⟩
        have su := same_new nu (.tup [V.str (Str.ofString "order"), a.vme, a.vid, .int ((t : Int) + 1 + (j : Int)), y])
        have hu3 : (upd H2 u (.tup [V.str (Str.ofString "order"), a.vme, a.vid, .int ((t : Int) + 1 + (j : Int)), y])) u = some _ := upd_same
        generalize upd H2 u (.tup [V.str (Str.ofString "order"), a.vme, a.vid, .int ((t : Int) + 1 + (j : Int)), y]) = H3 at *
        have su2 := same_new nu2 (.tup [.int x.1, .ref u])
        have hu4 : (upd H3 u2 (.tup [.int x.1, .ref u])) u2 = some _ := upd_same
        generalize upd H3 u2 (.tup [.int x.1, .ref u]) = H4 at *
        have s24 := su.trans su2
        have tpk : TD H4 (.ref u2) (ePk (x.1, Ltr.order s.me s.vid ((t : Int) + 1 + (j : Int)) g)) :=
          .tup hu4 (by show 2 ≤ 100000; decide) (.cons (.int _) (.cons (.tup (su2 _ _ hu3) (by show 5 ≤ 100000; decide) (.cons (.str _) (.cons (M2.me.same s24) (.cons (M2.vid.same s24) (.cons (.int _) (.cons ((ty.mono t12).same s24) .nil)))))) .nil))
        have hD4 := s24 _ _ hD2
        refine ⟨D, ws, _, rfl, rfl, hD4, by omega, ?_⟩
        have k5 : TupK H4 (upd H4 D (.lst (ws ++ [.ref u2]))) := tupK_upd fun xs e => by rw [hD4] at e; cases e
        refine ⟨_, rfl, ⟨_, upd_same, ?_⟩, fun c o e ne => by rw [upd_ne ne]; exact s24 _ _ (k2 _ _ e ne)⟩
        rw [hoj, ← List.append_assoc, List.map_append]
        exact ((hw.same s24).mono k5).append (.cons (tpk.mono k5) .nil)
      · rintro σ H2 ⟨x6, rfl, L2, k2⟩
        refine ⟨_, _, rfl, ?_, k2⟩
        rw [ht, List.map_append, List.flatten_append]
        simpa using L2
    · rintro σ H' ⟨x5, x6, rfl, L, k⟩
      rw [lv, List.take_length] at L
      refine ⟨_, rfl, q D H' (fun c o e => ?_) nD L⟩
      exact k c o (s1 _ _ e) (ne_of_none e nD)
end
end Mus

set_option maxRecDepth 100000
set_option maxHeartbeats 4000000
namespace Mus
open PySem L2
local macro_rules | `(tactic| walk_at "rd") => `(tactic| first
  | refine ⟨_, rfl, ?_⟩ | refine ⟨(True.intro : True), ?_⟩
  | refine ⟨_, _, rfl, rfl, (⟨by decide, by decide, by decide⟩ : CPow _ _), ?_⟩
  | refine ⟨_, _, rfl, rfl, (⟨by decide, by decide⟩ : CDiv _ _), ?_⟩
  | refine ⟨_, _, rfl, rfl, (by show (0 : Int) < _; decide), ?_⟩
  | refine ⟨_, _, rfl, rfl, ?_⟩ | refine ⟨rfl, ?_⟩ | refine iteT ?_ | refine iteF ?_ | refine ⟨_, _, rfl, ?_⟩ | refine .inl ⟨_, rfl, ?_⟩
  | refine ⟨_, _, _, _, _, rfl, (by assumption), (by assumption), (by assumption), rfl, ?_⟩ | refine ⟨_, _, _, _, rfl, rfl, SqT.of (by assumption), rfl, ?_⟩ | refine ⟨_, _, rfl, SqT.of (by assumption), rfl, ?_⟩
  | refine ⟨_, _, _, _, _, rfl, .ty _, Rp.ty (by assumption), kit_int _, ?_⟩ | refine ⟨_, _, _, _, _, rfl, .ty _, Rp.ty (by assumption), kit_bool _, ?_⟩
  | refine ⟨_, _, _, _, _, rfl, .ty _, Rp.ty (by assumption), kit_str _, ?_⟩ | refine ⟨_, _, _, _, _, rfl, .ty _, Rp.ty (by assumption), kit_tup _, ?_⟩)
local macro_rules | `(tactic| walk_at "cal") => `(tactic| first
  | refine ⟨_, _, _, _, _, rfl, (by assumption), ?_⟩ | refine ⟨_, _, _, _, _, rfl, (by assumption), (by assumption), ?_⟩)
local macro_rules | `(tactic| walk_at "sq") => `(tactic| first
  | refine ⟨_, _, rfl, Or.inr (SqT.of (by assumption)), ?_⟩ | refine ⟨_, _, _, _, rfl, rfl, SqT.of (by assumption), rfl, ?_⟩)
local macro_rules | `(tactic| walk_at "rds") => `(tactic| repeat first | walk_at "rd" | walk_at "cal" | walk_at "sq")
local macro_rules | `(tactic| walk_at "ze") => `(tactic| repeat first
  | exact zes_nil | exact ze_bl | exact ze_str | exact ze_non | apply zes_cons | apply ze_tup | apply ze_lst | apply ze_cat | exact di_c | exact di_v rfl | apply di_opC | apply di_op | apply di_neg | apply ze_i | (refine (⟨?_, ?_, ?_⟩ : CPow _ _) <;> decide) | exact Nat.le_of_ble_eq_true rfl | exact ze_varD rfl (by assumption))
local macro_rules | `(tactic| walk_at "rdz") => `(tactic| repeat (fail_if_success (first | show tLst _ _ _ _ | show tAsg (tLst _) _ _ _ _ | show tSeq (tAsg (tLst _) _) _ _ _ _)); first | walk_at "rd" | walk_at "cal" | walk_at "sq")
section
variable {P : Program} {w : World} {K : PySem.W.Frag} {mg : Str → Option Value} {base : Heap} {CO CV : Addr}
/-- two new lists behind the frame fp -/
def TwoL (H0 : Hp) (fp : List Addr) (H : Hp) (l1 l2 : Addr) (gs : List Msg) (ps : List Pkt) : Prop := NewL H0 fp H l1 (gs.map eG) ∧ NewL H0 fp H l2 (ps.map ePk)
theorem TDs.tail {H : Hp} : ∀ {vs : List V} {ds : List PyData}, TDs H vs ds → TDs H vs.tail ds.tail
  | _, _, .nil => .nil
  | _, _, .cons _ r => r
theorem flat_one : ∀ (l : List Mem) (f : Mem → Pkt), (l.map fun x => [f x]).flatten = l.map f
  | [], _ => rfl
  | x :: l, f => by rw [List.map_cons, List.flatten_cons, flat_one l f]; rfl
theorem inV_int (n : Int) (ts : List Int) : inV (V.int n) (ts.map V.int) = decide (n ∈ ts) := by
  unfold inV
  rw [List.any_map, Bool.eq_iff_iff, List.any_eq_true, decide_eq_true_eq]
  constructor
  · rintro ⟨x, hx, h⟩
    have h : decide (x = n) = true := h
    rw [← of_decide_eq_true h]; exact hx
  · intro h
    exact ⟨n, h, by show decide (n = n) = true; simp⟩
theorem flat_int (ts : List Int) : (ts.map V.int).all flatV = true := by
  rw [List.all_map]
  exact List.all_eq_true.mpr fun _ _ => rfl
theorem at_last {α : Type} (xs : List α) (y : α) : atI (xs ++ [y]) (-1) = some y := by
  unfold atI
  have : ixN (xs ++ [y]).length (-1) = some xs.length := by
    unfold ixN
    rw [List.length_append, List.length_singleton, if_neg (by decide)]
    have : (-1 + ((xs.length + 1 : Nat) : Int)).toNat = xs.length := by omega
    first
      | (rw [if_pos (by omega)]; simp only [this])
      | (split <;> simp_all <;> omega)
  rw [this]
  simp
theorem cut_tail {α : Type} (x : α) (xs : List α) : ((x :: xs).drop (HT.sIx (x :: xs).length 0 (some 1))).take (HT.sIx (x :: xs).length (x :: xs).length none - HT.sIx (x :: xs).length 0 (some 1)) = xs := by
  have e : HT.sIx (x :: xs).length 0 (some 1) = 1 := (HT.sIx_nat _ _ 1).trans (by rw [List.length_cons]; omega)
  rw [e]
  show xs.take ((x :: xs).length - 1) = xs
  simp
theorem sIx_one {α : Type} (x : α) (xs : List α) : HT.sIx (x :: xs).length 0 (some 1) = 1 := (HT.sIx_nat _ _ 1).trans (by rw [List.length_cons]; omega)
abbrev s__law_cast : Stmt := top 13
abbrev N__law_cast : List Str := ["model", "payload", "own", "index", "log"]
abbrev P__law_cast : List Str := ["model", "payload"]
theorem sc__law_cast : FnScope N__law_cast P__law_cast (defScope s__law_cast) := ⟨rfl, rfl, rfl, by decide +kernel, rfl, by decide +kernel, by decide +kernel⟩
def sp_lcast (w : World) : Sp := fun vs H Q _ => ∃ (d : Addr) (a : MA) (s : OS) (m : MS) (z : Str), vs = [.ref d, .str z] ∧ MAt w H d a s m ∧ RR s m ∧ s.log.length ≤ 1000 ∧ m.own.length ≤ 1000 ∧
  ∀ t l1 l2 H', MAt w H' d a (s.cast z).1 { m with own := m.own ++ [z] } → Fr (a.fp d) (a.fp d) H H' → H' t = some (.tup [.int (s.cast z).2.1, .ref l1, .ref l2]) → TwoL H (a.fp d) H' l1 l2 (s.cast z).2.2.1 (s.cast z).2.2.2 → Q (.ref t) H'
theorem ok_lcast {f : Addr} {fd : FuncData} (T : Tx K mg CO CV) (c__law_orders : DefOk P w K mg base CX0 "_law_orders" P__law_orders 1 (sp_lords w)) (F : Fun K "_law_cast" "_law_cast" s__law_cast f fd) : FnOk P w K mg base CX0 2 f fd P__law_cast (sp_lcast w) := by
  have nd := sc__law_cast.nd
  refine F.ok sc__law_cast (fun vs H Q E h => ?_) (fun cdv A outer s H vs Q E hr h => ?_)
  · obtain ⟨_, _, _, _, _, rfl, _⟩ := h
    rfl
  · obtain ⟨d, a, s, m, z, rfl, M, R, hl, ho, q⟩ := h
    have hs := sl
    have hu := hu_of hr
    obtain ⟨vo, how, tow⟩ := M.ow
    have lo := tow.length
    rw [List.length_map] at lo
    obtain ⟨l, hhd⟩ := R.hd
    have cs : ((vo ++ [V.str z]).length : Int) = s.casts + 1 := by rw [List.length_append, List.length_singleton, lo]; have := R.own; omega
    refine ⟨_, (pss_cons (ps_set (i := 2) nd rfl (Or.inl rfl) (pe_dget hu (pv 0) pe_str (fun _ _ => rfl)))
      (pss_cons (ps_expr (pe_bm PySem.F.plainAttrs_list PySem.F.slot_list_append PySem.F.type_list_append mt_append (pv 2) (pa_cons (pv 1) pa_nil)))
      (pss_cons (ps_set (i := 3) nd rfl (Or.inl rfl) (pe_callB call_len_seq (by rfl) T.b_len (by decide +kernel) (pa_cons (pv 2) pa_nil)))
      (pss_cons (ps_if (pt_cmpR (op_eqD hr.units) (pe_dget hu (pv 0) pe_str (fun _ _ => rfl)) (pe_ix ix_tup (pe_dget hu (pv 0) pe_str (fun _ _ => rfl)) pe_int (fun _ _ => rfl)) (nomark _))
        (pss_cons (ps_set (i := 4) nd rfl (Or.inl rfl) (pe_dget hu (pv 0) pe_str (fun _ _ => rfl)))
        (pss_cons (ps_expr (pe_bm PySem.F.plainAttrs_list PySem.F.slot_list_append PySem.F.type_list_append mt_append (pv 4) (pa_cons (pe_tup (pa_cons (pe_dget hu (pv 0) pe_str (fun _ _ => rfl)) (pa_cons (pv 3) (pa_cons (pv 1) pa_nil)))) pa_nil)))
        (pss_one (ps_ret (pe_tup (pa_cons (pv 3) (pa_cons (pe_lst (pa_cons (pe_ix ix_list (pv 4) (pe_un un_neg pe_int) (fun _ _ => rfl)) pa_nil)) (pa_cons (pcall c__law_orders hr (pa_cons (pv 0) (pa_cons (pe_callB call_len_seq (by rfl) T.b_len (by decide +kernel) (pa_cons (pv 4) pa_nil)) (pa_cons (pe_callB call_len_seq (by rfl) T.b_len (by decide +kernel) (pa_cons (pv 4) pa_nil)) (pa_cons (pe_slice sl_tupA (pe_dget hu (pv 0) pe_str (fun _ _ => rfl)) (po_some pe_int) po_none) pa_nil))))) pa_nil))))))))
        pss_nil)
      (pss_one (ps_ret (pe_tup (pa_cons (pv 3) (pa_cons (pe_lst pa_nil) (pa_cons (pe_lst (pa_cons (pe_tup (pa_cons (pe_ix ix_tup (pe_ix ix_tup (pe_dget hu (pv 0) pe_str (fun _ _ => rfl)) pe_int (fun _ _ => rfl)) pe_int (fun _ _ => rfl)) (pa_cons (pe_tup (pa_cons pe_str (pa_cons (pe_dget hu (pv 0) pe_str (fun _ _ => rfl)) (pa_cons (pe_dget hu (pv 0) pe_str (fun _ _ => rfl)) (pa_cons (pv 3) (pa_cons (pv 1) pa_nil)))))) pa_nil))) pa_nil)) pa_nil)))))))))), ?_⟩
    walk_at "rds"
    refine ⟨d, _, rfl, M.g_ow, ?_⟩
    walk_at "rds"
    refine ⟨.inl ⟨rfl, _, SqL.of how⟩, ?_⟩
    walk_at "rds"
    refine ⟨a.ow, vo, _, rfl, rfl, how, by omega, ?_⟩
    obtain ⟨M1, F1⟩ := M.addOwn (z := z) how tow
    have how1 : (upd H a.ow (.lst (vo ++ [V.str z]))) a.ow = some (.lst (vo ++ [V.str z])) := upd_same
    generalize upd H a.ow (.lst (vo ++ [V.str z])) = H1 at *
    obtain ⟨vl, hlg, tl⟩ := M1.lg
    have ll := tl.length
    rw [List.length_map] at ll
    have hms := M1.ms
    rw [hhd] at hms
    obtain ⟨bm, xs, em, hbm, lxs, rms⟩ := TD.tupI hms
    obtain ⟨vf, vr, rfl, rf, rr⟩ := TDs.consI (d := eM s.fd) (ds := l.map eM) rms
    have gms : DGet H1 d (.str "members") (some (.ref bm)) := by rw [← em]; exact M1.g_ms
    walk_at "rds"
    refine ⟨a.ow, _, rfl, .inl (SqL.of how1), ?_⟩
    rw [cs]
    walk_at "rds"
    refine ⟨d, _, rfl, M1.g_me, ?_⟩
    walk_at "rds"
    refine ⟨d, _, rfl, gms, ?_⟩
    refine ⟨bm, _, _, vf, rfl, rfl, SqT.of hbm, at_int (by decide) rfl, ?_⟩
    refine rd_eqM M1.me rf ?_
    refine ⟨_, rfl, ?_⟩
    have c0 := R.c0
    by_cases h : s.me = s.fd
    · have e : s.cast z = (({ s with casts := s.casts + 1 } : OS).deliver (s.me, s.casts + 1, z), s.casts + 1, [(s.me, s.casts + 1, z)], ({ s with casts := s.casts + 1 } : OS).ords ((s.log.length : Int) + 1) (s.me, s.casts + 1, z)) := if_pos h
      rw [decide_eq_true h]
      refine iteT ?_
      walk_at "rds"
      refine ⟨d, _, rfl, M1.g_lg, ?_⟩
      walk_at "rds"
      refine ⟨.inl ⟨rfl, _, SqL.of hlg⟩, ?_⟩
      walk_at "rds"
      refine ⟨d, _, rfl, M1.g_me, ?_⟩
      walk_at "rds"
      refine ⟨by show 3 ≤ sizeLine; omega, fun u nu => ?_⟩
      have su := same_new nu (.tup [a.vme, V.int (s.casts + 1), V.str z])
      have hu2 : (upd H1 u (.tup [a.vme, V.int (s.casts + 1), V.str z])) u = some _ := upd_same
      generalize upd H1 u (.tup [a.vme, V.int (s.casts + 1), V.str z]) = H2 at *
      have M2 := M1.same su
      have hlg2 := su _ _ hlg
      have tg : TD H2 (.ref u) (eG (s.me, s.casts + 1, z)) := td_msg hu2 M2.me
      refine ⟨a.lg, vl, _, rfl, rfl, hlg2, by omega, ?_⟩
      obtain ⟨M3, F3⟩ := M2.addLog (s2 := (s.cast z).1) hlg2 (tl.same su) tg (by rw [e]; rfl) (by rw [e]; rfl) (by rw [e]; rfl) (by rw [e]; rfl)
      have hlg3 : (upd H2 a.lg (.lst (vl ++ [.ref u]))) a.lg = some (.lst (vl ++ [.ref u])) := upd_same
      generalize upd H2 a.lg (.lst (vl ++ [.ref u])) = H3 at *
      have F13 : Fr (a.fp d) (a.fp d) H H3 := F1.trans ((Fr.of su).trans F3)
      walk_at "rds"
      refine ⟨a.lg, _, _, .ref u, rfl, rfl, SqL.of hlg3, at_last vl _, ?_⟩
      refine ⟨by show 1 ≤ sizeLine; omega, fun l1 n1 => ?_⟩
      have s4 := same_new n1 (.lst [.ref u])
      have hl1 : (upd H3 l1 (.lst [.ref u])) l1 = some (.lst [.ref u]) := upd_same
      generalize upd H3 l1 (.lst [.ref u]) = H4 at *
      have M4 := M3.same s4
      have hlg4 := s4 _ _ hlg3
      have ev : (vl ++ [V.ref u]).length = s.log.length + 1 := by rw [List.length_append, List.length_singleton, ll]
      walk_at "rds"
      refine ⟨a.lg, _, rfl, .inl (SqL.of hlg4), ?_⟩
      walk_at "rds"
      refine ⟨a.lg, _, rfl, .inl (SqL.of hlg4), ?_⟩
      walk_at "rds"
      rw [ev]
      have gms4 : DGet H4 d (.str "members") (some (.ref bm)) := by rw [← em]; exact M4.g_ms
      have F14 : Fr (a.fp d) (a.fp d) H H4 := F13.trans (Fr.of s4)
      have t14 : TupK H1 H4 := (TupK.of su).trans (F3.t.trans (TupK.of s4))
      have hbm4 := t14 _ _ hbm
      refine ⟨d, _, rfl, gms4, ?_⟩
      walk_at "rds"
      refine ⟨bm, _, rfl, SqT.of hbm4, fun hw => ?_, fun _ p np => ?_⟩
      · exact absurd hw.1 (by rw [sIx_one]; decide)
      have ec : cutV (vf :: vr) (some 1) none = vr := cut_tail vf vr
      rw [ec]
      have s5 := same_new np (.tup vr)
      have hp5 : (upd H4 p (.tup vr)) p = some (.tup vr) := upd_same
      generalize upd H4 p (.tup vr) = H5 at *
      have M5 := M4.same s5
      have lr := rr.length
      rw [List.length_map] at lr
      have l7 := R.len
      rw [hhd, List.length_cons] at l7
      have lcast : (s.cast z).1.log.length = s.log.length + 1 := by rw [e]; show (s.log ++ [_]).length = _; rw [List.length_append, List.length_singleton]
      refine ⟨d, a, _, _, .ref p, l, s.log.length, 1, ?_, M5, ⟨p, vr, rfl, .inr hp5, (rr.mono t14).same s5⟩, by omega, by omega, by omega, fun l2 H6 s6 n6 L6 => ?_⟩
      · rfl
      have hl6 := s6 _ _ (s5 _ _ hl1)
      have d12 : l1 ≠ l2 := ne_of_none (s5 _ _ hl1) n6
      refine ⟨by show 3 ≤ sizeLine; omega, fun t nt => ?_⟩
      have s7 := same_new nt (.tup [V.int (s.casts + 1), .ref l1, .ref l2])
      have s47 := s5.trans (s6.trans s7)
      have F17 := F14.trans (Fr.of (fp := a.fp d) s47)
      have M7 := M4.same s47
      have ords : ((l.map fun x => ordR (s.cast z).1 x s.log.length 1).flatten) = (s.cast z).2.2.2 := by
        have e1 : ∀ x, ordR (s.cast z).1 x s.log.length 1 = [(x.1, Ltr.order s.me s.vid ((s.log.length : Int) + 1) (s.me, s.casts + 1, z))] := fun x => by
          rw [e]; exact ordR_one (s := ({ s with casts := s.casts + 1 } : OS).deliver (s.me, s.casts + 1, z)) rfl
        have e2 : (fun x => ordR (s.cast z).1 x s.log.length 1) = fun x : Mem => [((x.1, Ltr.order s.me s.vid ((s.log.length : Int) + 1) (s.me, s.casts + 1, z)) : Pkt)] := funext e1
        rw [e2, flat_one, e]
        show _ = (({ s with casts := s.casts + 1 } : OS).others).map _
        rw [OS.others_tail (s := ({ s with casts := s.casts + 1 } : OS)) hhd R.nd h]
      rw [ords] at L6
      refine q t l1 l2 _ M7 F17 (by rw [e]; exact upd_same) ⟨⟨⟨[.ref u], ?_, ?_⟩, ?_, ?_⟩, ⟨L6.mono (s7 _) (TupK.of s7), ?_, ?_⟩⟩
      · exact s7 _ _ hl6
      · rw [e]; exact .cons ((tg.mono F3.t).same (s4.trans s47)) .nil
      · exact F13.s _ n1
      · exact M3.fresh n1
      · exact F14.s _ ((Fr.of (fp := []) s5).s _ n6)
      · exact M5.fresh n6
    · have e : s.cast z = ({ s with casts := s.casts + 1, pend := s.pend ++ [(s.casts + 1, z)] }, s.casts + 1, [], [s.castL (s.casts + 1, z)]) := if_neg h
      rw [decide_eq_false h]
      refine iteF ?_
      obtain ⟨bf, rfl, hbf⟩ := rf.mem
      walk_at "rds"
      refine ⟨by show 0 ≤ sizeLine; omega, fun l1 n1 => ?_⟩
      have s2 := same_new n1 (.lst [])
      have hl1 : (upd H1 l1 (.lst [])) l1 = some (.lst []) := upd_same
      generalize upd H1 l1 (.lst []) = H2 at *
      have M2 := M1.same s2
      have gms2 : DGet H2 d (.str "members") (some (.ref bm)) := by rw [← em]; exact M2.g_ms
      have hbm2 := s2 _ _ hbm
      have hbf2 := s2 _ _ hbf
      walk_at "rds"
      refine ⟨d, _, rfl, gms2, ?_⟩
      refine ⟨bm, _, _, .ref bf, rfl, rfl, SqT.of hbm2, at_int (by decide) rfl, ?_⟩
      walk_at "rds"
      refine ⟨d, _, rfl, M2.g_me, ?_⟩
      walk_at "rds"
      refine ⟨d, _, rfl, M2.g_id, ?_⟩
      walk_at "rds"
      refine ⟨by show 5 ≤ sizeLine; omega, fun u nu => ?_⟩
      have s3 := same_new nu (.tup [V.str (Str.ofString "cast"), a.vme, a.vid, V.int (s.casts + 1), V.str z])
      have hu3 : (upd H2 u (.tup [V.str (Str.ofString "cast"), a.vme, a.vid, V.int (s.casts + 1), V.str z])) u = some _ := upd_same
      generalize upd H2 u (.tup [V.str (Str.ofString "cast"), a.vme, a.vid, V.int (s.casts + 1), V.str z]) = H3 at *
      refine ⟨by show 2 ≤ sizeLine; omega, fun u2 nu2 => ?_⟩
      have s4 := same_new nu2 (.tup [V.int s.fd.1, V.ref u])
      have hu4 : (upd H3 u2 (.tup [V.int s.fd.1, V.ref u])) u2 = some _ := upd_same
      generalize upd H3 u2 (.tup [V.int s.fd.1, V.ref u]) = H4 at *
      refine ⟨by show 1 ≤ sizeLine; omega, fun l2 n2 => ?_⟩
      have s5 := same_new n2 (.lst [V.ref u2])
      have hl2 : (upd H4 l2 (.lst [V.ref u2])) l2 = some _ := upd_same
      generalize upd H4 l2 (.lst [V.ref u2]) = H5 at *
      refine ⟨by show 3 ≤ sizeLine; omega, fun t nt => ?_⟩
      have s6 := same_new nt (.tup [V.int (s.casts + 1), .ref l1, .ref l2])
      have s26 := s3.trans (s4.trans (s5.trans s6))
      have s16 := s2.trans s26
      have M6 : MAt w (upd H5 t (.tup [V.int (s.casts + 1), .ref l1, .ref l2])) d a (s.cast z).1 { m with own := m.own ++ [z] } := by
        rw [e]
        exact { ob := (M1.same s16).ob, me := (M1.same s16).me, vid := (M1.same s16).vid, ms := (M1.same s16).ms, lg := (M1.same s16).lg, ea := (M1.same s16).ea, ow := (M1.same s16).ow, ct := (M1.same s16).ct, ap := (M1.same s16).ap }
      refine q t l1 l2 _ M6 (F1.trans (Fr.of s16)) (by rw [e]; exact upd_same) ⟨⟨⟨[], s26 _ _ hl1, by rw [e]; exact .nil⟩, F1.s _ n1, M1.fresh n1⟩, ⟨⟨[.ref u2], s6 _ _ hl2, ?_⟩, ?_, ?_⟩⟩
      · rw [e]
        have s36 := s4.trans (s5.trans s6)
        exact .cons (.tup ((s5.trans s6) _ _ hu4) (by show 2 ≤ 100000; decide) (.cons (.int _) (.cons (.tup (s36 _ _ hu3) (by show 5 ≤ 100000; decide) (.cons (.str _) (.cons (M1.me.same s16) (.cons (M1.vid.same s16) (.cons (.int _) (.cons (.str _) .nil)))))) .nil))) .nil
      · exact F1.s _ ((Fr.of (fp := []) (s2.trans (s3.trans s4))).s _ n2)
      · exact (M1.same (s2.trans (s3.trans s4))).fresh n2
abbrev s__law_pending : Stmt := top 15
abbrev N__law_pending : List Str := ["model", "own", "told", "message", "k"]
abbrev P__law_pending : List Str := ["model"]
theorem sc__law_pending : FnScope N__law_pending P__law_pending (defScope s__law_pending) := ⟨rfl, rfl, rfl, by decide +kernel, rfl, by decide +kernel, by decide +kernel⟩
def sp_lpend (w : World) : Sp := fun vs H Q _ => ∃ (d : Addr) (a : MA) (s : OS) (m : MS), vs = [.ref d] ∧ MAt w H d a s m ∧ RR s m ∧ s.log.length ≤ 1000 ∧ m.own.length ≤ 1000 ∧ ∀ r H', Same H H' → TD H' (.ref r) (eCs s.pend) → Q (.ref r) H'
theorem ok_lpend {f : Addr} {fd : FuncData} (T : Tx K mg CO CV) (F : Fun K "_law_pending" "_law_pending" s__law_pending f fd) : FnOk P w K mg base CX0 1 f fd P__law_pending (sp_lpend w) := by
  have nd := sc__law_pending.nd
  refine F.ok sc__law_pending (fun vs H Q E h => ?_) (fun cdv A outer s H vs Q E hr h => ?_)
  · obtain ⟨_, _, _, _, rfl, _⟩ := h
    rfl
  · obtain ⟨d, a, s, m, rfl, M, R, hl, ho, q⟩ := h
    have hs := sl
    have hu := hu_of hr
    obtain ⟨vo, how, tow⟩ := M.ow
    have lo := tow.length
    rw [List.length_map] at lo
    obtain ⟨vl, hlg, tl⟩ := M.lg
    have ll := tl.length
    rw [List.length_map] at ll
    refine ⟨_, (pss_cons (ps_set (i := 1) nd rfl (Or.inr rfl) (pe_dget hu (pv 0) pe_str (fun _ _ => rfl)))
      (pss_cons (ps_set (i := 2) nd rfl (Or.inr rfl) (pe_lcX (own := [("message", 3)]) rfl nd (pi_list (pe_dget hu (pv 0) pe_str (fun _ _ => rfl))) (blkOk_by (own := [("message", 3)]) (N := N__law_pending) (sc := defScope s__law_pending) (by decide +kernel)) (fun _ _ _ _ _ => (pg_name (i := 3) nd rfl (Or.inl rfl))) (fun _ _ _ _ _ => (pts_one (pt_cmpR (op_eqD hr.units) (pe_ix ix_tup (pv 3) pe_int (fun _ _ => rfl)) (pe_dget hu (pv 0) pe_str (fun _ _ => rfl)) (nomark _)))) (fun _ _ _ _ _ => (pe_ix ix_tup (pv 3) pe_int (fun _ _ => rfl)))))
      (pss_one (ps_ret (pe_callTy call_tuple_of (by rfl) T.b_tuple (by decide +kernel) (pa_cons (pe_lcX (own := [("k", 4)]) rfl nd (pi_range1 (by rfl) T.b_range (pa_cons (pe_callB call_len_seq (by rfl) T.b_len (by decide +kernel) (pa_cons (pv 1) pa_nil)) pa_nil)) (blkOk_by (own := [("k", 4)]) (N := N__law_pending) (sc := defScope s__law_pending) (by decide +kernel)) (fun _ _ _ _ _ => (pg_name (i := 4) nd rfl (Or.inl rfl))) (fun _ _ _ _ _ => (pts_one (pt_cmpR op_notIn_seq (pe_op op_add (pv 4) pe_int) (pv 2) (by rfl)))) (fun _ _ _ _ _ => (pe_tup (pa_cons (pe_op op_add (pv 4) pe_int) (pa_cons (pe_ix ix_list (pv 1) (pv 4) (fun _ _ => rfl)) pa_nil))))) pa_nil)))))), ?_⟩
    walk_at "rds"
    refine ⟨d, _, rfl, M.g_ow, ?_⟩
    walk_at "rds"
    refine ⟨d, _, rfl, M.g_lg, ?_⟩
    refine ⟨a.lg, rfl, ⟨_, SqL.of hlg⟩, fun D nD => ?_⟩
    have sD := same_new nD (.lst [])
    have hD : (upd H D (.lst [])) D = some (.lst []) := upd_same
    refine lc_list (K := K) (a := a.lg) (xs := vl) (fun i H' => H' D = some (.lst ((toldI (s.log.take i) s.me).map V.int)) ∧ Same H H') ?_ ?_ ?_ ?_
    · exact ⟨hD, sD⟩
    · rintro i H' _ ⟨_, k⟩
      exact SqL.of (k _ _ hlg)
    · rintro i y H' hi ⟨hD2, k⟩
      obtain ⟨e, he, re⟩ := tl.at hi
      rw [List.getElem?_map] at he
      obtain ⟨g, hg, rfl⟩ := Option.map_eq_some_iff.mp he
      have ht : s.log.take (i + 1) = s.log.take i ++ [g] := by rw [List.take_succ, hg]; rfl
      obtain ⟨b, u, rfl, hb, tu⟩ := re.msg
      have hb2 := k _ _ hb
      have lt : (toldI (s.log.take i) s.me).length ≤ 1000 := by
        unfold toldI
        rw [List.length_map]
        have := List.length_filter_le (fun g : Msg => decide (g.1 = s.me)) (s.log.take i)
        rw [List.length_take] at this; omega
      refine ⟨rfl, ?_⟩
      walk_at "rds"
      refine ⟨d, _, rfl, (M.same k).g_me, ?_⟩
      refine rd_eqM (tu.same k) (M.same k).me ?_
      refine ⟨_, rfl, ?_⟩
      refine iB (fun h => ?_) (fun h => ?_)
      · have h : g.1 = s.me := of_decide_eq_true h
        walk_at "rds"
        refine ⟨_, hD2, by rw [List.length_map]; omega, ?_, fun c o e => by rw [upd_ne (ne_of_none e nD)]; exact k _ _ e⟩
        rw [upd_same, ht, toldI_snoc, if_pos h, List.map_append]; rfl
      · have h : ¬ g.1 = s.me := of_decide_eq_false h
        exact ⟨by rw [ht, toldI_snoc, if_neg h]; exact hD2, k⟩
    · rintro H2 ⟨hD2, k⟩
      rw [ll, List.take_length] at hD2
      walk_at "rds"
      refine ⟨a.ow, _, rfl, .inl (SqL.of (k _ _ how)), ?_⟩
      rw [lo]
      refine ⟨_, rfl, by omega, by omega, fun D2 nD2 => ?_⟩
      have en : ((m.own.length : Nat) : Int).toNat = m.own.length := Int.toNat_natCast _
      rw [en]
      have s2 := same_new nD2 (.lst [])
      refine lc_range (lo := 0) (n := m.own.length) (fun i H' => ∃ ws, H' D2 = some (.lst ws) ∧ TDs H' ws ((pnd 1 (m.own.take i) (toldI s.log s.me)).map eC) ∧ Same H2 H') ?_ ?_ ?_
      · exact ⟨[], upd_same, .nil, s2⟩
      · rintro i H' hi ⟨ws, h2, tw, k2⟩
        have h02 : Same H H' := k.trans k2
        obtain ⟨y, hy, ty⟩ := TDs.get (i := i) (d := .str (m.own[i])) tow (by rw [List.getElem?_map, List.getElem?_eq_getElem hi]; rfl)
        cases ty with
        | str =>
        have ht : m.own.take (i + 1) = m.own.take i ++ [m.own[i]] := by rw [List.take_succ, List.getElem?_eq_getElem hi]; rfl
        have e1 : (1 : Int) + ((m.own.take i).length : Int) = 0 + (i : Int) + 1 := by rw [List.length_take]; omega
        have ps := pnd_snoc 1 (m.own.take i) m.own[i] (toldI s.log s.me)
        rw [← ht, e1] at ps
        have lw := tw.length
        have := pnd_len 1 (m.own.take i) (toldI s.log s.me)
        rw [List.length_map] at lw
        rw [List.length_take] at this
        refine ⟨rfl, ?_⟩
        walk_at "rds"
        refine ⟨D, _, rfl, .inl (SqL.of (k2 _ _ hD2)), rfl, flat_int _, ?_⟩
        refine ⟨_, rfl, ?_⟩
        dsimp only
        rw [if_pos rfl, inV_int]
        by_cases q : 0 + (i : Int) + 1 ∈ toldI s.log s.me
        · rw [decide_eq_true q]
          refine iteF ?_
          exact ⟨ws, h2, by rw [ps, if_pos q, List.append_nil]; exact tw, k2⟩
        · rw [decide_eq_false q]
          refine iteT ?_
          walk_at "rds"
          refine ⟨a.ow, _, _, _, rfl, rfl, SqL.of (h02 _ _ how), at_int (by omega) (by rw [show (0 + (i : Int)).toNat = i by omega]; exact hy), ?_⟩
          refine ⟨by show 2 ≤ sizeLine; omega, fun u nu => ?_⟩
          have su := same_new nu (.tup [V.int (0 + (i : Int) + 1), V.str m.own[i]])
          have hu2 : (upd H' u (.tup [V.int (0 + (i : Int) + 1), V.str m.own[i]])) u = some _ := upd_same
          generalize upd H' u (.tup [V.int (0 + (i : Int) + 1), V.str m.own[i]]) = H3 at *
          have h3 := su _ _ h2
          refine ⟨ws, h3, by omega, ?_⟩
          have kt : TupK H3 (upd H3 D2 (.lst (ws ++ [.ref u]))) := tupK_upd fun xs e => by rw [h3] at e; cases e
          refine ⟨_, upd_same, ?_, fun c o e => by rw [upd_ne (ne_of_none e nD2)]; exact su _ _ (k2 _ _ e)⟩
          rw [ps, if_neg q, List.map_append]
          exact ((tw.same su).mono kt).append (.cons ((td_cst (c := (0 + (i : Int) + 1, m.own[i])) hu2).mono kt) .nil)
      · rintro H' ⟨ws, h2, tw, k2⟩
        rw [List.take_length, ← R.pend] at tw
        have lw := tw.length
        rw [List.length_map] at lw
        have lp := R.pl
        refine ⟨D2, _, rfl, .inl ⟨SqL.of h2, fun b nb => ?_⟩⟩
        exact q b _ ((k.trans k2).trans (same_new nb _)) (.tup upd_same (by omega) (tw.same (same_new nb _)))
end
end Mus

set_option maxRecDepth 100000
set_option maxHeartbeats 4000000
namespace Mus
open PySem L2
local macro_rules | `(tactic| walk_at "rd") => `(tactic| first
  | refine ⟨_, rfl, ?_⟩ | refine ⟨(True.intro : True), ?_⟩
  | refine ⟨_, _, rfl, rfl, (⟨by decide, by decide, by decide⟩ : CPow _ _), ?_⟩
  | refine ⟨_, _, rfl, rfl, (⟨by decide, by decide⟩ : CDiv _ _), ?_⟩
  | refine ⟨_, _, rfl, rfl, (by show (0 : Int) < _; decide), ?_⟩
  | refine ⟨_, _, rfl, rfl, ?_⟩ | refine ⟨rfl, ?_⟩ | refine iteT ?_ | refine iteF ?_ | refine ⟨_, _, rfl, ?_⟩ | refine .inl ⟨_, rfl, ?_⟩
  | refine ⟨_, _, _, _, _, rfl, (by assumption), (by assumption), (by assumption), rfl, ?_⟩ | refine ⟨_, _, _, _, rfl, rfl, SqT.of (by assumption), rfl, ?_⟩ | refine ⟨_, _, rfl, SqT.of (by assumption), rfl, ?_⟩
  | refine ⟨_, _, _, _, _, rfl, .ty _, Rp.ty (by assumption), kit_int _, ?_⟩ | refine ⟨_, _, _, _, _, rfl, .ty _, Rp.ty (by assumption), kit_bool _, ?_⟩
  | refine ⟨_, _, _, _, _, rfl, .ty _, Rp.ty (by assumption), kit_str _, ?_⟩ | refine ⟨_, _, _, _, _, rfl, .ty _, Rp.ty (by assumption), kit_tup _, ?_⟩)
local macro_rules | `(tactic| walk_at "cal") => `(tactic| first
  | refine ⟨_, _, _, _, _, rfl, (by assumption), ?_⟩ | refine ⟨_, _, _, _, _, rfl, (by assumption), (by assumption), ?_⟩)
local macro_rules | `(tactic| walk_at "sq") => `(tactic| first
  | refine ⟨_, _, rfl, Or.inr (SqT.of (by assumption)), ?_⟩ | refine ⟨_, _, _, _, rfl, rfl, SqT.of (by assumption), rfl, ?_⟩)
local macro_rules | `(tactic| walk_at "rds") => `(tactic| repeat first | walk_at "rd" | walk_at "cal" | walk_at "sq")
local macro_rules | `(tactic| walk_at "ze") => `(tactic| repeat first
  | exact zes_nil | exact ze_bl | exact ze_str | exact ze_non | apply zes_cons | apply ze_tup | apply ze_lst | apply ze_cat | exact di_c | exact di_v rfl | apply di_opC | apply di_op | apply di_neg | apply ze_i | (refine (⟨?_, ?_, ?_⟩ : CPow _ _) <;> decide) | exact Nat.le_of_ble_eq_true rfl | exact ze_varD rfl (by assumption))
local macro_rules | `(tactic| walk_at "rdz") => `(tactic| repeat (fail_if_success (first | show tLst _ _ _ _ | show tAsg (tLst _) _ _ _ _ | show tSeq (tAsg (tLst _) _) _ _ _ _)); first | walk_at "rd" | walk_at "cal" | walk_at "sq")
section
variable {P : Program} {w : World} {K : PySem.W.Frag} {mg : Str → Option Value} {base : Heap} {CO CV : Addr}
theorem take16 {α : Type} (xs : List α) : (xs.drop (HT.sIx xs.length 0 none)).take (HT.sIx xs.length xs.length (some 16) - HT.sIx xs.length 0 none) = xs.take 16 := by
  have e : HT.sIx xs.length xs.length (some 16) = min 16 xs.length := HT.sIx_nat _ _ 16
  rw [e]
  show (xs.drop 0).take (min 16 xs.length - 0) = _
  rw [List.drop_zero, Nat.sub_zero]
  by_cases h : 16 ≤ xs.length
  · rw [Nat.min_eq_left h]
  · rw [Nat.min_eq_right (by omega), List.take_length, List.take_of_length_le (by omega)]
theorem slA16 {H : Hp} {x : V} {ds : List PyData} {Q : VK} (h : TD H x (.tuple ds)) (q : ∀ p H', Same H H' → TD H' (.ref p) (.tuple (ds.take 16)) → Q (.ref p) H') : rSlA K x none (some 16) H Q := by
  obtain ⟨a, xs, rfl, ha, la, ra⟩ := h.tupI
  have lr := ra.length
  refine ⟨a, xs, rfl, SqT.of ha, fun hw => ?_, fun hw p np => ?_⟩
  · have e : HT.sIx xs.length xs.length (some 16) = min 16 xs.length := HT.sIx_nat _ _ 16
    have := hw.2
    rw [e] at this
    exact q a H (Same.rfl' H) (by rw [List.take_of_length_le (by omega)]; exact h)
  · have ec : cutV xs none (some 16) = xs.take 16 := take16 xs
    rw [ec]
    exact q p _ (same_new np _) (.tup upd_same (by rw [List.length_take]; omega) ((ra.take 16).same (same_new np _)))
theorem slA1 {H : Hp} {x : V} {d : PyData} {ds : List PyData} {Q : VK} (h : TD H x (.tuple (d :: ds))) (q : ∀ p H', Same H H' → TD H' (.ref p) (.tuple ds) → Q (.ref p) H') : rSlA K x (some 1) none H Q := by
  obtain ⟨a, xs, rfl, ha, la, ra⟩ := h.tupI
  obtain ⟨v, vr, rfl, r1, r2⟩ := ra.consI
  refine ⟨a, _, rfl, SqT.of ha, fun hw => ?_, fun hw p np => ?_⟩
  · exact absurd hw.1 (by rw [sIx_one]; decide)
  · have ec : cutV (v :: vr) (some 1) none = vr := cut_tail v vr
    rw [ec]
    exact q p _ (same_new np _) (.tup upd_same (by rw [List.length_cons] at la; omega) (r2.same (same_new np _)))
abbrev s__law_again : Stmt := top 16
abbrev N__law_again : List Str := ["model", "founder", "rows", "letters", "member", "count", "row"]
abbrev P__law_again : List Str := ["model"]
theorem sc__law_again : FnScope N__law_again P__law_again (defScope s__law_again) := ⟨rfl, rfl, rfl, by decide +kernel, rfl, by decide +kernel, by decide +kernel⟩
def sp_lag (w : World) : Sp := fun vs H Q _ => ∃ (d : Addr) (a : MA) (s : OS) (m : MS), vs = [.ref d] ∧ MAt w H d a s m ∧ RR s m ∧ s.log.length ≤ 1000 ∧ m.own.length ≤ 1000 ∧ ∀ r H', Same H H' → H r = none → LstAt H' r (s.again.map ePk) → Q (.ref r) H'
theorem ok_lag {f : Addr} {fd : FuncData} (T : Tx K mg CO CV) (c__law_orders : DefOk P w K mg base CX0 "_law_orders" P__law_orders 1 (sp_lords w)) (c__law_pending : DefOk P w K mg base CX0 "_law_pending" P__law_pending 1 (sp_lpend w)) (F : Fun K "_law_again" "_law_again" s__law_again f fd) : FnOk P w K mg base CX0 2 f fd P__law_again (sp_lag w) := by
  have nd := sc__law_again.nd
  refine F.ok sc__law_again (fun vs H Q E h => ?_) (fun cdv A outer s H vs Q E hr h => ?_)
  · obtain ⟨_, _, _, _, rfl, _⟩ := h
    rfl
  · obtain ⟨d, a, s, m, rfl, M, R, hl, ho, q⟩ := h
    have hs := sl
    have hu := hu_of hr
    obtain ⟨l, hhd⟩ := R.hd
    have hms := M.ms
    rw [hhd] at hms
    obtain ⟨bm, xs, em, hbm, lxs, rms⟩ := TD.tupI hms
    obtain ⟨vf, vr, rfl, rf, rr⟩ := TDs.consI (d := eM s.fd) (ds := l.map eM) rms
    have gms : DGet H d (.str "members") (some (.ref bm)) := by rw [← em]; exact M.g_ms
    have al := R.len
    rw [hhd, List.length_cons] at al
    refine ⟨_, (pss_cons (ps_if (pt_cmpR (op_neD hr.units) (pe_dget hu (pv 0) pe_str (fun _ _ => rfl)) (pe_ix ix_tup (pe_dget hu (pv 0) pe_str (fun _ _ => rfl)) pe_int (fun _ _ => rfl)) (nomark _))
        (pss_cons (ps_set (i := 1) nd rfl (Or.inr rfl) (pe_ix ix_tup (pe_ix ix_tup (pe_dget hu (pv 0) pe_str (fun _ _ => rfl)) pe_int (fun _ _ => rfl)) pe_int (fun _ _ => rfl)))
        (pss_cons (ps_set (i := 2) nd rfl (Or.inl rfl) (pe_slice sl_tupA (pcall c__law_pending hr (pa_cons (pv 0) pa_nil)) po_none (po_some pe_int)))
        (pss_one (ps_ret (pe_lcX (own := [("row", 6)]) rfl nd (pi_tup (pv 2)) (blkOk_by (own := [("row", 6)]) (N := N__law_again) (sc := defScope s__law_again) (by decide +kernel)) (fun _ _ _ _ _ => (pg_name (i := 6) nd rfl (Or.inl rfl))) (fun _ _ _ _ _ => pts_nil) (fun _ _ _ _ _ => (pe_tup (pa_cons (pv 1) (pa_cons (pe_tup (pa_cons pe_str (pa_cons (pe_dget hu (pv 0) pe_str (fun _ _ => rfl)) (pa_cons (pe_dget hu (pv 0) pe_str (fun _ _ => rfl)) (pa_cons (pe_ix ix_tup (pv 6) pe_int (fun _ _ => rfl)) (pa_cons (pe_ix ix_tup (pv 6) pe_int (fun _ _ => rfl)) pa_nil)))))) pa_nil)))))))))
        pss_nil)
      (pss_cons (ps_set (i := 3) nd rfl (Or.inl rfl) (pe_lst pa_nil))
      (pss_cons (ps_for PassesOwn.never rfl (pi_tup (pe_slice sl_tupA (pe_dget hu (pv 0) pe_str (fun _ _ => rfl)) (po_some pe_int) po_none)) (pg_name (i := 4) nd rfl (Or.inl rfl))
        (pss_cons (ps_set (i := 5) nd rfl (Or.inl rfl) (pe_nget2 hr.units (pe_dget hu (pv 0) pe_str (fun _ _ => rfl)) (pv 4) pe_int ⟨rfl, rfl, rfl, rfl⟩))
        (pss_one (ps_set (i := 3) nd rfl (Or.inl rfl) (pe_op op_cat (pv 3) (pcall c__law_orders hr (pa_cons (pv 0) (pa_cons (pe_op op_add (pv 5) pe_int) (pa_cons (pe_callB (call_min2 rfl) (by rfl) T.b_min (by decide +kernel) (pa_cons (pe_callB call_len_seq (by rfl) T.b_len (by decide +kernel) (pa_cons (pe_dget hu (pv 0) pe_str (fun _ _ => rfl)) pa_nil)) (pa_cons (pe_op op_add (pv 5) pe_int) pa_nil))) (pa_cons (pe_lst (pa_cons (pv 4) pa_nil)) pa_nil))))))))))
      (pss_one (ps_ret (pv 3)))))), ?_⟩
    walk_at "rds"
    refine ⟨d, _, rfl, M.g_me, ?_⟩
    walk_at "rds"
    refine ⟨d, _, rfl, gms, ?_⟩
    refine ⟨bm, _, _, vf, rfl, rfl, SqT.of hbm, at_int (by decide) rfl, ?_⟩
    refine rd_neM M.me rf ?_
    refine ⟨_, rfl, ?_⟩
    by_cases h : s.me = s.fd
    · have e : s.again = (s.others.map s.behind).flatten := if_neg fun z => z h
      rw [e] at q
      have eo := OS.others_tail hhd R.nd h
      rw [decide_eq_true h]
      refine iteF ?_
      walk_at "rds"
      refine ⟨by show 0 ≤ sizeLine; omega, fun L0 n0 => ?_⟩
      have s0 := same_new n0 (.lst [])
      have hL0 : (upd H L0 (.lst [])) L0 = some (.lst []) := upd_same
      generalize upd H L0 (.lst []) = H1 at *
      have M1 := M.same s0
      walk_at "rds"
      refine ⟨d, _, rfl, M1.g_ms, ?_⟩
      walk_at "rds"
      have hms1 := hms.same s0
      unfold tNoPart
      show rSlA _ a.vms (some 1) none H1 _
      refine slA1 (K := K) (d := eM s.fd) (ds := l.map eM) hms1 fun b H2 s2 tb => ?_
      obtain ⟨b', vs, eb, hb, lvs, tv⟩ := tb.tupI
      cases eb
      have lv := tv.length
      rw [List.length_map] at lv
      have s02 := s0.trans s2
      have M2 := M.same s02
      have ablen : ∀ x, (s.behind x).length ≤ 16 := fun x => by
        show (List.mapIdx _ _).length ≤ 16
        rw [List.length_mapIdx, List.length_take]; omega
      have flen : ∀ l : List Mem, ((l.map s.behind).flatten).length ≤ 16 * l.length := by
        intro l
        induction l with
        | nil => simp
        | cons x l ih => rw [List.map_cons, List.flatten_cons, List.length_append, List.length_cons]; have := ablen x; omega
      refine ⟨b, rfl, ⟨_, SqT.of hb⟩, for_tup (K := K) (a := b) (xs := vs) (fun i σ H' => ∃ (L : Addr) (x4 x5 : Option V), σ = [some (.ref d), none, none, some (.ref L), x4, x5, none] ∧ H L = none ∧ LstAt H' L (((l.take i).map s.behind).flatten.map ePk) ∧ Same H2 H') ?_ ?_ ?_ ?_⟩
      · exact ⟨L0, none, none, rfl, n0, ⟨[], s2 _ _ hL0, .nil⟩, Same.rfl' _⟩
      · rintro i σ H' _ ⟨_, _, _, _, _, _, k⟩
        exact SqT.of (k _ _ hb)
      · rintro i y σ H' hi ⟨L, x4, x5, rfl, nL, ⟨ws, hL, hw⟩, k⟩
        obtain ⟨e', he, re⟩ := tv.at hi
        rw [List.getElem?_map] at he
        obtain ⟨x, hx, rfl⟩ := Option.map_eq_some_iff.mp he
        have ht : l.take (i + 1) = l.take i ++ [x] := by rw [List.take_succ, hx]; rfl
        have hi2 : i < l.length := (List.getElem?_eq_some_iff.mp hx).1
        have xm : x ∈ s.mems := by rw [hhd]; exact List.mem_cons_of_mem _ (List.mem_of_getElem? hx)
        obtain ⟨bx, rfl, nk⟩ := re.nk
        have nk2 : NK H' (.ref bx) (kM x) := (re.same k).nk.choose_spec.2 |> fun h => by
          have := (re.same k).nk
          obtain ⟨b2, e2, h2⟩ := this
          cases e2; exact h2
        have M3 := M2.same k
        obtain ⟨kvs, N, hN, lN⟩ := M3.ct
        have cb := R.cb x
        obtain ⟨t, ht0⟩ : ∃ t : Nat, (m.c x).getD 0 = (t : Int) := ⟨((m.c x).getD 0).toNat, by omega⟩
        have htl : t ≤ s.log.length := by omega
        have hb0 : s.behind x = ordR s x t (min (s.log.length - t) 16) := ordR_behind (by rw [R.tl x xm, ht0])
        have lw := hw.length
        rw [List.length_map] at lw
        have := flen (l.take i)
        rw [List.length_take] at this
        walk_at "rds"
        refine ⟨d, _, rfl, M3.g_ct, ?_⟩
        refine ⟨a.ct, kvs, rfl, N, ?_⟩
        walk_at "rds"
        refine ⟨bx, (m.c x).map V.int, rfl, ⟨kvs, kM x, N, nk2, kM_depth _, (hN x).symm⟩, ?_⟩
        have eg : ((m.c x).map V.int).getD (V.int 0) = V.int (t : Int) := by
          rw [← ht0]; cases m.c x <;> rfl
        rw [eg]
        obtain ⟨vl, hlg, tl⟩ := M3.lg
        have ll := tl.length
        rw [List.length_map] at ll
        walk_at "rds"
        refine ⟨d, _, rfl, M3.g_lg, ?_⟩
        walk_at "rds"
        refine ⟨a.lg, _, rfl, .inl (SqL.of hlg), ?_⟩
        walk_at "rds"
        refine ⟨by show 1 ≤ sizeLine; omega, fun u nu => ?_⟩
        have su := same_new nu (.lst [V.ref bx])
        have hu2 : (upd H' u (.lst [V.ref bx])) u = some (.lst [V.ref bx]) := upd_same
        generalize upd H' u (.lst [V.ref bx]) = H3 at *
        have M4 := M3.same su
        refine ⟨d, a, s, m, .ref u, [x], t, min (s.log.length - t) 16, ?_, M4, ⟨u, _, rfl, .inl hu2, .cons ((re.same k).same su) .nil⟩, by show 1 ≤ 7; omega, by omega, by omega, fun r H4 s4 n4 L4 => ?_⟩
        · have e1 : (if (t : Int) + 16 < ((vl.length : Nat) : Int) then (t : Int) + 16 else ((vl.length : Nat) : Int)) = (t : Int) + ((min (s.log.length - t) 16 : Nat) : Int) := by split <;> omega
          rw [← e1]
          rfl
        · obtain ⟨xs4, h4, t4⟩ := L4
          have l4 := t4.length
          have e4 : ([x].map fun y => ordR s y t (min (s.log.length - t) 16)).flatten = s.behind x := by
            rw [hb0]; simp
          rw [e4] at t4 l4
          rw [List.length_map] at l4
          have := ablen x
          have s34 := su.trans s4
          refine ⟨L, r, ws, xs4, rfl, rfl, s34 _ _ hL, h4, by omega, fun v nv => ?_⟩
          have sv := same_new nv (.lst (ws ++ xs4))
          refine ⟨v, _, _, rfl, ?_, ⟨_, upd_same, ?_⟩, k.trans (s34.trans sv)⟩
          · exact (Fr.of (fp := []) (s02.trans (k.trans s34))).s _ nv
          · rw [ht, List.map_append, List.flatten_append, List.map_append]
            have e5 : ([x].map s.behind).flatten = s.behind x := by simp
            rw [e5]
            exact ((hw.same s34).same sv).append (t4.same sv)
      · rintro σ H' ⟨L, x4, x5, rfl, nL, hL, k⟩
        rw [lv, List.take_length] at hL
        refine ⟨_, rfl, q L H' (s02.trans k) nL ?_⟩
        rw [eo]; exact hL
    · have e : s.again = (s.pend.take 16).map s.castL := if_pos h
      rw [decide_eq_false h]
      refine iteT ?_
      obtain ⟨bf, rfl, hbf⟩ := rf.mem
      walk_at "rds"
      refine ⟨d, _, rfl, gms, ?_⟩
      refine ⟨bm, _, _, .ref bf, rfl, rfl, SqT.of hbm, at_int (by decide) rfl, ?_⟩
      walk_at "rds"
      refine ⟨d, a, s, m, rfl, M, R, hl, ho, fun r H1 s1 tr => ?_⟩
      walk_at "rds"
      show rSlA _ (.ref r) none (some 16) H1 _
      refine slA16 (K := K) (ds := s.pend.map eC) tr fun b H2 s2 tb => ?_
      rw [← List.map_take] at tb
      obtain ⟨b', vs, eb, hb, lvs, tv⟩ := tb.tupI
      cases eb
      have lv := tv.length
      rw [List.length_map] at lv
      have l16 : (s.pend.take 16).length ≤ 16 := by rw [List.length_take]; omega
      have s02 := s1.trans s2
      walk_at "rds"
      refine ⟨⟨_, SqT.of hb⟩, fun D nD => ?_⟩
      refine lc_tup (K := K) (a := b) (xs := vs) (fun i H' => LstAt H' D ((((s.pend.take 16).take i).map s.castL).map ePk) ∧ Same H2 H') ?_ ?_ ?_ ?_
      · exact ⟨⟨[], upd_same, .nil⟩, same_new nD _⟩
      · rintro i H' _ ⟨_, k⟩
        exact SqT.of (k _ _ hb)
      · rintro i y H' hi ⟨⟨ws, hD, hw⟩, k⟩
        obtain ⟨e', he, re⟩ := tv.at hi
        rw [List.getElem?_map] at he
        obtain ⟨c, hc, rfl⟩ := Option.map_eq_some_iff.mp he
        obtain ⟨bc, rfl, hbc⟩ := re.cst
        have ht : (s.pend.take 16).take (i + 1) = (s.pend.take 16).take i ++ [c] := by rw [List.take_succ, hc]; rfl
        have lw := hw.length
        rw [List.length_map, List.length_map, List.length_take] at lw
        have M3 := M.same (s02.trans k)
        have hbc2 := k _ _ hbc
        refine ⟨rfl, ?_⟩
        walk_at "rds"
        refine ⟨d, _, rfl, M3.g_me, ?_⟩
        walk_at "rds"
        refine ⟨d, _, rfl, M3.g_id, ?_⟩
        refine ⟨_, rfl, bc, _, _, .int c.1, rfl, rfl, SqT.of hbc2, rfl, ?_⟩
        refine ⟨_, rfl, bc, _, _, .str c.2, rfl, rfl, SqT.of hbc2, rfl, ?_⟩
        refine ⟨by show 5 ≤ sizeLine; omega, fun u nu => ?_⟩
        refine ⟨by show 2 ≤ sizeLine; omega, fun u2 nu2 => ?_⟩
        have su := same_new nu (.tup [V.str (Str.ofString "cast"), a.vme, a.vid, V.int c.1, V.str c.2])
        have hu3 : (upd H' u (.tup [V.str (Str.ofString "cast"), a.vme, a.vid, V.int c.1, V.str c.2])) u = some _ := upd_same
        generalize upd H' u (.tup [V.str (Str.ofString "cast"), a.vme, a.vid, V.int c.1, V.str c.2]) = H3 at *
        have su2 := same_new nu2 (.tup [V.int s.fd.1, .ref u])
        have hu4 : (upd H3 u2 (.tup [V.int s.fd.1, .ref u])) u2 = some _ := upd_same
        generalize upd H3 u2 (.tup [V.int s.fd.1, .ref u]) = H4 at *
        have s24 := su.trans su2
        have tpk : TD H4 (.ref u2) (ePk (s.castL c)) :=
          .tup hu4 (by show 2 ≤ 100000; decide) (.cons (.int _) (.cons (.tup (su2 _ _ hu3) (by show 5 ≤ 100000; decide) (.cons (.str _) (.cons (M3.me.same s24) (.cons (M3.vid.same s24) (.cons (.int _) (.cons (.str _) .nil)))))) .nil))
        have hD4 := s24 _ _ hD
        refine ⟨ws, hD4, by omega, ?_⟩
        have k5 : TupK H4 (upd H4 D (.lst (ws ++ [.ref u2]))) := tupK_upd fun xs e => by rw [hD4] at e; cases e
        refine ⟨⟨_, upd_same, ?_⟩, fun c o e => by rw [upd_ne (ne_of_none e nD)]; exact s24 _ _ (k _ _ e)⟩
        rw [ht, List.map_append, List.map_append]
        exact ((hw.same s24).mono k5).append (.cons (tpk.mono k5) .nil)
      · rintro H' ⟨hD, k⟩
        rw [lv, List.take_length] at hD
        refine q D H' (s02.trans k) ?_ (by rw [e]; exact hD)
        exact (Fr.of (fp := []) s02).s _ nD
end
end Mus

set_option maxRecDepth 100000
set_option maxHeartbeats 4000000
namespace Mus
open PySem L2
local macro_rules | `(tactic| walk_at "rd") => `(tactic| first
  | refine ⟨_, rfl, ?_⟩ | refine ⟨(True.intro : True), ?_⟩
  | refine ⟨_, _, rfl, rfl, (⟨by decide, by decide, by decide⟩ : CPow _ _), ?_⟩
  | refine ⟨_, _, rfl, rfl, (⟨by decide, by decide⟩ : CDiv _ _), ?_⟩
  | refine ⟨_, _, rfl, rfl, (by show (0 : Int) < _; decide), ?_⟩
  | refine ⟨_, _, rfl, rfl, ?_⟩ | refine ⟨rfl, ?_⟩ | refine iteT ?_ | refine iteF ?_ | refine ⟨_, _, rfl, ?_⟩ | refine .inl ⟨_, rfl, ?_⟩
  | refine ⟨_, _, _, _, _, rfl, (by assumption), (by assumption), (by assumption), rfl, ?_⟩ | refine ⟨_, _, _, _, rfl, rfl, SqT.of (by assumption), rfl, ?_⟩ | refine ⟨_, _, rfl, SqT.of (by assumption), rfl, ?_⟩
  | refine ⟨_, _, _, _, _, rfl, .ty _, Rp.ty (by assumption), kit_int _, ?_⟩ | refine ⟨_, _, _, _, _, rfl, .ty _, Rp.ty (by assumption), kit_bool _, ?_⟩
  | refine ⟨_, _, _, _, _, rfl, .ty _, Rp.ty (by assumption), kit_str _, ?_⟩ | refine ⟨_, _, _, _, _, rfl, .ty _, Rp.ty (by assumption), kit_tup _, ?_⟩)
local macro_rules | `(tactic| walk_at "cal") => `(tactic| first
  | refine ⟨_, _, _, _, _, rfl, (by assumption), ?_⟩ | refine ⟨_, _, _, _, _, rfl, (by assumption), (by assumption), ?_⟩)
local macro_rules | `(tactic| walk_at "sq") => `(tactic| first
  | refine ⟨_, _, rfl, Or.inr (SqT.of (by assumption)), ?_⟩ | refine ⟨_, _, _, _, rfl, rfl, SqT.of (by assumption), rfl, ?_⟩)
local macro_rules | `(tactic| walk_at "rds") => `(tactic| repeat first | walk_at "rd" | walk_at "cal" | walk_at "sq")
local macro_rules | `(tactic| walk_at "ze") => `(tactic| repeat first
  | exact zes_nil | exact ze_bl | exact ze_str | exact ze_non | apply zes_cons | apply ze_tup | apply ze_lst | apply ze_cat | exact di_c | exact di_v rfl | apply di_opC | apply di_op | apply di_neg | apply ze_i | (refine (⟨?_, ?_, ?_⟩ : CPow _ _) <;> decide) | exact Nat.le_of_ble_eq_true rfl | exact ze_varD rfl (by assumption))
local macro_rules | `(tactic| walk_at "rdz") => `(tactic| repeat (fail_if_success (first | show tLst _ _ _ _ | show tAsg (tLst _) _ _ _ _ | show tSeq (tAsg (tLst _) _) _ _ _ _)); first | walk_at "rd" | walk_at "cal" | walk_at "sq")
section
variable {P : Program} {w : World} {K : PySem.W.Frag} {mg : Str → Option Value} {base : Heap} {CO CV : Addr}
theorem two_new {H : Hp} {Q : VK} {σ : L2.St} {fp : List Addr} (hf : ∀ b ∈ fp, H b ≠ none) (q : ∀ t l1 l2 H', Same H H' → H' t = some (.tup [.ref l1, .ref l2]) → TwoL H fp H' l1 l2 [] [] → Q (.ref t) H') : tTup (tCons (tLst tNil) (tCons (tLst tNil) tNil)) σ H Q := by
  have hs := sl
  refine ⟨by show 0 ≤ sizeLine; omega, fun l1 n1 => ⟨by show 0 ≤ sizeLine; omega, fun l2 n2 => ⟨by show 2 ≤ sizeLine; omega, fun t nt => ?_⟩⟩⟩
  have s1 := same_new n1 (.lst [])
  have s2 := same_new n2 (.lst [])
  have s3 := same_new nt (.tup [V.ref l1, V.ref l2])
  have m2 : H l2 = none := (Fr.of (fp := []) s1).s _ n2
  exact q t l1 l2 _ (s1.trans (s2.trans s3)) upd_same ⟨⟨⟨[], s3 _ _ (s2 _ _ upd_same), .nil⟩, n1, fun z => hf _ z n1⟩, ⟨⟨[], s3 _ _ upd_same, .nil⟩, m2, fun z => hf _ z m2⟩⟩
theorem MAt.re {H : Hp} {d : Addr} {a : MA} {s s2 : OS} {m : MS} (h : MAt w H d a s m) (e1 : s2.me = s.me) (e2 : s2.vid = s.vid) (e3 : s2.mems = s.mems) (e4 : s2.log = s.log) : MAt w H d a s2 m :=
  ⟨h.ob, by rw [e1]; exact h.me, by rw [e2]; exact h.vid, by rw [e3]; exact h.ms, by rw [e4]; exact h.lg, h.ea, h.ow, h.ct, h.ap⟩
/-- what a letter may say of one's own casts -/
def Ltr.mine (s : OS) : Ltr → Prop
  | .order _ _ _ g => s.me ≠ s.fd → g.1 = s.me → g.2.1 ≤ s.casts
  | _ => True
set_option hygiene false in
local macro_rules | `(tactic| walk_at "tl") => `(tactic| (
  refine ⟨by show 0 ≤ sizeLine; omega, fun D nD => ?_⟩
  have sD := same_new nD (.lst [])
  have hD0 : (upd H2 D (.lst [])) D = some (.lst []) := upd_same
  have D1 := M2.fresh nD
  have M2k := (M2.re same4.1 same4.2.1 same4.2.2 slog).same sD
  have nD0 : H D = none := F2.s _ nD
  generalize upd H2 D (.lst []) = H3 at *
  have F3 : Fr (a.fp d) (a.fp d) H H3 := F2.trans (Fr.of sD)
  refine ⟨fun k σ H' => ∃ (s1 : OS) (gs : List Msg) (vs : List V), k = s1.kn ∧ σ = [some (.ref d), some (.ref b), some (.ref a.lg), some (.bl false), none, some (.ref a.ea), some (.ref D)] ∧ MAt w H' d a s1 (m.keep i g) ∧ RF s1 (m.keep i g) ∧ Fr (a.fp d) (a.fp d) H H' ∧ H' D = some (.lst vs) ∧ TDs H' vs (gs.map eG) ∧
    OS.flush (s.keep i g).kn (s.keep i g) = ((OS.flush s1.kn s1).1, gs ++ (OS.flush s1.kn s1).2) ∧ s1.log.length + s1.kn ≤ 1001 ∧ gs.length + s1.kn ≤ 1001, ⟨(s.keep i g).kn, s.keep i g, [], [], rfl, rfl, M2k, RF1, F3, hD0, .nil, by simp, kn1, by have := kn1; show 0 + _ ≤ _; omega⟩, ?_⟩
  rintro k σ H4 ⟨s1, gs, vs, rfl, rfl, M4, R4, F4, hD4, tD4, ef, b1, b2⟩
  obtain ⟨vl4, hlg4, tl4⟩ := M4.lg
  have ll4 := tl4.length
  rw [List.length_map] at ll4
  have lgs := tD4.length
  rw [List.length_map] at lgs
  obtain ⟨kvs4, hk4, ek4, lk4, kk4⟩ := M4.ea
  walk_at "rds"
  refine ⟨a.lg, _, rfl, .inl (SqL.of hlg4), ?_⟩
  walk_at "rds"
  have ei : (vl4.length : Int) + 1 = (s1.log.length : Int) + 1 := by omega
  have dg : DGet H4 a.ea (V.int ((vl4.length : Int) + 1)) (valV kvs4 (Sum.inl ((s1.log.length : Int) + 1))) := by rw [ei]; exact DGet.k (k := Sum.inl ((s1.log.length : Int) + 1)) hk4
  refine ⟨a.ea, _, rfl, dg, ?_⟩
  refine ⟨_, rfl, ?_⟩
  have ekk := ek4 ((s1.log.length : Int) + 1)
  have ke4 := R4.kr.gt ((s1.log.length : Int) + 1) (by omega)
  cases hkg : s1.kept ((s1.log.length : Int) + 1) with
  | none =>
    rw [← ke4, hkg] at ekk
    have e0 : valV kvs4 (Sum.inl ((s1.log.length : Int) + 1)) = none := by
      cases e : valV kvs4 (Sum.inl ((s1.log.length : Int) + 1)) with
      | none => rfl
      | some v => rw [e] at ekk; cases ekk
    rw [e0]
    refine iteF ?_
    rw [flush_end hkg, List.append_nil] at ef
    have RR4 := R4.rr hkg
    refine ⟨_, rfl, by show 0 ≤ sizeLine; omega, fun l2 n2 => ⟨by show 2 ≤ sizeLine; omega, fun t nt => ?_⟩⟩
    have s5 := same_new n2 (.lst [])
    have s6 := same_new nt (.tup [.ref D, .ref l2])
    refine q t D l2 _ (m.keep i g) (by rw [e, ef]; exact M4.same (s5.trans s6)) (by rw [e, ef]; exact RR4) me1.1 me1.2.1 me1.2.2 (F4.trans (Fr.of (s5.trans s6))) upd_same ⟨⟨⟨vs, (s5.trans s6) _ _ hD4, by rw [e, ef]; exact tD4.same (s5.trans s6)⟩, nD0, D1⟩, ⟨⟨[], s6 _ _ upd_same, by rw [e]; exact .nil⟩, F4.s _ n2, M4.fresh n2⟩⟩
  | some g1 =>
    rw [← ke4, hkg] at ekk
    obtain ⟨v, e0, tv⟩ : ∃ v, valV kvs4 (Sum.inl ((s1.log.length : Int) + 1)) = some v ∧ TD H4 v (eG g1) := by
      cases e : valV kvs4 (Sum.inl ((s1.log.length : Int) + 1)) with
      | none => rw [e] at ekk; cases ekk
      | some v => rw [e] at ekk; exact ⟨v, rfl, ekk⟩
    rw [e0] at dg
    rw [e0]
    refine iteT ?_
    have R5 := R4.step hkg
    have cp := R4.cnt.pos hkg
    have fs := flush_step hkg R4.cnt
    refine ⟨fun σ' H' => ∃ vs' : List V, σ' = [some (.ref d), some (.ref b), some (.ref a.lg), some (.bl false), none, some (.ref a.ea), some (.ref D)] ∧ MAt w H' d a ((s1.drop ((s1.log.length : Int) + 1)).deliver g1) (m.keep i g) ∧ Fr (a.fp d) (a.fp d) H H' ∧ H' D = some (.lst vs') ∧ TDs H' vs' ((gs ++ [g1]).map eG), fun σ' H' h => ?_, ?_⟩
    · obtain ⟨vs', rfl, M5, F5, hD5, tD5⟩ := h
      refine ⟨s1.kn - 1, by omega, _, gs ++ [g1], vs', rfl, rfl, M5, R5, F5, hD5, tD5, ?_, ?_, ?_⟩
      · rw [ef, fs, List.append_assoc]; rfl
      · show (s1.log ++ [g1]).length + (s1.kn - 1) ≤ 1001
        rw [List.length_append, List.length_singleton]; omega
      · rw [List.length_append, List.length_singleton]
        show gs.length + 1 + (s1.kn - 1) ≤ 1001
        omega
    · walk_at "rds"
      refine ⟨.inl ⟨rfl, _, SqL.of hlg4⟩, ?_⟩
      walk_at "rds"
      refine ⟨a.lg, _, rfl, .inl (SqL.of hlg4), ?_⟩
      walk_at "rds"
      refine ⟨a.ea, v, rfl, dg, ?_⟩
      refine ⟨a.lg, vl4, _, rfl, rfl, hlg4, by omega, ?_⟩
      obtain ⟨M5, F5⟩ := M4.addLog (s2 := (s1.drop ((s1.log.length : Int) + 1)).deliver g1) hlg4 tl4 tv rfl rfl rfl rfl
      have hlg5 : (upd H4 a.lg (.lst (vl4 ++ [v]))) a.lg = some (.lst (vl4 ++ [v])) := upd_same
      have hD5 := F5.k D _ hD4 D1
      generalize upd H4 a.lg (.lst (vl4 ++ [v])) = H5 at *
      walk_at "rds"
      refine ⟨.inl ⟨rfl, _, SqL.of hD5⟩, ?_⟩
      walk_at "rds"
      refine ⟨a.lg, _, _, v, rfl, rfl, SqL.of hlg5, at_last vl4 _, ?_⟩
      refine ⟨D, vs, _, rfl, rfl, hD5, by omega, ?_⟩
      have k6 : TupK H5 (upd H5 D (.lst (vs ++ [v]))) := tupK_upd fun xs e => by rw [hD5] at e; cases e
      refine ⟨vs ++ [v], rfl, M5.mono (fun c hc o e => by
                                                        have cD : c ≠ D := fun z => D1 (by rw [← z]; exact hc)
                                                        rw [upd_ne cD]; exact e) k6, ?_, upd_same, ?_⟩
      · have F := F4.trans F5
        refine ⟨fun b o e n => by rw [upd_ne (ne_of_none e nD0)]; exact F.k b o e n, F.n, F.t.trans k6, fun b e => F.s b (by
          by_cases z : b = D
          · rw [z, upd_same] at e; cases e
          · rwa [upd_ne z] at e)⟩
      · rw [List.map_append]
        exact ((tD4.mono F5.t).mono k6).append (.cons ((tv.mono F5.t).mono k6) .nil)))
abbrev s__law_take : Stmt := top 14
abbrev N__law_take : List Str := ["model", "letter", "log", "leads", "sender", "early", "delivered"]
abbrev P__law_take : List Str := ["model", "letter"]
theorem sc__law_take : FnScope N__law_take P__law_take (defScope s__law_take) := ⟨rfl, rfl, rfl, by decide +kernel, rfl, by decide +kernel, by decide +kernel⟩
def sp_ltake (w : World) : Sp := fun vs H Q _ => ∃ (d : Addr) (a : MA) (s : OS) (m : MS) (v : V) (l : Ltr), vs = [.ref d, v] ∧ MAt w H d a s m ∧ RR s m ∧ TD H v (eL l) ∧ l.flows ∧ l.mine s ∧ s.log.length + s.kn ≤ 1000 ∧ m.en ≤ 1000 ∧
  ∀ t l1 l2 H' m', MAt w H' d a (s.take l).1 m' → RR (s.take l).1 m' → m'.own = m.own → m'.cn = m.cn → m'.en ≤ m.en + 1 → Fr (a.fp d) (a.fp d) H H' → H' t = some (.tup [.ref l1, .ref l2]) → TwoL H (a.fp d) H' l1 l2 (s.take l).2.1 (s.take l).2.2 → Q (.ref t) H'
theorem ok_ltake {f : Addr} {fd : FuncData} (T : Tx K mg CO CV) (c__law_orders : DefOk P w K mg base CX0 "_law_orders" P__law_orders 1 (sp_lords w)) (c__law_last : DefOk P w K mg base CX0 "_law_last" P__law_last 1 (sp_llast w)) (F : Fun K "_law_take" "_law_take" s__law_take f fd) : FnOk P w K mg base CX0 2 f fd P__law_take (sp_ltake w) := by
  have nd := sc__law_take.nd
  refine F.ok sc__law_take (fun vs H Q E h => ?_) (fun cdv A outer s H vs Q E hr h => ?_)
  · obtain ⟨_, _, _, _, _, _, rfl, _⟩ := h
    rfl
  · obtain ⟨d, a, s, m, v, l, rfl, M, R, hv, hfl, hmi, hl, hen, q⟩ := h
    have hs := sl
    have hu := hu_of hr
    obtain ⟨ml, hhd⟩ := R.hd
    have hms := M.ms
    rw [hhd] at hms
    obtain ⟨bm, xs, em, hbm, lxs, rms⟩ := TD.tupI hms
    obtain ⟨vf, vr, rfl, rf, rr⟩ := TDs.consI (d := eM s.fd) (ds := ml.map eM) rms
    have gms : DGet H d (.str "members") (some (.ref bm)) := by rw [← em]; exact M.g_ms
    have al := R.len
    rw [hhd, List.length_cons] at al
    obtain ⟨vl, hlg, tl⟩ := M.lg
    have ll := tl.length
    rw [List.length_map] at ll
    have mtk : ∀ b ∈ a.fp d, H b ≠ none := fun b hb z => by
      obtain ⟨o, e, _⟩ := M.taken b hb
      rw [z] at e; cases e
    have no : s.take l = (s, [], []) → ∀ σ, tTup (tCons (tLst tNil) (tCons (tLst tNil) tNil)) σ H Q := fun e σ =>
      two_new (fp := a.fp d) mtk fun t l1 l2 H' s1 ht tw => q t l1 l2 H' m (by rw [e]; exact M.same s1) (by rw [e]; exact R) rfl rfl (by omega) (Fr.of s1) ht (by rw [e]; exact tw)
    refine ⟨_, (pss_cons (ps_set (i := 2) nd rfl (Or.inl rfl) (pe_dget hu (pv 0) pe_str (fun _ _ => rfl)))
      (pss_cons (ps_set (i := 3) nd rfl (Or.inl rfl) (pe_cmpR (op_eqD hr.units) (pe_dget hu (pv 0) pe_str (fun _ _ => rfl)) (pe_ix ix_tup (pe_dget hu (pv 0) pe_str (fun _ _ => rfl)) pe_int (fun _ _ => rfl)) (nomark _)))
      (pss_cons (ps_if (pt_cmpR (op_neD hr.units) (pe_ix ix_tup (pv 1) pe_int (fun _ _ => rfl)) (pe_dget hu (pv 0) pe_str (fun _ _ => rfl)) (nomark _))
        (pss_one (ps_ret (pe_tup (pa_cons (pe_lst pa_nil) (pa_cons (pe_lst pa_nil) pa_nil)))))
        pss_nil)
      (pss_cons (ps_if (pt_cmpR op_eq (pe_ix ix_tup (pv 1) pe_int (fun _ _ => rfl)) pe_str (nomark _))
        (pss_cons (ps_set (i := 4) nd rfl (Or.inl rfl) (pe_ix ix_tup (pv 1) pe_int (fun _ _ => rfl)))
        (pss_cons (ps_if (PW.pt (pw_or (pt_not (pt_val (pv 3))) (pw_or (pt_cmpR (op_eqD hr.units) (pv 4) (pe_dget hu (pv 0) pe_str (fun _ _ => rfl)) (nomark _)) (pw_or1 (pt_cmpR (op_notInDD hr.units) (pv 4) (pe_dget hu (pv 0) pe_str (fun _ _ => rfl)) (by rfl))))))
          (pss_one (ps_ret (pe_tup (pa_cons (pe_lst pa_nil) (pa_cons (pe_lst pa_nil) pa_nil)))))
          pss_nil)
        (pss_cons (ps_if (pt_cmpR op_ne (pe_ix ix_tup (pv 1) pe_int (fun _ _ => rfl)) (pe_op op_add (pcall c__law_last hr (pa_cons (pv 0) (pa_cons (pv 4) pa_nil))) pe_int) (nomark _))
          (pss_one (ps_ret (pe_tup (pa_cons (pe_lst pa_nil) (pa_cons (pe_lst pa_nil) pa_nil)))))
          pss_nil)
        (pss_cons (ps_expr (pe_bm PySem.F.plainAttrs_list PySem.F.slot_list_append PySem.F.type_list_append mt_append (pv 2) (pa_cons (pe_tup (pa_cons (pv 4) (pa_cons (pe_ix ix_tup (pv 1) pe_int (fun _ _ => rfl)) (pa_cons (pe_ix ix_tup (pv 1) pe_int (fun _ _ => rfl)) pa_nil)))) pa_nil)))
        (pss_one (ps_ret (pe_tup (pa_cons (pe_lst (pa_cons (pe_ix ix_list (pv 2) (pe_un un_neg pe_int) (fun _ _ => rfl)) pa_nil)) (pa_cons (pcall c__law_orders hr (pa_cons (pv 0) (pa_cons (pe_callB call_len_seq (by rfl) T.b_len (by decide +kernel) (pa_cons (pv 2) pa_nil)) (pa_cons (pe_callB call_len_seq (by rfl) T.b_len (by decide +kernel) (pa_cons (pv 2) pa_nil)) (pa_cons (pe_slice sl_tupA (pe_dget hu (pv 0) pe_str (fun _ _ => rfl)) (po_some pe_int) po_none) pa_nil))))) pa_nil)))))))))
        pss_nil)
      (pss_cons (ps_if (PW.pt (pw_or (pt_val (pv 3)) (pw_or (pt_cmpR (op_neD hr.units) (pe_ix ix_tup (pv 1) pe_int (fun _ _ => rfl)) (pe_ix ix_tup (pe_dget hu (pv 0) pe_str (fun _ _ => rfl)) pe_int (fun _ _ => rfl)) (nomark _)) (pw_or1 (pt_cmpR op_le (pe_ix ix_tup (pv 1) pe_int (fun _ _ => rfl)) (pe_callB call_len_seq (by rfl) T.b_len (by decide +kernel) (pa_cons (pv 2) pa_nil)) (nomark _))))))
        (pss_one (ps_ret (pe_tup (pa_cons (pe_lst pa_nil) (pa_cons (pe_lst pa_nil) pa_nil)))))
        pss_nil)
      (pss_cons (ps_set (i := 5) nd rfl (Or.inl rfl) (pe_dget hu (pv 0) pe_str (fun _ _ => rfl)))
      (pss_cons (ps_if (pt_cmp (pc_dnotin hu (pe_ix ix_tup (pv 1) pe_int (fun _ _ => rfl)) (pv 5)))
        (pss_one (ps_dput hu (pv 5) (pe_ix ix_tup (pv 1) pe_int (fun _ _ => rfl)) (pe_ix ix_tup (pv 1) pe_int (fun _ _ => rfl)) rfl))
        pss_nil)
      (pss_cons (ps_set (i := 6) nd rfl (Or.inl rfl) (pe_lst pa_nil))
      (pss_cons (ps_while PassesOwn.never (pt_cmp (pc_din hu (pe_op op_add (pe_callB call_len_seq (by rfl) T.b_len (by decide +kernel) (pa_cons (pv 2) pa_nil)) pe_int) (pv 5)))
        (pss_cons (ps_expr (pe_bm PySem.F.plainAttrs_list PySem.F.slot_list_append PySem.F.type_list_append mt_append (pv 2) (pa_cons (pe_dget hu (pv 5) (pe_op op_add (pe_callB call_len_seq (by rfl) T.b_len (by decide +kernel) (pa_cons (pv 2) pa_nil)) pe_int) (fun _ _ => rfl)) pa_nil)))
        (pss_one (ps_expr (pe_bm PySem.F.plainAttrs_list PySem.F.slot_list_append PySem.F.type_list_append mt_append (pv 6) (pa_cons (pe_ix ix_list (pv 2) (pe_un un_neg pe_int) (fun _ _ => rfl)) pa_nil))))))
      (pss_one (ps_ret (pe_tup (pa_cons (pv 6) (pa_cons (pe_lst pa_nil) pa_nil)))))))))))))), ?_⟩
    cases l with
    | cast x vd i z =>
      obtain ⟨b, u, y, rfl, hb, tu, ty⟩ := hv.castL
      walk_at "rds"
      refine ⟨d, _, rfl, M.g_lg, ?_⟩
      walk_at "rds"
      refine ⟨d, _, rfl, M.g_me, ?_⟩
      walk_at "rds"
      refine ⟨d, _, rfl, gms, ?_⟩
      refine ⟨bm, _, _, vf, rfl, rfl, SqT.of hbm, at_int (by decide) rfl, ?_⟩
      refine rd_eqM M.me rf ?_
      by_cases hlead : s.me = s.fd
      · rw [decide_eq_true hlead]
        refine ⟨_, rfl, b, _, _, y, rfl, rfl, SqT.of hb, rfl, ?_⟩
        walk_at "rds"
        refine ⟨d, _, rfl, M.g_id, ?_⟩
        refine rd_neV ty M.vid ?_
        refine ⟨_, rfl, ?_⟩
        refine iB (fun h => ?_) (fun h => ?_)
        · have h : ¬ vd = s.vid := by simpa using h
          refine no ?_ _
          exact if_pos (.inr (.inl h))
        · have h : vd = s.vid := by simpa using h
          walk_at "rds"
          refine ⟨d, _, rfl, M.g_me, ?_⟩
          refine rd_eqM tu M.me ?_
          refine ⟨_, rfl, ?_⟩
          refine iB (fun h2 => ?_) (fun h2 => ?_)
          · have h2 : x = s.me := of_decide_eq_true h2
            walk_at "rds"
            refine no ?_ _
            refine if_pos (.inr (.inr ?_))
            unfold OS.others
            rw [List.mem_filter]
            simp [h2]
          · have h2 : ¬ x = s.me := of_decide_eq_false h2
            have ho : x ∈ s.others ↔ x ∈ s.mems := by
              unfold OS.others
              rw [List.mem_filter]
              simp [h2]
            walk_at "rds"
            refine ⟨d, _, rfl, M.g_ms, ?_⟩
            refine rd_inMs tu M.ms ?_
            refine ⟨_, rfl, ?_⟩
            refine iB (fun h3 => ?_) (fun h3 => ?_)
            · have h3 : ¬ x ∈ s.mems := by simpa using h3
              walk_at "rds"
              refine no ?_ _
              exact if_pos (.inr (.inr fun z => h3 (ho.mp z)))
            · have h3 : x ∈ s.mems := by simpa using h3
              walk_at "rds"
              refine ⟨d, a, s, m, u, x, rfl, M, tu, ?_⟩
              walk_at "rds"
              refine iB (fun h4 => ?_) (fun h4 => ?_)
              · have h4 : ¬ i = lastI s.log x + 1 := by simpa using h4
                walk_at "rds"
                refine no ?_ _
                show s.takeCast x vd i z = _
                unfold OS.takeCast
                rw [if_neg (by simp only [not_or, Classical.not_not]; exact ⟨hlead, h, ho.mpr h3⟩), if_pos (by rw [R.last]; exact h4)]
              · have h4 : i = lastI s.log x + 1 := by simpa using h4
                have e : s.take (.cast x vd i z) = (s.deliver (x, i, z), [(x, i, z)], s.ords ((s.log.length : Int) + 1) (x, i, z)) := by
                  show s.takeCast x vd i z = _
                  unfold OS.takeCast
                  rw [if_neg (by simp only [not_or, Classical.not_not]; exact ⟨hlead, h, ho.mpr h3⟩), if_neg (by rw [R.last, ← h4]; exact fun z => z rfl)]
                  rfl
                have R' := R.decide (x, i, z) hlead h2
                walk_at "rds"
                refine ⟨.inl ⟨rfl, _, SqL.of hlg⟩, ?_⟩
                walk_at "rds"
                refine ⟨by show 3 ≤ sizeLine; omega, fun t0 nt0 => ?_⟩
                have su := same_new nt0 (.tup [u, V.int i, V.str z])
                have hu2 : (upd H t0 (.tup [u, V.int i, V.str z])) t0 = some _ := upd_same
                generalize upd H t0 (.tup [u, V.int i, V.str z]) = H2 at *
                have M2 := M.same su
                have hlg2 := su _ _ hlg
                have tg : TD H2 (.ref t0) (eG (x, i, z)) := td_msg hu2 (tu.same su)
                refine ⟨a.lg, vl, _, rfl, rfl, hlg2, by omega, ?_⟩
                obtain ⟨M3, F3⟩ := M2.addLog (s2 := s.deliver (x, i, z)) hlg2 (tl.same su) tg rfl rfl rfl rfl
                have hlg3 : (upd H2 a.lg (.lst (vl ++ [.ref t0]))) a.lg = some (.lst (vl ++ [.ref t0])) := upd_same
                generalize upd H2 a.lg (.lst (vl ++ [.ref t0])) = H3 at *
                have F13 : Fr (a.fp d) (a.fp d) H H3 := (Fr.of su).trans F3
                walk_at "rds"
                refine ⟨a.lg, _, _, .ref t0, rfl, rfl, SqL.of hlg3, at_last vl _, ?_⟩
                refine ⟨by show 1 ≤ sizeLine; omega, fun l1 n1 => ?_⟩
                have s4 := same_new n1 (.lst [.ref t0])
                have hl1 : (upd H3 l1 (.lst [.ref t0])) l1 = some (.lst [.ref t0]) := upd_same
                generalize upd H3 l1 (.lst [.ref t0]) = H4 at *
                have M4 := M3.same s4
                have hlg4 := s4 _ _ hlg3
                have ev : (vl ++ [V.ref t0]).length = s.log.length + 1 := by rw [List.length_append, List.length_singleton, ll]
                walk_at "rds"
                refine ⟨a.lg, _, rfl, .inl (SqL.of hlg4), ?_⟩
                walk_at "rds"
                refine ⟨a.lg, _, rfl, .inl (SqL.of hlg4), ?_⟩
                walk_at "rds"
                rw [ev]
                have gms4 : DGet H4 d (.str "members") (some (.ref bm)) := by rw [← em]; exact M4.g_ms
                have F14 : Fr (a.fp d) (a.fp d) H H4 := F13.trans (Fr.of s4)
                have t14 : TupK H H4 := (TupK.of su).trans (F3.t.trans (TupK.of s4))
                refine ⟨d, _, rfl, gms4, ?_⟩
                walk_at "rds"
                unfold tNoPart
                show rSlA _ (.ref bm) (some 1) none H4 _
                have tms4 : TD H4 (.ref bm) (eMs (s.fd :: ml)) := by rw [← em]; exact hms.mono t14
                refine slA1 (K := K) (d := eM s.fd) (ds := ml.map eM) tms4 fun p H5 s5 tp => ?_
                have M5 := M4.same s5
                refine ⟨d, a, _, _, .ref p, ml, s.log.length, 1, rfl, M5, seq_of tp, by omega, by show _ ≤ (s.log ++ [_]).length; rw [List.length_append, List.length_singleton]; omega, by show (s.log ++ [_]).length ≤ _; rw [List.length_append, List.length_singleton]; omega, fun l2 H6 s6 n6 L6 => ?_⟩
                have hl6 := s6 _ _ (s5 _ _ hl1)
                refine ⟨by show 2 ≤ sizeLine; omega, fun t nt => ?_⟩
                have s7 := same_new nt (.tup [.ref l1, .ref l2])
                have s47 := s5.trans (s6.trans s7)
                have F17 := F14.trans (Fr.of (fp := a.fp d) s47)
                have M7 := M4.same s47
                have ords : ((ml.map fun y => ordR (s.deliver (x, i, z)) y s.log.length 1).flatten) = s.ords ((s.log.length : Int) + 1) (x, i, z) := by
                  have e1 : ∀ y, ordR (s.deliver (x, i, z)) y s.log.length 1 = [(y.1, Ltr.order s.me s.vid ((s.log.length : Int) + 1) (x, i, z))] := fun y => ordR_one (s := s.deliver (x, i, z)) rfl
                  have e2 : (fun y => ordR (s.deliver (x, i, z)) y s.log.length 1) = fun y : Mem => [((y.1, Ltr.order s.me s.vid ((s.log.length : Int) + 1) (x, i, z)) : Pkt)] := funext e1
                  rw [e2, flat_one]
                  show _ = s.others.map _
                  rw [OS.others_tail hhd R.nd hlead]
                rw [ords] at L6
                refine q t l1 l2 _ m (by rw [e]; exact M7) (by rw [e]; exact R') rfl rfl (by omega) F17 upd_same ⟨⟨⟨[.ref t0], ?_, ?_⟩, ?_, ?_⟩, ⟨?_, ?_, ?_⟩⟩
                · exact s7 _ _ hl6
                · rw [e]; exact .cons ((tg.mono F3.t).same (s4.trans s47)) .nil
                · exact F13.s _ n1
                · exact M3.fresh n1
                · rw [e]; exact L6.mono (s7 _) (TupK.of s7)
                · exact F14.s _ ((Fr.of (fp := []) s5).s _ n6)
                · exact M5.fresh n6
      · rw [decide_eq_false hlead]
        refine ⟨_, rfl, b, _, _, y, rfl, rfl, SqT.of hb, rfl, ?_⟩
        walk_at "rds"
        refine ⟨d, _, rfl, M.g_id, ?_⟩
        refine rd_neV ty M.vid ?_
        refine ⟨_, rfl, ?_⟩
        refine iB (fun h => ?_) (fun h => ?_)
        · have h : ¬ vd = s.vid := by simpa using h
          refine no ?_ _
          exact if_pos (.inr (.inl h))
        · walk_at "rds"
          refine no ?_ _
          exact if_pos (.inl hlead)
    | order x vd i g =>
      obtain ⟨b, u, y, yg, rfl, hb, tu, ty, tg⟩ := hv.ordL
      have noO : (s.me = s.fd ∨ x ≠ s.fd ∨ vd ≠ s.vid ∨ i ≤ (s.log.length : Int)) → ∀ σ, tTup (tCons (tLst tNil) (tCons (tLst tNil) tNil)) σ H Q := fun hno => no (by
        show ((s.takeOrder x vd i g).1, (s.takeOrder x vd i g).2, []) = _
        rw [R.takeOrder_no hno])
      walk_at "rds"
      refine ⟨d, _, rfl, M.g_lg, ?_⟩
      walk_at "rds"
      refine ⟨d, _, rfl, M.g_me, ?_⟩
      walk_at "rds"
      refine ⟨d, _, rfl, gms, ?_⟩
      refine ⟨bm, _, _, vf, rfl, rfl, SqT.of hbm, at_int (by decide) rfl, ?_⟩
      refine rd_eqM M.me rf ?_
      by_cases hlead : s.me = s.fd
      · rw [decide_eq_true hlead]
        refine ⟨_, rfl, b, _, _, y, rfl, rfl, SqT.of hb, rfl, ?_⟩
        walk_at "rds"
        refine ⟨d, _, rfl, M.g_id, ?_⟩
        refine rd_neV ty M.vid ?_
        refine ⟨_, rfl, ?_⟩
        refine iB (fun h => ?_) (fun h => ?_)
        · exact noO (.inl hlead) _
        · walk_at "rds"
          exact noO (.inl hlead) _
      · rw [decide_eq_false hlead]
        refine ⟨_, rfl, b, _, _, y, rfl, rfl, SqT.of hb, rfl, ?_⟩
        walk_at "rds"
        refine ⟨d, _, rfl, M.g_id, ?_⟩
        refine rd_neV ty M.vid ?_
        refine ⟨_, rfl, ?_⟩
        refine iB (fun h => ?_) (fun h => ?_)
        · have h : ¬ vd = s.vid := by simpa using h
          exact noO (.inr (.inr (.inl h))) _
        · have h : vd = s.vid := by simpa using h
          walk_at "rds"
          refine ⟨d, _, rfl, gms, ?_⟩
          refine ⟨bm, _, _, vf, rfl, rfl, SqT.of hbm, at_int (by decide) rfl, ?_⟩
          refine rd_neM tu rf ?_
          refine ⟨_, rfl, ?_⟩
          refine iB (fun h2 => ?_) (fun h2 => ?_)
          · have h2 : ¬ x = s.fd := by simpa using h2
            walk_at "rds"
            exact noO (.inr (.inl h2)) _
          · have h2 : x = s.fd := by simpa using h2
            walk_at "rds"
            refine ⟨a.lg, _, rfl, .inl (SqL.of hlg), ?_⟩
            walk_at "rds"
            refine iB (fun h3 => ?_) (fun h3 => ?_)
            · have h3 : i ≤ (vl.length : Int) := of_decide_eq_true h3
              walk_at "rds"
              exact noO (.inr (.inr (.inr (by omega)))) _
            · have h3 : ¬ i ≤ (vl.length : Int) := of_decide_eq_false h3
              have e : s.take (.order x vd i g) = ((OS.flush (s.keep i g).kn (s.keep i g)).1, (OS.flush (s.keep i g).kn (s.keep i g)).2, []) := by
                show ((s.takeOrder x vd i g).1, (s.takeOrder x vd i g).2, []) = _
                rw [takeOrder_yes hlead h2 h]
              have RF1 := (R.rf hlead).keep (i := i) (g := g) (by omega) (hmi hlead)
              have kn1 : (s.keep i g).log.length + (s.keep i g).kn ≤ 1001 := by
                unfold OS.keep; split
                · show s.log.length + (s.kn + 1) ≤ _; omega
                · omega
              have me1 : (m.keep i g).own = m.own ∧ (m.keep i g).cn = m.cn ∧ (m.keep i g).en ≤ m.en + 1 := by
                unfold MS.keep; split
                · exact ⟨rfl, rfl, Nat.le_refl _⟩
                · exact ⟨rfl, rfl, by omega⟩
              have slog : (s.keep i g).log = s.log := by unfold OS.keep; split <;> rfl
              have same4 : (s.keep i g).me = s.me ∧ (s.keep i g).vid = s.vid ∧ (s.keep i g).mems = s.mems := by unfold OS.keep; split <;> exact ⟨rfl, rfl, rfl⟩
              obtain ⟨kvs, hk, ek, lk, kk⟩ := M.ea
              walk_at "rds"
              refine ⟨d, _, rfl, M.g_ea, ?_⟩
              walk_at "rds"
              refine ⟨a.ea, _, rfl, DGet.k (k := Sum.inl i) hk, ?_⟩
              refine ⟨_, rfl, ?_⟩
              have eki := ek i
              cases he : m.e i with
              | none =>
                rw [he] at eki
                have e0 : valV kvs (Sum.inl i) = none := by
                  cases e : valV kvs (Sum.inl i) with
                  | none => rfl
                  | some v => rw [e] at eki; cases eki
                rw [e0]
                refine iteT ?_
                walk_at "rds"
                refine ⟨a.ea, _, rfl, DPut.k (k := Sum.inl i) hk (by omega), ?_⟩
                obtain ⟨M2, F2⟩ := M.addEarly (v := yg) hk ek lk kk tg he
                generalize upd H a.ea _ = H2 at *
                walk_at "tl"
              | some g0 =>
                rw [he] at eki
                obtain ⟨v, e0⟩ : ∃ v, valV kvs (Sum.inl i) = some v := by
                  cases e : valV kvs (Sum.inl i) with
                  | none => rw [e] at eki; cases eki
                  | some v => exact ⟨v, rfl⟩
                rw [e0]
                refine iteF ?_
                have ke : m.keep i g = m := if_neg (by rw [he]; intro z; cases z)
                obtain ⟨H2, hH2, M2, F2⟩ : ∃ H2, H2 = H ∧ MAt w H2 d a s (m.keep i g) ∧ Fr (a.fp d) (a.fp d) H H2 := ⟨H, rfl, by rw [ke]; exact M, Fr.refl _ _⟩
                rw [← hH2]
                walk_at "tl"
    | _ => exact absurd hfl id
end
end Mus

set_option maxRecDepth 100000
set_option maxHeartbeats 4000000
namespace Mus
open PySem L2
local macro_rules | `(tactic| walk_at "rd") => `(tactic| first
  | refine ⟨_, rfl, ?_⟩ | refine ⟨(True.intro : True), ?_⟩
  | refine ⟨_, _, rfl, rfl, (⟨by decide, by decide, by decide⟩ : CPow _ _), ?_⟩
  | refine ⟨_, _, rfl, rfl, (⟨by decide, by decide⟩ : CDiv _ _), ?_⟩
  | refine ⟨_, _, rfl, rfl, (by show (0 : Int) < _; decide), ?_⟩
  | refine ⟨_, _, rfl, rfl, ?_⟩ | refine ⟨rfl, ?_⟩ | refine iteT ?_ | refine iteF ?_ | refine ⟨_, _, rfl, ?_⟩ | refine .inl ⟨_, rfl, ?_⟩
  | refine ⟨_, _, _, _, _, rfl, (by assumption), (by assumption), (by assumption), rfl, ?_⟩ | refine ⟨_, _, _, _, rfl, rfl, SqT.of (by assumption), rfl, ?_⟩ | refine ⟨_, _, rfl, SqT.of (by assumption), rfl, ?_⟩
  | refine ⟨_, _, _, _, _, rfl, .ty _, Rp.ty (by assumption), kit_int _, ?_⟩ | refine ⟨_, _, _, _, _, rfl, .ty _, Rp.ty (by assumption), kit_bool _, ?_⟩
  | refine ⟨_, _, _, _, _, rfl, .ty _, Rp.ty (by assumption), kit_str _, ?_⟩ | refine ⟨_, _, _, _, _, rfl, .ty _, Rp.ty (by assumption), kit_tup _, ?_⟩)
local macro_rules | `(tactic| walk_at "cal") => `(tactic| first
  | refine ⟨_, _, _, _, _, rfl, (by assumption), ?_⟩ | refine ⟨_, _, _, _, _, rfl, (by assumption), (by assumption), ?_⟩)
local macro_rules | `(tactic| walk_at "sq") => `(tactic| first
  | refine ⟨_, _, rfl, Or.inr (SqT.of (by assumption)), ?_⟩ | refine ⟨_, _, _, _, rfl, rfl, SqT.of (by assumption), rfl, ?_⟩)
local macro_rules | `(tactic| walk_at "rds") => `(tactic| repeat first | walk_at "rd" | walk_at "cal" | walk_at "sq")
local macro_rules | `(tactic| walk_at "ze") => `(tactic| repeat first
  | exact zes_nil | exact ze_bl | exact ze_str | exact ze_non | apply zes_cons | apply ze_tup | apply ze_lst | apply ze_cat | exact di_c | exact di_v rfl | apply di_opC | apply di_op | apply di_neg | apply ze_i | (refine (⟨?_, ?_, ?_⟩ : CPow _ _) <;> decide) | exact Nat.le_of_ble_eq_true rfl | exact ze_varD rfl (by assumption))
local macro_rules | `(tactic| walk_at "rdz") => `(tactic| repeat (fail_if_success (first | show tLst _ _ _ _ | show tAsg (tLst _) _ _ _ _ | show tSeq (tAsg (tLst _) _) _ _ _ _)); first | walk_at "rd" | walk_at "cal" | walk_at "sq")
section
variable {P : Program} {w : World} {K : PySem.W.Frag} {mg : Str → Option Value} {base : Heap} {CO CV : Addr}
inductive Shp (H : Hp) : V → List Addr → Prop
  | non : Shp H .non []
  | lst {l : Addr} {vs : List V} : H l = some (.lst vs) → vs.length ≤ 100000 → Shp H (.ref l) [l]
  | tup {t : Addr} {xs : List V} {ls : List Addr} : H t = some (.tup xs) → xs.length ≤ 3 → (∀ x ∈ xs, (∃ i, x = .int i) ∨ ∃ l, x = .ref l ∧ l ∈ ls) → (∀ l ∈ ls, ∃ vs, H l = some (.lst vs) ∧ vs.length ≤ 100000) → Shp H (.ref t) ls
abbrev s__law_spoil : Stmt := top 19
abbrev N__law_spoil : List Str := ["actual", "part"]
abbrev P__law_spoil : List Str := ["actual"]
theorem sc__law_spoil : FnScope N__law_spoil P__law_spoil (defScope s__law_spoil) := ⟨rfl, rfl, rfl, by decide +kernel, rfl, by decide +kernel, by decide +kernel⟩
def sp_spoil : Sp := fun vs H Q _ => ∃ (v : V) (ls : List Addr), vs = [v] ∧ Shp H v ls ∧ ∀ H', Fr ls ls H H' → Q .non H'
theorem ok_spoil {f : Addr} {fd : FuncData} (T : Tx K mg CO CV) (F : Fun K "_law_spoil" "_law_spoil" s__law_spoil f fd) : FnOk P w K mg base CX0 1 f fd P__law_spoil sp_spoil := by
  have nd := sc__law_spoil.nd
  refine F.ok sc__law_spoil (fun vs H Q E h => ?_) (fun cdv A outer s H vs Q E hr h => ?_)
  · obtain ⟨_, _, rfl, _⟩ := h
    rfl
  · obtain ⟨v, ls, rfl, S, q⟩ := h
    have hs := sl
    refine ⟨_, (pss_cons (ps_if (pt_val (pe_callB call_isi (by rfl) T.b_isinstance (by decide +kernel) (pa_cons (pv 0) (pa_cons (pe_ty "list" T.b_list) pa_nil))))
        (pss_cons (ps_expr (pe_bm PySem.F.plainAttrs_list PySem.F.slot_list_append PySem.F.type_list_append mt_append (pv 0) (pa_cons pe_int pa_nil)))
        (pss_one (ps_expr (pe_bm0 PySem.F.plainAttrs_list PySem.F.slot_list_reverse PySem.F.type_list_reverse mt_reverse (pv 0)))))
        pss_nil)
      (pss_one (ps_if (pt_val (pe_callB call_isi (by rfl) T.b_isinstance (by decide +kernel) (pa_cons (pv 0) (pa_cons (pe_ty "tuple" T.b_tuple) pa_nil))))
        (pss_one (ps_for PassesOwn.never rfl (pi_tup (pv 0)) (pg_name (i := 1) nd rfl (Or.inl rfl))
          (pss_one (ps_if (pt_val (pe_callB call_isi (by rfl) T.b_isinstance (by decide +kernel) (pa_cons (pv 1) (pa_cons (pe_ty "list" T.b_list) pa_nil))))
            (pss_one (ps_expr (pe_bm PySem.F.plainAttrs_list PySem.F.slot_list_append PySem.F.type_list_append mt_append (pv 1) (pa_cons pe_int pa_nil))))
            pss_nil))))
        pss_nil))), ?_⟩
    cases S with
    | non =>
      walk_at "rds"
      refine ⟨_, _, _, _, false, rfl, .ty _, .base .non, kit_ty (by decide +kernel), ?_⟩
      walk_at "rds"
      refine ⟨_, _, _, _, false, rfl, .ty _, .base .non, kit_ty (by decide +kernel), ?_⟩
      walk_at "rds"
      exact q H (Fr.refl _ _)
    | @lst l vs hl ll =>
      walk_at "rds"
      refine ⟨_, _, _, _, true, rfl, .ty _, .base (.lst hl), kit_ty (by decide +kernel), ?_⟩
      walk_at "rds"
      refine ⟨.inl ⟨rfl, _, SqL.of hl⟩, ?_⟩
      refine ⟨l, vs, _, rfl, rfl, hl, by omega, ?_⟩
      have F1 : Fr [l] [l] H (upd H l (.lst (vs ++ [V.int 0]))) := fr_upd (by simp) hl (fun _ z => by cases z)
      have hl2 : (upd H l (.lst (vs ++ [V.int 0]))) l = some _ := upd_same
      generalize upd H l (.lst (vs ++ [V.int 0])) = H2 at *
      walk_at "rds"
      refine ⟨.inl ⟨rfl, _, SqL.of hl2⟩, ?_⟩
      refine ⟨l, _, rfl, rfl, hl2, ?_⟩
      have F2 : Fr [l] [l] H2 (upd H2 l (.lst (vs ++ [V.int 0]).reverse)) := fr_upd (by simp) hl2 (fun _ z => by cases z)
      have hl3 : (upd H2 l (.lst (vs ++ [V.int 0]).reverse)) l = some _ := upd_same
      generalize upd H2 l (.lst (vs ++ [V.int 0]).reverse) = H3 at *
      walk_at "rds"
      refine ⟨_, _, _, _, false, rfl, .ty _, .base (.lst hl3), kit_ty (by decide +kernel), ?_⟩
      walk_at "rds"
      exact q H3 (F1.trans F2)
    | @tup t xs ls ht lx hx hls =>
      walk_at "rds"
      refine ⟨_, _, _, _, false, rfl, .ty _, .base (.tup ht), kit_ty (by decide +kernel), ?_⟩
      walk_at "rds"
      refine ⟨_, _, _, _, true, rfl, .ty _, .base (.tup ht), kit_ty (by decide +kernel), ?_⟩
      walk_at "rds"
      refine ⟨⟨_, SqT.of ht⟩, for_tup (K := K) (a := t) (xs := xs) (fun i σ H' => ∃ x1 : Option V, σ = [some (.ref t), x1] ∧ Fr ls ls H H' ∧ ∀ l ∈ ls, ∃ vs, H' l = some (.lst vs) ∧ vs.length ≤ 100000 + i) ?_ ?_ ?_ ?_⟩
      · exact ⟨_, rfl, Fr.refl _ _, hls⟩
      · rintro i σ H' _ ⟨_, _, f, _⟩
        exact SqT.of (f.t _ _ ht)
      · rintro i y σ H' hi ⟨x1, rfl, f, hl⟩
        have hi2 : i < xs.length := (List.getElem?_eq_some_iff.mp hi).1
        rcases hx y (List.mem_of_getElem? hi) with ⟨n, rfl⟩ | ⟨l, rfl, hm⟩
        · walk_at "rds"
          refine ⟨_, _, _, _, false, rfl, .ty _, .base (.int _), kit_ty (by decide +kernel), ?_⟩
          exact ⟨_, rfl, _, rfl, f, fun l hm => (hl l hm).imp fun vs h => ⟨h.1, by omega⟩⟩
        · obtain ⟨vs, h1, h2⟩ := hl l hm
          walk_at "rds"
          refine ⟨_, _, _, _, true, rfl, .ty _, .base (.lst h1), kit_ty (by decide +kernel), ?_⟩
          walk_at "rds"
          refine ⟨.inl ⟨rfl, _, SqL.of h1⟩, ?_⟩
          refine ⟨l, vs, _, rfl, rfl, h1, by omega, ?_⟩
          refine ⟨_, rfl, f.trans (fr_upd hm h1 (fun _ z => by cases z)), fun l2 hm2 => ?_⟩
          by_cases e : l2 = l
          · subst e
            exact ⟨_, upd_same, by rw [List.length_append, List.length_singleton]; omega⟩
          · obtain ⟨vs2, h3, h4⟩ := hl l2 hm2
            exact ⟨vs2, by rw [upd_ne e]; exact h3, by omega⟩
      · rintro σ H' ⟨x1, rfl, f, _⟩
        exact q H' f
abbrev s__law_refused : Stmt := top 18
abbrev N__law_refused : List Str := ["me", "view_id", "members"]
abbrev P__law_refused : List Str := ["me", "view_id", "members"]
theorem sc__law_refused : FnScope N__law_refused P__law_refused (defScope s__law_refused) := ⟨rfl, rfl, rfl, by decide +kernel, rfl, by decide +kernel, by decide +kernel⟩
def sp_refu : Sp := fun vs H Q _ => ∃ (vme vvid vms : V) (me : Mem) (vid : Vid) (mems : List Mem), vs = [vme, vvid, vms] ∧ TD H vme (eM me) ∧ TD H vvid (eV vid) ∧ TD H vms (eMs mems) ∧ me ∉ mems ∧ ∀ H', Same H H' → Q (.bl true) H'
theorem ok_refu {f : Addr} {fd : FuncData} (T : Tx K mg CO CV) (k_Order : MkOkX P w K mg base CO "Order" P_Order___init__ 1 (sp_oini w CO CV)) (F : Fun K "_law_refused" "_law_refused" s__law_refused f fd) : FnOk P w K mg base CX0 3 f fd P__law_refused sp_refu := by
  have nd := sc__law_refused.nd
  refine F.ok sc__law_refused (fun vs H Q E h => ?_) (fun cdv A outer s H vs Q E hr h => ?_)
  · obtain ⟨_, _, _, _, _, _, rfl, _⟩ := h
    rfl
  · obtain ⟨vme, vvid, vms, me, vid, mems, rfl, h1, h2, h3, hn, q⟩ := h
    have hs := sl
    refine ⟨_, (pss_cons (ps_tryX rfl rfl takes0 (fun W pn xe tk _ => (pss_one (ps_expr (pmakeA k_Order tk hr (pa_cons (pv 0) (pa_cons (pv 1) (pa_cons (pv 2) pa_nil)))))))
        (hd_one ⟨rfl, by decide, .inl T.g_BadView⟩ (fun a oe cls d pn hz hf => (pss_one (ps_ret pe_bl))) .nil))
      (pss_one (ps_ret pe_bl))), ?_⟩
    walk_at "rds"
    intro x dx hx hdx hne
    have s1 := same_new hdx (.own x)
    have hx2 : (upd H dx (.own x)) x = none := by rw [upd_ne hne.symm]; exact hx
    have s2 := same_new hx2 (.ins CO dx [])
    have s12 := s1.trans s2
    refine ⟨x, dx, vme, vvid, vms, me, vid, mems, rfl, upd_same, h1.same s12, h2.same s12, h3.same s12, fun _ => ?_, fun hm => absurd hm hn⟩
    exact ⟨true, T.m_VV, fun _ a na => q _ s12, fun h => by cases h⟩
end
end Mus


set_option maxRecDepth 100000
set_option maxHeartbeats 4000000
namespace Mus
open PySem L2
local macro_rules | `(tactic| walk_at "rd") => `(tactic| first
  | refine ⟨_, rfl, ?_⟩ | refine ⟨(True.intro : True), ?_⟩
  | refine ⟨_, _, rfl, rfl, (⟨by decide, by decide, by decide⟩ : CPow _ _), ?_⟩
  | refine ⟨_, _, rfl, rfl, (⟨by decide, by decide⟩ : CDiv _ _), ?_⟩
  | refine ⟨_, _, rfl, rfl, (by show (0 : Int) < _; decide), ?_⟩
  | refine ⟨_, _, rfl, rfl, ?_⟩ | refine ⟨rfl, ?_⟩ | refine iteT ?_ | refine iteF ?_ | refine ⟨_, _, rfl, ?_⟩ | refine .inl ⟨_, rfl, ?_⟩
  | refine ⟨_, _, _, _, _, rfl, (by assumption), (by assumption), (by assumption), rfl, ?_⟩ | refine ⟨_, _, _, _, rfl, rfl, SqT.of (by assumption), rfl, ?_⟩ | refine ⟨_, _, rfl, SqT.of (by assumption), rfl, ?_⟩
  | refine ⟨_, _, _, _, _, rfl, .ty _, Rp.ty (by assumption), kit_int _, ?_⟩ | refine ⟨_, _, _, _, _, rfl, .ty _, Rp.ty (by assumption), kit_bool _, ?_⟩
  | refine ⟨_, _, _, _, _, rfl, .ty _, Rp.ty (by assumption), kit_str _, ?_⟩ | refine ⟨_, _, _, _, _, rfl, .ty _, Rp.ty (by assumption), kit_tup _, ?_⟩)
local macro_rules | `(tactic| walk_at "cal") => `(tactic| first
  | refine ⟨_, _, _, _, _, rfl, (by assumption), ?_⟩ | refine ⟨_, _, _, _, _, rfl, (by assumption), (by assumption), ?_⟩)
local macro_rules | `(tactic| walk_at "sq") => `(tactic| first
  | refine ⟨_, _, rfl, Or.inr (SqT.of (by assumption)), ?_⟩ | refine ⟨_, _, _, _, rfl, rfl, SqT.of (by assumption), rfl, ?_⟩)
local macro_rules | `(tactic| walk_at "rds") => `(tactic| repeat first | walk_at "rd" | walk_at "cal" | walk_at "sq")
local macro_rules | `(tactic| walk_at "ze") => `(tactic| repeat first
  | exact zes_nil | exact ze_bl | exact ze_str | exact ze_non | apply zes_cons | apply ze_tup | apply ze_lst | apply ze_cat | exact di_c | exact di_v rfl | apply di_opC | apply di_op | apply di_neg | apply ze_i | (refine (⟨?_, ?_, ?_⟩ : CPow _ _) <;> decide) | exact Nat.le_of_ble_eq_true rfl | exact ze_varD rfl (by assumption))
local macro_rules | `(tactic| walk_at "rdz") => `(tactic| repeat (fail_if_success (first | show tLst _ _ _ _ | show tAsg (tLst _) _ _ _ _ | show tSeq (tAsg (tLst _) _) _ _ _ _)); first | walk_at "rd" | walk_at "cal" | walk_at "sq")
/-! ### counts -/
theorem flush_con : ∀ (n : Nat) (s : OS), n ≤ s.kn → (OS.flush n s).1.me = s.me ∧ (OS.flush n s).1.vid = s.vid ∧ (OS.flush n s).1.mems = s.mems ∧ (OS.flush n s).1.tn = s.tn ∧ (OS.flush n s).1.log.length + (OS.flush n s).1.kn = s.log.length + s.kn
  | 0, s, _ => ⟨rfl, rfl, rfl, rfl, rfl⟩
  | n + 1, s, h => by
    unfold OS.flush
    split
    · exact ⟨rfl, rfl, rfl, rfl, rfl⟩
    · rename_i g _
      have ih := flush_con n ((s.drop ((s.log.length : Int) + 1)).deliver g) (by show n ≤ s.kn - 1; omega)
      refine ⟨ih.1, ih.2.1, ih.2.2.1, ih.2.2.2.1, ih.2.2.2.2.trans ?_⟩
      show (s.log ++ [g]).length + (s.kn - 1) = _
      rw [List.length_append, List.length_singleton]
      omega
theorem take_con (s : OS) (l : Ltr) : (s.take l).1.mems = s.mems ∧ (s.take l).1.tn = s.tn ∧ (s.take l).1.log.length + (s.take l).1.kn ≤ s.log.length + s.kn + 1 := by
  cases l <;> try exact ⟨rfl, rfl, by show s.log.length + s.kn ≤ _; omega⟩
  case cast x v i z =>
    show (s.takeCast x v i z).1.mems = _ ∧ (s.takeCast x v i z).1.tn = _ ∧ (s.takeCast x v i z).1.log.length + (s.takeCast x v i z).1.kn ≤ _
    unfold OS.takeCast
    split
    · exact ⟨rfl, rfl, by show s.log.length + s.kn ≤ _; omega⟩
    · split
      · exact ⟨rfl, rfl, by show s.log.length + s.kn ≤ _; omega⟩
      · refine ⟨rfl, rfl, ?_⟩
        show (s.log ++ [_]).length + s.kn ≤ _
        rw [List.length_append, List.length_singleton]; omega
  case order x v i g =>
    show (s.takeOrder x v i g).1.mems = _ ∧ (s.takeOrder x v i g).1.tn = _ ∧ (s.takeOrder x v i g).1.log.length + (s.takeOrder x v i g).1.kn ≤ _
    unfold OS.takeOrder
    split
    · exact ⟨rfl, rfl, by show s.log.length + s.kn ≤ _; omega⟩
    · have c := flush_con (s.keep i g).kn (s.keep i g) (Nat.le_refl _)
      have e : (s.keep i g).mems = s.mems ∧ (s.keep i g).tn = s.tn ∧ (s.keep i g).log.length + (s.keep i g).kn ≤ s.log.length + s.kn + 1 := by
        unfold OS.keep
        split
        · exact ⟨rfl, rfl, by show s.log.length + (s.kn + 1) ≤ _; omega⟩
        · exact ⟨rfl, rfl, by omega⟩
      exact ⟨c.2.2.1.trans e.1, c.2.2.2.1.trans e.2.1, c.2.2.2.2 ▸ e.2.2⟩
theorem cast_con (s : OS) (z : Str) : (s.cast z).1.mems = s.mems ∧ (s.cast z).1.tn = s.tn ∧ (s.cast z).1.log.length + (s.cast z).1.kn ≤ s.log.length + s.kn + 1 := by
  unfold OS.cast
  dsimp only
  split
  · refine ⟨rfl, rfl, ?_⟩
    show (s.log ++ [_]).length + s.kn ≤ _
    rw [List.length_append, List.length_singleton]; omega
  · exact ⟨rfl, rfl, by show s.log.length + s.kn ≤ _; omega⟩
theorem heard_con (s : OS) (x : Mem) (n : Int) : (s.heard x n).mems = s.mems ∧ (s.heard x n).tn ≤ s.tn + 1 ∧ (s.heard x n).log.length + (s.heard x n).kn = s.log.length + s.kn := by
  unfold OS.heard
  split
  · refine ⟨rfl, ?_, rfl⟩
    show (if (s.told x).isSome then s.tn else s.tn + 1) ≤ _
    split <;> omega
  · exact ⟨rfl, by omega, rfl⟩
theorem BB.cast {k : Nat} {s : OS} {m : MS} (b : BB k s m) (z : Str) : BB (k + 1) (s.cast z).1 { m with own := m.own ++ [z] } := by
  have c := cast_con s z
  refine ⟨by have := b.l; omega, ?_, by have := b.e; show m.en ≤ _; omega, by have := b.c; show m.cn ≤ _; omega, by rw [c.2.1]; have := b.t; omega⟩
  show (m.own ++ [z]).length ≤ _
  rw [List.length_append, List.length_singleton]; have := b.o; omega
theorem BB.take {k : Nat} {s : OS} {m m' : MS} (b : BB k s m) (l : Ltr) (e1 : m'.own = m.own) (e2 : m'.cn = m.cn) (e3 : m'.en ≤ m.en + 1) : BB (k + 1) (s.take l).1 m' := by
  have c := take_con s l
  exact ⟨by have := b.l; omega, by rw [e1]; have := b.o; omega, by have := b.e; omega, by rw [e2]; have := b.c; omega, by rw [c.2.1]; have := b.t; omega⟩
theorem BB.heard {k : Nat} {s : OS} {m : MS} (b : BB k s m) (x : Mem) (n : Int) : BB (k + 1) (s.heard x n) (m.heard x n) := by
  have c := heard_con s x n
  exact ⟨by have := b.l; omega, by have := b.o; show m.own.length ≤ _; omega, by have := b.e; show m.en ≤ _; omega, by have := b.c; show m.cn + 1 ≤ _; omega, by have := b.t; omega⟩
theorem BB.up {k : Nat} {s : OS} {m : MS} (b : BB k s m) : BB (k + 1) s m := ⟨by have := b.l; omega, by have := b.o; omega, by have := b.e; omega, by have := b.c; omega, by have := b.t; omega⟩
/-! ### data may be laid -/
theorem layAll {α : Type} (f : α → PyData) (h : ∀ x, (f x).canLay0 = true) : ∀ xs : List α, PyData.canLayAll0 (xs.map f) = true
  | [] => rfl
  | x :: xs => by show ((f x).canLay0 && PyData.canLayAll0 (xs.map f)) = true; rw [h x, layAll f h xs]; rfl
theorem depAll {α : Type} (f : α → PyData) (n : Nat) (h : ∀ x, (f x).depth ≤ n) : ∀ xs : List α, PyData.depthAll (xs.map f) ≤ n
  | [] => Nat.zero_le _
  | x :: xs => by
    show max (f x).depth (PyData.depthAll (xs.map f)) ≤ n
    have := h x
    have := depAll f n h xs
    omega
/-- payloads are texts that may be laid -/
structure SOk (s : OS) : Prop where
  lg : ∀ g ∈ s.log, PyData.strOk g.2.2 = true
  kp : ∀ j g, s.kept j = some g → PyData.strOk g.2.2 = true
  pn : ∀ c ∈ s.pend, PyData.strOk c.2 = true
def Ltr.sok : Ltr → Prop
  | .cast _ _ _ z => PyData.strOk z = true
  | .order _ _ _ g => PyData.strOk g.2.2 = true
  | _ => False
theorem Ltr.sok.flows {l : Ltr} (h : l.sok) : l.flows := by
  cases l <;> first | exact True.intro | exact h.elim
theorem eM_lay0 (m : Mem) : (eM m).canLay0 = true := (eM_lay m).1
theorem eV_lay0 (m : Vid) : (eV m).canLay0 = true := (eV_lay m).1
theorem eG_lay {g : Msg} (h : PyData.strOk g.2.2 = true) : (eG g).canLay0 = true ∧ (eG g).depth = 2 := ⟨by simp [eG, PyData.canLay0, PyData.canLayAll0, eM_lay0, h], by simp [eG, eM, PyData.depth, PyData.depthAll]⟩
theorem eC_lay {c : Cst} (h : PyData.strOk c.2 = true) : (eC c).canLay0 = true ∧ (eC c).depth = 1 := ⟨by simp [eC, PyData.canLay0, PyData.canLayAll0, h], by simp [eC, PyData.depth, PyData.depthAll]⟩
theorem ok_cast0 : PyData.strOk "cast" = true := by decide +kernel
theorem ok_order0 : PyData.strOk "order" = true := by decide +kernel
theorem sml_lay {l : Ltr} (h : l.sok) : (eL l).canLay0 = true ∧ (eL l).depth ≤ 3 := by
  cases l <;> try exact h.elim
  · have h : PyData.strOk _ = true := h
    exact ⟨by simp [eL, PyData.canLay0, PyData.canLayAll0, eM_lay0, eV_lay0, h, ok_cast0], by simp [eL, eV, eM, PyData.depth, PyData.depthAll]⟩
  · have h : PyData.strOk _ = true := h
    exact ⟨by simp [eL, PyData.canLay0, PyData.canLayAll0, eM_lay0, eV_lay0, (eG_lay h).1, ok_order0], by simp [eL, eV, eG, eM, PyData.depth, PyData.depthAll]⟩
theorem layAllM {α : Type} (f : α → PyData) : ∀ xs : List α, (∀ x ∈ xs, (f x).canLay0 = true) → PyData.canLayAll0 (xs.map f) = true
  | [], _ => rfl
  | x :: xs, h => by show ((f x).canLay0 && PyData.canLayAll0 (xs.map f)) = true; rw [h x (List.mem_cons_self ..), layAllM f xs fun y m => h y (List.mem_cons_of_mem _ m)]; rfl
theorem depAllM {α : Type} (f : α → PyData) (n : Nat) : ∀ xs : List α, (∀ x ∈ xs, (f x).depth ≤ n) → PyData.depthAll (xs.map f) ≤ n
  | [], _ => Nat.zero_le _
  | x :: xs, h => by
    show max (f x).depth (PyData.depthAll (xs.map f)) ≤ n
    have := h x (List.mem_cons_self ..)
    have := depAllM f n xs fun y m => h y (List.mem_cons_of_mem _ m)
    omega
def SmP (ps : List Pkt) : Prop := ∀ k ∈ ps, k.2.sok
def SmG (gs : List Msg) : Prop := ∀ g ∈ gs, PyData.strOk g.2.2 = true
theorem smG_nil : SmG [] := fun g hg => by cases hg
theorem smP_nil : SmP [] := fun g hg => by cases hg
theorem pk_lay {ps : List Pkt} (h : SmP ps) : PyData.canLayAll0 (ps.map ePk) = true ∧ PyData.depthAll (ps.map ePk) ≤ 4 := by
  refine ⟨layAllM _ _ fun x m => ?_, depAllM _ _ _ fun x m => ?_⟩
  · show (PyData.canLay0 (.int x.1) && (PyData.canLay0 (eL x.2) && true)) = true
    rw [(sml_lay (h x m)).1]; rfl
  · have := (sml_lay (h x m)).2
    simp [ePk, PyData.depth, PyData.depthAll]; omega
theorem gs_lay {gs : List Msg} (h : SmG gs) : PyData.canLayAll0 (gs.map eG) = true ∧ PyData.depthAll (gs.map eG) ≤ 2 :=
  ⟨layAllM _ _ fun x m => (eG_lay (h x m)).1, depAllM _ _ _ fun x m => by rw [(eG_lay (h x m)).2]; exact Nat.le_refl _⟩
theorem sm_ords (s : OS) (i : Int) {g : Msg} (h : PyData.strOk g.2.2 = true) : SmP (s.ords i g) := fun k hk => by
  obtain ⟨x, _, rfl⟩ := List.mem_map.mp hk
  exact h
theorem SOk.deliver {s : OS} (o : SOk s) {g : Msg} (h : PyData.strOk g.2.2 = true) : SOk (s.deliver g) := by
  refine ⟨fun x hx => ?_, o.kp, fun c hc => ?_⟩
  · have hx : x ∈ s.log ++ [g] := hx
    rcases List.mem_append.mp hx with hx | hx
    · exact o.lg x hx
    · rw [List.mem_singleton.mp hx]; exact h
  · have hc : c ∈ (if g.1 = s.me then s.pend.filter (fun c => !decide (c.1 = g.2.1)) else s.pend) := hc
    split at hc
    · exact o.pn c (List.mem_filter.mp hc).1
    · exact o.pn c hc
theorem ok_castr {s : OS} (o : SOk s) {z : Str} (h : PyData.strOk z = true) : SOk (s.cast z).1 ∧ SmG (s.cast z).2.2.1 ∧ SmP (s.cast z).2.2.2 := by
  unfold OS.cast
  dsimp only
  split
  · refine ⟨SOk.deliver (s := { s with casts := s.casts + 1 }) ⟨o.lg, o.kp, o.pn⟩ (g := (s.me, s.casts + 1, z)) h, fun g hg => ?_, sm_ords _ _ (g := (s.me, s.casts + 1, z)) h⟩
    rw [List.mem_singleton.mp hg]; exact h
  · refine ⟨⟨o.lg, o.kp, fun c hc => ?_⟩, smG_nil, fun k hk => ?_⟩
    · rcases List.mem_append.mp hc with hc | hc
      · exact o.pn c hc
      · rw [List.mem_singleton.mp hc]; exact h
    · rw [List.mem_singleton.mp hk]; exact h
theorem ok_flush : ∀ (n : Nat) {s : OS}, SOk s → SOk (OS.flush n s).1 ∧ SmG (OS.flush n s).2
  | 0, s, o => ⟨o, smG_nil⟩
  | n + 1, s, o => by
    unfold OS.flush
    split
    · exact ⟨o, smG_nil⟩
    · rename_i g hg
      have og := o.kp _ _ hg
      have d : SOk (s.drop ((s.log.length : Int) + 1)) := ⟨o.lg, fun j g h => by
        have h : (if j = (s.log.length : Int) + 1 then none else s.kept j) = some g := h
        split at h
        · cases h
        · exact o.kp j g h, o.pn⟩
      have ih := ok_flush n (d.deliver og)
      refine ⟨ih.1, fun x hx => ?_⟩
      rcases List.mem_cons.mp hx with rfl | hx
      · exact og
      · exact ih.2 x hx
theorem ok_taker {s : OS} (o : SOk s) {l : Ltr} (h : l.sok) : SOk (s.take l).1 ∧ SmG (s.take l).2.1 ∧ SmP (s.take l).2.2 := by
  cases l <;> try exact h.elim
  case cast x v i z =>
    have h : PyData.strOk z = true := h
    show SOk (s.takeCast x v i z).1 ∧ SmG (s.takeCast x v i z).2.1 ∧ SmP (s.takeCast x v i z).2.2
    unfold OS.takeCast
    split
    · exact ⟨o, smG_nil, smP_nil⟩
    · split
      · exact ⟨o, smG_nil, smP_nil⟩
      · refine ⟨o.deliver (g := (x, i, z)) h, fun g hg => ?_, sm_ords _ _ (g := (x, i, z)) h⟩
        rw [List.mem_singleton.mp hg]; exact h
  case order x v i g =>
    have h : PyData.strOk g.2.2 = true := h
    show SOk (s.takeOrder x v i g).1 ∧ SmG (s.takeOrder x v i g).2 ∧ SmP []
    refine ⟨?_, ?_, smP_nil⟩ <;> unfold OS.takeOrder <;> split <;> first | exact o | exact smG_nil | skip
    all_goals
      have k : SOk (s.keep i g) := by
        unfold OS.keep
        split
        · refine ⟨o.lg, fun j g2 e => ?_, o.pn⟩
          have e : (if j = i then some g else s.kept j) = some g2 := e
          split at e
          · cases e; exact h
          · exact o.kp j g2 e
        · exact o
    · exact (ok_flush _ k).1
    · exact (ok_flush _ k).2
theorem ok_heardr {s : OS} (o : SOk s) (x : Mem) (n : Int) : SOk (s.heard x n) := by
  unfold OS.heard
  split
  · exact ⟨o.lg, o.kp, o.pn⟩
  · exact o
theorem sm_again {s : OS} (o : SOk s) : SmP s.again := by
  unfold OS.again
  split
  · intro k h
    obtain ⟨x, hx, rfl⟩ := List.mem_map.mp h
    exact o.pn x (List.mem_of_mem_take hx)
  · intro k h
    obtain ⟨x, hx, hk⟩ := List.mem_flatten.mp h
    obtain ⟨y, _, rfl⟩ := List.mem_map.mp hx
    unfold OS.behind at hk
    obtain ⟨i, hi, rfl⟩ := List.mem_mapIdx.mp hk
    exact o.lg _ (List.mem_of_mem_drop (List.mem_of_mem_take (List.getElem_mem _)))
theorem sh_two {gs : List Msg} (g : SmG gs) {ps : List Pkt} (h : SmP ps) : SeqAt.shaped (.tuple [.list (gs.map eG), .list (ps.map ePk)]) = true := by
  have := gs_lay g; have := pk_lay h
  simp [SeqAt.shaped, PyData.canLay0, PyData.canLayAll0, PyData.depth, PyData.depthAll, *]
  omega
theorem sh_three (n : Int) {gs : List Msg} (g : SmG gs) {ps : List Pkt} (h : SmP ps) : SeqAt.shaped (.tuple [.int n, .list (gs.map eG), .list (ps.map ePk)]) = true := by
  have := gs_lay g; have := pk_lay h
  simp [SeqAt.shaped, PyData.canLay0, PyData.canLayAll0, PyData.depth, PyData.depthAll, *]
  omega
theorem sh_pks {ps : List Pkt} (h : SmP ps) : SeqAt.shaped (.list (ps.map ePk)) = true := by
  have := pk_lay h
  simp [SeqAt.shaped, PyData.canLay0, PyData.canLayAll0, PyData.depth, PyData.depthAll, *]
  omega
theorem sh_gs {gs : List Msg} (g : SmG gs) : SeqAt.shaped (eGs gs) = true := by
  have := gs_lay g
  simp [eGs, SeqAt.shaped, PyData.canLay0, PyData.canLayAll0, PyData.depth, PyData.depthAll, *]
  omega
theorem sh_cs {cs : List Cst} (h : ∀ c ∈ cs, PyData.strOk c.2 = true) : SeqAt.shaped (eCs cs) = true := by
  have h1 : PyData.canLayAll0 (cs.map eC) = true := layAllM _ _ fun x m => (eC_lay (h x m)).1
  have h2 : PyData.depthAll (cs.map eC) ≤ 1 := depAllM _ _ _ fun x m => by rw [(eC_lay (h x m)).2]; exact Nat.le_refl _
  simp [eCs, SeqAt.shaped, PyData.canLay0, PyData.canLayAll0, PyData.depth, PyData.depthAll, *]
  omega
/-! ### what holds between two turns -/
structure LI (w : World) (CO : Addr) (l : Addr) (xs : List V) (vms : V) (p d : Addr) (k : Nat) (H : Hp) (a : OA) (b : MA) (s : OS) (m : MS) : Prop where
  O : OAt w CO H p a s
  M : MAt w H d b s m
  R : RR s m
  B : BB k s m
  dj : ∀ x ∈ b.fp d, x ∉ a.fp p
  ls : H l = some (.lst xs)
  la : l ∉ a.fp p
  lb : l ∉ b.fp d
  ms : TD H vms (eMs s.mems)
  ok : SOk s
section
variable {w : World} {CO l : Addr} {xs : List V} {vms : V} {p d : Addr} {k : Nat} {H H1 H2 H' : Hp} {a a1 : OA} {b : MA} {s s1 : OS} {m m1 : MS}
theorem LI.fr (L : LI w CO l xs vms p d k H a b s m) {ls : List Addr} (F : Fr ls ls H H') (h : ∀ x ∈ ls, x ∉ a.fp p ∧ x ∉ b.fp d ∧ x ≠ l) : LI w CO l xs vms p d k H' a b s m :=
  ⟨L.O.fr F (fun x hx z => (h x z).1 hx), L.M.fr F (fun x hx z => (h x z).2.1 hx), L.R, L.B, L.dj, F.k _ _ L.ls (fun z => (h _ z).2.2 rfl), L.la, L.lb, L.ms.mono F.t, L.ok⟩
theorem LI.same (L : LI w CO l xs vms p d k H a b s m) (S : Same H H') : LI w CO l xs vms p d k H' a b s m := L.fr (Fr.of (fp := []) S) (fun x h => nomatch h)
theorem LI.mid (L : LI w CO l xs vms p d k H a b s m) (F1 : Fr (a.fp p) (a1.fp p) H H1) : MAt w H1 d b s m := L.M.fr F1 L.dj
theorem LI.dj1 (L : LI w CO l xs vms p d k H a b s m) (F1 : Fr (a.fp p) (a1.fp p) H H1) : ∀ x ∈ b.fp d, x ∉ a1.fp p := fun x hx z => by
  rcases F1.n x z with q | q
  · exact L.dj x hx q
  · obtain ⟨o, e, _⟩ := L.M.taken x hx
    rw [q] at e; cases e
theorem LI.step (L : LI w CO l xs vms p d k H a b s m) {k' : Nat} (F1 : Fr (a.fp p) (a1.fp p) H H1) (O1 : OAt w CO H1 p a1 s1) (F2 : Fr (b.fp d) (b.fp d) H1 H2) (M2 : MAt w H2 d b s1 m1) (R1 : RR s1 m1) (B1 : BB k' s1 m1) (e : s1.mems = s.mems) (ok : SOk s1) : LI w CO l xs vms p d k' H2 a1 b s1 m1 :=
  ⟨O1.fr F2 (fun x hx z => L.dj1 F1 x z hx), M2, R1, B1, L.dj1 F1, F2.k _ _ (F1.k _ _ L.ls L.la) L.lb, (fun z => by
    rcases F1.n l z with q | q
    · exact L.la q
    · have := L.ls; rw [q] at this; cases this), L.lb, by rw [e]; exact (L.ms.mono F1.t).mono F2.t, ok⟩
/-- a list that the order handed back -/
theorem LI.lst1 (L : LI w CO l xs vms p d k H a b s m) {fp : List Addr} {y : Addr} {ds : List PyData} (F2 : Fr (b.fp d) (b.fp d) H1 H2) (N : NewL H fp H1 y ds) : LstAt H2 y ds ∧ y ∉ fp ∧ y ∉ b.fp d ∧ y ≠ l := by
  have nb : y ∉ b.fp d := fun z => by
    obtain ⟨o, e, _⟩ := L.M.taken y z
    rw [N.new] at e; cases e
  obtain ⟨vs, h1, h2⟩ := N.at_
  exact ⟨⟨vs, F2.k _ _ h1 nb, h2.mono F2.t⟩, N.out, nb, fun z => by have := L.ls; rw [← z, N.new] at this; cases this⟩
end
theorem dp_lst {K : PySem.W.Frag} {H : Hp} {y : Addr} {ds : List PyData} (h : LstAt H y ds) : Dp K H (.ref y) (.list ds) := by
  obtain ⟨vs, h1, h2⟩ := h
  exact .lst (SqL.of h1) h2.dp
theorem shp_lst {H : Hp} {y : Addr} {ds : List PyData} (h : LstAt H y ds) (n : ds.length ≤ 100000) : ∃ vs, H y = some (.lst vs) ∧ vs.length ≤ 100000 := by
  obtain ⟨vs, h1, h2⟩ := h
  exact ⟨vs, h1, by rw [h2.length]; exact n⟩
theorem ords_len (s : OS) (i : Int) (g : Msg) : (s.ords i g).length ≤ s.mems.length := by
  unfold OS.ords OS.others
  rw [List.length_map]
  exact List.length_filter_le _ _
theorem cast_len (s : OS) (z : Str) : (s.cast z).2.2.1.length ≤ 1 ∧ (s.cast z).2.2.2.length ≤ s.mems.length + 1 := by
  unfold OS.cast
  dsimp only
  split
  · refine ⟨Nat.le_refl _, ?_⟩
    have := ords_len ({ s with casts := s.casts + 1 }) ((s.log.length : Int) + 1) (s.me, s.casts + 1, z)
    exact Nat.le_succ_of_le this
  · exact ⟨Nat.zero_le _, by simp⟩
theorem flush_len : ∀ (n : Nat) (s : OS), (OS.flush n s).2.length ≤ n
  | 0, s => Nat.le_refl _
  | n + 1, s => by
    unfold OS.flush
    split
    · exact Nat.zero_le _
    · have := flush_len n ((s.drop ((s.log.length : Int) + 1)).deliver (by assumption))
      exact Nat.succ_le_succ this
theorem take_len (s : OS) (l : Ltr) : (s.take l).2.1.length ≤ s.kn + 1 ∧ (s.take l).2.2.length ≤ s.mems.length + 1 := by
  cases l <;> try exact ⟨Nat.zero_le _, Nat.zero_le _⟩
  case cast x v i z =>
    show (s.takeCast x v i z).2.1.length ≤ _ ∧ (s.takeCast x v i z).2.2.length ≤ _
    unfold OS.takeCast
    split
    · exact ⟨Nat.zero_le _, Nat.zero_le _⟩
    · split
      · exact ⟨Nat.zero_le _, Nat.zero_le _⟩
      · exact ⟨by show 1 ≤ _; omega, Nat.le_succ_of_le (ords_len s _ _)⟩
  case order x v i g =>
    show (s.takeOrder x v i g).2.length ≤ _ ∧ ([] : List Pkt).length ≤ _
    refine ⟨?_, Nat.zero_le _⟩
    unfold OS.takeOrder
    split
    · exact Nat.zero_le _
    · have c := flush_len (s.keep i g).kn (s.keep i g)
      have e : (s.keep i g).kn ≤ s.kn + 1 := by
        unfold OS.keep
        split
        · exact Nat.le_refl _
        · omega
      omega
def Mid20 (K : PySem.W.Frag) (w : World) (CO l : Addr) (xs : List V) (vms : V) (p d : Addr) (k : Nat) (H : Hp) (va ve : V) : Prop :=
  ∃ (a : OA) (b : MA) (s : OS) (m : MS) (e : PyData) (ls : List Addr), LI w CO l xs vms p d k H a b s m ∧ Dp K H va e ∧ Dp K H ve e ∧ SeqAt.shaped e = true ∧ (decide (va = .non) = decide (ve = .non)) ∧ Shp H va ls ∧ ∀ x ∈ ls, x ∉ a.fp p ∧ x ∉ b.fp d ∧ x ≠ l
section
variable {K : PySem.W.Frag} {w : World} {CO l : Addr} {xs : List V} {vms : V} {p d : Addr} {k : Nat} {H : Hp} {a : OA} {b : MA} {s : OS} {m : MS} {t t' l1 l2 l1' l2' : Addr} {d1 d2 : List PyData}
theorem two_ls {P : Addr → Prop} (h1 : P l1) (h2 : P l2) : ∀ x ∈ [l1, l2], P x := fun x hx => by
  rcases List.mem_cons.mp hx with rfl | hx
  · exact h1
  · rw [List.mem_singleton.mp hx]; exact h2
theorem mid_three {n : Int} (L : LI w CO l xs vms p d k H a b s m) (ht : H t = some (.tup [.int n, .ref l1, .ref l2])) (ht' : H t' = some (.tup [.int n, .ref l1', .ref l2'])) (k1 : LstAt H l1 d1) (k2 : LstAt H l2 d2) (k1' : LstAt H l1' d1) (k2' : LstAt H l2' d2)
    (sh : SeqAt.shaped (.tuple [.int n, .list d1, .list d2]) = true) (n1 : d1.length ≤ 100000) (n2 : d2.length ≤ 100000) (o1 : l1 ∉ a.fp p ∧ l1 ∉ b.fp d ∧ l1 ≠ l) (o2 : l2 ∉ a.fp p ∧ l2 ∉ b.fp d ∧ l2 ≠ l) : Mid20 K w CO l xs vms p d k H (.ref t) (.ref t') :=
  ⟨a, b, s, m, _, [l1, l2], L, .tup (SqT.of ht) (.cons (.int _) (.cons (dp_lst k1) (.cons (dp_lst k2) .nil))), .tup (SqT.of ht') (.cons (.int _) (.cons (dp_lst k1') (.cons (dp_lst k2') .nil))), sh, rfl,
    .tup ht (by show 3 ≤ 3; decide) (fun x hx => by
      rcases List.mem_cons.mp hx with rfl | hx
      · exact .inl ⟨_, rfl⟩
      · rcases List.mem_cons.mp hx with rfl | hx
        · exact .inr ⟨_, rfl, by simp⟩
        · rw [List.mem_singleton.mp hx]; exact .inr ⟨_, rfl, by simp⟩) (two_ls (P := fun x => ∃ vs, H x = some (.lst vs) ∧ vs.length ≤ 100000) (shp_lst k1 n1) (shp_lst k2 n2)), two_ls o1 o2⟩
theorem mid_two (L : LI w CO l xs vms p d k H a b s m) (ht : H t = some (.tup [.ref l1, .ref l2])) (ht' : H t' = some (.tup [.ref l1', .ref l2'])) (k1 : LstAt H l1 d1) (k2 : LstAt H l2 d2) (k1' : LstAt H l1' d1) (k2' : LstAt H l2' d2)
    (sh : SeqAt.shaped (.tuple [.list d1, .list d2]) = true) (n1 : d1.length ≤ 100000) (n2 : d2.length ≤ 100000) (o1 : l1 ∉ a.fp p ∧ l1 ∉ b.fp d ∧ l1 ≠ l) (o2 : l2 ∉ a.fp p ∧ l2 ∉ b.fp d ∧ l2 ≠ l) : Mid20 K w CO l xs vms p d k H (.ref t) (.ref t') :=
  ⟨a, b, s, m, _, [l1, l2], L, .tup (SqT.of ht) (.cons (dp_lst k1) (.cons (dp_lst k2) .nil)), .tup (SqT.of ht') (.cons (dp_lst k1') (.cons (dp_lst k2') .nil)), sh, rfl,
    .tup ht (by show 2 ≤ 3; decide) (fun x hx => by
      rcases List.mem_cons.mp hx with rfl | hx
      · exact .inr ⟨_, rfl, by simp⟩
      · rw [List.mem_singleton.mp hx]; exact .inr ⟨_, rfl, by simp⟩) (two_ls (P := fun x => ∃ vs, H x = some (.lst vs) ∧ vs.length ≤ 100000) (shp_lst k1 n1) (shp_lst k2 n2)), two_ls o1 o2⟩
end
abbrev s__law_letter : Stmt := top 17
abbrev N__law_letter : List Str := ["model", "cell", "members", "stranger", "sender", "view_id", "index", "place", "author", "row", "ahead", "early"]
abbrev P__law_letter : List Str := ["model", "cell"]
theorem sc__law_letter : FnScope N__law_letter P__law_letter (defScope s__law_letter) := ⟨rfl, rfl, rfl, by decide +kernel, rfl, by decide +kernel, by decide +kernel⟩
def sp_llet (w : World) : Sp := fun vs H Q _ => ∃ (d : Addr) (a : MA) (s : OS) (m : MS) (c : Int), vs = [.ref d, .int c] ∧ 0 ≤ c ∧ MAt w H d a s m ∧ RR s m ∧ SOk s ∧ s.log.length ≤ 1000 ∧ m.own.length ≤ 1000 ∧ m.en ≤ 1000 ∧
  ∀ r l H', Same H H' → TD H' r (eL l) → l.sok → l.mine s → Q r H'
end Mus

set_option maxRecDepth 100000
set_option maxHeartbeats 4000000
namespace Mus
open PySem L2
local macro_rules | `(tactic| walk_at "rd") => `(tactic| first
  | refine ⟨_, rfl, ?_⟩ | refine ⟨(True.intro : True), ?_⟩
  | refine ⟨_, _, rfl, rfl, (⟨by decide, by decide, by decide⟩ : CPow _ _), ?_⟩
  | refine ⟨_, _, rfl, rfl, (⟨by decide, by decide⟩ : CDiv _ _), ?_⟩
  | refine ⟨_, _, rfl, rfl, (by show (0 : Int) < _; decide), ?_⟩
  | refine ⟨_, _, rfl, rfl, ?_⟩ | refine ⟨rfl, ?_⟩ | refine iteT ?_ | refine iteF ?_ | refine ⟨_, _, rfl, ?_⟩ | refine .inl ⟨_, rfl, ?_⟩
  | refine ⟨_, _, _, _, _, rfl, (by assumption), (by assumption), (by assumption), rfl, ?_⟩ | refine ⟨_, _, _, _, rfl, rfl, SqT.of (by assumption), rfl, ?_⟩ | refine ⟨_, _, rfl, SqT.of (by assumption), rfl, ?_⟩
  | refine ⟨_, _, _, _, _, rfl, .ty _, Rp.ty (by assumption), kit_int _, ?_⟩ | refine ⟨_, _, _, _, _, rfl, .ty _, Rp.ty (by assumption), kit_bool _, ?_⟩
  | refine ⟨_, _, _, _, _, rfl, .ty _, Rp.ty (by assumption), kit_str _, ?_⟩ | refine ⟨_, _, _, _, _, rfl, .ty _, Rp.ty (by assumption), kit_tup _, ?_⟩)
local macro_rules | `(tactic| walk_at "cal") => `(tactic| first
  | refine ⟨_, _, _, _, _, rfl, (by assumption), ?_⟩ | refine ⟨_, _, _, _, _, rfl, (by assumption), (by assumption), ?_⟩)
local macro_rules | `(tactic| walk_at "sq") => `(tactic| first
  | refine ⟨_, _, rfl, Or.inr (SqT.of (by assumption)), ?_⟩ | refine ⟨_, _, _, _, rfl, rfl, SqT.of (by assumption), rfl, ?_⟩)
local macro_rules | `(tactic| walk_at "rds") => `(tactic| repeat first | walk_at "rd" | walk_at "cal" | walk_at "sq")
local macro_rules | `(tactic| walk_at "ze") => `(tactic| repeat first
  | exact zes_nil | exact ze_bl | exact ze_str | exact ze_non | apply zes_cons | apply ze_tup | apply ze_lst | apply ze_cat | exact di_c | exact di_v rfl | apply di_opC | apply di_op | apply di_neg | apply ze_i | (refine (⟨?_, ?_, ?_⟩ : CPow _ _) <;> decide) | exact Nat.le_of_ble_eq_true rfl | exact ze_varD rfl (by assumption))
local macro_rules | `(tactic| walk_at "rdz") => `(tactic| repeat (fail_if_success (first | show tLst _ _ _ _ | show tAsg (tLst _) _ _ _ _ | show tSeq (tAsg (tLst _) _) _ _ _ _)); first | walk_at "rd" | walk_at "cal" | walk_at "sq")
section
variable {P : Program} {w : World} {K : PySem.W.Frag} {mg : Str → Option Value} {base : Heap} {CO CV : Addr}
theorem TDs.last {H : Hp} {vs : List V} {ds : List PyData} (h : TDs H vs ds) (n : ds ≠ []) : ∃ v d, atI vs (-1) = some v ∧ d ∈ ds ∧ TD H v d := by
  have l := h.length
  have hn : vs ≠ [] := fun z => n (List.eq_nil_of_length_eq_zero (by rw [← l, z]; rfl))
  have e : vs = vs.dropLast ++ [vs.getLast hn] := (List.dropLast_concat_getLast hn).symm
  have ea : atI vs (-1) = some (vs.getLast hn) := by
    conv => lhs; rw [e]
    exact at_last _ _
  have hg : vs[vs.length - 1]? = some (vs.getLast hn) := by rw [← List.getLast?_eq_getElem?, List.getLast?_eq_some_getLast hn]
  obtain ⟨d, hd, td⟩ := h.at hg
  exact ⟨_, d, ea, List.mem_of_getElem? hd, td⟩
theorem atI_intk (ns : List Int) {r : Int} (h0 : 0 ≤ r) (h1 : r < (ns.length : Int)) : ∃ x, atI (ns.map V.int) r = some (V.int x) := by
  have hlt : r.toNat < ns.length := by omega
  exact ⟨ns[r.toNat], at_int h0 (by rw [List.getElem?_map, List.getElem?_eq_getElem hlt]; rfl)⟩
theorem ok_llet {f : Addr} {fd : FuncData} (T : Tx K mg CO CV) (c__law_last : DefOk P w K mg base CX0 "_law_last" P__law_last 1 (sp_llast w)) (c__law_payload : DefOk P w K mg base CX0 "_law_payload" P__law_payload 1 (sp_pay20)) (c__law_pending : DefOk P w K mg base CX0 "_law_pending" P__law_pending 1 (sp_lpend w)) (F : Fun K "_law_letter" "_law_letter" s__law_letter f fd) : FnOk P w K mg base CX0 2 f fd P__law_letter (sp_llet w) := by
  have nd := sc__law_letter.nd
  refine F.ok sc__law_letter (fun vs H Q E h => ?_) (fun cdv A outer s H vs Q E hr h => ?_)
  · obtain ⟨_, _, _, _, _, rfl, _⟩ := h
    rfl
  · obtain ⟨d, a, s, m, c, rfl, c0, M, R, SO, hl, ho, hen, q⟩ := h
    have hs := sl
    have hu := hu_of hr
    obtain ⟨ml, hhd⟩ := R.hd
    have hms := M.ms
    rw [hhd] at hms
    obtain ⟨bm, xs, em, hbm, lxs, rms⟩ := TD.tupI hms
    obtain ⟨vf, vr, rfl, rf, rr⟩ := TDs.consI (d := eM s.fd) (ds := ml.map eM) rms
    have gms : DGet H d (.str "members") (some (.ref bm)) := by rw [← em]; exact M.g_ms
    have al := R.len
    rw [hhd, List.length_cons] at al
    have lvr := rms.length
    have lv : (vf :: vr).length = ml.length + 1 := by rw [lvr, List.length_map, List.length_cons]
    obtain ⟨vlast, dl, hlast, hdl, tlast⟩ := rms.last (by simp)
    obtain ⟨xl, rfl⟩ : ∃ x, dl = eM x := by
      rcases List.mem_cons.mp hdl with rfl | h
      · exact ⟨_, rfl⟩
      · obtain ⟨x, _, rfl⟩ := List.mem_map.mp h
        exact ⟨x, rfl⟩
    have pick : ∀ k : Int, 0 ≤ k → k < (((vf :: vr).length : Nat) : Int) → ∃ v x, atI (vf :: vr) k = some v ∧ TD H v (eM x) := fun k k0 k1 => by
      obtain ⟨v, hv⟩ : ∃ v, (vf :: vr)[k.toNat]? = some v := ⟨_, List.getElem?_eq_getElem (by omega)⟩
      obtain ⟨dd, hd, td⟩ := rms.at hv
      rcases List.mem_cons.mp (List.mem_of_getElem? hd) with rfl | h
      · exact ⟨v, _, at_int k0 hv, td⟩
      · obtain ⟨x, _, rfl⟩ := List.mem_map.mp h
        exact ⟨v, x, at_int k0 hv, td⟩
    have lpos : (0 : Int) < (((vf :: vr).length : Nat) : Int) := by rw [List.length_cons]; omega
    refine ⟨_, (pss_cons (ps_set (i := 2) nd rfl (Or.inl rfl) (pe_dget hu (pv 0) pe_str (fun _ _ => rfl)))
      (pss_cons (ps_set (i := 3) nd rfl (Or.inl rfl) (pe_tup (pa_cons pe_int (pa_cons pe_int pa_nil))))
      (pss_cons (ps_set (i := 4) nd rfl (Or.inl rfl) (pe_ix ix_list (pe_lst (pa_cons (pe_ix ix_tup (pv 2) pe_int (fun _ _ => rfl)) (pa_cons (pe_ix ix_tup (pv 2) (pe_un un_neg pe_int) (fun _ _ => rfl)) (pa_cons (pe_ix ix_tup (pv 2) (pe_op op_mod (pe_op op_fdiv (pv 1) pe_int) (pe_callB call_len_seq (by rfl) T.b_len (by decide +kernel) (pa_cons (pv 2) pa_nil))) (fun _ _ => rfl)) (pa_cons (pv 3) (pa_cons (pe_tup (pa_cons (pe_ix ix_tup (pe_ix ix_tup (pv 2) pe_int (fun _ _ => rfl)) pe_int (fun _ _ => rfl)) (pa_cons pe_int pa_nil))) pa_nil)))))) (pe_op op_mod (pv 1) pe_int) (fun _ _ => rfl)))
      (pss_cons (ps_set (i := 5) nd rfl (Or.inl rfl) (pe_dget hu (pv 0) pe_str (fun _ _ => rfl)))
      (C8.pss_cut (ps_if (pt_cmpR op_eq (pe_op op_mod (pe_op op_fdiv (pv 1) pe_int) pe_int) pe_int (nomark _))
        (pss_one (ps_set (i := 5) nd rfl (Or.inl rfl) (pe_ix ix_list (pe_lst (pa_cons (pe_tup (pa_cons (pe_op op_add (pe_ix ix_tup (pv 5) pe_int (fun _ _ => rfl)) pe_int) (pa_cons (pe_ix ix_tup (pv 5) pe_int (fun _ _ => rfl)) pa_nil))) (pa_cons (pe_tup (pa_cons (pe_ix ix_tup (pv 5) pe_int (fun _ _ => rfl)) (pa_cons (pe_tup (pa_cons pe_int (pa_cons pe_int pa_nil))) pa_nil))) pa_nil))) (pe_op op_mod (pe_op op_fdiv (pv 1) pe_int) pe_int) (fun _ _ => rfl))))
        pss_nil)
      (C8.pss_cut (ps_if (pt_cmpR op_eq (pe_op op_mod (pe_op op_fdiv (pv 1) pe_int) pe_int) pe_int (nomark _))
        (pss_cons (ps_set (i := 6) nd rfl (Or.inl rfl) (pe_callB (call_max2 rfl) (by rfl) T.b_max (by decide +kernel) (pa_cons pe_int (pa_cons (pe_op op_add (pcall c__law_last hr (pa_cons (pv 0) (pa_cons (pv 4) pa_nil))) (pe_ix ix_list (pe_lst (pa_cons pe_int (pa_cons pe_int (pa_cons pe_int (pa_cons pe_int (pa_cons pe_int pa_nil)))))) (pe_op op_mod (pe_op op_fdiv (pv 1) pe_int) pe_int) (fun _ _ => rfl))) pa_nil))))
        (pss_one (ps_ret (pe_tup (pa_cons pe_str (pa_cons (pv 4) (pa_cons (pv 5) (pa_cons (pv 6) (pa_cons (pcall c__law_payload hr (pa_cons (pe_op op_fdiv (pv 1) pe_int) pa_nil)) pa_nil)))))))))
        pss_nil)
      (pss_cons (ps_set (i := 7) nd rfl (Or.inr rfl) (pe_callB (call_max2 rfl) (by rfl) T.b_max (by decide +kernel) (pa_cons pe_int (pa_cons (pe_op op_add (pe_callB call_len_seq (by rfl) T.b_len (by decide +kernel) (pa_cons (pe_dget hu (pv 0) pe_str (fun _ _ => rfl)) pa_nil)) (pe_ix ix_list (pe_lst (pa_cons pe_int (pa_cons pe_int (pa_cons pe_int (pa_cons pe_int (pa_cons pe_int (pa_cons pe_int (pa_cons pe_int (pa_cons pe_int pa_nil))))))))) (pe_op op_mod (pe_op op_fdiv (pv 1) pe_int) pe_int) (fun _ _ => rfl))) pa_nil))))
      (C8.pss_cut (ps_if (pt_cmpR op_eq (pe_op op_mod (pe_op op_fdiv (pv 1) pe_int) pe_int) pe_int (nomark _))
        (pss_one (ps_set (i := 4) nd rfl (Or.inl rfl) (pe_ix ix_tup (pv 2) pe_int (fun _ _ => rfl))))
        pss_nil)
      (pss_cons (ps_set (i := 8) nd rfl (Or.inl rfl) (pe_ix ix_tup (pv 2) (pe_op op_mod (pe_op op_fdiv (pv 1) pe_int) (pe_callB call_len_seq (by rfl) T.b_len (by decide +kernel) (pa_cons (pv 2) pa_nil))) (fun _ _ => rfl)))
      (C8.pss_cut (ps_if (PW.pt (pw_and (pt_cmpR (op_eqD hr.units) (pv 8) (pe_dget hu (pv 0) pe_str (fun _ _ => rfl)) (nomark _)) (pw_and1 (pt_cmpR op_gt (pe_callB call_len_seq (by rfl) T.b_len (by decide +kernel) (pa_cons (pcall c__law_pending hr (pa_cons (pv 0) pa_nil)) pa_nil)) pe_int (nomark _)))))
        (pss_cons (ps_set (i := 9) nd rfl (Or.inl rfl) (pe_ix ix_tup (pcall c__law_pending hr (pa_cons (pv 0) pa_nil)) pe_int (fun _ _ => rfl)))
        (pss_one (ps_ret (pe_tup (pa_cons pe_str (pa_cons (pv 4) (pa_cons (pv 5) (pa_cons (pv 7) (pa_cons (pe_tup (pa_cons (pv 8) (pa_cons (pe_ix ix_tup (pv 9) pe_int (fun _ _ => rfl)) (pa_cons (pe_ix ix_tup (pv 9) pe_int (fun _ _ => rfl)) pa_nil)))) pa_nil)))))))))
        pss_nil)
      (pss_cons (ps_set (i := 8) nd rfl (Or.inl rfl) (pe_ix ix_tup (pv 2) pe_int (fun _ _ => rfl)))
      (pss_cons (ps_set (i := 10) nd rfl (Or.inl rfl) (pe_callB call_len_seq (by rfl) T.b_len (by decide +kernel) (pa_cons (pe_lock (pe_lcX (own := [("early", 11)]) rfl nd (pi_keys (pe_dget hu (pv 0) pe_str (fun _ _ => rfl))) (blkOk_by (own := [("early", 11)]) (N := N__law_letter) (sc := defScope s__law_letter) (by decide +kernel)) (fun _ _ _ _ _ => (pg_name (i := 11) nd rfl (Or.inl rfl))) (fun _ _ _ _ _ => (pts_one (pt_cmpR op_lt (pv 11) (pv 7) (nomark _)))) (fun _ _ _ _ _ => (pv 11)))) pa_nil)))
      (pss_one (ps_ret (pe_tup (pa_cons pe_str (pa_cons (pv 4) (pa_cons (pv 5) (pa_cons (pv 7) (pa_cons (pe_tup (pa_cons (pv 8) (pa_cons (pe_op op_add (pe_op op_add (pcall c__law_last hr (pa_cons (pv 0) (pa_cons (pv 8) pa_nil))) pe_int) (pv 10)) (pa_cons (pcall c__law_payload hr (pa_cons (pe_op op_fdiv (pv 1) pe_int) pa_nil)) pa_nil)))) pa_nil)))))))))))))))))))), ?_⟩
    walk_at "rds"
    refine ⟨d, _, rfl, gms, ?_⟩
    obtain ⟨bf, rfl, hbf⟩ := rf.mem
    refine ⟨by show 2 ≤ sizeLine; omega, fun t0 nt0 => ?_⟩
    have s1 := same_new nt0 (.tup [V.int 5, V.int 1])
    have ht0 : (upd H t0 (.tup [V.int 5, V.int 1])) t0 = some (.tup [V.int 5, V.int 1]) := upd_same
    generalize upd H t0 (.tup [V.int 5, V.int 1]) = H1 at *
    have hbm1 := s1 _ _ hbm
    refine ⟨_, rfl, bm, _, _, .ref bf, rfl, rfl, SqT.of hbm1, at_int (by decide) rfl, ?_⟩
    walk_at "rds"
    refine ⟨bm, _, _, vlast, rfl, rfl, SqT.of hbm1, hlast, ?_⟩
    walk_at "rds"
    have hk0 : 0 ≤ c / 8 % (((V.ref bf :: vr).length : Nat) : Int) := Int.emod_nonneg _ (by omega)
    have hk1 : c / 8 % (((V.ref bf :: vr).length : Nat) : Int) < (((V.ref bf :: vr).length : Nat) : Int) := Int.emod_lt_of_pos _ lpos
    obtain ⟨vk, xk, hvk, tk⟩ := pick _ hk0 hk1
    refine ⟨lpos, ?_⟩
    refine ⟨bm, _, _, vk, rfl, rfl, SqT.of hbm1, hvk, ?_⟩
    walk_at "rds"
    refine ⟨bm, _, _, .ref bf, rfl, rfl, SqT.of hbm1, at_int (by decide) rfl, ?_⟩
    refine ⟨bf, _, _, .int s.fd.1, rfl, rfl, SqT.of (s1 _ _ hbf), rfl, ?_⟩
    refine ⟨by show 2 ≤ sizeLine; omega, fun t1 nt1 => ?_⟩
    have s2 := same_new nt1 (.tup [V.int s.fd.1, V.int 9])
    have ht1 : (upd H1 t1 (.tup [V.int s.fd.1, V.int 9])) t1 = some (.tup [V.int s.fd.1, V.int 9]) := upd_same
    generalize upd H1 t1 (.tup [V.int s.fd.1, V.int 9]) = H1b at *
    refine ⟨by show 5 ≤ sizeLine; omega, fun u nu => ?_⟩
    have s3 := same_new nu (.lst [.ref bf, vlast, vk, .ref t0, .ref t1])
    have hu5 : (upd H1b u (.lst [.ref bf, vlast, vk, .ref t0, .ref t1])) u = some _ := upd_same
    have s02 := s1.trans (s2.trans s3)
    have t5 : TDs (upd H1b u (.lst [.ref bf, vlast, vk, .ref t0, .ref t1])) [.ref bf, vlast, vk, .ref t0, .ref t1] ([s.fd, xl, xk, ((5, 1) : Mem), (s.fd.1, 9)].map eM) :=
      .cons (rf.same s02) (.cons (tlast.same s02) (.cons (tk.same s02) (.cons (td_mem (m := ((5, 1) : Mem)) ((s2.trans s3) _ _ ht0)) (.cons (td_mem (m := (s.fd.1, 9)) (s3 _ _ ht1)) .nil))))
    generalize upd H1b u (.lst [.ref bf, vlast, vk, .ref t0, .ref t1]) = H2 at *
    have hc5 : (c % 5).toNat < [V.ref bf, vlast, vk, .ref t0, .ref t1].length := by show _ < 5; omega
    obtain ⟨sd, hsd⟩ : ∃ sd, [V.ref bf, vlast, vk, .ref t0, .ref t1][(c % 5).toNat]? = some sd := ⟨_, List.getElem?_eq_getElem hc5⟩
    obtain ⟨dd, hdd, tsd⟩ := t5.at hsd
    rw [List.getElem?_map] at hdd
    obtain ⟨x, _, rfl⟩ := Option.map_eq_some_iff.mp hdd
    walk_at "rds"
    refine ⟨u, _, _, sd, rfl, rfl, SqL.of hu5, at_int (by omega) hsd, ?_⟩
    have M2 := M.same s02
    walk_at "rds"
    refine ⟨d, _, rfl, M2.g_id, ?_⟩
    walk_at "rds"
    obtain ⟨bv, uv, ev, hbv, tuv⟩ := M2.vid.vid
    rw [ev]
    refine ⟨fun σ' H' => ∃ (vv : V) (vd : Vid), σ' = [some (.ref d), some (.int c), some (.ref bm), some (.ref t0), some sd, some vv, none, none, none, none, none, none] ∧ Same H2 H' ∧ TD H' vv (eV vd), ?_, ?_⟩
    · walk_at "rds"
      refine iB (fun h => ?_) (fun h => ?_)
      · walk_at "rds"
        refine ⟨by show 2 ≤ sizeLine; omega, fun p1 n1 => ?_⟩
        have v1 := same_new n1 (.tup [V.int (s.vid.1 + 1), uv])
        have hp1 : (upd H2 p1 (.tup [V.int (s.vid.1 + 1), uv])) p1 = some _ := upd_same
        generalize upd H2 p1 (.tup [V.int (s.vid.1 + 1), uv]) = G1 at *
        refine ⟨_, rfl, bv, _, _, .int s.vid.1, rfl, rfl, SqT.of (v1 _ _ hbv), rfl, ?_⟩
        refine ⟨by show 2 ≤ sizeLine; omega, fun p2 n2 => ?_⟩
        have v2 := same_new n2 (.tup [V.int 2, V.int 3])
        have hp2 : (upd G1 p2 (.tup [V.int 2, V.int 3])) p2 = some (.tup [V.int 2, V.int 3]) := upd_same
        generalize upd G1 p2 (.tup [V.int 2, V.int 3]) = G2 at *
        refine ⟨by show 2 ≤ sizeLine; omega, fun p3 n3 => ?_⟩
        have v3 := same_new n3 (.tup [V.int s.vid.1, .ref p2])
        have hp3 : (upd G2 p3 (.tup [V.int s.vid.1, .ref p2])) p3 = some _ := upd_same
        generalize upd G2 p3 (.tup [V.int s.vid.1, .ref p2]) = G3 at *
        refine ⟨by show 2 ≤ sizeLine; omega, fun p4 n4 => ?_⟩
        have v4 := same_new n4 (.lst [V.ref p1, .ref p3])
        have hp4 : (upd G3 p4 (.lst [V.ref p1, .ref p3])) p4 = some _ := upd_same
        have tl2 : TDs (upd G3 p4 (.lst [V.ref p1, .ref p3])) [V.ref p1, .ref p3] ([((s.vid.1 + 1, s.vid.2) : Vid), (s.vid.1, (2, 3))].map eV) :=
          .cons (.tup ((v2.trans (v3.trans v4)) _ _ hp1) (by show 2 ≤ 100000; decide) (.cons (.int _) (.cons (tuv.same (v1.trans (v2.trans (v3.trans v4)))) .nil))) (.cons (.tup (v4 _ _ hp3) (by show 2 ≤ 100000; decide) (.cons (.int _) (.cons (td_mem (m := ((2, 3) : Mem)) ((v3.trans v4) _ _ hp2)) .nil))) .nil)
        generalize upd G3 p4 (.lst [V.ref p1, .ref p3]) = H3 at *
        have v23 : Same H2 H3 := v1.trans (v2.trans (v3.trans v4))
        have hc2 : (c / 8 % 2).toNat < [V.ref p1, V.ref p3].length := by show _ < 2; omega
        obtain ⟨vv, hvv⟩ : ∃ vv, [V.ref p1, V.ref p3][(c / 8 % 2).toNat]? = some vv := ⟨_, List.getElem?_eq_getElem hc2⟩
        obtain ⟨dv, hdv, tvd⟩ := tl2.at hvv
        rw [List.getElem?_map] at hdv
        obtain ⟨vd, _, rfl⟩ := Option.map_eq_some_iff.mp hdv
        walk_at "rds"
        refine ⟨p4, _, _, vv, rfl, rfl, SqL.of hp4, at_int (by omega) hvv, ?_⟩
        exact ⟨vv, vd, rfl, v23, tvd⟩
      · exact ⟨_, s.vid, rfl, Same.rfl' _, ev ▸ M2.vid⟩
    rintro _ H3 ⟨vv, vd, rfl, v23, tvd⟩
    have s03 := s02.trans v23
    have M3 := M.same s03
    have tsd3 := tsd.same v23
    refine ⟨fun σ' H' => σ' = [some (.ref d), some (.int c), some (.ref bm), some (.ref t0), some sd, some vv, none, none, none, none, none, none] ∧ H3 = H', ?_, ?_⟩
    · walk_at "rds"
      refine iB (fun h2 => ?_) (fun h2 => ⟨rfl, rfl⟩)
      walk_at "rds"
      refine ⟨d, a, s, m, sd, x, rfl, M3, tsd3, ?_⟩
      refine ⟨by show 5 ≤ sizeLine; omega, fun e1 m1 => ?_⟩
      have w1 := same_new m1 (.lst [V.int 1, V.int 1, V.int 1, V.int 2, V.int 0])
      have he1 : (upd H3 e1 (.lst [V.int 1, V.int 1, V.int 1, V.int 2, V.int 0])) e1 = some (.lst ([1, 1, 1, 2, 0].map V.int)) := upd_same
      obtain ⟨j, hj⟩ := atI_intk [1, 1, 1, 2, 0] (r := c / 360 % 5) (by omega) (by show c / 360 % 5 < 5; omega)
      walk_at "rds"
      refine ⟨e1, _, _, .int j, rfl, rfl, SqL.of he1, hj, ?_⟩
      have M4 := M3.same w1
      have tsd4 := tsd3.same w1
      have tvd4 := tvd.same w1
      have s04 := s03.trans w1
      clear he1
      generalize upd H3 e1 (.lst [V.int 1, V.int 1, V.int 1, V.int 2, V.int 0]) = H4 at *
      walk_at "rds"
      refine ⟨by omega, fun z H5 s5 lz oz => ?_⟩
      refine ⟨by show 5 ≤ sizeLine; omega, fun t nt => ?_⟩
      have s6 := same_new nt (.tup [V.str (Str.ofString "cast"), sd, vv, V.int (if lastI s.log x + j > 1 then lastI s.log x + j else 1), V.str z])
      exact q (.ref t) (.cast x vd (if lastI s.log x + j > 1 then lastI s.log x + j else 1) z) _ (s04.trans (s5.trans s6)) (.tup upd_same (by show 5 ≤ 100000; decide) (.cons (.str _) (.cons (tsd4.same (s5.trans s6)) (.cons (tvd4.same (s5.trans s6)) (.cons (.int _) (.cons (.str _) .nil)))))) oz True.intro
    rintro _ _ ⟨rfl, rfl⟩
    walk_at "rds"
    refine ⟨d, _, rfl, M3.g_lg, ?_⟩
    obtain ⟨vl3, hlg3, tl3⟩ := M3.lg
    walk_at "rds"
    refine ⟨a.lg, _, rfl, .inl (SqL.of hlg3), ?_⟩
    refine ⟨by show 8 ≤ sizeLine; omega, fun e1 m1 => ?_⟩
    have w1 := same_new m1 (.lst [V.int 1, V.int 1, V.int 2, V.int 0, V.int 3, V.int 1, V.int 6, V.int 20])
    have he1 : (upd H3 e1 (.lst [V.int 1, V.int 1, V.int 2, V.int 0, V.int 3, V.int 1, V.int 6, V.int 20])) e1 = some (.lst ([1, 1, 2, 0, 3, 1, 6, 20].map V.int)) := upd_same
    obtain ⟨j, hj⟩ := atI_intk [1, 1, 2, 0, 3, 1, 6, 20] (r := c / 360 % 8) (by omega) (by show c / 360 % 8 < 8; omega)
    walk_at "rds"
    refine ⟨e1, _, _, .int j, rfl, rfl, SqL.of he1, hj, ?_⟩
    have M4 := M3.same w1
    have tsd4 := tsd3.same w1
    have tvd4 := tvd.same w1
    have s04 := s03.trans w1
    clear he1
    generalize upd H3 e1 (.lst [V.int 1, V.int 1, V.int 2, V.int 0, V.int 3, V.int 1, V.int 6, V.int 20]) = H4 at *
    walk_at "rds"
    have hbm4 := s04 _ _ hbm
    refine ⟨fun σ' H' => ∃ (sd' : V) (x' : Mem) (pl : Int), σ' = [some (.ref d), some (.int c), some (.ref bm), some (.ref t0), some sd', some vv, none, some (.int pl), none, none, none, none] ∧ H4 = H' ∧ TD H4 sd' (eM x'), ?_, ?_⟩
    · walk_at "rds"
      refine iB (fun h3 => ?_) (fun h3 => ⟨sd, x, _, rfl, rfl, tsd4⟩)
      walk_at "rds"
      refine ⟨bm, _, _, .ref bf, rfl, rfl, SqT.of hbm4, at_int (by decide) rfl, ?_⟩
      exact ⟨_, s.fd, _, rfl, rfl, rf.same s04⟩
    clear tsd4 tsd3 tsd
    rintro _ _ ⟨sd', x', pl, rfl, rfl, tsd4⟩
    walk_at "rds"
    have hk0' : 0 ≤ c / 5760 % (((V.ref bf :: vr).length : Nat) : Int) := Int.emod_nonneg _ (by omega)
    have hk1' : c / 5760 % (((V.ref bf :: vr).length : Nat) : Int) < (((V.ref bf :: vr).length : Nat) : Int) := Int.emod_lt_of_pos _ lpos
    obtain ⟨va, xa, hva, ta⟩ := pick _ hk0' hk1'
    refine ⟨lpos, ?_⟩
    refine ⟨bm, _, _, va, rfl, rfl, SqT.of hbm4, hva, ?_⟩
    have ta4 := ta.same s04
    refine ⟨fun σ' H' => σ' = [some (.ref d), some (.int c), some (.ref bm), some (.ref t0), some sd', some vv, none, some (.int pl), some va, none, none, none] ∧ Same H4 H', ?_, ?_⟩
    · walk_at "rds"
      refine ⟨d, _, rfl, M4.g_me, ?_⟩
      refine rd_eqM ta4 M4.me ?_
      refine ⟨_, rfl, ?_⟩
      refine iB (fun h4 => ?_) (fun h4 => ⟨rfl, Same.rfl' _⟩)
      have h4 : xa = s.me := of_decide_eq_true h4
      walk_at "rds"
      refine ⟨d, a, s, m, rfl, M4, R, hl, ho, fun r H5 s5 tr => ?_⟩
      obtain ⟨r', ps, er, hps, lps, tps⟩ := tr.tupI
      cases er
      walk_at "rds"
      refine iB (fun h5 => ?_) (fun h5 => ⟨rfl, s5⟩)
      have h5 : (0 : Int) < ((ps.length : Nat) : Int) := of_decide_eq_true h5
      walk_at "rds"
      refine ⟨d, a, s, m, rfl, M4.same s5, R, hl, ho, fun r2 H6 s6 tr2 => ?_⟩
      obtain ⟨r2', ps2, er2, hps2, lps2, tps2⟩ := tr2.tupI
      cases er2
      have lp1 := tps.length
      have lp2 := tps2.length
      obtain ⟨v0, hv0⟩ : ∃ v0, ps2[0]? = some v0 := ⟨_, List.getElem?_eq_getElem (by omega)⟩
      obtain ⟨d0, hd0, td0⟩ := tps2.at hv0
      rw [List.getElem?_map] at hd0
      obtain ⟨c1, hc1, rfl⟩ := Option.map_eq_some_iff.mp hd0
      obtain ⟨bc, rfl, hbc⟩ := td0.cst
      have hc1m := List.mem_of_getElem? hc1
      have hc1m' := hc1m
      rw [R.pend] at hc1m
      have hcl := pnd_mem hc1m
      refine ⟨r2, _, _, .ref bc, rfl, rfl, SqT.of hps2, at_int (by decide) hv0, ?_⟩
      walk_at "rds"
      refine ⟨by show 3 ≤ sizeLine; omega, fun y1 k1 => ?_⟩
      have z1 := same_new k1 (.tup [va, V.int c1.1, V.str c1.2])
      have hy1 : (upd H6 y1 (.tup [va, V.int c1.1, V.str c1.2])) y1 = some _ := upd_same
      generalize upd H6 y1 (.tup [va, V.int c1.1, V.str c1.2]) = H7 at *
      refine ⟨by show 5 ≤ sizeLine; omega, fun t nt => ?_⟩
      have z2 := same_new nt (.tup [V.str (Str.ofString "order"), sd', vv, V.int pl, .ref y1])
      have s47 := s5.trans (s6.trans z1)
      exact q (.ref t) (.order x' vd pl (xa, c1.1, c1.2)) _ (s04.trans (s47.trans z2)) (.tup upd_same (by show 5 ≤ 100000; decide) (.cons (.str _) (.cons (tsd4.same (s47.trans z2)) (.cons (tvd4.same (s47.trans z2)) (.cons (.int _) (.cons (td_msg (g := (xa, c1.1, c1.2)) (z2 _ _ hy1) (ta4.same (s47.trans z2))) .nil)))))) (SO.pn _ hc1m') (fun _ _ => by have := R.own; show c1.1 ≤ s.casts; omega)
    rintro _ HF ⟨rfl, sF⟩
    have hbmF := sF _ _ hbm4
    have MF := M4.same sF
    have tsdF := tsd4.same sF
    have tvdF := tvd4.same sF
    have s0F := s04.trans sF
    walk_at "rds"
    refine ⟨bm, _, _, .ref bf, rfl, rfl, SqT.of hbmF, at_int (by decide) rfl, ?_⟩
    obtain ⟨kvs, hk, ek, lk, kk⟩ := MF.ea
    refine ⟨a.ea, .dK kvs, hk, trivial, fun od => ?_⟩
    have dea : d ≠ a.ea := MF.ap.2.symm
    have fd0 : (upd HF a.ea (.frz od (.dK kvs))) d = some (.dK (mF a)) := by rw [upd_ne dea]; exact MF.ob
    walk_at "rds"
    refine ⟨d, _, rfl, DGet.k (k := Sum.inr "early") fd0, ?_⟩
    refine ⟨a.ea, od, rfl, .inl ⟨kvs, upd_same, ?_⟩⟩
    intro D nD
    have dD : a.ea ≠ D := ne_of_none upd_same nD
    have free : ∀ b o, HF b = some o → b ≠ D := fun b o h z => by
      by_cases e : b = a.ea
      · exact dD (e.symm.trans z)
      · have : (upd HF a.ea (.frz od (.dK kvs))) b = some o := by rw [upd_ne e]; exact h
        rw [z, nD] at this; cases this
    refine lc_it walk_keys (fun j H' => ∃ ns : List Int, H' a.ea = some (.frz od (.dK kvs)) ∧ H' D = some (.lst (ns.map V.int)) ∧ ns.length ≤ j ∧ (∀ b o, HF b = some o → b ≠ a.ea → H' b = some o)) ?_ ?_ ?_ ?_
    · exact ⟨[], by rw [upd_ne dD]; exact upd_same, upd_same, Nat.le_refl _, fun b o h n => by rw [upd_ne (free b o h), upd_ne n]; exact h⟩
    · rintro j H' _ ⟨ns, h, _⟩
      exact h
    · rintro j x0 H' H2' hj ⟨ns, g1, g2, g3, g4⟩ ⟨rfl, k, v, hkv, rfl⟩
      obtain ⟨i, hi⟩ := kk _ (List.mem_of_getElem? hkv)
      have hi : k = Sum.inl i := hi
      subst hi
      refine ⟨rfl, ?_⟩
      walk_at "rds"
      have hjl : j < kvs.length := (List.getElem?_eq_some_iff.mp hkv).1
      refine iB (fun _ => ?_) (fun _ => ?_)
      · refine ⟨_, rfl, _, g2, by rw [List.length_map]; omega, ns ++ [i], ?_, ?_, ?_, fun b o h n => ?_⟩
        · rw [upd_ne dD]; exact g1
        · rw [upd_same, List.map_append]; rfl
        · rw [List.length_append, List.length_singleton]; omega
        · rw [upd_ne (free b o h)]; exact g4 b o h n
      · exact ⟨ns, g1, g2, by omega, g4⟩
    · rintro H' ⟨ns, g1, g2, g3, g4⟩
      have sG : Same HF (upd H' a.ea (.dK kvs)) := fun b o h => by
        by_cases e : b = a.ea
        · rw [e] at h ⊢; rw [upd_same, ← hk]; exact h.symm ▸ rfl
        · rw [upd_ne e]; exact g4 b o h e
      have gD : (upd H' a.ea (.dK kvs)) D = some (.lst (ns.map V.int)) := by rw [upd_ne dD.symm]; exact g2
      refine ⟨g1, ?_⟩
      clear g1 g2 g4
      generalize upd H' a.ea (.dK kvs) = HG at *
      refine ⟨D, _, rfl, .inl (SqL.of gD), ?_⟩
      have MG := MF.same sG
      have s4G := sF.trans sG
      have tsdG := tsd4.same s4G
      have tvdG := tvd4.same s4G
      have rfG := rf.same (s04.trans s4G)
      walk_at "rds"
      refine ⟨d, a, s, m, .ref bf, s.fd, rfl, MG, rfG, ?_⟩
      walk_at "rds"
      refine ⟨by omega, fun z H5 s5 lz oz => ?_⟩
      refine ⟨by show 3 ≤ sizeLine; omega, fun y1 k1 => ?_⟩
      have z1 := same_new k1 (.tup [V.ref bf, V.int (lastI s.log s.fd + 1 + (((ns.map V.int).length : Nat) : Int)), V.str z])
      have hy1 : (upd H5 y1 (.tup [V.ref bf, V.int (lastI s.log s.fd + 1 + (((ns.map V.int).length : Nat) : Int)), V.str z])) y1 = some _ := upd_same
      refine ⟨by show 5 ≤ sizeLine; omega, fun t nt => ?_⟩
      have z2 := same_new nt (.tup [V.str (Str.ofString "order"), sd', vv, V.int pl, .ref y1])
      have s47 := s5.trans z1
      exact q (.ref t) (.order x' vd pl (s.fd, lastI s.log s.fd + 1 + (((ns.map V.int).length : Nat) : Int), z)) _ ((s04.trans s4G).trans (s47.trans z2)) (.tup upd_same (by show 5 ≤ 100000; decide) (.cons (.str _) (.cons (tsdG.same (s47.trans z2)) (.cons (tvdG.same (s47.trans z2)) (.cons (.int _) (.cons (td_msg (g := (s.fd, lastI s.log s.fd + 1 + (((ns.map V.int).length : Nat) : Int), z)) (z2 _ _ hy1) (rfG.same (s47.trans z2))) .nil)))))) oz (fun hne he => absurd he.symm hne)
end
end Mus

set_option maxRecDepth 100000
set_option maxHeartbeats 8000000
namespace Mus
open PySem L2
local macro_rules | `(tactic| walk_at "rd") => `(tactic| first
  | refine ⟨_, rfl, ?_⟩ | refine ⟨(True.intro : True), ?_⟩
  | refine ⟨_, _, rfl, rfl, (⟨by decide, by decide, by decide⟩ : CPow _ _), ?_⟩
  | refine ⟨_, _, rfl, rfl, (⟨by decide, by decide⟩ : CDiv _ _), ?_⟩
  | refine ⟨_, _, rfl, rfl, (by show (0 : Int) < _; decide), ?_⟩
  | refine ⟨_, _, rfl, rfl, ?_⟩ | refine ⟨rfl, ?_⟩ | refine iteT ?_ | refine iteF ?_ | refine ⟨_, _, rfl, ?_⟩ | refine .inl ⟨_, rfl, ?_⟩
  | refine ⟨_, _, _, _, _, rfl, (by assumption), (by assumption), (by assumption), rfl, ?_⟩ | refine ⟨_, _, _, _, rfl, rfl, SqT.of (by assumption), rfl, ?_⟩ | refine ⟨_, _, rfl, SqT.of (by assumption), rfl, ?_⟩
  | refine ⟨_, _, _, _, _, rfl, .ty _, Rp.ty (by assumption), kit_int _, ?_⟩ | refine ⟨_, _, _, _, _, rfl, .ty _, Rp.ty (by assumption), kit_bool _, ?_⟩
  | refine ⟨_, _, _, _, _, rfl, .ty _, Rp.ty (by assumption), kit_str _, ?_⟩ | refine ⟨_, _, _, _, _, rfl, .ty _, Rp.ty (by assumption), kit_tup _, ?_⟩)
local macro_rules | `(tactic| walk_at "cal") => `(tactic| first
  | refine ⟨_, _, _, _, _, rfl, (by assumption), ?_⟩ | refine ⟨_, _, _, _, _, rfl, (by assumption), (by assumption), ?_⟩)
local macro_rules | `(tactic| walk_at "sq") => `(tactic| first
  | refine ⟨_, _, rfl, Or.inr (SqT.of (by assumption)), ?_⟩ | refine ⟨_, _, _, _, rfl, rfl, SqT.of (by assumption), rfl, ?_⟩)
local macro_rules | `(tactic| walk_at "rds") => `(tactic| repeat first | walk_at "rd" | walk_at "cal" | walk_at "sq")
local macro_rules | `(tactic| walk_at "ze") => `(tactic| repeat first
  | exact zes_nil | exact ze_bl | exact ze_str | exact ze_non | apply zes_cons | apply ze_tup | apply ze_lst | apply ze_cat | exact di_c | exact di_v rfl | apply di_opC | apply di_op | apply di_neg | apply ze_i | (refine (⟨?_, ?_, ?_⟩ : CPow _ _) <;> decide) | exact Nat.le_of_ble_eq_true rfl | exact ze_varD rfl (by assumption))
local macro_rules | `(tactic| walk_at "rdz") => `(tactic| repeat (fail_if_success (first | show tLst _ _ _ _ | show tAsg (tLst _) _ _ _ _ | show tSeq (tAsg (tLst _) _) _ _ _ _)); first | walk_at "rd" | walk_at "cal" | walk_at "sq")
theorem mems20 {ms : List Mem} (h : Mems20 ms) : (∃ f r, ms = f :: r) ∧ ms.Nodup ∧ ms.length ≤ 7 ∧ ((5, 1) : Mem) ∉ ms ∧ ∀ x : Int, ((x, 9) : Mem) ∉ ms := by
  obtain ⟨l, rfl, hl⟩ := h
  have sub : (l ++ [((11, 1000000000000) : Mem)]).Sublist ([(0, 2), (1, 4), (3, 1), (6, 5), (8, 2), (10, 7)] ++ [(11, 1000000000000)]) := hl.append (List.Sublist.refl _)
  refine ⟨?_, sub.nodup (by decide), sub.length_le, fun m => ?_, fun x m => ?_⟩
  · cases l with
    | nil => exact ⟨_, _, rfl⟩
    | cons a r => exact ⟨_, _, rfl⟩
  · have := sub.subset m
    exact absurd this (by decide)
  · have := sub.subset m
    simp at this
def sp_law (K : PySem.W.Frag) : Sp := fun vs H Q _ => ∃ (a : Addr) (ns : List Int), vs = [.ref a] ∧ SqL K H a (ns.map V.int) ∧ ns.length ≤ 63 ∧ ∀ H', Q (.bl true) H'
section
variable {P : Program} {w : World} {K : PySem.W.Frag} {mg : Str → Option Value} {base : Heap} {CO CV : Addr}
abbrev s_law : Stmt := top 20
abbrev N_law : List Str := ["script", "first", "members", "me", "view_id", "order", "model", "cell", "kind", "payload", "actual", "expected", "letter", "member", "count", "counts"]
abbrev P_law : List Str := ["script"]
theorem sc_law : FnScope N_law P_law (defScope s_law) := ⟨rfl, rfl, rfl, by decide +kernel, rfl, by decide +kernel, by decide +kernel⟩
theorem ok_law {f : Addr} {fd : FuncData} (T : Tx K mg CO CV) (c__law_cell : DefOk P w K mg base CX0 "_law_cell" P__law_cell 1 (sp_cell20 K)) (c__law_members : DefOk P w K mg base CX0 "_law_members" P__law_members 1 (sp_mems20)) (c__law_refused : DefOk P w K mg base CX0 "_law_refused" P__law_refused 3 (sp_refu)) (k_Order : MkOkX P w K mg base CO "Order" P_Order___init__ 1 (sp_oini w CO CV)) (c__law_model : DefOk P w K mg base CX0 "_law_model" P__law_model 1 (sp_lmod w)) (c__law_payload : DefOk P w K mg base CX0 "_law_payload" P__law_payload 1 (sp_pay20))
    (m_Order_cast : MethOk P w K mg base CX0 CO "cast" P_Order_cast 3 (sp_ocast w CO)) (c__law_cast : DefOk P w K mg base CX0 "_law_cast" P__law_cast 2 (sp_lcast w)) (c__law_letter : DefOk P w K mg base CX0 "_law_letter" P__law_letter 2 (sp_llet w)) (m_Order_take : MethOk P w K mg base CX0 CO "take" P_Order_take 4 (sp_otk w CO)) (c__law_take : DefOk P w K mg base CX0 "_law_take" P__law_take 2 (sp_ltake w))
    (m_Order_heard : MethOk P w K mg base CX0 CO "heard" P_Order_heard 1 (sp_ohr w CO)) (m_Order_again : MethOk P w K mg base CX0 CO "again" P_Order_again 3 (sp_oag w CO)) (c__law_again : DefOk P w K mg base CX0 "_law_again" P__law_again 2 (sp_lag w)) (c__law_spoil : DefOk P w K mg base CX0 "_law_spoil" P__law_spoil 1 (sp_spoil))
    (m_Order_log : MethOk P w K mg base CX0 CO "log" P_Order_log 1 (sp_olog w CO)) (m_Order_pending : MethOk P w K mg base CX0 CO "pending" P_Order_pending 1 (sp_open w CO)) (c__law_pending : DefOk P w K mg base CX0 "_law_pending" P__law_pending 1 (sp_lpend w))
    (F : Fun K "law" "law" s_law f fd) : FnOk P w K mg base CX0 6 f fd P_law (sp_law K) := by
  have nd := sc_law.nd
  refine F.ok sc_law (fun vs H Q E h => ?_) (fun cdv A outer s H vs Q E hr h => ?_)
  · obtain ⟨_, _, rfl, _⟩ := h
    rfl
  · obtain ⟨sc, ns, rfl, hS, h63, q⟩ := h
    have hs := sl
    have hu := hu_of hr
    refine ⟨_, (pss_cons (ps_set (i := 1) nd rfl (Or.inl rfl) (pe_callB call_abs (by rfl) T.b_abs (by decide +kernel) (pa_cons (pe_callTy call_int1 (by rfl) T.b_int (by decide +kernel) (pa_cons (pcall c__law_cell hr (pa_cons (pv 0) (pa_cons pe_int pa_nil))) pa_nil)) pa_nil)))
      (pss_cons (ps_set (i := 2) nd rfl (Or.inl rfl) (pcall c__law_members hr (pa_cons (pv 1) pa_nil)))
      (pss_cons (ps_set (i := 3) nd rfl (Or.inl rfl) (pe_ix ix_tup (pv 2) (pe_op op_mod (pe_op op_fdiv (pv 1) pe_int) (pe_callB call_len_seq (by rfl) T.b_len (by decide +kernel) (pa_cons (pv 2) pa_nil))) (fun _ _ => rfl)))
      (pss_cons (ps_set (i := 4) nd rfl (Or.inl rfl) (pe_tup (pa_cons (pe_op op_add pe_int (pe_op op_mod (pe_op op_fdiv (pv 1) pe_int) pe_int)) (pa_cons (pe_ix ix_tup (pv 2) pe_int (fun _ _ => rfl)) pa_nil))))
      (pss_cons (ps_if (PW.pt (pw_or (pt_not (pt_val (pcall c__law_refused hr (pa_cons (pe_tup (pa_cons pe_int (pa_cons pe_int pa_nil))) (pa_cons (pv 4) (pa_cons (pv 2) pa_nil)))))) (pw_or1 (pt_not (pt_val (pcall c__law_refused hr (pa_cons (pe_tup (pa_cons (pe_ix ix_tup (pe_ix ix_tup (pv 2) pe_int (fun _ _ => rfl)) pe_int (fun _ _ => rfl)) (pa_cons pe_int pa_nil))) (pa_cons (pv 4) (pa_cons (pv 2) pa_nil)))))))))
        (pss_one (ps_ret pe_bl))
        pss_nil)
      (pss_cons (ps_set (i := 5) nd rfl (Or.inl rfl) (pmakeN k_Order takes0 hr (pa_cons (pv 3) (pa_cons (pv 4) (pa_cons (pv 2) pa_nil)))))
      (pss_cons (ps_set (i := 6) nd rfl (Or.inl rfl) (pcall c__law_model hr (pa_cons (pv 3) (pa_cons (pv 4) (pa_cons (pv 2) pa_nil)))))
      (pss_cons (ps_for PassesOwn.never rfl (pi_list (pe_slice sl_list (pv 0) (po_some pe_int) po_none)) (pg_name (i := 7) nd rfl (Or.inl rfl))
        (pss_cons (ps_set (i := 8) nd rfl (Or.inl rfl) (pe_op op_mod (pe_callTy call_int1 (by rfl) T.b_int (by decide +kernel) (pa_cons (pv 7) pa_nil)) pe_int))
        (pss_cons (ps_set (i := 7) nd rfl (Or.inl rfl) (pe_callB call_abs (by rfl) T.b_abs (by decide +kernel) (pa_cons (pe_callTy call_int1 (by rfl) T.b_int (by decide +kernel) (pa_cons (pe_op op_fdiv (pv 7) pe_int) pa_nil)) pa_nil)))
        (C8.pss_cut (ps_if (pt_cmpR op_lt (pv 8) pe_int (nomark _))
          (pss_cons (ps_set (i := 9) nd rfl (Or.inl rfl) (pcall c__law_payload hr (pa_cons (pv 7) pa_nil)))
          (pss_cons (ps_set (i := 10) nd rfl (Or.inl rfl) (pmeth m_Order_cast T.cl_Order (pv 5) hr (pa_cons (pv 9) pa_nil)))
          (pss_one (ps_set (i := 11) nd rfl (Or.inl rfl) (pcall c__law_cast hr (pa_cons (pv 6) (pa_cons (pv 9) pa_nil)))))))
          (pss_one (ps_if (pt_cmpR op_lt (pv 8) pe_int (nomark _))
            (pss_cons (ps_set (i := 12) nd rfl (Or.inl rfl) (pcall c__law_letter hr (pa_cons (pv 6) (pa_cons (pv 7) pa_nil))))
            (pss_cons (ps_set (i := 10) nd rfl (Or.inl rfl) (pmeth m_Order_take T.cl_Order (pv 5) hr (pa_cons (pv 12) pa_nil)))
            (pss_one (ps_set (i := 11) nd rfl (Or.inl rfl) (pcall c__law_take hr (pa_cons (pv 6) (pa_cons (pv 12) pa_nil)))))))
            (pss_one (ps_if (pt_cmpR op_eq (pv 8) pe_int (nomark _))
              (pss_cons (ps_set (i := 13) nd rfl (Or.inl rfl) (pe_ix ix_list (pe_lst (pa_cons (pe_ix ix_tup (pv 2) pe_int (fun _ _ => rfl)) (pa_cons (pe_ix ix_tup (pv 2) (pe_un un_neg pe_int) (fun _ _ => rfl)) (pa_cons (pe_tup (pa_cons pe_int (pa_cons pe_int pa_nil))) pa_nil)))) (pe_op op_mod (pv 7) pe_int) (fun _ _ => rfl)))
              (pss_cons (ps_set (i := 14) nd rfl (Or.inl rfl) (pe_op op_mod (pe_op op_fdiv (pv 7) pe_int) (pe_op op_add (pe_callB call_len_seq (by rfl) T.b_len (by decide +kernel) (pa_cons (pe_dget hu (pv 6) pe_str (fun _ _ => rfl)) pa_nil)) pe_int)))
              (pss_cons (ps_set (i := 15) nd rfl (Or.inl rfl) (pe_dget hu (pv 6) pe_str (fun _ _ => rfl)))
              (pss_cons (ps_nput hr.units (pv 15) (pv 13) (pe_callB (call_max2 rfl) (by rfl) T.b_max (by decide +kernel) (pa_cons (pv 14) (pa_cons (pe_nget2 hr.units (pv 15) (pv 13) pe_int ⟨rfl, rfl, rfl, rfl⟩) pa_nil))) rfl)
              (pss_cons (ps_set (i := 10) nd rfl (Or.inl rfl) (pmeth m_Order_heard T.cl_Order (pv 5) hr (pa_cons (pv 13) (pa_cons (pv 14) pa_nil))))
              (pss_one (ps_set (i := 11) nd rfl (Or.inl rfl) pe_non)))))))
              (pss_cons (ps_set (i := 10) nd rfl (Or.inl rfl) (pmeth0 m_Order_again T.cl_Order (pv 5) hr))
              (pss_one (ps_set (i := 11) nd rfl (Or.inl rfl) (pcall c__law_again hr (pa_cons (pv 6) pa_nil))))))))))
        (pss_cons (ps_if (PW.pt (pw_or (pt_cmpR (op_neD hr.units) (pv 10) (pv 11) (nomark _)) (pw_or1 (pt_cmpR op_ne (pe_cmpR op_isN (pv 10) pe_non (nomark _)) (pe_cmpR op_isN (pv 11) pe_non (nomark _)) (nomark _)))))
          (pss_one (ps_ret pe_bl))
          pss_nil)
        (pss_cons (ps_expr (pcall c__law_spoil hr (pa_cons (pv 10) pa_nil)))
        (pss_one (ps_if (PW.pt (pw_or (pt_cmpR (op_neD hr.units) (pmeth0 m_Order_log T.cl_Order (pv 5) hr) (pe_callTy call_tuple_of (by rfl) T.b_tuple (by decide +kernel) (pa_cons (pe_dget hu (pv 6) pe_str (fun _ _ => rfl)) pa_nil)) (nomark _)) (pw_or1 (pt_cmpR (op_neD hr.units) (pmeth0 m_Order_pending T.cl_Order (pv 5) hr) (pcall c__law_pending hr (pa_cons (pv 6) pa_nil)) (nomark _)))))
          (pss_one (ps_ret pe_bl))
          pss_nil))))))))
      (pss_one (ps_ret (pe_and (pe_cmpR op_eq (pe_const T.c_WINDOW) pe_int (nomark _)) (pe_one (pe_callB call_isi (by rfl) T.b_isinstance (by decide +kernel) (pa_cons (pmeth0 m_Order_again T.cl_Order (pv 5) hr) (pa_cons (pe_ty "list" T.b_list) pa_nil))))))))))))))), ?_⟩
    walk_at "rds"
    refine ⟨sc, ns, 0, rfl, by decide, hS, fun c0 => ?_⟩
    walk_at "rds"
    have hf0 : 0 ≤ (if c0 < 0 then -c0 else c0) := by split <;> omega
    generalize (if c0 < 0 then -c0 else c0) = first at *
    refine ⟨hf0, fun vms ms H1 s1 hm20 tms => ?_⟩
    obtain ⟨⟨fd0, ml, hms⟩, nod, len7, n51, n9⟩ := mems20 hm20
    have tms' := tms
    rw [hms] at tms'
    obtain ⟨bm, xs, em, hbm, lxs, rms⟩ := TD.tupI tms'
    subst em
    obtain ⟨vf, vr, rfl, rf, rr⟩ := TDs.consI (d := eM fd0) (ds := ml.map eM) rms
    have lvr := rms.length
    have lv : (vf :: vr).length = ml.length + 1 := by rw [lvr]; simp
    have lpos : (0 : Int) < (((vf :: vr).length : Nat) : Int) := by rw [List.length_cons]; omega
    have pick : ∀ k : Int, 0 ≤ k → k < (((vf :: vr).length : Nat) : Int) → ∃ v x, atI (vf :: vr) k = some v ∧ TD H1 v (eM x) ∧ x ∈ ms := fun k k0 k1 => by
      obtain ⟨v, hv⟩ : ∃ v, (vf :: vr)[k.toNat]? = some v := ⟨_, List.getElem?_eq_getElem (by omega)⟩
      obtain ⟨dd, hd, td⟩ := rms.at hv
      rcases List.mem_cons.mp (List.mem_of_getElem? hd) with rfl | h
      · exact ⟨v, _, at_int k0 hv, td, by rw [hms]; exact List.mem_cons_self ..⟩
      · obtain ⟨x, hx, rfl⟩ := List.mem_map.mp h
        exact ⟨v, x, at_int k0 hv, td, by rw [hms]; exact List.mem_cons_of_mem _ hx⟩
    walk_at "rds"
    have hk0 : 0 ≤ first / 128 % (((vf :: vr).length : Nat) : Int) := Int.emod_nonneg _ (by omega)
    have hk1 : first / 128 % (((vf :: vr).length : Nat) : Int) < (((vf :: vr).length : Nat) : Int) := Int.emod_lt_of_pos _ lpos
    obtain ⟨vme, me, hvme, tme, hme⟩ := pick _ hk0 hk1
    refine ⟨lpos, ?_⟩
    refine ⟨bm, _, _, vme, rfl, rfl, SqT.of hbm, hvme, ?_⟩
    walk_at "rds"
    refine ⟨bm, _, _, vf, rfl, rfl, SqT.of hbm, at_int (by decide) rfl, ?_⟩
    refine ⟨by show 2 ≤ sizeLine; omega, fun vi nvi => ?_⟩
    have s2 := same_new nvi (.tup [V.int (1 + first / 896 % 5), vf])
    have hvi : (upd H1 vi (.tup [V.int (1 + first / 896 % 5), vf])) vi = some _ := upd_same
    have tvi : TD (upd H1 vi (.tup [V.int (1 + first / 896 % 5), vf])) (.ref vi) (eV (1 + first / 896 % 5, fd0)) := .tup hvi (by show 2 ≤ 100000; decide) (.cons (.int _) (.cons (rf.same s2) .nil))
    clear hvi
    generalize upd H1 vi (.tup [V.int (1 + first / 896 % 5), vf]) = H2 at *
    walk_at "rds"
    refine ⟨by show 2 ≤ sizeLine; omega, fun t1 n1 => ?_⟩
    have s3 := same_new n1 (.tup [V.int 5, V.int 1])
    have ht1 : (upd H2 t1 (.tup [V.int 5, V.int 1])) t1 = some _ := upd_same
    generalize upd H2 t1 (.tup [V.int 5, V.int 1]) = H3 at *
    have s23 := s2.trans s3
    walk_at "rds"
    refine ⟨.ref t1, .ref vi, .ref bm, ((5, 1) : Mem), _, ms, rfl, td_mem (m := ((5, 1) : Mem)) ht1, tvi.same s3, tms.same s23, n51, fun H4 s4 => ?_⟩
    have s24 := s23.trans s4
    obtain ⟨bf, rfl, hbf⟩ := rf.mem
    walk_at "rds"
    refine ⟨bm, _, _, .ref bf, rfl, rfl, SqT.of (s24 _ _ hbm), at_int (by decide) rfl, ?_⟩
    refine ⟨bf, _, _, .int fd0.1, rfl, rfl, SqT.of (s24 _ _ hbf), rfl, ?_⟩
    refine ⟨by show 2 ≤ sizeLine; omega, fun t2 n2 => ?_⟩
    have s5 := same_new n2 (.tup [V.int fd0.1, V.int 9])
    have ht2 : (upd H4 t2 (.tup [V.int fd0.1, V.int 9])) t2 = some _ := upd_same
    generalize upd H4 t2 (.tup [V.int fd0.1, V.int 9]) = H5 at *
    have s25 := s24.trans s5
    have s35 := s3.trans (s4.trans s5)
    walk_at "rds"
    refine ⟨.ref t2, .ref vi, .ref bm, ((fd0.1, 9) : Mem), _, ms, rfl, td_mem (m := ((fd0.1, 9) : Mem)) ht2, tvi.same s35, tms.same s25, n9 _, fun H6 s6 => ?_⟩
    have s26 := s25.trans s6
    have s36 := s35.trans s6
    walk_at "rds"
    intro p dx hx hdx hne
    have s7 := same_new hdx (.own p)
    have hx2 : (upd H6 dx (.own p)) p = none := by rw [upd_ne hne.symm]; exact hx
    have s8 := same_new hx2 (.ins CO dx [])
    have s68 := s7.trans s8
    have s28 := s26.trans s68
    have s38 := s36.trans s68
    refine ⟨p, dx, vme, .ref vi, .ref bm, me, _, ms, rfl, upd_same, tme.same s28, tvi.same s38, tms.same s28, fun hn => absurd hme hn, fun _ H9 a fd1 r e1 O9 F9 => ?_⟩
    have e2 : fd1 = fd0 := by rw [hms] at e1; exact (List.cons.inj e1).1.symm
    subst e2
    have s69 : Same H6 H9 := fun b o e => F9.k b o (s68 b o e) (fun z => by rw [List.mem_singleton.mp z, hx] at e; cases e)
    refine ⟨rfl, ?_⟩
    walk_at "rds"
    refine ⟨vme, .ref vi, .ref bm, me, (1 + first / 896 % 5, fd1), ms, fd1, rfl, (tme.same s26).same s69, (tvi.same s36).same s69, (tms.same s26).same s69, fun d b H10 s10 fr10 M10 => ?_⟩
    have s610 := s69.trans s10
    have s210 := s26.trans s610
    have s110 := s1.trans s210
    walk_at "rds"
    refine ⟨sc, ns.map V.int, rfl, s110.seq hS, fun l nl => ?_⟩
    have s11 := same_new nl (.lst (cutV (ns.map V.int) (some 1) none))
    have hl : (upd H10 l (.lst (cutV (ns.map V.int) (some 1) none))) l = some (.lst (cutV (ns.map V.int) (some 1) none)) := upd_same
    obtain ⟨nsl, ens, lns⟩ : ∃ nsl : List Int, cutV (ns.map V.int) (some 1) none = nsl.map V.int ∧ nsl.length ≤ 63 := by
      refine ⟨((ns.drop (HT.sIx ns.length 0 (some 1))).take (HT.sIx ns.length ns.length none - HT.sIx ns.length 0 (some 1))), ?_, ?_⟩
      · unfold cutV
        rw [List.map_take, List.map_drop, List.length_map]
      · rw [List.length_take, List.length_drop]; omega
    rw [ens] at hl s11 ⊢
    have L0 : LI w CO l (nsl.map V.int) (.ref bm) p d 0 (upd H10 l (.lst (nsl.map V.int))) a b (OS.new me (1 + first / 896 % 5, fd1) ms fd1) MS.new :=
      ⟨(O9.same s10).same s11, M10.same s11, rr_new hms nod len7 hme, ⟨Nat.le_refl _, Nat.le_refl _, Nat.le_refl _, Nat.le_refl _, Nat.le_refl _⟩, (fun x hx z => by
        obtain ⟨o, e, _⟩ := O9.taken x z
        rw [fr10 x hx] at e; cases e), hl, (O9.same s10).fresh nl, M10.fresh nl, (tms.same s210).same s11, ⟨(fun g h => by cases h), (fun j g h => by cases h), (fun c h => by cases h)⟩⟩
    clear hl s11
    generalize upd H10 l (.lst (nsl.map V.int)) = H11 at *
    refine ⟨l, rfl, ⟨_, SqL.of L0.ls⟩, for_list (xs := nsl.map V.int) (fun i σ H' => ∃ (x7 x8 x9 x10 x11 x12 x13 x14 x15 : Option V) (a : OA) (b : MA) (s : OS) (m : MS), σ = [some (.ref sc), some (.int first), some (.ref bm), some vme, some (.ref vi), some (.ref p), some (.ref d), x7, x8, x9, x10, x11, x12, x13, x14, x15] ∧ LI w CO l (nsl.map V.int) (.ref bm) p d i H' a b s m) ?_ ?_ ?_ ?_⟩
    · exact ⟨_, _, _, _, _, _, _, _, _, a, b, _, _, rfl, L0⟩
    · rintro i σ H' _ ⟨_, _, _, _, _, _, _, _, _, _, _, _, _, _, L⟩
      exact SqL.of L.ls
    · rintro i y σ H' hi ⟨x7, x8, x9, x10, x11, x12, x13, x14, x15, a, b, s, m, rfl, L⟩
      clear L0
      have hi2 : i < nsl.length := by rw [← List.length_map (as := nsl) V.int]; exact (List.getElem?_eq_some_iff.mp hi).1
      rw [List.getElem?_map] at hi
      obtain ⟨n, _, rfl⟩ := Option.map_eq_some_iff.mp hi
      have nll : s.log.length ≤ i := by have := L.B.l; omega
      have npl : s.pend.length ≤ i := Nat.le_trans L.R.pl L.B.o
      have nml : s.mems.length ≤ 7 := L.R.len
      have bl := L.B.l
      have bo := L.B.o
      have be := L.B.e
      have bt := L.B.t
      have bc := L.B.c
      walk_at "rds"
      have hc0 : 0 ≤ (if n / 6 < 0 then -(n / 6) else n / 6) := by split <;> omega
      generalize (if n / 6 < 0 then -(n / 6) else n / 6) = cell at *
      refine ⟨fun σ' H2 => ∃ (x7 x8 x9 : Option V) (va ve : V) (x12 x13 x14 x15 : Option V), σ' = [some (.ref sc), some (.int first), some (.ref bm), some vme, some (.ref vi), some (.ref p), some (.ref d), x7, x8, x9, some va, some ve, x12, x13, x14, x15] ∧ Mid20 K w CO l (nsl.map V.int) (.ref bm) p d (i + 1) H2 va ve, ?_, ?_⟩
      · walk_at "rds"
        refine iB (fun h1 => ?_) (fun h1 => ?_)
        · walk_at "rds"
          refine ⟨hc0, fun z H2 s2' lz oz => ?_⟩
          have L2 := L.same s2'
          walk_at "rds"
          refine ⟨p, a.dx, _, rfl, L2.O.ob, rfl, _, rfl, p, a, s, z, rfl, L2.O, by omega, by omega, by omega, fun t H3 a1 l1 l2 O3 F3 ht N1 N2 hne => ?_⟩
          walk_at "rds"
          refine ⟨d, b, s, m, z, rfl, L2.mid F3, L2.R, by omega, by omega, fun t' l1' l2' H4 M4 F4 ht' tw => ?_⟩
          have ok := ok_castr L2.ok oz
          have len := cast_len s z
          have L4 := L2.step F3 O3 F4 M4 (L2.R.cast z) (L2.B.cast z) (cast_con s z).1 ok.1
          have k1 := L2.lst1 F4 N1
          have k2 := L2.lst1 F4 N2
          exact ⟨_, _, _, _, _, _, _, _, _, rfl, mid_three L4 (F4.t _ _ ht) ht' k1.1 k2.1 tw.1.at_ tw.2.at_ (sh_three _ ok.2.1 ok.2.2) (by rw [List.length_map]; omega) (by rw [List.length_map]; omega) k1.2 k2.2⟩
        · walk_at "rds"
          refine iB (fun h2 => ?_) (fun h2 => ?_)
          · walk_at "rds"
            refine ⟨d, b, s, m, cell, rfl, hc0, L.M, L.R, L.ok, by omega, by omega, by omega, fun vl lt H2 s2' tl hsok hmine => ?_⟩
            have L2 := L.same s2'
            walk_at "rds"
            refine ⟨p, a.dx, _, rfl, L2.O.ob, rfl, _, rfl, p, a, s, vl, lt, rfl, L2.O, tl, hsok.flows, by omega, by omega, by omega, fun t H3 a1 O3 F3 T3 => ?_⟩
            obtain ⟨l1, l2, ht, N1, N2, _⟩ := T3
            walk_at "rds"
            refine ⟨d, b, s, m, vl, lt, rfl, L2.mid F3, L2.R, tl.mono F3.t, hsok.flows, hmine, by omega, by omega, fun t' l1' l2' H4 m' M4 R4 e1 e2 e3 F4 ht' tw => ?_⟩
            have ok := ok_taker L2.ok hsok
            have len := take_len s lt
            have L4 := L2.step F3 O3 F4 M4 R4 (L2.B.take lt e1 e2 e3) (take_con s lt).1 ok.1
            have k1 := L2.lst1 F4 N1
            have k2 := L2.lst1 F4 N2
            exact ⟨_, _, _, _, _, _, _, _, _, rfl, mid_two L4 (F4.t _ _ ht) ht' k1.1 k2.1 tw.1.at_ tw.2.at_ (sh_two ok.2.1 ok.2.2) (by rw [List.length_map]; omega) (by rw [List.length_map]; omega) k1.2 k2.2⟩
          · walk_at "rds"
            refine iB (fun h3 => ?_) (fun h3 => ?_)
            · obtain ⟨ml2, hhd⟩ := L.R.hd
              have hms2 := L.ms
              rw [hhd] at hms2
              obtain ⟨bm2, xs2, em2, hbm2, lxs2, rms2⟩ := TD.tupI hms2
              cases em2
              obtain ⟨vf2, vr2, rfl, rf2, rr2⟩ := TDs.consI (d := eM s.fd) (ds := ml2.map eM) rms2
              obtain ⟨vlast, dl, hlast, hdl, tlast⟩ := rms2.last (by simp)
              obtain ⟨xl, rfl⟩ : ∃ x, dl = eM x := by
                rcases List.mem_cons.mp hdl with rfl | h
                · exact ⟨_, rfl⟩
                · obtain ⟨x, _, rfl⟩ := List.mem_map.mp h
                  exact ⟨x, rfl⟩
              walk_at "rds"
              refine ⟨bm, _, _, vf2, rfl, rfl, SqT.of hbm2, at_int (by decide) rfl, ?_⟩
              walk_at "rds"
              refine ⟨bm, _, _, vlast, rfl, rfl, SqT.of hbm2, hlast, ?_⟩
              refine ⟨by show 2 ≤ sizeLine; omega, fun t1 n1 => ?_⟩
              have z1 := same_new n1 (.tup [V.int 5, V.int 1])
              have ht1 : (upd H' t1 (.tup [V.int 5, V.int 1])) t1 = some (.tup [V.int 5, V.int 1]) := upd_same
              generalize upd H' t1 (.tup [V.int 5, V.int 1]) = G1 at *
              refine ⟨by show 3 ≤ sizeLine; omega, fun u3 nu3 => ?_⟩
              have z2 := same_new nu3 (.lst [vf2, vlast, .ref t1])
              have hu3 : (upd G1 u3 (.lst [vf2, vlast, .ref t1])) u3 = some _ := upd_same
              have z12 := z1.trans z2
              have t3 : TDs (upd G1 u3 (.lst [vf2, vlast, .ref t1])) [vf2, vlast, .ref t1] ([s.fd, xl, ((5, 1) : Mem)].map eM) :=
                .cons (rf2.same z12) (.cons (tlast.same z12) (.cons (td_mem (m := ((5, 1) : Mem)) (z2 _ _ ht1)) .nil))
              generalize upd G1 u3 (.lst [vf2, vlast, .ref t1]) = G2 at *
              have hc3 : (cell % 3).toNat < [vf2, vlast, V.ref t1].length := by show _ < 3; omega
              obtain ⟨sd, hsd⟩ : ∃ sd, [vf2, vlast, V.ref t1][(cell % 3).toNat]? = some sd := ⟨_, List.getElem?_eq_getElem hc3⟩
              obtain ⟨dd, hdd, tsd⟩ := t3.at hsd
              rw [List.getElem?_map] at hdd
              obtain ⟨x, _, rfl⟩ := Option.map_eq_some_iff.mp hdd
              have LG := L.same z12
              walk_at "rds"
              refine ⟨u3, _, _, sd, rfl, rfl, SqL.of hu3, at_int (by omega) hsd, ?_⟩
              walk_at "rds"
              refine ⟨d, _, rfl, LG.M.g_lg, ?_⟩
              obtain ⟨vl, hlg, tl⟩ := LG.M.lg
              have ll := tl.length
              rw [List.length_map] at ll
              walk_at "rds"
              refine ⟨b.lg, _, rfl, .inl (SqL.of hlg), ?_⟩
              walk_at "rds"
              refine ⟨by omega, ?_⟩
              have hn0 : 0 ≤ cell / 3 % (((vl.length : Nat) : Int) + 1) := Int.emod_nonneg _ (by omega)
              have hn1 : cell / 3 % (((vl.length : Nat) : Int) + 1) < ((vl.length : Nat) : Int) + 1 := Int.emod_lt_of_pos _ (by omega)
              walk_at "rds"
              refine ⟨d, _, rfl, LG.M.g_ct, ?_⟩
              obtain ⟨kvs, N, hN, lN⟩ := LG.M.ct
              obtain ⟨bx, rfl, nk⟩ := tsd.nk
              walk_at "rds"
              refine ⟨b.ct, kvs, rfl, N, ?_⟩
              walk_at "rds"
              refine ⟨bx, (m.c x).map V.int, rfl, ⟨kvs, kM x, N, nk, kM_depth _, (hN x).symm⟩, ?_⟩
              have eg : ((m.c x).map V.int).getD (V.int 0) = V.int ((m.c x).getD 0) := by cases m.c x <;> rfl
              rw [eg]
              refine ⟨cell / 3 % (((vl.length : Nat) : Int) + 1), (m.c x).getD 0, rfl, ?_⟩
              walk_at "rds"
              refine ⟨b.ct, bx, kvs, kM x, rfl, rfl, N, nk, kM_depth _, ?_⟩
              obtain ⟨M3, F3⟩ := MAt.addCount (n := cell / 3 % (((vl.length : Nat) : Int) + 1)) LG.M N hN lN (by omega) nk
              generalize hH3 : upd G2 b.ct _ = H3
              have M3' : MAt w H3 d b s (m.heard x (cell / 3 % (((vl.length : Nat) : Int) + 1))) := by rw [← hH3]; exact M3
              have F3' : Fr (b.fp d) (b.fp d) G2 H3 := by rw [← hH3]; exact F3
              clear M3 F3 hH3
              have O3 : OAt w CO H3 p a s := LG.O.fr F3' (fun x hx z => LG.dj x z hx)
              have tsd3 := tsd.mono F3'.t
              walk_at "rds"
              refine ⟨p, a.dx, _, rfl, O3.ob, rfl, _, rfl, _, rfl, p, a, s, .ref bx, x, _, rfl, O3, tsd3, by omega, fun H4 O4 F4 => ?_⟩
              have hc := heard_con s x (cell / 3 % (((vl.length : Nat) : Int) + 1))
              have hre : (s.heard x (cell / 3 % (((vl.length : Nat) : Int) + 1))).me = s.me ∧ (s.heard x (cell / 3 % (((vl.length : Nat) : Int) + 1))).vid = s.vid ∧ (s.heard x (cell / 3 % (((vl.length : Nat) : Int) + 1))).log = s.log := by
                unfold OS.heard; split <;> exact ⟨rfl, rfl, rfl⟩
              have M4 := (M3'.fr F4 LG.dj).re hre.1 hre.2.1 hc.1 hre.2.2
              walk_at "rds"
              exact ⟨_, _, _, _, _, _, _, _, _, rfl, a, b, _, _, .none, [], ⟨O4, M4, LG.R.heard hn0 (by omega), LG.B.heard x _, LG.dj, F4.k _ _ (F3'.k _ _ LG.ls LG.lb) LG.la, LG.la, LG.lb, by rw [hc.1]; exact (LG.ms.mono F3'.t).mono F4.t, ok_heardr LG.ok x _⟩, .non, .non, rfl, rfl, .non, fun x hx => nomatch hx⟩
            · walk_at "rds"
              refine ⟨p, a.dx, _, rfl, L.O.ob, rfl, p, a, s, rfl, L.O, by omega, by omega, by omega, fun x => by have := L.R.tb x; omega, fun r H2 s2' nr lr => ?_⟩
              have L2 := L.same s2'
              walk_at "rds"
              refine ⟨d, b, s, m, rfl, L2.M, L2.R, by omega, by omega, fun r' H3 s3' nr' lr' => ?_⟩
              have L3 := L2.same s3'
              have len := again_len s (by omega)
              have lr3 : LstAt H3 r (s.again.map ePk) := lr.mono (s3' _) (TupK.of s3')
              exact ⟨_, _, _, _, _, _, _, _, _, rfl, a, b, s, m, _, [r], { L3 with B := L3.B.up }, dp_lst lr3, dp_lst lr', sh_pks (sm_again L.ok), rfl, (by
                obtain ⟨vs, h1, h2⟩ := shp_lst lr3 (by rw [List.length_map]; omega)
                exact .lst h1 h2), fun x hx => by
                rw [List.mem_singleton.mp hx]
                exact ⟨L.O.fresh nr, L.M.fresh nr, fun z => by have := L.ls; rw [← z, nr] at this; cases this⟩⟩
      · rintro _ H2 ⟨x7, x8, x9, va, ve, x12, x13, x14, x15, rfl, a, b, s, m, e, ls, L, da, de, she, hnn, shp, dis⟩
        have bl := L.B.l
        have bo := L.B.o
        have npl : s.pend.length ≤ i + 1 := Nat.le_trans L.R.pl L.B.o
        walk_at "rds"
        refine ⟨e, e, da, de, she, she, ?_⟩
        rw [SeqAt.eqv_refl _ (SeqAt.canLay_of_shaped she)]
        walk_at "rds"
        rw [show (!decide (V.bl (decide (va = V.non)) = V.bl (decide (ve = V.non)))) = false from by rw [hnn]; simp]
        walk_at "rds"
        refine ⟨va, ls, rfl, shp, fun H3 F3 => ?_⟩
        have L3 := L.fr F3 dis
        walk_at "rds"
        refine ⟨p, a.dx, _, rfl, L3.O.ob, rfl, p, a, s, rfl, L3.O, by omega, fun r1 H4 s4 t4 => ?_⟩
        have L4 := L3.same s4
        obtain ⟨vl, hlg, tl⟩ := L4.M.lg
        have ll := tl.length
        rw [List.length_map] at ll
        walk_at "rds"
        refine ⟨d, _, rfl, L4.M.g_lg, ?_⟩
        walk_at "rds"
        refine ⟨b.lg, _, rfl, .inl ⟨SqL.of hlg, fun r2 n2 => ?_⟩⟩
        have s5 := same_new n2 (.tup vl)
        have t5 : TD (upd H4 r2 (.tup vl)) (.ref r2) (eGs s.log) := .tup upd_same (by omega) (tl.same s5)
        have t45 := t4.same s5
        have L5 := L4.same s5
        clear t4
        generalize upd H4 r2 (.tup vl) = H5 at *
        have shg := sh_gs (gs := s.log) L.ok.lg
        refine ⟨_, _, t45.dp, t5.dp, shg, shg, ?_⟩
        rw [SeqAt.eqv_refl _ (SeqAt.canLay_of_shaped shg)]
        walk_at "rds"
        refine ⟨p, a.dx, _, rfl, L5.O.ob, rfl, p, a, s, rfl, L5.O, by omega, fun r3 H6 s6 t6 => ?_⟩
        have L6 := L5.same s6
        walk_at "rds"
        refine ⟨d, b, s, m, rfl, L6.M, L6.R, by omega, by omega, fun r4 H7 s7 t7 => ?_⟩
        have L7 := L6.same s7
        have shc := sh_cs (cs := s.pend) L.ok.pn
        refine ⟨_, _, (t6.same s7).dp, t7.dp, shc, shc, ?_⟩
        rw [SeqAt.eqv_refl _ (SeqAt.canLay_of_shaped shc)]
        walk_at "rds"
        exact ⟨_, _, _, _, _, _, _, _, _, _, _, _, _, rfl, L7⟩
    · rintro σ H' ⟨x7, x8, x9, x10, x11, x12, x13, x14, x15, a, b, s, m, rfl, L⟩
      have bl := L.B.l
      have bo := L.B.o
      have npl : s.pend.length ≤ (nsl.map V.int).length := Nat.le_trans L.R.pl L.B.o
      have nml : s.mems.length ≤ 7 := L.R.len
      rw [List.length_map] at bl bo npl
      walk_at "rds"
      refine ⟨p, a.dx, _, rfl, L.O.ob, rfl, p, a, s, rfl, L.O, by omega, by omega, by omega, fun x => by have := L.R.tb x; omega, fun r H2 s2' nr lr => ?_⟩
      obtain ⟨vs, h1, h2⟩ := lr
      walk_at "rds"
      refine ⟨_, _, _, _, true, rfl, .ty _, .base (.lst h1), kit_ty (by decide +kernel), ?_⟩
      exact q _
end
end Mus

set_option maxRecDepth 100000
set_option maxHeartbeats 4000000
namespace Mus
open PySem L2
def at_mk {K : PySem.W.Frag} {h : Heap} {mg : Str → Option Value} {x : Str} {ps : List Str} {st : Stmt} {f : Addr} {oc : Value} {od an : Option Addr} {osl : Array (Option Value)} {kV dc pm cd ct : Value} (X : K.In h) (G : h.Ns mainGlobals mg) (a : PySem.W.nsIn K mainGlobals x = some (some (.ref f)))
    (l : K.lookup f = some ⟨oc, od, .func (PySem.W.fnOf x x (defArgs st) (defBody st) (defScope st) .none kV dc pm an cd ct), osl⟩) (c : PySem.W.codeIn K cd x = true) (k : PySem.W.keepIn K (.ref f) = true)
    (hb : ∀ (kV doc pm : Value) (an : Option Addr) (cdv ct : Value) (us : List Value), us.length = ps.length → bindArgs (PySem.W.fnOf x x (defArgs st) (defBody st) (defScope st) .none kV doc pm an cdv ct) ⟨us, []⟩ = pure (ps.zip us)) : DefAt K mg x ps st :=
  ⟨f, _, fun_mk (st := st) l c k, PySem.W.mg_of X G a, (fun_mk (st := st) l c k).binds hb⟩
def meth_mk {K : PySem.W.Frag} {C : Addr} {x qual : Str} {ps : List Str} {st : Stmt} {f : Addr} {oc : Value} {od an : Option Addr} {osl : Array (Option Value)} {kV dc pm cd ct : Value} (a : PySem.W.findIn K (.ref C) x = some (some (.ref f))) (i : PySem.W.isFn K (.ref f) = true)
    (l : K.lookup f = some ⟨oc, od, .func (PySem.W.fnOf x qual (defArgs st) (defBody st) (defScope st) .none kV dc pm an cd ct), osl⟩) (c : PySem.W.codeIn K cd qual = true) (k : PySem.W.keepIn K (.ref f) = true)
    (hb : ∀ (kV doc pm : Value) (an : Option Addr) (cdv ct : Value) (us : List Value), us.length = ps.length → bindArgs (PySem.W.fnOf x qual (defArgs st) (defBody st) (defScope st) .none kV doc pm an cdv ct) ⟨us, []⟩ = pure (ps.zip us)) : MethAt K C x qual ps st :=
  ⟨f, _, fun_mk (st := st) l c k, ⟨a, i, k⟩, (fun_mk (st := st) l c k).binds hb⟩
theorem walk_ofX {l : PySem.W.OpenLaw} {n k : Nat} {q : Program} {loose : List Str} {XP : (Str → Option Value) → Heap → Prop} {YP : World → Heap → Prop} {d : DefRec} {K : Params → PySem.W.Frag} {sp : World → Sp} {x : Str}
    (most : l.most = some n) (few : n ≤ sizeLine) (nod : d.params.defaults = []) (room : Room k callerA) (kin : ∀ (w : World) (h : Heap), YP w h → (K w.params).In h)
    (F : ∀ (w : World) (mg : Str → Option Value) (at1 : Addr) (h : Heap), (K w.params).In h → h.Ns mainGlobals mg → XP mg h → mg d.name = some (.ref at1) →
      ∃ fd : FuncData, (∀ (s : Shared) (u : Value), BindsTo s fd ⟨[u], []⟩ [(x, u)]) ∧ ∀ base : Heap, (K w.params).In base → base.Ns mainGlobals mg → FnOk l.prog w (K w.params) mg base CX0 k at1 fd [x] (sp w))
    (hsp : ∀ (w : World) (H : Hp) (a : Addr) (ns : List Int), ns.length ≤ n → Only H → SqL (K w.params) H a (ns.map V.int) → sp w [.ref a] H (fun v _ => v = .bl true) fun _ _ _ => False) :
    PySem.W.WalkO q loose XP YP l.row.toRowW d [] (fun f vs => PySem.call f vs) := by
  refine Att.attach_call most nod fun w sb sc mg mB at1 o pm1 cd1 doc1 a vs ns G Y ho1 hd1 hc1 hm1 ob1 in1 ln1 hg1 => ?_
  have inK := kin w _ Y
  obtain ⟨fd, bnd, pr⟩ := F w mg at1 _ inK G.T.g G.X hm1
  exact law_call inK G.T.g G.T.b G.T.builtins G.T.nolimit hg1 ob1 in1 (Nat.le_trans ln1 few) room pr bnd (fun H hO hS => hsp w H a ns ln1 hO hS) fun H e s' z => z
theorem loose_int {n : Str} {i : Int} {mg : Str → Option Value} {h : Heap} (x : PySem.W.LooseAre [(n, PySem.W.WData.int i)] mg h) : ∃ t, mg n = some (.int i t) := by
  obtain ⟨v, h1, h2⟩ := x.val _ (List.mem_singleton.mpr rfl)
  cases h2
  exact ⟨_, h1⟩
theorem all_mk {l : PySem.W.OpenLaw} {w : World} {K : PySem.W.Frag} {h : Heap} {mg : Str → Option Value} {fa : Addr} (X : K.In h) (G : h.Ns mainGlobals mg) (hfa : mg "law" = some (.ref fa))
    {C_Order : Addr}
    {C_BadView : Addr}
    {odx_Order___init__ anx_Order___init__ : Option Addr} {slx_Order___init__ : Array (Option Value)} {ocx_Order___init__ kVx_Order___init__ dcx_Order___init__ pmx_Order___init__ cdx_Order___init__ ctx_Order___init__ : Value} {fx_Order___init__ : Addr}
    {odx_Order_cast anx_Order_cast : Option Addr} {slx_Order_cast : Array (Option Value)} {ocx_Order_cast kVx_Order_cast dcx_Order_cast pmx_Order_cast cdx_Order_cast ctx_Order_cast : Value} {fx_Order_cast : Addr}
    {odx_Order_take anx_Order_take : Option Addr} {slx_Order_take : Array (Option Value)} {ocx_Order_take kVx_Order_take dcx_Order_take pmx_Order_take cdx_Order_take ctx_Order_take : Value} {fx_Order_take : Addr}
    {odx_Order_heard anx_Order_heard : Option Addr} {slx_Order_heard : Array (Option Value)} {ocx_Order_heard kVx_Order_heard dcx_Order_heard pmx_Order_heard cdx_Order_heard ctx_Order_heard : Value} {fx_Order_heard : Addr}
    {odx_Order_again anx_Order_again : Option Addr} {slx_Order_again : Array (Option Value)} {ocx_Order_again kVx_Order_again dcx_Order_again pmx_Order_again cdx_Order_again ctx_Order_again : Value} {fx_Order_again : Addr}
    {odx_Order_log anx_Order_log : Option Addr} {slx_Order_log : Array (Option Value)} {ocx_Order_log kVx_Order_log dcx_Order_log pmx_Order_log cdx_Order_log ctx_Order_log : Value} {fx_Order_log : Addr}
    {odx_Order_pending anx_Order_pending : Option Addr} {slx_Order_pending : Array (Option Value)} {ocx_Order_pending kVx_Order_pending dcx_Order_pending pmx_Order_pending cdx_Order_pending ctx_Order_pending : Value} {fx_Order_pending : Addr}
    {odx_Order__take_cast anx_Order__take_cast : Option Addr} {slx_Order__take_cast : Array (Option Value)} {ocx_Order__take_cast kVx_Order__take_cast dcx_Order__take_cast pmx_Order__take_cast cdx_Order__take_cast ctx_Order__take_cast : Value} {fx_Order__take_cast : Addr}
    {odx_Order__decide anx_Order__decide : Option Addr} {slx_Order__decide : Array (Option Value)} {ocx_Order__decide kVx_Order__decide dcx_Order__decide pmx_Order__decide cdx_Order__decide ctx_Order__decide : Value} {fx_Order__decide : Addr}
    {odx_Order__take_order anx_Order__take_order : Option Addr} {slx_Order__take_order : Array (Option Value)} {ocx_Order__take_order kVx_Order__take_order dcx_Order__take_order pmx_Order__take_order cdx_Order__take_order ctx_Order__take_order : Value} {fx_Order__take_order : Addr}
    {odx_Order__deliver_kept anx_Order__deliver_kept : Option Addr} {slx_Order__deliver_kept : Array (Option Value)} {ocx_Order__deliver_kept kVx_Order__deliver_kept dcx_Order__deliver_kept pmx_Order__deliver_kept cdx_Order__deliver_kept ctx_Order__deliver_kept : Value} {fx_Order__deliver_kept : Addr}
    {odx_Order__deliver anx_Order__deliver : Option Addr} {slx_Order__deliver : Array (Option Value)} {ocx_Order__deliver kVx_Order__deliver dcx_Order__deliver pmx_Order__deliver cdx_Order__deliver ctx_Order__deliver : Value} {fx_Order__deliver : Addr}
    {odx_Order__others anx_Order__others : Option Addr} {slx_Order__others : Array (Option Value)} {ocx_Order__others kVx_Order__others dcx_Order__others pmx_Order__others cdx_Order__others ctx_Order__others : Value} {fx_Order__others : Addr}
    {odx_Order__letters_behind anx_Order__letters_behind : Option Addr} {slx_Order__letters_behind : Array (Option Value)} {ocx_Order__letters_behind kVx_Order__letters_behind dcx_Order__letters_behind pmx_Order__letters_behind cdx_Order__letters_behind ctx_Order__letters_behind : Value} {fx_Order__letters_behind : Addr}
    {odx_Order__cast_letter anx_Order__cast_letter : Option Addr} {slx_Order__cast_letter : Array (Option Value)} {ocx_Order__cast_letter kVx_Order__cast_letter dcx_Order__cast_letter pmx_Order__cast_letter cdx_Order__cast_letter ctx_Order__cast_letter : Value} {fx_Order__cast_letter : Addr}
    {odx_Order__order_letter anx_Order__order_letter : Option Addr} {slx_Order__order_letter : Array (Option Value)} {ocx_Order__order_letter kVx_Order__order_letter dcx_Order__order_letter pmx_Order__order_letter cdx_Order__order_letter ctx_Order__order_letter : Value} {fx_Order__order_letter : Addr}
    {odx__law_cell anx__law_cell : Option Addr} {slx__law_cell : Array (Option Value)} {ocx__law_cell kVx__law_cell dcx__law_cell pmx__law_cell cdx__law_cell ctx__law_cell : Value} {fx__law_cell : Addr}
    {odx__law_payload anx__law_payload : Option Addr} {slx__law_payload : Array (Option Value)} {ocx__law_payload kVx__law_payload dcx__law_payload pmx__law_payload cdx__law_payload ctx__law_payload : Value} {fx__law_payload : Addr}
    {odx__law_members anx__law_members : Option Addr} {slx__law_members : Array (Option Value)} {ocx__law_members kVx__law_members dcx__law_members pmx__law_members cdx__law_members ctx__law_members : Value} {fx__law_members : Addr}
    {odx__law_model anx__law_model : Option Addr} {slx__law_model : Array (Option Value)} {ocx__law_model kVx__law_model dcx__law_model pmx__law_model cdx__law_model ctx__law_model : Value} {fx__law_model : Addr}
    {odx__law_last anx__law_last : Option Addr} {slx__law_last : Array (Option Value)} {ocx__law_last kVx__law_last dcx__law_last pmx__law_last cdx__law_last ctx__law_last : Value} {fx__law_last : Addr}
    {odx__law_orders anx__law_orders : Option Addr} {slx__law_orders : Array (Option Value)} {ocx__law_orders kVx__law_orders dcx__law_orders pmx__law_orders cdx__law_orders ctx__law_orders : Value} {fx__law_orders : Addr}
    {odx__law_cast anx__law_cast : Option Addr} {slx__law_cast : Array (Option Value)} {ocx__law_cast kVx__law_cast dcx__law_cast pmx__law_cast cdx__law_cast ctx__law_cast : Value} {fx__law_cast : Addr}
    {odx__law_take anx__law_take : Option Addr} {slx__law_take : Array (Option Value)} {ocx__law_take kVx__law_take dcx__law_take pmx__law_take cdx__law_take ctx__law_take : Value} {fx__law_take : Addr}
    {odx__law_pending anx__law_pending : Option Addr} {slx__law_pending : Array (Option Value)} {ocx__law_pending kVx__law_pending dcx__law_pending pmx__law_pending cdx__law_pending ctx__law_pending : Value} {fx__law_pending : Addr}
    {odx__law_again anx__law_again : Option Addr} {slx__law_again : Array (Option Value)} {ocx__law_again kVx__law_again dcx__law_again pmx__law_again cdx__law_again ctx__law_again : Value} {fx__law_again : Addr}
    {odx__law_letter anx__law_letter : Option Addr} {slx__law_letter : Array (Option Value)} {ocx__law_letter kVx__law_letter dcx__law_letter pmx__law_letter cdx__law_letter ctx__law_letter : Value} {fx__law_letter : Addr}
    {odx__law_refused anx__law_refused : Option Addr} {slx__law_refused : Array (Option Value)} {ocx__law_refused kVx__law_refused dcx__law_refused pmx__law_refused cdx__law_refused ctx__law_refused : Value} {fx__law_refused : Addr}
    {odx__law_spoil anx__law_spoil : Option Addr} {slx__law_spoil : Array (Option Value)} {ocx__law_spoil kVx__law_spoil dcx__law_spoil pmx__law_spoil cdx__law_spoil ctx__law_spoil : Value} {fx__law_spoil : Addr}
    {odx_law anx_law : Option Addr} {slx_law : Array (Option Value)} {ocx_law kVx_law dcx_law pmx_law cdx_law ctx_law : Value} {fx_law : Addr}
    {tWINDOW : Tok}
    (aC_Order : PySem.W.nsIn K mainGlobals "Order" = some (some (.ref C_Order)))
    (aC_BadView : PySem.W.nsIn K mainGlobals "BadView" = some (some (.ref C_BadView)))
    (pg_Order : PySem.W.plainGet K C_Order Str.empty = true)
    (hd_Order : PySem.W.hasDictIn K C_Order = true)
    (po_Order : PySem.W.plainOver K C_Order = true)
    (sa_Order : PySem.W.findIn K (.ref C_Order) "__setattr__" = some (some (.builtin "object.__setattr__")))
    (mk_Order : PySem.W.makesIn K C_Order = true)
    (kc_Order : PySem.W.keepIn K (.ref C_Order) = true)
    (n_Order__me : PySem.W.findIn K (.ref C_Order) "_me" = some none)
    (n_Order__view_id : PySem.W.findIn K (.ref C_Order) "_view_id" = some none)
    (n_Order__members : PySem.W.findIn K (.ref C_Order) "_members" = some none)
    (n_Order__founder : PySem.W.findIn K (.ref C_Order) "_founder" = some none)
    (n_Order__log : PySem.W.findIn K (.ref C_Order) "_log" = some none)
    (n_Order__last_indexes : PySem.W.findIn K (.ref C_Order) "_last_indexes" = some none)
    (n_Order__casts : PySem.W.findIn K (.ref C_Order) "_casts" = some none)
    (n_Order__pending : PySem.W.findIn K (.ref C_Order) "_pending" = some none)
    (n_Order__kept : PySem.W.findIn K (.ref C_Order) "_kept" = some none)
    (n_Order__told : PySem.W.findIn K (.ref C_Order) "_told" = some none)
    (ax_Order___init__ : PySem.W.findIn K (.ref C_Order) "__init__" = some (some (.ref fx_Order___init__)))
    (ix_Order___init__ : PySem.W.isFn K (.ref fx_Order___init__) = true)
    (lx_Order___init__ : K.lookup fx_Order___init__ = some ⟨ocx_Order___init__, odx_Order___init__, .func (PySem.W.fnOf "__init__" "Order.__init__" (defArgs s_Order___init__) (defBody s_Order___init__) (defScope s_Order___init__) .none kVx_Order___init__ dcx_Order___init__ pmx_Order___init__ anx_Order___init__ cdx_Order___init__ ctx_Order___init__), slx_Order___init__⟩)
    (cx_Order___init__ : PySem.W.codeIn K cdx_Order___init__ "Order.__init__" = true)
    (kx_Order___init__ : PySem.W.keepIn K (.ref fx_Order___init__) = true)
    (ax_Order_cast : PySem.W.findIn K (.ref C_Order) "cast" = some (some (.ref fx_Order_cast)))
    (ix_Order_cast : PySem.W.isFn K (.ref fx_Order_cast) = true)
    (lx_Order_cast : K.lookup fx_Order_cast = some ⟨ocx_Order_cast, odx_Order_cast, .func (PySem.W.fnOf "cast" "Order.cast" (defArgs s_Order_cast) (defBody s_Order_cast) (defScope s_Order_cast) .none kVx_Order_cast dcx_Order_cast pmx_Order_cast anx_Order_cast cdx_Order_cast ctx_Order_cast), slx_Order_cast⟩)
    (cx_Order_cast : PySem.W.codeIn K cdx_Order_cast "Order.cast" = true)
    (kx_Order_cast : PySem.W.keepIn K (.ref fx_Order_cast) = true)
    (ax_Order_take : PySem.W.findIn K (.ref C_Order) "take" = some (some (.ref fx_Order_take)))
    (ix_Order_take : PySem.W.isFn K (.ref fx_Order_take) = true)
    (lx_Order_take : K.lookup fx_Order_take = some ⟨ocx_Order_take, odx_Order_take, .func (PySem.W.fnOf "take" "Order.take" (defArgs s_Order_take) (defBody s_Order_take) (defScope s_Order_take) .none kVx_Order_take dcx_Order_take pmx_Order_take anx_Order_take cdx_Order_take ctx_Order_take), slx_Order_take⟩)
    (cx_Order_take : PySem.W.codeIn K cdx_Order_take "Order.take" = true)
    (kx_Order_take : PySem.W.keepIn K (.ref fx_Order_take) = true)
    (ax_Order_heard : PySem.W.findIn K (.ref C_Order) "heard" = some (some (.ref fx_Order_heard)))
    (ix_Order_heard : PySem.W.isFn K (.ref fx_Order_heard) = true)
    (lx_Order_heard : K.lookup fx_Order_heard = some ⟨ocx_Order_heard, odx_Order_heard, .func (PySem.W.fnOf "heard" "Order.heard" (defArgs s_Order_heard) (defBody s_Order_heard) (defScope s_Order_heard) .none kVx_Order_heard dcx_Order_heard pmx_Order_heard anx_Order_heard cdx_Order_heard ctx_Order_heard), slx_Order_heard⟩)
    (cx_Order_heard : PySem.W.codeIn K cdx_Order_heard "Order.heard" = true)
    (kx_Order_heard : PySem.W.keepIn K (.ref fx_Order_heard) = true)
    (ax_Order_again : PySem.W.findIn K (.ref C_Order) "again" = some (some (.ref fx_Order_again)))
    (ix_Order_again : PySem.W.isFn K (.ref fx_Order_again) = true)
    (lx_Order_again : K.lookup fx_Order_again = some ⟨ocx_Order_again, odx_Order_again, .func (PySem.W.fnOf "again" "Order.again" (defArgs s_Order_again) (defBody s_Order_again) (defScope s_Order_again) .none kVx_Order_again dcx_Order_again pmx_Order_again anx_Order_again cdx_Order_again ctx_Order_again), slx_Order_again⟩)
    (cx_Order_again : PySem.W.codeIn K cdx_Order_again "Order.again" = true)
    (kx_Order_again : PySem.W.keepIn K (.ref fx_Order_again) = true)
    (ax_Order_log : PySem.W.findIn K (.ref C_Order) "log" = some (some (.ref fx_Order_log)))
    (ix_Order_log : PySem.W.isFn K (.ref fx_Order_log) = true)
    (lx_Order_log : K.lookup fx_Order_log = some ⟨ocx_Order_log, odx_Order_log, .func (PySem.W.fnOf "log" "Order.log" (defArgs s_Order_log) (defBody s_Order_log) (defScope s_Order_log) .none kVx_Order_log dcx_Order_log pmx_Order_log anx_Order_log cdx_Order_log ctx_Order_log), slx_Order_log⟩)
    (cx_Order_log : PySem.W.codeIn K cdx_Order_log "Order.log" = true)
    (kx_Order_log : PySem.W.keepIn K (.ref fx_Order_log) = true)
    (ax_Order_pending : PySem.W.findIn K (.ref C_Order) "pending" = some (some (.ref fx_Order_pending)))
    (ix_Order_pending : PySem.W.isFn K (.ref fx_Order_pending) = true)
    (lx_Order_pending : K.lookup fx_Order_pending = some ⟨ocx_Order_pending, odx_Order_pending, .func (PySem.W.fnOf "pending" "Order.pending" (defArgs s_Order_pending) (defBody s_Order_pending) (defScope s_Order_pending) .none kVx_Order_pending dcx_Order_pending pmx_Order_pending anx_Order_pending cdx_Order_pending ctx_Order_pending), slx_Order_pending⟩)
    (cx_Order_pending : PySem.W.codeIn K cdx_Order_pending "Order.pending" = true)
    (kx_Order_pending : PySem.W.keepIn K (.ref fx_Order_pending) = true)
    (ax_Order__take_cast : PySem.W.findIn K (.ref C_Order) "_take_cast" = some (some (.ref fx_Order__take_cast)))
    (ix_Order__take_cast : PySem.W.isFn K (.ref fx_Order__take_cast) = true)
    (lx_Order__take_cast : K.lookup fx_Order__take_cast = some ⟨ocx_Order__take_cast, odx_Order__take_cast, .func (PySem.W.fnOf "_take_cast" "Order._take_cast" (defArgs s_Order__take_cast) (defBody s_Order__take_cast) (defScope s_Order__take_cast) .none kVx_Order__take_cast dcx_Order__take_cast pmx_Order__take_cast anx_Order__take_cast cdx_Order__take_cast ctx_Order__take_cast), slx_Order__take_cast⟩)
    (cx_Order__take_cast : PySem.W.codeIn K cdx_Order__take_cast "Order._take_cast" = true)
    (kx_Order__take_cast : PySem.W.keepIn K (.ref fx_Order__take_cast) = true)
    (ax_Order__decide : PySem.W.findIn K (.ref C_Order) "_decide" = some (some (.ref fx_Order__decide)))
    (ix_Order__decide : PySem.W.isFn K (.ref fx_Order__decide) = true)
    (lx_Order__decide : K.lookup fx_Order__decide = some ⟨ocx_Order__decide, odx_Order__decide, .func (PySem.W.fnOf "_decide" "Order._decide" (defArgs s_Order__decide) (defBody s_Order__decide) (defScope s_Order__decide) .none kVx_Order__decide dcx_Order__decide pmx_Order__decide anx_Order__decide cdx_Order__decide ctx_Order__decide), slx_Order__decide⟩)
    (cx_Order__decide : PySem.W.codeIn K cdx_Order__decide "Order._decide" = true)
    (kx_Order__decide : PySem.W.keepIn K (.ref fx_Order__decide) = true)
    (ax_Order__take_order : PySem.W.findIn K (.ref C_Order) "_take_order" = some (some (.ref fx_Order__take_order)))
    (ix_Order__take_order : PySem.W.isFn K (.ref fx_Order__take_order) = true)
    (lx_Order__take_order : K.lookup fx_Order__take_order = some ⟨ocx_Order__take_order, odx_Order__take_order, .func (PySem.W.fnOf "_take_order" "Order._take_order" (defArgs s_Order__take_order) (defBody s_Order__take_order) (defScope s_Order__take_order) .none kVx_Order__take_order dcx_Order__take_order pmx_Order__take_order anx_Order__take_order cdx_Order__take_order ctx_Order__take_order), slx_Order__take_order⟩)
    (cx_Order__take_order : PySem.W.codeIn K cdx_Order__take_order "Order._take_order" = true)
    (kx_Order__take_order : PySem.W.keepIn K (.ref fx_Order__take_order) = true)
    (ax_Order__deliver_kept : PySem.W.findIn K (.ref C_Order) "_deliver_kept" = some (some (.ref fx_Order__deliver_kept)))
    (ix_Order__deliver_kept : PySem.W.isFn K (.ref fx_Order__deliver_kept) = true)
    (lx_Order__deliver_kept : K.lookup fx_Order__deliver_kept = some ⟨ocx_Order__deliver_kept, odx_Order__deliver_kept, .func (PySem.W.fnOf "_deliver_kept" "Order._deliver_kept" (defArgs s_Order__deliver_kept) (defBody s_Order__deliver_kept) (defScope s_Order__deliver_kept) .none kVx_Order__deliver_kept dcx_Order__deliver_kept pmx_Order__deliver_kept anx_Order__deliver_kept cdx_Order__deliver_kept ctx_Order__deliver_kept), slx_Order__deliver_kept⟩)
    (cx_Order__deliver_kept : PySem.W.codeIn K cdx_Order__deliver_kept "Order._deliver_kept" = true)
    (kx_Order__deliver_kept : PySem.W.keepIn K (.ref fx_Order__deliver_kept) = true)
    (ax_Order__deliver : PySem.W.findIn K (.ref C_Order) "_deliver" = some (some (.ref fx_Order__deliver)))
    (ix_Order__deliver : PySem.W.isFn K (.ref fx_Order__deliver) = true)
    (lx_Order__deliver : K.lookup fx_Order__deliver = some ⟨ocx_Order__deliver, odx_Order__deliver, .func (PySem.W.fnOf "_deliver" "Order._deliver" (defArgs s_Order__deliver) (defBody s_Order__deliver) (defScope s_Order__deliver) .none kVx_Order__deliver dcx_Order__deliver pmx_Order__deliver anx_Order__deliver cdx_Order__deliver ctx_Order__deliver), slx_Order__deliver⟩)
    (cx_Order__deliver : PySem.W.codeIn K cdx_Order__deliver "Order._deliver" = true)
    (kx_Order__deliver : PySem.W.keepIn K (.ref fx_Order__deliver) = true)
    (ax_Order__others : PySem.W.findIn K (.ref C_Order) "_others" = some (some (.ref fx_Order__others)))
    (ix_Order__others : PySem.W.isFn K (.ref fx_Order__others) = true)
    (lx_Order__others : K.lookup fx_Order__others = some ⟨ocx_Order__others, odx_Order__others, .func (PySem.W.fnOf "_others" "Order._others" (defArgs s_Order__others) (defBody s_Order__others) (defScope s_Order__others) .none kVx_Order__others dcx_Order__others pmx_Order__others anx_Order__others cdx_Order__others ctx_Order__others), slx_Order__others⟩)
    (cx_Order__others : PySem.W.codeIn K cdx_Order__others "Order._others" = true)
    (kx_Order__others : PySem.W.keepIn K (.ref fx_Order__others) = true)
    (ax_Order__letters_behind : PySem.W.findIn K (.ref C_Order) "_letters_behind" = some (some (.ref fx_Order__letters_behind)))
    (ix_Order__letters_behind : PySem.W.isFn K (.ref fx_Order__letters_behind) = true)
    (lx_Order__letters_behind : K.lookup fx_Order__letters_behind = some ⟨ocx_Order__letters_behind, odx_Order__letters_behind, .func (PySem.W.fnOf "_letters_behind" "Order._letters_behind" (defArgs s_Order__letters_behind) (defBody s_Order__letters_behind) (defScope s_Order__letters_behind) .none kVx_Order__letters_behind dcx_Order__letters_behind pmx_Order__letters_behind anx_Order__letters_behind cdx_Order__letters_behind ctx_Order__letters_behind), slx_Order__letters_behind⟩)
    (cx_Order__letters_behind : PySem.W.codeIn K cdx_Order__letters_behind "Order._letters_behind" = true)
    (kx_Order__letters_behind : PySem.W.keepIn K (.ref fx_Order__letters_behind) = true)
    (ax_Order__cast_letter : PySem.W.findIn K (.ref C_Order) "_cast_letter" = some (some (.ref fx_Order__cast_letter)))
    (ix_Order__cast_letter : PySem.W.isFn K (.ref fx_Order__cast_letter) = true)
    (lx_Order__cast_letter : K.lookup fx_Order__cast_letter = some ⟨ocx_Order__cast_letter, odx_Order__cast_letter, .func (PySem.W.fnOf "_cast_letter" "Order._cast_letter" (defArgs s_Order__cast_letter) (defBody s_Order__cast_letter) (defScope s_Order__cast_letter) .none kVx_Order__cast_letter dcx_Order__cast_letter pmx_Order__cast_letter anx_Order__cast_letter cdx_Order__cast_letter ctx_Order__cast_letter), slx_Order__cast_letter⟩)
    (cx_Order__cast_letter : PySem.W.codeIn K cdx_Order__cast_letter "Order._cast_letter" = true)
    (kx_Order__cast_letter : PySem.W.keepIn K (.ref fx_Order__cast_letter) = true)
    (ax_Order__order_letter : PySem.W.findIn K (.ref C_Order) "_order_letter" = some (some (.ref fx_Order__order_letter)))
    (ix_Order__order_letter : PySem.W.isFn K (.ref fx_Order__order_letter) = true)
    (lx_Order__order_letter : K.lookup fx_Order__order_letter = some ⟨ocx_Order__order_letter, odx_Order__order_letter, .func (PySem.W.fnOf "_order_letter" "Order._order_letter" (defArgs s_Order__order_letter) (defBody s_Order__order_letter) (defScope s_Order__order_letter) .none kVx_Order__order_letter dcx_Order__order_letter pmx_Order__order_letter anx_Order__order_letter cdx_Order__order_letter ctx_Order__order_letter), slx_Order__order_letter⟩)
    (cx_Order__order_letter : PySem.W.codeIn K cdx_Order__order_letter "Order._order_letter" = true)
    (kx_Order__order_letter : PySem.W.keepIn K (.ref fx_Order__order_letter) = true)
    (x_BadView : PySem.W.excIn K C_BadView [.type "ValueError", .type "Exception", .type "BaseException", .type "object"] "ValueError.__new__" = true)
    (k_BadView : PySem.W.keepIn K (.ref C_BadView) = true)
    (b_BadView : PySem.W.subIn K (.ref C_BadView) (.type "BaseException") = some true)
    (t_BadView : PySem.W.typeIn K (.ref C_BadView) = some (.type "type"))
    (m_VV : PySem.W.exmOne K (.ref C_BadView) (.ref C_BadView) = some true)
    (ax__law_cell : PySem.W.nsIn K mainGlobals "_law_cell" = some (some (.ref fx__law_cell)))
    (lx__law_cell : K.lookup fx__law_cell = some ⟨ocx__law_cell, odx__law_cell, .func (PySem.W.fnOf "_law_cell" "_law_cell" (defArgs s__law_cell) (defBody s__law_cell) (defScope s__law_cell) .none kVx__law_cell dcx__law_cell pmx__law_cell anx__law_cell cdx__law_cell ctx__law_cell), slx__law_cell⟩)
    (cx__law_cell : PySem.W.codeIn K cdx__law_cell "_law_cell" = true)
    (kx__law_cell : PySem.W.keepIn K (.ref fx__law_cell) = true)
    (ax__law_payload : PySem.W.nsIn K mainGlobals "_law_payload" = some (some (.ref fx__law_payload)))
    (lx__law_payload : K.lookup fx__law_payload = some ⟨ocx__law_payload, odx__law_payload, .func (PySem.W.fnOf "_law_payload" "_law_payload" (defArgs s__law_payload) (defBody s__law_payload) (defScope s__law_payload) .none kVx__law_payload dcx__law_payload pmx__law_payload anx__law_payload cdx__law_payload ctx__law_payload), slx__law_payload⟩)
    (cx__law_payload : PySem.W.codeIn K cdx__law_payload "_law_payload" = true)
    (kx__law_payload : PySem.W.keepIn K (.ref fx__law_payload) = true)
    (ax__law_members : PySem.W.nsIn K mainGlobals "_law_members" = some (some (.ref fx__law_members)))
    (lx__law_members : K.lookup fx__law_members = some ⟨ocx__law_members, odx__law_members, .func (PySem.W.fnOf "_law_members" "_law_members" (defArgs s__law_members) (defBody s__law_members) (defScope s__law_members) .none kVx__law_members dcx__law_members pmx__law_members anx__law_members cdx__law_members ctx__law_members), slx__law_members⟩)
    (cx__law_members : PySem.W.codeIn K cdx__law_members "_law_members" = true)
    (kx__law_members : PySem.W.keepIn K (.ref fx__law_members) = true)
    (ax__law_model : PySem.W.nsIn K mainGlobals "_law_model" = some (some (.ref fx__law_model)))
    (lx__law_model : K.lookup fx__law_model = some ⟨ocx__law_model, odx__law_model, .func (PySem.W.fnOf "_law_model" "_law_model" (defArgs s__law_model) (defBody s__law_model) (defScope s__law_model) .none kVx__law_model dcx__law_model pmx__law_model anx__law_model cdx__law_model ctx__law_model), slx__law_model⟩)
    (cx__law_model : PySem.W.codeIn K cdx__law_model "_law_model" = true)
    (kx__law_model : PySem.W.keepIn K (.ref fx__law_model) = true)
    (ax__law_last : PySem.W.nsIn K mainGlobals "_law_last" = some (some (.ref fx__law_last)))
    (lx__law_last : K.lookup fx__law_last = some ⟨ocx__law_last, odx__law_last, .func (PySem.W.fnOf "_law_last" "_law_last" (defArgs s__law_last) (defBody s__law_last) (defScope s__law_last) .none kVx__law_last dcx__law_last pmx__law_last anx__law_last cdx__law_last ctx__law_last), slx__law_last⟩)
    (cx__law_last : PySem.W.codeIn K cdx__law_last "_law_last" = true)
    (kx__law_last : PySem.W.keepIn K (.ref fx__law_last) = true)
    (ax__law_orders : PySem.W.nsIn K mainGlobals "_law_orders" = some (some (.ref fx__law_orders)))
    (lx__law_orders : K.lookup fx__law_orders = some ⟨ocx__law_orders, odx__law_orders, .func (PySem.W.fnOf "_law_orders" "_law_orders" (defArgs s__law_orders) (defBody s__law_orders) (defScope s__law_orders) .none kVx__law_orders dcx__law_orders pmx__law_orders anx__law_orders cdx__law_orders ctx__law_orders), slx__law_orders⟩)
    (cx__law_orders : PySem.W.codeIn K cdx__law_orders "_law_orders" = true)
    (kx__law_orders : PySem.W.keepIn K (.ref fx__law_orders) = true)
    (ax__law_cast : PySem.W.nsIn K mainGlobals "_law_cast" = some (some (.ref fx__law_cast)))
    (lx__law_cast : K.lookup fx__law_cast = some ⟨ocx__law_cast, odx__law_cast, .func (PySem.W.fnOf "_law_cast" "_law_cast" (defArgs s__law_cast) (defBody s__law_cast) (defScope s__law_cast) .none kVx__law_cast dcx__law_cast pmx__law_cast anx__law_cast cdx__law_cast ctx__law_cast), slx__law_cast⟩)
    (cx__law_cast : PySem.W.codeIn K cdx__law_cast "_law_cast" = true)
    (kx__law_cast : PySem.W.keepIn K (.ref fx__law_cast) = true)
    (ax__law_take : PySem.W.nsIn K mainGlobals "_law_take" = some (some (.ref fx__law_take)))
    (lx__law_take : K.lookup fx__law_take = some ⟨ocx__law_take, odx__law_take, .func (PySem.W.fnOf "_law_take" "_law_take" (defArgs s__law_take) (defBody s__law_take) (defScope s__law_take) .none kVx__law_take dcx__law_take pmx__law_take anx__law_take cdx__law_take ctx__law_take), slx__law_take⟩)
    (cx__law_take : PySem.W.codeIn K cdx__law_take "_law_take" = true)
    (kx__law_take : PySem.W.keepIn K (.ref fx__law_take) = true)
    (ax__law_pending : PySem.W.nsIn K mainGlobals "_law_pending" = some (some (.ref fx__law_pending)))
    (lx__law_pending : K.lookup fx__law_pending = some ⟨ocx__law_pending, odx__law_pending, .func (PySem.W.fnOf "_law_pending" "_law_pending" (defArgs s__law_pending) (defBody s__law_pending) (defScope s__law_pending) .none kVx__law_pending dcx__law_pending pmx__law_pending anx__law_pending cdx__law_pending ctx__law_pending), slx__law_pending⟩)
    (cx__law_pending : PySem.W.codeIn K cdx__law_pending "_law_pending" = true)
    (kx__law_pending : PySem.W.keepIn K (.ref fx__law_pending) = true)
    (ax__law_again : PySem.W.nsIn K mainGlobals "_law_again" = some (some (.ref fx__law_again)))
    (lx__law_again : K.lookup fx__law_again = some ⟨ocx__law_again, odx__law_again, .func (PySem.W.fnOf "_law_again" "_law_again" (defArgs s__law_again) (defBody s__law_again) (defScope s__law_again) .none kVx__law_again dcx__law_again pmx__law_again anx__law_again cdx__law_again ctx__law_again), slx__law_again⟩)
    (cx__law_again : PySem.W.codeIn K cdx__law_again "_law_again" = true)
    (kx__law_again : PySem.W.keepIn K (.ref fx__law_again) = true)
    (ax__law_letter : PySem.W.nsIn K mainGlobals "_law_letter" = some (some (.ref fx__law_letter)))
    (lx__law_letter : K.lookup fx__law_letter = some ⟨ocx__law_letter, odx__law_letter, .func (PySem.W.fnOf "_law_letter" "_law_letter" (defArgs s__law_letter) (defBody s__law_letter) (defScope s__law_letter) .none kVx__law_letter dcx__law_letter pmx__law_letter anx__law_letter cdx__law_letter ctx__law_letter), slx__law_letter⟩)
    (cx__law_letter : PySem.W.codeIn K cdx__law_letter "_law_letter" = true)
    (kx__law_letter : PySem.W.keepIn K (.ref fx__law_letter) = true)
    (ax__law_refused : PySem.W.nsIn K mainGlobals "_law_refused" = some (some (.ref fx__law_refused)))
    (lx__law_refused : K.lookup fx__law_refused = some ⟨ocx__law_refused, odx__law_refused, .func (PySem.W.fnOf "_law_refused" "_law_refused" (defArgs s__law_refused) (defBody s__law_refused) (defScope s__law_refused) .none kVx__law_refused dcx__law_refused pmx__law_refused anx__law_refused cdx__law_refused ctx__law_refused), slx__law_refused⟩)
    (cx__law_refused : PySem.W.codeIn K cdx__law_refused "_law_refused" = true)
    (kx__law_refused : PySem.W.keepIn K (.ref fx__law_refused) = true)
    (ax__law_spoil : PySem.W.nsIn K mainGlobals "_law_spoil" = some (some (.ref fx__law_spoil)))
    (lx__law_spoil : K.lookup fx__law_spoil = some ⟨ocx__law_spoil, odx__law_spoil, .func (PySem.W.fnOf "_law_spoil" "_law_spoil" (defArgs s__law_spoil) (defBody s__law_spoil) (defScope s__law_spoil) .none kVx__law_spoil dcx__law_spoil pmx__law_spoil anx__law_spoil cdx__law_spoil ctx__law_spoil), slx__law_spoil⟩)
    (cx__law_spoil : PySem.W.codeIn K cdx__law_spoil "_law_spoil" = true)
    (kx__law_spoil : PySem.W.keepIn K (.ref fx__law_spoil) = true)
    (ax_law : PySem.W.nsIn K mainGlobals "law" = some (some (.ref fx_law)))
    (lx_law : K.lookup fx_law = some ⟨ocx_law, odx_law, .func (PySem.W.fnOf "law" "law" (defArgs s_law) (defBody s_law) (defScope s_law) .none kVx_law dcx_law pmx_law anx_law cdx_law ctx_law), slx_law⟩)
    (cx_law : PySem.W.codeIn K cdx_law "law" = true)
    (kx_law : PySem.W.keepIn K (.ref fx_law) = true)
    (vWINDOW : PySem.W.nsIn K mainGlobals "WINDOW" = some (some (.int 16 tWINDOW)))
    (zlen : PySem.W.nsIn K mainGlobals "len" = some none)
    (zisinstance : PySem.W.nsIn K mainGlobals "isinstance" = some none)
    (zint : PySem.W.nsIn K mainGlobals "int" = some none)
    (zlist : PySem.W.nsIn K mainGlobals "list" = some none)
    (ztuple : PySem.W.nsIn K mainGlobals "tuple" = some none)
    (zrange : PySem.W.nsIn K mainGlobals "range" = some none)
    (zmin : PySem.W.nsIn K mainGlobals "min" = some none)
    (zmax : PySem.W.nsIn K mainGlobals "max" = some none)
    (zabs : PySem.W.nsIn K mainGlobals "abs" = some none)
    (zenumerate : PySem.W.nsIn K mainGlobals "enumerate" = some none) :
    ∃ fd : FuncData, (∀ (s : Shared) (v : Value), BindsTo s fd ⟨[v], []⟩ [("script", v)]) ∧ ∀ base : Heap, K.In base → base.Ns mainGlobals mg → FnOk l.prog w K mg base CX0 6 fa fd ["script"] (sp_law K) := by
  have e := hfa.symm.trans (PySem.W.mg_of X G ax_law)
  cases e
  have T : Tx K mg C_Order C_BadView := {
    b_len := PySem.W.mg_none_of X G zlen
    b_isinstance := PySem.W.mg_none_of X G zisinstance
    b_int := PySem.W.mg_none_of X G zint
    b_list := PySem.W.mg_none_of X G zlist
    b_tuple := PySem.W.mg_none_of X G ztuple
    b_range := PySem.W.mg_none_of X G zrange
    b_min := PySem.W.mg_none_of X G zmin
    b_max := PySem.W.mg_none_of X G zmax
    b_abs := PySem.W.mg_none_of X G zabs
    b_enumerate := PySem.W.mg_none_of X G zenumerate
    c_WINDOW := ⟨_, PySem.W.mg_of X G vWINDOW⟩
    g_Order := PySem.W.mg_of X G aC_Order
    cl_Order := ⟨pg_Order, hd_Order, po_Order, sa_Order⟩
    n_Order__me := n_Order__me
    n_Order__view_id := n_Order__view_id
    n_Order__members := n_Order__members
    n_Order__founder := n_Order__founder
    n_Order__log := n_Order__log
    n_Order__last_indexes := n_Order__last_indexes
    n_Order__casts := n_Order__casts
    n_Order__pending := n_Order__pending
    n_Order__kept := n_Order__kept
    n_Order__told := n_Order__told
    g_BadView := PySem.W.mg_of X G aC_BadView
    x_BadView := x_BadView
    k_BadView := k_BadView
    b_BadView := b_BadView
    t_BadView := t_BadView
    m_VV := m_VV }
  let a_Order___init__ : MethAt K C_Order "__init__" "Order.__init__" P_Order___init__ s_Order___init__ := meth_mk ax_Order___init__ ix_Order___init__ lx_Order___init__ cx_Order___init__ kx_Order___init__ fun _ _ _ _ _ _ us hl => match us, hl with | [_, _, _, _], _ => rfl
  let a_Order_cast : MethAt K C_Order "cast" "Order.cast" P_Order_cast s_Order_cast := meth_mk ax_Order_cast ix_Order_cast lx_Order_cast cx_Order_cast kx_Order_cast fun _ _ _ _ _ _ us hl => match us, hl with | [_, _], _ => rfl
  let a_Order_take : MethAt K C_Order "take" "Order.take" P_Order_take s_Order_take := meth_mk ax_Order_take ix_Order_take lx_Order_take cx_Order_take kx_Order_take fun _ _ _ _ _ _ us hl => match us, hl with | [_, _], _ => rfl
  let a_Order_heard : MethAt K C_Order "heard" "Order.heard" P_Order_heard s_Order_heard := meth_mk ax_Order_heard ix_Order_heard lx_Order_heard cx_Order_heard kx_Order_heard fun _ _ _ _ _ _ us hl => match us, hl with | [_, _, _], _ => rfl
  let a_Order_again : MethAt K C_Order "again" "Order.again" P_Order_again s_Order_again := meth_mk ax_Order_again ix_Order_again lx_Order_again cx_Order_again kx_Order_again fun _ _ _ _ _ _ us hl => match us, hl with | [_], _ => rfl
  let a_Order_log : MethAt K C_Order "log" "Order.log" P_Order_log s_Order_log := meth_mk ax_Order_log ix_Order_log lx_Order_log cx_Order_log kx_Order_log fun _ _ _ _ _ _ us hl => match us, hl with | [_], _ => rfl
  let a_Order_pending : MethAt K C_Order "pending" "Order.pending" P_Order_pending s_Order_pending := meth_mk ax_Order_pending ix_Order_pending lx_Order_pending cx_Order_pending kx_Order_pending fun _ _ _ _ _ _ us hl => match us, hl with | [_], _ => rfl
  let a_Order__take_cast : MethAt K C_Order "_take_cast" "Order._take_cast" P_Order__take_cast s_Order__take_cast := meth_mk ax_Order__take_cast ix_Order__take_cast lx_Order__take_cast cx_Order__take_cast kx_Order__take_cast fun _ _ _ _ _ _ us hl => match us, hl with | [_, _], _ => rfl
  let a_Order__decide : MethAt K C_Order "_decide" "Order._decide" P_Order__decide s_Order__decide := meth_mk ax_Order__decide ix_Order__decide lx_Order__decide cx_Order__decide kx_Order__decide fun _ _ _ _ _ _ us hl => match us, hl with | [_, _], _ => rfl
  let a_Order__take_order : MethAt K C_Order "_take_order" "Order._take_order" P_Order__take_order s_Order__take_order := meth_mk ax_Order__take_order ix_Order__take_order lx_Order__take_order cx_Order__take_order kx_Order__take_order fun _ _ _ _ _ _ us hl => match us, hl with | [_, _], _ => rfl
  let a_Order__deliver_kept : MethAt K C_Order "_deliver_kept" "Order._deliver_kept" P_Order__deliver_kept s_Order__deliver_kept := meth_mk ax_Order__deliver_kept ix_Order__deliver_kept lx_Order__deliver_kept cx_Order__deliver_kept kx_Order__deliver_kept fun _ _ _ _ _ _ us hl => match us, hl with | [_], _ => rfl
  let a_Order__deliver : MethAt K C_Order "_deliver" "Order._deliver" P_Order__deliver s_Order__deliver := meth_mk ax_Order__deliver ix_Order__deliver lx_Order__deliver cx_Order__deliver kx_Order__deliver fun _ _ _ _ _ _ us hl => match us, hl with | [_, _], _ => rfl
  let a_Order__others : MethAt K C_Order "_others" "Order._others" P_Order__others s_Order__others := meth_mk ax_Order__others ix_Order__others lx_Order__others cx_Order__others kx_Order__others fun _ _ _ _ _ _ us hl => match us, hl with | [_], _ => rfl
  let a_Order__letters_behind : MethAt K C_Order "_letters_behind" "Order._letters_behind" P_Order__letters_behind s_Order__letters_behind := meth_mk ax_Order__letters_behind ix_Order__letters_behind lx_Order__letters_behind cx_Order__letters_behind kx_Order__letters_behind fun _ _ _ _ _ _ us hl => match us, hl with | [_, _], _ => rfl
  let a_Order__cast_letter : MethAt K C_Order "_cast_letter" "Order._cast_letter" P_Order__cast_letter s_Order__cast_letter := meth_mk ax_Order__cast_letter ix_Order__cast_letter lx_Order__cast_letter cx_Order__cast_letter kx_Order__cast_letter fun _ _ _ _ _ _ us hl => match us, hl with | [_, _, _], _ => rfl
  let a_Order__order_letter : MethAt K C_Order "_order_letter" "Order._order_letter" P_Order__order_letter s_Order__order_letter := meth_mk ax_Order__order_letter ix_Order__order_letter lx_Order__order_letter cx_Order__order_letter kx_Order__order_letter fun _ _ _ _ _ _ us hl => match us, hl with | [_, _, _, _], _ => rfl
  let a__law_cell : DefAt K mg "_law_cell" P__law_cell s__law_cell := at_mk X G ax__law_cell lx__law_cell cx__law_cell kx__law_cell fun _ _ _ _ _ _ us hl => match us, hl with | [_, _], _ => rfl
  let a__law_payload : DefAt K mg "_law_payload" P__law_payload s__law_payload := at_mk X G ax__law_payload lx__law_payload cx__law_payload kx__law_payload fun _ _ _ _ _ _ us hl => match us, hl with | [_], _ => rfl
  let a__law_members : DefAt K mg "_law_members" P__law_members s__law_members := at_mk X G ax__law_members lx__law_members cx__law_members kx__law_members fun _ _ _ _ _ _ us hl => match us, hl with | [_], _ => rfl
  let a__law_model : DefAt K mg "_law_model" P__law_model s__law_model := at_mk X G ax__law_model lx__law_model cx__law_model kx__law_model fun _ _ _ _ _ _ us hl => match us, hl with | [_, _, _], _ => rfl
  let a__law_last : DefAt K mg "_law_last" P__law_last s__law_last := at_mk X G ax__law_last lx__law_last cx__law_last kx__law_last fun _ _ _ _ _ _ us hl => match us, hl with | [_, _], _ => rfl
  let a__law_orders : DefAt K mg "_law_orders" P__law_orders s__law_orders := at_mk X G ax__law_orders lx__law_orders cx__law_orders kx__law_orders fun _ _ _ _ _ _ us hl => match us, hl with | [_, _, _, _], _ => rfl
  let a__law_cast : DefAt K mg "_law_cast" P__law_cast s__law_cast := at_mk X G ax__law_cast lx__law_cast cx__law_cast kx__law_cast fun _ _ _ _ _ _ us hl => match us, hl with | [_, _], _ => rfl
  let a__law_take : DefAt K mg "_law_take" P__law_take s__law_take := at_mk X G ax__law_take lx__law_take cx__law_take kx__law_take fun _ _ _ _ _ _ us hl => match us, hl with | [_, _], _ => rfl
  let a__law_pending : DefAt K mg "_law_pending" P__law_pending s__law_pending := at_mk X G ax__law_pending lx__law_pending cx__law_pending kx__law_pending fun _ _ _ _ _ _ us hl => match us, hl with | [_], _ => rfl
  let a__law_again : DefAt K mg "_law_again" P__law_again s__law_again := at_mk X G ax__law_again lx__law_again cx__law_again kx__law_again fun _ _ _ _ _ _ us hl => match us, hl with | [_], _ => rfl
  let a__law_letter : DefAt K mg "_law_letter" P__law_letter s__law_letter := at_mk X G ax__law_letter lx__law_letter cx__law_letter kx__law_letter fun _ _ _ _ _ _ us hl => match us, hl with | [_, _], _ => rfl
  let a__law_refused : DefAt K mg "_law_refused" P__law_refused s__law_refused := at_mk X G ax__law_refused lx__law_refused cx__law_refused kx__law_refused fun _ _ _ _ _ _ us hl => match us, hl with | [_, _, _], _ => rfl
  let a__law_spoil : DefAt K mg "_law_spoil" P__law_spoil s__law_spoil := at_mk X G ax__law_spoil lx__law_spoil cx__law_spoil kx__law_spoil fun _ _ _ _ _ _ us hl => match us, hl with | [_], _ => rfl
  have F_law := fun_mk (st := s_law) lx_law cx_law kx_law
  refine ⟨PySem.W.fnOf "law" "law" (defArgs s_law) (defBody s_law) (defScope s_law) .none kVx_law dcx_law pmx_law anx_law cdx_law ctx_law, fun s v => .of_eq rfl, fun base _ _ => ?_⟩
  let k_Order : MkOkX l.prog w K mg base C_Order "Order" P_Order___init__ 1 (sp_oini w C_Order C_BadView) := a_Order___init__.mkX mk_Order kc_Order T.g_Order fun F => ok_oini T F
  let c__law_cell : DefOk l.prog w K mg base CX0 "_law_cell" P__law_cell (1) ((sp_cell20 K)) := a__law_cell.ok fun F => ok__law_cell T F
  let c__law_members : DefOk l.prog w K mg base CX0 "_law_members" P__law_members (1) ((sp_mems20)) := a__law_members.ok fun F => ok__law_members T F
  let c__law_refused : DefOk l.prog w K mg base CX0 "_law_refused" P__law_refused 3 (sp_refu) := a__law_refused.ok fun F => ok_refu T k_Order F
  let c__law_model : DefOk l.prog w K mg base CX0 "_law_model" P__law_model 1 ((sp_lmod w)) := a__law_model.ok fun F => ok_lmod T F
  let c__law_payload : DefOk l.prog w K mg base CX0 "_law_payload" P__law_payload (1) ((sp_pay20)) := a__law_payload.ok fun F => ok__law_payload T F
  let m_Order__deliver : MethOk l.prog w K mg base CX0 C_Order "_deliver" P_Order__deliver 1 ((sp_del w C_Order)) := a_Order__deliver.ok fun F => ok_del T F
  let m_Order__others : MethOk l.prog w K mg base CX0 C_Order "_others" P_Order__others 1 ((sp_oth C_Order)) := a_Order__others.ok fun F => ok_oth T F
  let m_Order__order_letter : MethOk l.prog w K mg base CX0 C_Order "_order_letter" P_Order__order_letter 1 ((sp_ordl C_Order)) := a_Order__order_letter.ok fun F => ok_ordl T F
  let m_Order__decide : MethOk l.prog w K mg base CX0 C_Order "_decide" P_Order__decide 2 ((sp_dec w C_Order)) := a_Order__decide.ok fun F => ok_dec T m_Order__deliver m_Order__others m_Order__order_letter F
  let m_Order__cast_letter : MethOk l.prog w K mg base CX0 C_Order "_cast_letter" P_Order__cast_letter 1 ((sp_casl C_Order)) := a_Order__cast_letter.ok fun F => ok_casl T F
  let m_Order_cast : MethOk l.prog w K mg base CX0 C_Order "cast" P_Order_cast 3 ((sp_ocast w C_Order)) := a_Order_cast.ok fun F => ok_ocast T m_Order__decide m_Order__cast_letter F
  let c__law_orders : DefOk l.prog w K mg base CX0 "_law_orders" P__law_orders 1 ((sp_lords w)) := a__law_orders.ok fun F => ok_lords T F
  let c__law_cast : DefOk l.prog w K mg base CX0 "_law_cast" P__law_cast 2 ((sp_lcast w)) := a__law_cast.ok fun F => ok_lcast T c__law_orders F
  let c__law_last : DefOk l.prog w K mg base CX0 "_law_last" P__law_last 1 ((sp_llast w)) := a__law_last.ok fun F => ok_llast T F
  let c__law_pending : DefOk l.prog w K mg base CX0 "_law_pending" P__law_pending 1 ((sp_lpend w)) := a__law_pending.ok fun F => ok_lpend T F
  let c__law_letter : DefOk l.prog w K mg base CX0 "_law_letter" P__law_letter 2 ((sp_llet w)) := a__law_letter.ok fun F => ok_llet T c__law_last c__law_payload c__law_pending F
  let m_Order__take_cast : MethOk l.prog w K mg base CX0 C_Order "_take_cast" P_Order__take_cast 3 ((sp_tc w C_Order)) := a_Order__take_cast.ok fun F => ok_tc T m_Order__others m_Order__decide F
  let m_Order__deliver_kept : MethOk l.prog w K mg base CX0 C_Order "_deliver_kept" P_Order__deliver_kept 2 ((sp_dk w C_Order)) := a_Order__deliver_kept.ok fun F => ok_dk T m_Order__deliver F
  let m_Order__take_order : MethOk l.prog w K mg base CX0 C_Order "_take_order" P_Order__take_order 3 ((sp_to w C_Order)) := a_Order__take_order.ok fun F => ok_to T m_Order__deliver_kept F
  let m_Order_take : MethOk l.prog w K mg base CX0 C_Order "take" P_Order_take 4 ((sp_otk w C_Order)) := a_Order_take.ok fun F => ok_otk T m_Order__take_cast m_Order__take_order F
  let c__law_take : DefOk l.prog w K mg base CX0 "_law_take" P__law_take 2 ((sp_ltake w)) := a__law_take.ok fun F => ok_ltake T c__law_orders c__law_last F
  let m_Order_heard : MethOk l.prog w K mg base CX0 C_Order "heard" P_Order_heard 1 ((sp_ohr w C_Order)) := a_Order_heard.ok fun F => ok_ohr T F
  let m_Order__letters_behind : MethOk l.prog w K mg base CX0 C_Order "_letters_behind" P_Order__letters_behind 2 ((sp_beh w C_Order)) := a_Order__letters_behind.ok fun F => ok_beh T m_Order__order_letter F
  let m_Order_again : MethOk l.prog w K mg base CX0 C_Order "again" P_Order_again 3 ((sp_oag w C_Order)) := a_Order_again.ok fun F => ok_oag T m_Order__others m_Order__cast_letter m_Order__letters_behind F
  let c__law_again : DefOk l.prog w K mg base CX0 "_law_again" P__law_again 2 ((sp_lag w)) := a__law_again.ok fun F => ok_lag T c__law_orders c__law_pending F
  let c__law_spoil : DefOk l.prog w K mg base CX0 "_law_spoil" P__law_spoil 1 (sp_spoil) := a__law_spoil.ok fun F => ok_spoil T F
  let m_Order_log : MethOk l.prog w K mg base CX0 C_Order "log" P_Order_log 1 ((sp_olog w C_Order)) := a_Order_log.ok fun F => ok_olog T F
  let m_Order_pending : MethOk l.prog w K mg base CX0 C_Order "pending" P_Order_pending 1 ((sp_open w C_Order)) := a_Order_pending.ok fun F => ok_open T F
  exact ok_law T c__law_cell c__law_members c__law_refused k_Order c__law_model c__law_payload m_Order_cast c__law_cast c__law_letter m_Order_take c__law_take m_Order_heard m_Order_again c__law_again c__law_spoil m_Order_log m_Order_pending c__law_pending F_law
end Mus
open PySem PySem.W PyProof.Rows
set_option maxRecDepth 100000 in
set_option maxHeartbeats 0 in
theorem PySem.Challenge.cw_mustercall_k20_order_step_by_step_holds : PySem.Challenge.rw_mustercall_k20_order_step_by_step.Holds := by
  w_on; o_law; k_head; (case hw => w_witness2)
  k_fill
  refine Mus.walk_ofX (l := PySem.Challenge.rw_mustercall_k20_order_step_by_step) (n := 63) (k := 6) (x := "script") (sp := fun w => Mus.sp_law (_ : PySem.W.Frag)) rfl (by decide) rfl ⟨rfl, by decide, by decide⟩ (fun w h Y => PySem.W.kIn_of Y) ?F (fun _ _ a ns hl _ hS => ⟨a, ns, rfl, hS, hl, fun _ => rfl⟩)
  case F =>
    intro w mg fa h KX G XX hmg
    refine' Mus.all_mk KX G hmg ?aC_Order ?aC_BadView ?pg_Order ?hd_Order ?po_Order ?sa_Order ?mk_Order ?kc_Order ?n_Order__me ?n_Order__view_id ?n_Order__members ?n_Order__founder ?n_Order__log ?n_Order__last_indexes ?n_Order__casts ?n_Order__pending ?n_Order__kept ?n_Order__told ?ax_Order___init__ ?ix_Order___init__ ?lx_Order___init__ ?cx_Order___init__ ?kx_Order___init__ ?ax_Order_cast ?ix_Order_cast ?lx_Order_cast ?cx_Order_cast ?kx_Order_cast ?ax_Order_take ?ix_Order_take ?lx_Order_take ?cx_Order_take ?kx_Order_take ?ax_Order_heard ?ix_Order_heard ?lx_Order_heard ?cx_Order_heard ?kx_Order_heard ?ax_Order_again ?ix_Order_again ?lx_Order_again ?cx_Order_again ?kx_Order_again ?ax_Order_log ?ix_Order_log ?lx_Order_log ?cx_Order_log ?kx_Order_log ?ax_Order_pending ?ix_Order_pending ?lx_Order_pending ?cx_Order_pending ?kx_Order_pending ?ax_Order__take_cast ?ix_Order__take_cast ?lx_Order__take_cast ?cx_Order__take_cast ?kx_Order__take_cast ?ax_Order__decide ?ix_Order__decide ?lx_Order__decide ?cx_Order__decide ?kx_Order__decide ?ax_Order__take_order ?ix_Order__take_order ?lx_Order__take_order ?cx_Order__take_order ?kx_Order__take_order ?ax_Order__deliver_kept ?ix_Order__deliver_kept ?lx_Order__deliver_kept ?cx_Order__deliver_kept ?kx_Order__deliver_kept ?ax_Order__deliver ?ix_Order__deliver ?lx_Order__deliver ?cx_Order__deliver ?kx_Order__deliver ?ax_Order__others ?ix_Order__others ?lx_Order__others ?cx_Order__others ?kx_Order__others ?ax_Order__letters_behind ?ix_Order__letters_behind ?lx_Order__letters_behind ?cx_Order__letters_behind ?kx_Order__letters_behind ?ax_Order__cast_letter ?ix_Order__cast_letter ?lx_Order__cast_letter ?cx_Order__cast_letter ?kx_Order__cast_letter ?ax_Order__order_letter ?ix_Order__order_letter ?lx_Order__order_letter ?cx_Order__order_letter ?kx_Order__order_letter ?x_BadView ?k_BadView ?b_BadView ?t_BadView ?m_VV ?ax__law_cell ?lx__law_cell ?cx__law_cell ?kx__law_cell ?ax__law_payload ?lx__law_payload ?cx__law_payload ?kx__law_payload ?ax__law_members ?lx__law_members ?cx__law_members ?kx__law_members ?ax__law_model ?lx__law_model ?cx__law_model ?kx__law_model ?ax__law_last ?lx__law_last ?cx__law_last ?kx__law_last ?ax__law_orders ?lx__law_orders ?cx__law_orders ?kx__law_orders ?ax__law_cast ?lx__law_cast ?cx__law_cast ?kx__law_cast ?ax__law_take ?lx__law_take ?cx__law_take ?kx__law_take ?ax__law_pending ?lx__law_pending ?cx__law_pending ?kx__law_pending ?ax__law_again ?lx__law_again ?cx__law_again ?kx__law_again ?ax__law_letter ?lx__law_letter ?cx__law_letter ?kx__law_letter ?ax__law_refused ?lx__law_refused ?cx__law_refused ?kx__law_refused ?ax__law_spoil ?lx__law_spoil ?cx__law_spoil ?kx__law_spoil ?ax_law ?lx_law ?cx_law ?kx_law ?vWINDOW ?zlen ?zisinstance ?zint ?zlist ?ztuple ?zrange ?zmin ?zmax ?zabs ?zenumerate
    (case aC_Order => first | k_is | rfl)
    (case aC_BadView => first | k_is | rfl)
    (case pg_Order => first | k_is | rfl)
    (case hd_Order => first | k_is | rfl)
    (case po_Order => first | k_is | rfl)
    (case sa_Order => first | k_is | rfl)
    (case mk_Order => first | k_is | rfl)
    (case kc_Order => first | k_is | rfl)
    (case n_Order__me => first | k_is | rfl)
    (case n_Order__view_id => first | k_is | rfl)
    (case n_Order__members => first | k_is | rfl)
    (case n_Order__founder => first | k_is | rfl)
    (case n_Order__log => first | k_is | rfl)
    (case n_Order__last_indexes => first | k_is | rfl)
    (case n_Order__casts => first | k_is | rfl)
    (case n_Order__pending => first | k_is | rfl)
    (case n_Order__kept => first | k_is | rfl)
    (case n_Order__told => first | k_is | rfl)
    (case ax_Order___init__ => first | k_is | rfl)
    (case ix_Order___init__ => first | k_is | rfl)
    (case lx_Order___init__ => first | k_is | rfl)
    (case cx_Order___init__ => first | k_is | rfl)
    (case kx_Order___init__ => first | k_is | rfl)
    (case ax_Order_cast => first | k_is | rfl)
    (case ix_Order_cast => first | k_is | rfl)
    (case lx_Order_cast => first | k_is | rfl)
    (case cx_Order_cast => first | k_is | rfl)
    (case kx_Order_cast => first | k_is | rfl)
    (case ax_Order_take => first | k_is | rfl)
    (case ix_Order_take => first | k_is | rfl)
    (case lx_Order_take => first | k_is | rfl)
    (case cx_Order_take => first | k_is | rfl)
    (case kx_Order_take => first | k_is | rfl)
    (case ax_Order_heard => first | k_is | rfl)
    (case ix_Order_heard => first | k_is | rfl)
    (case lx_Order_heard => first | k_is | rfl)
    (case cx_Order_heard => first | k_is | rfl)
    (case kx_Order_heard => first | k_is | rfl)
    (case ax_Order_again => first | k_is | rfl)
    (case ix_Order_again => first | k_is | rfl)
    (case lx_Order_again => first | k_is | rfl)
    (case cx_Order_again => first | k_is | rfl)
    (case kx_Order_again => first | k_is | rfl)
    (case ax_Order_log => first | k_is | rfl)
    (case ix_Order_log => first | k_is | rfl)
    (case lx_Order_log => first | k_is | rfl)
    (case cx_Order_log => first | k_is | rfl)
    (case kx_Order_log => first | k_is | rfl)
    (case ax_Order_pending => first | k_is | rfl)
    (case ix_Order_pending => first | k_is | rfl)
    (case lx_Order_pending => first | k_is | rfl)
    (case cx_Order_pending => first | k_is | rfl)
    (case kx_Order_pending => first | k_is | rfl)
    (case ax_Order__take_cast => first | k_is | rfl)
    (case ix_Order__take_cast => first | k_is | rfl)
    (case lx_Order__take_cast => first | k_is | rfl)
    (case cx_Order__take_cast => first | k_is | rfl)
    (case kx_Order__take_cast => first | k_is | rfl)
    (case ax_Order__decide => first | k_is | rfl)
    (case ix_Order__decide => first | k_is | rfl)
    (case lx_Order__decide => first | k_is | rfl)
    (case cx_Order__decide => first | k_is | rfl)
    (case kx_Order__decide => first | k_is | rfl)
    (case ax_Order__take_order => first | k_is | rfl)
    (case ix_Order__take_order => first | k_is | rfl)
    (case lx_Order__take_order => first | k_is | rfl)
    (case cx_Order__take_order => first | k_is | rfl)
    (case kx_Order__take_order => first | k_is | rfl)
    (case ax_Order__deliver_kept => first | k_is | rfl)
    (case ix_Order__deliver_kept => first | k_is | rfl)
    (case lx_Order__deliver_kept => first | k_is | rfl)
    (case cx_Order__deliver_kept => first | k_is | rfl)
    (case kx_Order__deliver_kept => first | k_is | rfl)
    (case ax_Order__deliver => first | k_is | rfl)
    (case ix_Order__deliver => first | k_is | rfl)
    (case lx_Order__deliver => first | k_is | rfl)
    (case cx_Order__deliver => first | k_is | rfl)
    (case kx_Order__deliver => first | k_is | rfl)
    (case ax_Order__others => first | k_is | rfl)
    (case ix_Order__others => first | k_is | rfl)
    (case lx_Order__others => first | k_is | rfl)
    (case cx_Order__others => first | k_is | rfl)
    (case kx_Order__others => first | k_is | rfl)
    (case ax_Order__letters_behind => first | k_is | rfl)
    (case ix_Order__letters_behind => first | k_is | rfl)
    (case lx_Order__letters_behind => first | k_is | rfl)
    (case cx_Order__letters_behind => first | k_is | rfl)
    (case kx_Order__letters_behind => first | k_is | rfl)
    (case ax_Order__cast_letter => first | k_is | rfl)
    (case ix_Order__cast_letter => first | k_is | rfl)
    (case lx_Order__cast_letter => first | k_is | rfl)
    (case cx_Order__cast_letter => first | k_is | rfl)
    (case kx_Order__cast_letter => first | k_is | rfl)
    (case ax_Order__order_letter => first | k_is | rfl)
    (case ix_Order__order_letter => first | k_is | rfl)
    (case lx_Order__order_letter => first | k_is | rfl)
    (case cx_Order__order_letter => first | k_is | rfl)
    (case kx_Order__order_letter => first | k_is | rfl)
    (case x_BadView => k_exc)
    (case k_BadView => first | k_is | rfl)
    (case b_BadView => first | k_is | rfl)
    (case t_BadView => first | k_is | rfl)
    (case m_VV => first | k_is | rfl)
    (case ax__law_cell => first | k_is | rfl)
    (case lx__law_cell => first | k_is | rfl)
    (case cx__law_cell => first | k_is | rfl)
    (case kx__law_cell => first | k_is | rfl)
    (case ax__law_payload => first | k_is | rfl)
    (case lx__law_payload => first | k_is | rfl)
    (case cx__law_payload => first | k_is | rfl)
    (case kx__law_payload => first | k_is | rfl)
    (case ax__law_members => first | k_is | rfl)
    (case lx__law_members => first | k_is | rfl)
    (case cx__law_members => first | k_is | rfl)
    (case kx__law_members => first | k_is | rfl)
    (case ax__law_model => first | k_is | rfl)
    (case lx__law_model => first | k_is | rfl)
    (case cx__law_model => first | k_is | rfl)
    (case kx__law_model => first | k_is | rfl)
    (case ax__law_last => first | k_is | rfl)
    (case lx__law_last => first | k_is | rfl)
    (case cx__law_last => first | k_is | rfl)
    (case kx__law_last => first | k_is | rfl)
    (case ax__law_orders => first | k_is | rfl)
    (case lx__law_orders => first | k_is | rfl)
    (case cx__law_orders => first | k_is | rfl)
    (case kx__law_orders => first | k_is | rfl)
    (case ax__law_cast => first | k_is | rfl)
    (case lx__law_cast => first | k_is | rfl)
    (case cx__law_cast => first | k_is | rfl)
    (case kx__law_cast => first | k_is | rfl)
    (case ax__law_take => first | k_is | rfl)
    (case lx__law_take => first | k_is | rfl)
    (case cx__law_take => first | k_is | rfl)
    (case kx__law_take => first | k_is | rfl)
    (case ax__law_pending => first | k_is | rfl)
    (case lx__law_pending => first | k_is | rfl)
    (case cx__law_pending => first | k_is | rfl)
    (case kx__law_pending => first | k_is | rfl)
    (case ax__law_again => first | k_is | rfl)
    (case lx__law_again => first | k_is | rfl)
    (case cx__law_again => first | k_is | rfl)
    (case kx__law_again => first | k_is | rfl)
    (case ax__law_letter => first | k_is | rfl)
    (case lx__law_letter => first | k_is | rfl)
    (case cx__law_letter => first | k_is | rfl)
    (case kx__law_letter => first | k_is | rfl)
    (case ax__law_refused => first | k_is | rfl)
    (case lx__law_refused => first | k_is | rfl)
    (case cx__law_refused => first | k_is | rfl)
    (case kx__law_refused => first | k_is | rfl)
    (case ax__law_spoil => first | k_is | rfl)
    (case lx__law_spoil => first | k_is | rfl)
    (case cx__law_spoil => first | k_is | rfl)
    (case kx__law_spoil => first | k_is | rfl)
    (case ax_law => first | k_is | rfl)
    (case lx_law => first | k_is | rfl)
    (case cx_law => first | k_is | rfl)
    (case kx_law => first | k_is | rfl)
    (case vWINDOW => first | k_is | rfl)
    (case zlen => first | k_is | rfl)
    (case zisinstance => first | k_is | rfl)
    (case zint => first | k_is | rfl)
    (case zlist => first | k_is | rfl)
    (case ztuple => first | k_is | rfl)
    (case zrange => first | k_is | rfl)
    (case zmin => first | k_is | rfl)
    (case zmax => first | k_is | rfl)
    (case zabs => first | k_is | rfl)
    (case zenumerate => first | k_is | rfl)

