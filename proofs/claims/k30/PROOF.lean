import PyProof.Rows.All
import Wide.All
import OpenK.AllK
import Wide.FinOn
import HandS.Base
import HandS.Call
import HandS.List
import HandS.Comp
import HandS.Ends
import HandS.Iter
import HandS.Text
import HandS.Words
import HandS.WordsList
import HandS.Wide
import HandS.IsInst
import HandS.TupAny
import HandS.Dict
import HandS.WordsDict
import HandS.Conv
import HandS.More
import KE.KeyNested
import KE.KDictKeyed
import KE.SortData
import KE.SortUse
import HandS.SortOrd
import HandS.Deep
import HandS.Codes
import HandS.SortRule
import HandS.Walk
import KE.GoesEnumKw
import HandS.SortKw
import KE.DataCmp
import KE.DataMinKey
import PyProof.WalkInts
import HandS.TupSets
import HandS.SetBool
import KE.KDictWalk
import HandS.Exc
import HandS.ExcOwn
import HandS.TryOnly
import HandS.WordsExc
import HandS.TryMany
import HandS.ExcIs
import HandS.TupLe
import PySem.Challenge.RW_mustercall_k30_attempts
set_option Elab.async false
set_option linter.all false
set_option maxRecDepth 100000
set_option maxHeartbeats 4000000
/-! What my proofs share: a def with its promise as one thing, small rules, heaps. -/
namespace Mus
open PySem L2
/-- a def of the text that keeps a promise, and all that a call of it asks -/
structure DefOk (P : Program) (w : World) (K : PySem.W.Frag) (mg : Str → Option Value) (base : Heap) (CX : CXT) (x : Str) (ps : List Str) (k : Nat) (sp : Sp) where
  f : Addr
  fd : FuncData
  G : FnOk P w K mg base CX k f fd ps sp
  m : mg x = some (.ref f)
  kp : PySem.W.keepIn K (.ref f) = true
  b : Binds K fd ps []
def DefOk.mono {P : Program} {w : World} {K : PySem.W.Frag} {mg : Str → Option Value} {base : Heap} {CX : CXT} {x : Str} {ps : List Str} {j k : Nat} {sp : Sp} (c : DefOk P w K mg base CX x ps j sp) (h : j ≤ k) : DefOk P w K mg base CX x ps k sp :=
  ⟨c.f, c.fd, c.G.mono h, c.m, c.kp, c.b⟩
/-- a def of the text as the top left it: no promise yet -/
structure DefAt (K : PySem.W.Frag) (mg : Str → Option Value) (x : Str) (ps : List Str) (st : Stmt) where
  f : Addr
  fd : FuncData
  F : Fun K x x st f fd
  m : mg x = some (.ref f)
  b : Binds K fd ps []
def DefAt.ok {P : Program} {w : World} {K : PySem.W.Frag} {mg : Str → Option Value} {base : Heap} {CX : CXT} {x : Str} {ps : List Str} {st : Stmt} {k : Nat} {sp : Sp} (d : DefAt K mg x ps st) (h : ∀ {f : Addr} {fd : FuncData}, Fun K x x st f fd → FnOk P w K mg base CX k f fd ps sp) : DefOk P w K mg base CX x ps k sp :=
  ⟨d.f, d.fd, h d.F, d.m, d.F.kp, d.b⟩
section
variable {X : Cx}
theorem pcall {x : Str} {ps : List Str} {j k : Nat} {sp : Sp} {e : Expr} {es : List Expr} {t : TA} {p pos : Pos} (c : DefOk X.prog X.w X.K X.mg X.base CX0 x ps j sp) (hr : Room k X.A) (ha : PA X (e :: es) t) (hj : j ≤ k := by first | decide | omega) (hg : Gl X x := by rfl)
    (db0 : (x == ("__debug__" : Str)) = false := by decide) (st0 : starEach (e :: es) X.env = (false, eval e X.env) :: starEach es X.env := by rfl) (pl0 : (backTo pos (starEach es X.env)).any (·.1) = false := by rfl) :
    PE X (.Call (.Name x p) (e :: es) [] pos) (tCall sp [] E0 t) := pe_call c.G (hr.mono hj) hg c.m c.kp c.b .nil pass0 ha db0 st0 pl0
/-- a text n times -/
theorem op_mul_str : OpR X (binaryOp .Mult) (fun x y H Q => ∃ (z : Str) (n : Int), x = .str z ∧ y = .int n ∧ 2 ≤ n ∧ n ≤ 1000 ∧ 1 ≤ z.length ∧ z.length ≤ 1000 ∧ ∀ r : Str, TL.tl r = (List.replicate n.toNat (TL.tl z)).flatten → Q (.str r) H) := by
  intro pins s σ H x y v u Q I rx ry h
  obtain ⟨z, n, rfl, rfl, h2, h3, h4, h5, q⟩ := h
  obtain ⟨t, rfl⟩ := rx
  obtain ⟨t', rfl⟩ := ry
  have n1 : ¬ n < 1 := by omega
  have n2 : ¬ (n == 1 || z.length == 0) = true := by
    rw [Bool.or_eq_true, beq_iff_eq, beq_iff_eq]; omega
  have hr : (decide (n < -(2 ^ 63 : Int)) || decide (n ≥ 2 ^ 63)) = false := by
    rw [decide_eq_false (by omega), decide_eq_false (by omega)]; rfl
  have hm : z.length * n.toNat ≤ 1000 * 1000 := Nat.mul_le_mul h5 (by omega)
  have hl : Builtin.Str.tooLong (z.length * n.toNat) = false := by
    unfold Builtin.Str.tooLong
    have e : sizeLine = 16777216 := sizeLine_eq
    rw [decide_eq_false (by omega)]
  have hb : ¬ ((z.length : Int) > (2 ^ 63 - 1) / n) := by
    have : (1000 : Int) ≤ (2 ^ 63 - 1) / n := by
      rw [Int.le_ediv_iff_mul_le (by omega)]
      omega
    omega
  refine PySem.P.mul_str hr (fun _ _ => hb) (fun _ _ => hl) ?_
  rw [if_neg n1, if_neg n2]
  have hf : ∀ (k : Nat) (acc : Array Nat), ((List.replicate k z.cps).foldl (· ++ ·) acc).toList = acc.toList ++ (List.replicate k z.cps.toList).flatten := by
    intro k
    induction k with
    | zero => intro acc; simp
    | succ k ih =>
      intro acc
      rw [List.replicate_succ, List.foldl_cons, ih, List.replicate_succ, List.flatten_cons, Array.toList_append, List.append_assoc]
  have hr : TL.tl (⟨(List.replicate n.toNat z.cps).foldl (· ++ ·) #[]⟩ : Str) = (List.replicate n.toNat (TL.tl z)).flatten := by
    show ((List.replicate n.toNat z.cps).foldl (· ++ ·) #[]).toList = _
    rw [hf]; rfl
  have hlen : (⟨(List.replicate n.toNat z.cps).foldl (· ++ ·) #[]⟩ : Str).length ≤ sizeLine := by
    rw [TL.len_tl, hr]
    have e : sizeLine = 16777216 := sizeLine_eq
    have z2 : ((List.replicate n.toNat (TL.tl z)).flatten).length = z.length * n.toNat := by
      rw [TL.len_tl]
      generalize n.toNat = k
      induction k with
      | zero => rfl
      | succ k ih => rw [List.replicate_succ, List.flatten_cons, List.length_append, ih, Nat.mul_succ, Nat.add_comm]
    omega
  exact ⟨hlen, .str _, H, I.tok _, ⟨_, rfl⟩, q _ hr⟩
/-- for c in a text -/
theorem for_str {z : Str} {g : TG} {tb : TS} {D : Ends} {σ : St} {H : Hp} (Pv : Nat → St → Hp → Prop) (h0 : Pv 0 σ H)
    (hs : ∀ i c σ H, (TL.tl z)[i]? = some c → Pv i σ H → g (.str ⟨#[c]⟩) σ H fun σ2 H2 => tb { D with nx := Pv (i + 1), ct := Pv (i + 1), bk := D.nx } σ2 H2) (hd : ∀ σ H, Pv (TL.tl z).length σ H → D.nx σ H) :
    ∃ W : Nat → Nat → St → Hp → Prop, (∃ m, W 0 m σ H) ∧ ∀ i m σ H, W i m σ H →
      ((Its z).stop i H ∧ D.nx σ H) ∨ ((Its z).go i H ∧ ∃ N : St → Hp → Prop, (∀ σ' H', N σ' H' → ∃ m', m' < m ∧ W (i + 1) m' σ' H') ∧ ∀ x H', (Its z).yld i H x H' → g x σ H' fun σ2 H2 => tb { D with nx := N, ct := N, bk := D.nx } σ2 H2) := by
  have hl : (TL.tl z).length = z.cps.size := Array.length_toList
  refine ⟨fun i m σ H => m = (TL.tl z).length - i ∧ i ≤ (TL.tl z).length ∧ Pv i σ H, ⟨(TL.tl z).length, rfl, Nat.zero_le _, h0⟩, ?_⟩
  rintro i m σ H ⟨rfl, le1, pv1⟩
  by_cases lt1 : i < (TL.tl z).length
  · refine .inr ⟨(by show i < z.cps.size; omega), Pv (i + 1), fun σ' H' p' => ⟨(TL.tl z).length - (i + 1), by omega, rfl, lt1, p'⟩, fun x H' y => ?_⟩
    obtain ⟨e, c, hc, ex⟩ := y
    subst e
    subst ex
    exact hs i c σ H' (by rw [Array.getElem?_toList]; exact hc) pv1
  · have e : i = (TL.tl z).length := by omega
    subst e
    exact .inl ⟨(by show z.cps.size ≤ _; omega), hd σ H pv1⟩
end
/-! ### heaps -/
/-- all but what stands at p is as it was -/
def But (p : Addr) (H H' : Hp) : Prop := ∀ b o, H b = some o → b ≠ p → H' b = some o
theorem But.refl (p : Addr) (H : Hp) : But p H H := fun _ _ h _ => h
theorem But.trans {p : Addr} {H H1 H2 : Hp} (a : But p H H1) (b : But p H1 H2) : But p H H2 := fun c o h n => b c o (a c o h n) n
theorem But.of {p : Addr} {H H' : Hp} (a : Same H H') : But p H H' := fun c o h _ => a c o h
theorem same_new {H : Hp} {p : Addr} (h : H p = none) (o : HO) : Same H (upd H p o) := fun b u q => by rw [upd_ne (ne_of_none q h)]; exact q
theorem but_upd {H : Hp} {p : Addr} (o : HO) : But p H (upd H p o) := fun b u q n => by rw [upd_ne n]; exact q
theorem same_seqT {K : PySem.W.Frag} {H H' : Hp} {a : Addr} {xs : List V} (e : Same H H') (h : SqT K H a xs) : SqT K H' a xs := by
  rcases h with (h | ⟨o, h⟩) | h
  · exact .inl (.inl (e _ _ h))
  · exact .inl (.inr ⟨o, e _ _ h⟩)
  · exact .inr h
/-- tuples stay where only a list may change -/
theorem But.seqT {K : PySem.W.Frag} {H H' : Hp} {p a : Addr} {xs ys : List V} (e : But p H H') (hp : H p = some (.lst ys)) (h : SqT K H a xs) : SqT K H' a xs := by
  rcases h with (h | ⟨o, h⟩) | h
  · exact .inl (.inl (e _ _ h (ne_of h hp (by intro z; cases z))))
  · exact .inl (.inr ⟨o, e _ _ h (ne_of h hp (by intro z; cases z))⟩)
  · exact .inr h
theorem But.seqL {K : PySem.W.Frag} {H H' : Hp} {p a : Addr} {xs : List V} (e : But p H H') (hp : a ≠ p) (h : SqL K H a xs) : SqL K H' a xs := by
  rcases h with (h | ⟨o, h⟩) | h
  · exact .inl (.inl (e _ _ h hp))
  · exact .inl (.inr ⟨o, e _ _ h hp⟩)
  · exact .inr h
end Mus

set_option maxRecDepth 100000
set_option maxHeartbeats 4000000
/-! Plain data of any kind in the heap, beside one list (the bag, at p) that changes. -/
namespace Mus
open PySem L2
theorem sl : sizeLine = 16777216 := sizeLine_eq
theorem dT {p : Prop} [Decidable p] {A B : Prop} (h : p) (a : A) : if decide p = true then A else B := by
  rw [decide_eq_true h]; exact iteT a
theorem dF {p : Prop} [Decidable p] {A B : Prop} (h : ¬ p) (b : B) : if decide p = true then A else B := by
  rw [decide_eq_false h]; exact iteF b
theorem nT {p : Prop} [Decidable p] {A B : Prop} (h : ¬ p) (a : A) : if (!decide p) = true then A else B := by
  rw [decide_eq_false h]; exact iteT a
theorem nF {p : Prop} [Decidable p] {A B : Prop} (h : p) (b : B) : if (!decide p) = true then A else B := by
  rw [decide_eq_true h]; exact iteF b
theorem at_int {α : Type} {xs : List α} {i : Int} {v : α} (h0 : 0 ≤ i) (h : xs[i.toNat]? = some v) : atI xs i = some v := by
  have e : i = ((i.toNat : Nat) : Int) := by omega
  rw [e]
  exact atI_nat h
theorem pe_const {X : Cx} {x : Str} {i : Int} {pos : Pos} (hm : ∃ t, X.mg x = some (.int i t)) (hg : Gl X x := by rfl) (hd : (x == ("__debug__" : Str)) = false := by decide) : PE X (.Name x pos) (tC (.int i)) := by
  obtain ⟨t, h⟩ := hm
  exact pe_glob hg h ⟨t, rfl⟩ hd
theorem pe_ty {X : Cx} {x : Str} {pos : Pos} (n : String) (hm : X.mg x = none) (hv : bootBuiltins x = some (.type n) := by decide +kernel) (hg : Gl X x := by rfl) (hn : x ≠ "__name__" := by decide) (hd : (x == ("__debug__" : Str)) = false := by decide) : PE X (.Name x pos) (tC (.ty n)) := pe_bltn hg hm hv rfl hn hd
theorem pe_cls {X : Cx} {x : Str} {C : Addr} {pos : Pos} (hm : X.mg x = some (.ref C)) (hg : Gl X x := by rfl) (hd : (x == ("__debug__" : Str)) = false := by decide) : PE X (.Name x pos) (tC (.ref C)) := pe_glob (v := .ref C) hg hm rfl hd
mutual
/-- the value v stands for the data d, all of it tracked and none of it at p -/
inductive Rp (p : Addr) (H : Hp) : V → PyData → Prop
  | non : Rp p H .non .none
  | bl (b : Bool) : Rp p H (.bl b) (.bool b)
  | int (i : Int) : Rp p H (.int i) (.int i)
  | str (x : Str) : Rp p H (.str x) (.str x)
  | lst {a : Addr} {xs : List V} {ds : List PyData} : H a = some (.lst xs) → a ≠ p → Rps p H xs ds → Rp p H (.ref a) (.list ds)
  | tup {a : Addr} {xs : List V} {ds : List PyData} : H a = some (.tup xs) → a ≠ p → xs.length ≤ 100000 → Rps p H xs ds → Rp p H (.ref a) (.tuple ds)
inductive Rps (p : Addr) (H : Hp) : List V → List PyData → Prop
  | nil : Rps p H [] []
  | cons {v : V} {vs : List V} {d : PyData} {ds : List PyData} : Rp p H v d → Rps p H vs ds → Rps p H (v :: vs) (d :: ds)
end
mutual
theorem Rp.mono {p : Addr} {H H' : Hp} (k : But p H H') : ∀ {v : V} {d : PyData}, Rp p H v d → Rp p H' v d
  | _, _, .non => .non
  | _, _, .bl b => .bl b
  | _, _, .int i => .int i
  | _, _, .str x => .str x
  | _, _, .lst h n r => .lst (k _ _ h n) n (Rps.mono k r)
  | _, _, .tup h n l r => .tup (k _ _ h n) n l (Rps.mono k r)
theorem Rps.mono {p : Addr} {H H' : Hp} (k : But p H H') : ∀ {vs : List V} {ds : List PyData}, Rps p H vs ds → Rps p H' vs ds
  | _, _, .nil => .nil
  | _, _, .cons a b => .cons (Rp.mono k a) (Rps.mono k b)
end
mutual
theorem Rp.dp {p : Addr} {K : PySem.W.Frag} {H : Hp} : ∀ {v : V} {d : PyData}, Rp p H v d → Dp K H v d
  | _, _, .non => .non
  | _, _, .bl b => .bl b
  | _, _, .int i => .int i
  | _, _, .str x => .str x
  | _, _, .lst h n r => .lst (SqL.of h) (Rps.dp r)
  | _, _, .tup h n _ r => .tup (SqT.of h) (Rps.dp r)
theorem Rps.dp {p : Addr} {K : PySem.W.Frag} {H : Hp} : ∀ {vs : List V} {ds : List PyData}, Rps p H vs ds → DpAll K H vs ds
  | _, _, .nil => .nil
  | _, _, .cons a b => .cons (Rp.dp a) (Rps.dp b)
end
theorem Rp.same {p : Addr} {H H' : Hp} {v : V} {d : PyData} (k : Same H H') (h : Rp p H v d) : Rp p H' v d := h.mono (But.of k)
theorem Rps.same {p : Addr} {H H' : Hp} {vs : List V} {ds : List PyData} (k : Same H H') (h : Rps p H vs ds) : Rps p H' vs ds := h.mono (But.of k)
theorem Rps.length {p : Addr} {H : Hp} : ∀ {vs : List V} {ds : List PyData}, Rps p H vs ds → vs.length = ds.length
  | _, _, .nil => rfl
  | _, _, .cons _ r => by rw [List.length_cons, List.length_cons, Rps.length r]
theorem Rps.at {p : Addr} {H : Hp} : ∀ {vs : List V} {ds : List PyData} {i : Nat} {v : V}, Rps p H vs ds → vs[i]? = some v → ∃ d, ds[i]? = some d ∧ Rp p H v d
  | _, _, i, v, .nil, h => by simp at h
  | _, _, 0, v, .cons a _, h => by cases h; exact ⟨_, rfl, a⟩
  | _, _, i + 1, v, .cons _ r, h => Rps.at (i := i) r (by simpa using h)
theorem Rps.get {p : Addr} {H : Hp} : ∀ {vs : List V} {ds : List PyData} {i : Nat} {d : PyData}, Rps p H vs ds → ds[i]? = some d → ∃ v, vs[i]? = some v ∧ Rp p H v d
  | _, _, i, v, .nil, h => by simp at h
  | _, _, 0, v, .cons a _, h => by cases h; exact ⟨_, rfl, a⟩
  | _, _, i + 1, v, .cons _ r, h => Rps.get (i := i) r (by simpa using h)
theorem Rps.append {p : Addr} {H : Hp} : ∀ {vs ws : List V} {ds es : List PyData}, Rps p H vs ds → Rps p H ws es → Rps p H (vs ++ ws) (ds ++ es)
  | _, _, _, _, .nil, r => r
  | _, _, _, _, .cons a q, r => .cons a (Rps.append q r)
theorem Rps.take {p : Addr} {H : Hp} : ∀ {vs : List V} {ds : List PyData} (n : Nat), Rps p H vs ds → Rps p H (vs.take n) (ds.take n)
  | _, _, 0, _ => .nil
  | _, _, n + 1, .nil => .nil
  | _, _, n + 1, .cons a q => .cons a (Rps.take n q)
theorem Rps.drop {p : Addr} {H : Hp} : ∀ {vs : List V} {ds : List PyData} (n : Nat), Rps p H vs ds → Rps p H (vs.drop n) (ds.drop n)
  | _, _, 0, r => r
  | _, _, n + 1, .nil => .nil
  | _, _, n + 1, .cons a q => Rps.drop n q
/-! ### classes of data -/
def tyD : PyData → Value
  | .none => .type "NoneType" | .bool _ => .type "bool" | .int _ => .type "int" | .str _ => .type "str" | .list _ => .type "list" | .tuple _ => .type "tuple" | .dict _ => .type "dict"
theorem Rp.ty {p : Addr} {K : PySem.W.Frag} {H : Hp} {v : V} {d : PyData} (h : Rp p H v d) : TyX K H v (tyD d) := by
  cases h with
  | non => exact .base .non
  | bl b => exact .base (.bl b)
  | int i => exact .base (.int i)
  | str x => exact .base (.str x)
  | lst h _ _ => exact .base (.lst h)
  | tup h _ _ _ => exact .base (.tup h)
def dInt : PyData → Bool
  | .int _ => true | .bool _ => true | _ => false
def dBool : PyData → Bool
  | .bool _ => true | _ => false
def dStr : PyData → Bool
  | .str _ => true | _ => false
def dTup : PyData → Bool
  | .tuple _ => true | _ => false
theorem kit_int {K : PySem.W.Frag} : ∀ d : PyData, PySem.W.kitOne K (tyD d) (.type "int") = some (dInt d)
  | .none => kit_ty (r := false) (by decide +kernel)
  | .bool _ => kit_ty (r := true) (by decide +kernel)
  | .int _ => kit_ty (r := true) (by decide +kernel)
  | .str _ => kit_ty (r := false) (by decide +kernel)
  | .list _ => kit_ty (r := false) (by decide +kernel)
  | .tuple _ => kit_ty (r := false) (by decide +kernel)
  | .dict _ => kit_ty (r := false) (by decide +kernel)
theorem kit_bool {K : PySem.W.Frag} : ∀ d : PyData, PySem.W.kitOne K (tyD d) (.type "bool") = some (dBool d)
  | .none => kit_ty (r := false) (by decide +kernel)
  | .bool _ => kit_ty (r := true) (by decide +kernel)
  | .int _ => kit_ty (r := false) (by decide +kernel)
  | .str _ => kit_ty (r := false) (by decide +kernel)
  | .list _ => kit_ty (r := false) (by decide +kernel)
  | .tuple _ => kit_ty (r := false) (by decide +kernel)
  | .dict _ => kit_ty (r := false) (by decide +kernel)
theorem kit_str {K : PySem.W.Frag} : ∀ d : PyData, PySem.W.kitOne K (tyD d) (.type "str") = some (dStr d)
  | .none => kit_ty (r := false) (by decide +kernel)
  | .bool _ => kit_ty (r := false) (by decide +kernel)
  | .int _ => kit_ty (r := false) (by decide +kernel)
  | .str _ => kit_ty (r := true) (by decide +kernel)
  | .list _ => kit_ty (r := false) (by decide +kernel)
  | .tuple _ => kit_ty (r := false) (by decide +kernel)
  | .dict _ => kit_ty (r := false) (by decide +kernel)
theorem kit_tup {K : PySem.W.Frag} : ∀ d : PyData, PySem.W.kitOne K (tyD d) (.type "tuple") = some (dTup d)
  | .none => kit_ty (r := false) (by decide +kernel)
  | .bool _ => kit_ty (r := false) (by decide +kernel)
  | .int _ => kit_ty (r := false) (by decide +kernel)
  | .str _ => kit_ty (r := false) (by decide +kernel)
  | .list _ => kit_ty (r := false) (by decide +kernel)
  | .tuple _ => kit_ty (r := true) (by decide +kernel)
  | .dict _ => kit_ty (r := false) (by decide +kernel)
end Mus
namespace Mus
open PySem L2
/-! ### members and view ids, as functions of data -/
def isInt (d : PyData) (a b : Int) : Bool := match d with | .int i => decide (a ≤ i) && decide (i ≤ b) | _ => false
def isProc (c d : PyData) : Bool := match c with | .int n => (decide (1 ≤ n) && decide (n ≤ 12)) && isInt d 0 (n - 1) | _ => false
def isMem (c : PyData) : PyData → Bool
  | .tuple [x, y] => isProc c x && isInt y 1 1000000000000
  | _ => false
def isVid (c : PyData) : PyData → Bool
  | .tuple [x, y] => isInt x 0 1000000000000 && isMem c y
  | _ => false
def procOf : PyData → Int
  | .tuple (.int i :: _) => i
  | _ => 0
def memsFrom (c : PyData) : Int → List PyData → Bool
  | _, [] => true
  | l, d :: ds => isMem c d && decide (l < procOf d) && memsFrom c (procOf d) ds
def isMems (c : PyData) : PyData → Bool
  | .tuple ds => !ds.isEmpty && memsFrom c (-1) ds
  | _ => false
theorem isProc_int {c d : PyData} (h : isProc c d = true) : ∃ n i, c = .int n ∧ d = .int i ∧ 1 ≤ n ∧ n ≤ 12 ∧ 0 ≤ i ∧ i < n := by
  cases c <;> try (simp [isProc] at h; done)
  rename_i n
  cases d <;> try (simp [isProc, isInt] at h; done)
  rename_i i
  simp [isProc, isInt] at h
  exact ⟨n, i, rfl, rfl, by omega, by omega, by omega, by omega⟩
theorem isInt_int {d : PyData} {a b : Int} (h : isInt d a b = true) : ∃ i, d = .int i ∧ a ≤ i ∧ i ≤ b := by
  cases d <;> try (simp [isInt] at h; done)
  rename_i i
  simp [isInt] at h
  exact ⟨i, rfl, h.1, h.2⟩
theorem isMem_int {c d : PyData} (h : isMem c d = true) : ∃ n i l, c = .int n ∧ d = .tuple [.int i, .int l] ∧ 1 ≤ n ∧ n ≤ 12 ∧ 0 ≤ i ∧ i < n ∧ 1 ≤ l ∧ l ≤ 1000000000000 := by
  unfold isMem at h
  split at h
  · rename_i x y
    rw [Bool.and_eq_true] at h
    obtain ⟨n, i, rfl, rfl, h1, h2, h3, h4⟩ := isProc_int h.1
    obtain ⟨l, rfl, h5, h6⟩ := isInt_int h.2
    exact ⟨n, i, l, rfl, rfl, h1, h2, h3, h4, h5, h6⟩
  · cases h
/-! ### promises: a truth told of data, nothing changed -/
def spI : Sp := fun vs H Q _ => ∃ (p : Addr) (v : V) (d : PyData) (a b : Int), vs = [v, .int a, .int b] ∧ Rp p H v d ∧ Q (.bl (isInt d a b)) H
def spB1 (f : PyData → Bool) : Sp := fun vs H Q _ => ∃ (p : Addr) (v : V) (d : PyData), vs = [v] ∧ Rp p H v d ∧ Q (.bl (f d)) H
def spB2 (f : PyData → PyData → Bool) : Sp := fun vs H Q _ => ∃ (p : Addr) (u v : V) (c d : PyData), vs = [u, v] ∧ Rp p H u c ∧ Rp p H v d ∧ Q (.bl (f c d)) H
/-- the same where new things may have come -/
def spS1 (f : PyData → Bool) : Sp := fun vs H Q _ => ∃ (p : Addr) (v : V) (d : PyData), vs = [v] ∧ Rp p H v d ∧ ∀ H', Same H H' → Q (.bl (f d)) H'
def spS2 (f : PyData → PyData → Bool) : Sp := fun vs H Q _ => ∃ (p : Addr) (u v : V) (c d : PyData), vs = [u, v] ∧ Rp p H u c ∧ Rp p H v d ∧ ∀ H', Same H H' → Q (.bl (f c d)) H'
theorem ansB {Q : VK} {H : Hp} {b c : Bool} (q : Q (.bl b) H) (e : b = c) : Q (.bl c) H := e ▸ q
theorem iB {A B : Prop} {b : Bool} (h1 : b = true → A) (h2 : b = false → B) : if b = true then A else B := by
  cases b
  · exact iteF (h2 rfl)
  · exact iteT (h1 rfl)
theorem vint_ne {a b : Int} (h : a ≠ b) : ¬ V.int a = V.int b := fun e => h (V.int.inj e)
theorem drop_cons {α : Type} {xs : List α} {i : Nat} {x : α} (h : xs[i]? = some x) : xs.drop i = x :: xs.drop (i + 1) := by
  obtain ⟨hi, e⟩ := List.getElem?_eq_some_iff.mp h
  rw [List.drop_eq_getElem_cons hi, e]
section
variable {P : Program} {w : World} {K : PySem.W.Frag} {mg : Str → Option Value} {base : Heap}
theorem no_call {CX : CXT} {k : Nat} {f : Addr} {fd : FuncData} {ps : List Str} {sp : Sp} (no : ∀ vs H Q E, ¬ sp vs H Q E) : FnOk P w K mg base CX k f fd ps sp :=
  ⟨fun vs H Q E h => absurd h (no vs H Q E), fun A outer s H args us vs Q E _ _ _ _ h => absurd h (no vs H Q E)⟩
end
end Mus

set_option maxRecDepth 100000
set_option maxHeartbeats 4000000
/-! The bag of a law's draws, new things beside it, displays of data, tuples cut and joined. -/
namespace Mus
open PySem L2
def Bag (p : Addr) (c : Int) (H : Hp) : Prop := ∃ x y : Int, H p = some (.lst [.int x, .int y, .int c])
theorem Bag.seqT {K : PySem.W.Frag} {p : Addr} {c : Int} {H H' : Hp} (g : Bag p c H) (b : But p H H') {a : Addr} {xs : List V} (h : SqT K H a xs) : SqT K H' a xs := by
  obtain ⟨x, y, hp⟩ := g
  exact b.seqT hp h
theorem Bag.ne {p D : Addr} {c : Int} {H : Hp} (g : Bag p c H) (h : H D = none) : p ≠ D := by
  obtain ⟨x, y, hp⟩ := g
  exact ne_of_none hp h
theorem Bag.upd {p D : Addr} {c : Int} {H : Hp} {o : HO} (g : Bag p c H) (h : p ≠ D) : Bag p c (upd H D o) := by
  obtain ⟨x, y, hp⟩ := g
  exact ⟨x, y, by rw [upd_ne h]; exact hp⟩
theorem Bag.new {p D : Addr} {c : Int} {H : Hp} {o : HO} (g : Bag p c H) (h : H D = none) : Bag p c (L2.upd H D o) := g.upd (g.ne h)
theorem Bag.same {p : Addr} {c : Int} {H H' : Hp} (g : Bag p c H) (s : Same H H') : Bag p c H' := by
  obtain ⟨x, y, hp⟩ := g
  exact ⟨x, y, s _ _ hp⟩
/-- a new thing -/
theorem But.new {p D : Addr} {H H' : Hp} {o : HO} (b : But p H H') (h : H' D = none) : But p H (L2.upd H' D o) := fun a u e n => by
  have z := b a u e n
  rw [upd_ne (ne_of_none z h)]; exact z
/-- a change at what was not there at first -/
theorem But.later {p D : Addr} {H H' : Hp} {o : HO} (b : But p H H') (h : H D = none) : But p H (L2.upd H' D o) := fun a u e n => by
  rw [upd_ne (ne_of_none e h)]; exact b a u e n
theorem But.free {p D : Addr} {H H' : Hp} (b : But p H H') (h : H' D = none) (n : D ≠ p) : H D = none := by
  cases e : H D with
  | none => rfl
  | some o =>
    have z := b D o e n
    rw [h] at z; cases z
/-! ### displays -/
/-- the expression gives the int i, and that is all -/
def DI (te : TE) (σ : St) (i : Int) : Prop := ∀ (H : Hp) (Q : VK), Q (.int i) H → te σ H Q
/-- the expression gives the data d, new things beside what was -/
def DE (p : Addr) (te : TE) (σ : St) (d : PyData) : Prop := ∀ (c : Int) (H : Hp) (Q : VK), Bag p c H → (∀ v H', Same H H' → Bag p c H' → Rp p H' v d → Q v H') → te σ H Q
def DEs (p : Addr) (ta : TA) (σ : St) (ds : List PyData) : Prop := ∀ (c : Int) (H : Hp) (Q : List V → Hp → Prop), Bag p c H → (∀ vs H', Same H H' → Bag p c H' → Rps p H' vs ds → Q vs H') → ta σ H Q
section
variable {p : Addr} {σ : St} {te ta1 tb1 : TE} {ta : TA} {i j : Int} {d : PyData} {ds : List PyData}
theorem Same.rfl' (H : Hp) : Same H H := fun _ _ h => h
theorem di_c : DI (tC (.int i)) σ i := fun _ _ q => q
theorem di_v {n : Nat} (h : σ[n]? = some (some (.int i))) : DI (tVar n) σ i := fun _ _ q => ⟨_, h, q⟩
theorem di_op {f : Int → Int → Int} (h1 : DI ta1 σ i) (h2 : DI tb1 σ j) : DI (tOp (rI0 fun i j => .int (f i j)) ta1 tb1) σ (f i j) := fun H Q q => h1 H _ (h2 H _ ⟨i, j, rfl, rfl, q⟩)
theorem di_opC {C : Int → Int → Prop} {f : Int → Int → Int} (h1 : DI ta1 σ i) (h2 : DI tb1 σ j) (hc : C i j) : DI (tOp (rI C fun i j => .int (f i j)) ta1 tb1) σ (f i j) := fun H Q q => h1 H _ (h2 H _ ⟨i, j, rfl, rfl, hc, q⟩)
theorem di_neg (h1 : DI te σ i) : DI (tUn (rU fun i => .int (-i)) te) σ (-i) := fun H Q q => h1 H _ ⟨i, rfl, q⟩
theorem de_i (h : DI te σ i) : DE p te σ (.int i) := fun c H Q g q => h H Q (q _ H (Same.rfl' H) g (.int i))
theorem de_bl {b : Bool} : DE p (tC (.bl b)) σ (.bool b) := fun c H Q g q => q _ H (Same.rfl' H) g (.bl b)
theorem de_str {z : Str} : DE p (tC (.str z)) σ (.str z) := fun c H Q g q => q _ H (Same.rfl' H) g (.str z)
theorem de_non : DE p (tC .non) σ .none := fun c H Q g q => q _ H (Same.rfl' H) g .non
theorem des_nil : DEs p tNil σ [] := fun c H Q g q => q [] H (Same.rfl' H) g .nil
theorem des_cons (h1 : DE p te σ d) (h2 : DEs p ta σ ds) : DEs p (tCons te ta) σ (d :: ds) := fun c H Q g q =>
  h1 c H _ g fun v H1 s1 g1 r1 => h2 c H1 _ g1 fun vs H2 s2 g2 r2 => q _ H2 (s1.trans s2) g2 (.cons (r1.same s2) r2)
theorem de_tup (h : DEs p ta σ ds) (hl : ds.length ≤ 1000) : DE p (tTup ta) σ (.tuple ds) := fun c H Q g q =>
  h c H _ g fun vs H1 s1 g1 r1 => ⟨by have := r1.length; have := sl; omega, fun a na => q _ _ (s1.trans (same_new na _)) (g1.new na) (.tup upd_same (g1.ne na).symm (by have := r1.length; omega) (r1.same (same_new na _)))⟩
theorem de_lst (h : DEs p ta σ ds) (hl : ds.length ≤ 1000) : DE p (tLst ta) σ (.list ds) := fun c H Q g q =>
  h c H _ g fun vs H1 s1 g1 r1 => ⟨by have := r1.length; have := sl; omega, fun a na => q _ _ (s1.trans (same_new na _)) (g1.new na) (.lst upd_same (g1.ne na).symm (r1.same (same_new na _)))⟩
theorem de_lstN (n : Nat) (R : PyData → Prop) {c : Int} {H : Hp} {Q : VK} (h : ∃ ds, DEs p ta σ ds ∧ ds.length = n ∧ ∀ d ∈ ds, R d) (hn : n ≤ 1000) (g : Bag p c H)
    (q : ∀ ds v H', ds.length = n → (∀ d ∈ ds, R d) → Same H H' → Bag p c H' → Rp p H' v (.list ds) → Q v H') : tLst ta σ H Q := by
  obtain ⟨ds, h1, h2, h3⟩ := h
  exact de_lst h1 (by omega) c H Q g fun v H' => q ds v H' h2 h3
theorem de_cat {es : List PyData} (h1 : DE p ta1 σ (.list ds)) (h2 : DE p tb1 σ (.list es)) (hl : ds.length + es.length ≤ 1000) : DE p (tOp rCat ta1 tb1) σ (.list (ds ++ es)) := fun c H Q g q =>
  h1 c H _ g fun v H1 s1 g1 r1 => h2 c H1 _ g1 fun u H2 s2 g2 r2 => by
    obtain _ | _ | _ | _ | @⟨a, xs, _, ha, na, hr⟩ | _ := r1.same s2
    obtain _ | _ | _ | _ | @⟨b, ys, _, hb, nb, hr2⟩ | _ := r2
    refine ⟨a, b, xs, ys, rfl, rfl, ha, hb, ?_, fun t nt => q _ _ (s1.trans (s2.trans (same_new nt _))) (g2.new nt) (.lst upd_same (g2.ne nt).symm ((hr.append hr2).same (same_new nt _)))⟩
    have := hr.length; have := hr2.length; have := sl; omega
theorem de_varD {n : Nat} {v : V} (h : σ[n]? = some (some v)) (hd : ∀ H, Rp p H v d) : DE p (tVar n) σ d := fun c H Q g q => ⟨_, h, q _ H (Same.rfl' H) g (hd H)⟩
end
/-! ### tuples cut and joined -/
def cutD (ds : List PyData) (lo hi : Option Int) : List PyData := (ds.drop (HT.sIx ds.length 0 lo)).take (HT.sIx ds.length ds.length hi - HT.sIx ds.length 0 lo)
theorem Rps.cut {p : Addr} {H : Hp} {vs : List V} {ds : List PyData} (r : Rps p H vs ds) (lo hi : Option Int) : Rps p H (cutV vs lo hi) (cutD ds lo hi) := by
  unfold cutV cutD
  rw [r.length]
  exact (r.drop _).take _
theorem cutD_len (ds : List PyData) (lo hi : Option Int) : (cutD ds lo hi).length ≤ ds.length := by
  unfold cutD
  rw [List.length_take, List.length_drop]; omega
theorem cutD_mem {ds : List PyData} {lo hi : Option Int} {d : PyData} (h : d ∈ cutD ds lo hi) : d ∈ ds := List.mem_of_mem_drop (List.mem_of_mem_take h)
theorem cut_whole {xs : List V} {lo hi : Option Int} (h : HT.sIx xs.length 0 lo = 0 ∧ HT.sIx xs.length xs.length hi = xs.length) : cutV xs lo hi = xs := by
  unfold cutV
  rw [h.1, h.2, List.drop_zero, Nat.sub_zero, List.take_length]
section
variable {K : PySem.W.Frag} {p : Addr} {c : Int} {H : Hp} {Q : VK}
theorem rd_cut {a : Addr} {ds : List PyData} {lo hi : Option Int} (r : Rp p H (.ref a) (.tuple ds)) (g : Bag p c H)
    (q : ∀ b H', Same H H' → Bag p c H' → Rp p H' (.ref b) (.tuple (cutD ds lo hi)) → Q (.ref b) H') : rSlA K (.ref a) lo hi H Q := by
  obtain _ | _ | _ | _ | _ | @⟨_, xs, _, ha, na, hw, hr⟩ := r
  refine ⟨a, xs, rfl, SqT.of ha, fun w => ?_, fun w b nb => ?_⟩
  · refine q _ _ (Same.rfl' H) g (.tup ha na hw ?_)
    have z := hr.cut lo hi
    rw [cut_whole w] at z
    exact z
  · exact q _ _ (same_new nb _) (g.new nb) (.tup upd_same (g.ne nb).symm (Nat.le_trans (cutV_length _ _ _) hw) ((hr.cut lo hi).same (same_new nb _)))
theorem rd_cat {a b : Addr} {ds es : List PyData} (r1 : Rp p H (.ref a) (.tuple ds)) (r2 : Rp p H (.ref b) (.tuple es)) (g : Bag p c H) (hl : ds.length + es.length ≤ 100000)
    (q : ∀ t H', Same H H' → Bag p c H' → Rp p H' (.ref t) (.tuple (ds ++ es)) → Q (.ref t) H') : rCatA K (.ref a) (.ref b) H Q := by
  have k2 := r2
  have k1 := r1
  obtain _ | _ | _ | _ | _ | @⟨_, xs, _, ha, na, hw, hr⟩ := r1
  obtain _ | _ | _ | _ | _ | @⟨_, ys, _, hb, nb, hw2, hr2⟩ := r2
  have l1 := hr.length
  have l2 := hr2.length
  have hs := sl
  refine ⟨a, b, xs, ys, rfl, rfl, SqT.of ha, SqT.of hb, by omega, fun e => ?_, fun _ e => ?_, fun _ _ t nt => ?_⟩
  · subst e
    cases ds with
    | nil => exact q _ _ (Same.rfl' H) g k2
    | cons _ _ => cases l1
  · subst e
    cases es with
    | nil => rw [List.append_nil] at q; exact q _ _ (Same.rfl' H) g k1
    | cons _ _ => cases l2
  · exact q _ _ (same_new nt _) (g.new nt) (.tup upd_same (g.ne nt).symm (by rw [List.length_append]; omega) ((hr.append hr2).same (same_new nt _)))
end
/-! ### how deep and wide, what its texts are -/
def fit : Nat → PyData → Prop
  | 0, .tuple _ => False
  | n + 1, .tuple ds => ds.length ≤ 3000 ∧ ∀ d ∈ ds, fit n d
  | _, _ => True
inductive Her (P : Str → Prop) : PyData → Prop
  | tup {ds : List PyData} : (∀ d ∈ ds, Her P d) → Her P (.tuple ds)
  | str {z : Str} : P z → Her P (.str z)
  | non : Her P .none
  | bl (b : Bool) : Her P (.bool b)
  | int (i : Int) : Her P (.int i)
  | lst (ds : List PyData) : Her P (.list ds)
theorem Her.mem {P : Str → Prop} {ds : List PyData} (h : Her P (.tuple ds)) : ∀ d ∈ ds, Her P d := by
  cases h with
  | tup h => exact h
theorem Her.cut {P : Str → Prop} {ds : List PyData} (h : Her P (.tuple ds)) (lo hi : Option Int) : Her P (.tuple (cutD ds lo hi)) := .tup fun d m => h.mem d (cutD_mem m)
theorem Her.app {P : Str → Prop} {ds es : List PyData} (h : Her P (.tuple ds)) (k : Her P (.tuple es)) : Her P (.tuple (ds ++ es)) := .tup fun d m => by
  rcases List.mem_append.mp m with m | m
  · exact h.mem d m
  · exact k.mem d m
theorem Her.one {P : Str → Prop} {d : PyData} (h : Her P d) : Her P (.tuple [d]) := .tup fun e m => by rw [List.mem_singleton.mp m]; exact h
/-- one level less, if there is one -/
def spv (sp : Nat → Sp) (n : Nat) : Sp := fun vs H Q E => ∃ m, n = m + 1 ∧ sp m vs H Q E
/-- a thing spoilt: some data, its texts from the two -/
def sp_spoilt (n : Nat) : Sp := fun vs H Q _ => ∃ (p : Addr) (c : Int) (v o : V) (d e : PyData), vs = [.ref p, v, o] ∧ Bag p c H ∧ Rp p H v d ∧ Rp p H o e ∧ fit n d ∧
  ∀ v' d' H', Rp p H' v' d' → (∀ P, Her P d → Her P e → Her P d') → But p H H' → Bag p c H' → Q v' H'
def sp_bag (K : PySem.W.Frag) : Sp := fun vs H Q _ => ∃ (a : Addr) (ns : List Int) (k : Nat), vs = [.ref a, .int k] ∧ SqL K H a (ns.map V.int) ∧ ∀ p H', H p = none → Same H H' → Bag p k H' → Q (.ref p) H'
def sp_draw : Sp := fun vs H Q _ => ∃ (p : Addr) (c m : Int), vs = [.ref p, .int m] ∧ Bag p c H ∧ 0 < m ∧ m.natAbs < 2 ^ 100 ∧ ∀ r H', 0 ≤ r → r < m → But p H H' → Bag p c H' → Q (.int r) H'
/-- an int at least 1 and at most 10 ** 12 -/
def sp_pos : Sp := fun vs H Q _ => ∃ (p : Addr) (c : Int), vs = [.ref p] ∧ Bag p c H ∧ ∀ r H', 1 ≤ r → r ≤ 1000000000000 → But p H H' → Bag p c H' → Q (.int r) H'
end Mus
namespace Mus
open PySem L2
/-- no list in it -/
inductive NoL : PyData → Prop
  | tup {ds : List PyData} : (∀ d ∈ ds, NoL d) → NoL (.tuple ds)
  | str (z : Str) : NoL (.str z)
  | non : NoL .none
  | bl (b : Bool) : NoL (.bool b)
  | int (i : Int) : NoL (.int i)
theorem NoL.mem {ds : List PyData} (h : NoL (.tuple ds)) : ∀ d ∈ ds, NoL d := by
  cases h with
  | tup h => exact h
theorem NoL.two {a b : PyData} (h : NoL a) (k : NoL b) : NoL (.tuple [a, b]) := .tup fun d m => by
  rcases List.mem_cons.mp m with rfl | m
  · exact h
  · rw [List.mem_singleton.mp m]; exact k
theorem NoL.three {a b c : PyData} (h : NoL a) (k : NoL b) (l : NoL c) : NoL (.tuple [a, b, c]) := .tup fun d m => by
  rcases List.mem_cons.mp m with rfl | m
  · exact h
  · rcases List.mem_cons.mp m with rfl | m
    · exact k
    · rw [List.mem_singleton.mp m]; exact l
mutual
theorem Rp.upL {p D : Addr} {H H' : Hp} {ys : List V} (hD : H D = some (.lst ys)) (k : ∀ b o, H b = some o → b ≠ p → b ≠ D → H' b = some o) : ∀ {v : V} {d : PyData}, Rp p H v d → NoL d → Rp p H' v d
  | _, _, .non, _ => .non
  | _, _, .bl b, _ => .bl b
  | _, _, .int i, _ => .int i
  | _, _, .str x, _ => .str x
  | _, _, .lst h n r, z => nomatch z
  | _, _, .tup h n l r, z => .tup (k _ _ h n (ne_of h hD (by intro z; cases z))) n l (Rps.upL hD k r z.mem)
theorem Rps.upL {p D : Addr} {H H' : Hp} {ys : List V} (hD : H D = some (.lst ys)) (k : ∀ b o, H b = some o → b ≠ p → b ≠ D → H' b = some o) : ∀ {vs : List V} {ds : List PyData}, Rps p H vs ds → (∀ d ∈ ds, NoL d) → Rps p H' vs ds
  | _, _, .nil, _ => .nil
  | _, _, .cons a b, z => .cons (Rp.upL hD k a (z _ List.mem_cons_self)) (Rps.upL hD k b fun d m => z d (List.mem_cons_of_mem _ m))
end
/-- a change at the list at D -/
theorem Rps.updL {p D : Addr} {H : Hp} {ys : List V} {o : HO} (hD : H D = some (.lst ys)) {vs : List V} {ds : List PyData} (r : Rps p H vs ds) (z : ∀ d ∈ ds, NoL d) : Rps p (upd H D o) vs ds :=
  r.upL hD (fun b o h _ n => by rw [upd_ne n]; exact h) z
theorem Rp.updL {p D : Addr} {H : Hp} {ys : List V} {o : HO} (hD : H D = some (.lst ys)) {v : V} {d : PyData} (r : Rp p H v d) (z : NoL d) : Rp p (upd H D o) v d :=
  r.upL hD (fun b o h _ n => by rw [upd_ne n]; exact h) z
end Mus

set_option maxRecDepth 100000
set_option maxHeartbeats 4000000
/-! Dicts whose keys are nested tuples: {}, d[k], d[k] = v, d.get(k, x), k in d. -/
namespace Mus
open PySem PySem.Spec PyProof.Rows L2
/-! ### keys -/
mutual
inductive NK (H : Hp) : V → NestedKey → Prop
  | non : NK H .non .none
  | int (i : Int) : NK H (.int i) (.num i)
  | str (x : Str) : NK H (.str x) (.text x)
  | tup {a : Addr} {xs : List V} {ks : List NestedKey} : H a = some (.tup xs) → NKs H xs ks → NK H (.ref a) (.tup ks)
inductive NKs (H : Hp) : List V → List NestedKey → Prop
  | nil : NKs H [] []
  | cons {v : V} {vs : List V} {k : NestedKey} {ks : List NestedKey} : NK H v k → NKs H vs ks → NKs H (v :: vs) (k :: ks)
end
mutual
theorem NK.mono {H H' : Hp} (t : ∀ b xs, H b = some (.tup xs) → H' b = some (.tup xs)) : ∀ {v : V} {k : NestedKey}, NK H v k → NK H' v k
  | _, _, .non => .non
  | _, _, .int i => .int i
  | _, _, .str x => .str x
  | _, _, .tup h r => .tup (t _ _ h) (r.mono t)
theorem NKs.mono {H H' : Hp} (t : ∀ b xs, H b = some (.tup xs) → H' b = some (.tup xs)) : ∀ {vs : List V} {ks : List NestedKey}, NKs H vs ks → NKs H' vs ks
  | _, _, .nil => .nil
  | _, _, .cons a b => .cons (a.mono t) (b.mono t)
end
mutual
theorem NK.is {P : Program} {w : World} {H : Hp} {h : Heap} (ok : HOk P w H h) : ∀ {v : V} {k : NestedKey} {u : Value}, NK H v k → RelV v u → NestedIs h k u
  | _, _, _, .non, r => by cases (show _ = Value.none from r); exact .none
  | _, _, _, .int i, r => by obtain ⟨t, rfl⟩ := (show ∃ t, _ = Value.int i t from r); exact .int i t
  | _, _, _, .str x, r => by obtain ⟨t, rfl⟩ := (show ∃ t, _ = Value.str x t from r); exact .text x t
  | _, _, _, .tup (a := a) (xs := xs) e q, r => by
    cases (show _ = Value.ref a from r)
    obtain ⟨_, its, rv, o, h1, h2, n, h3⟩ := (show ObjOk P w H h a (.tup xs) from ok a _ e)
    exact .tup h1 h2 h3 (by simpa using NKs.all ok q rv)
theorem NKs.all {P : Program} {w : World} {H : Hp} {h : Heap} (ok : HOk P w H h) : ∀ {vs : List V} {ks : List NestedKey} {us : List Value}, NKs H vs ks → Vals vs us → NestedAll h ks us
  | _, _, _, .nil, r => by cases r; exact .nil
  | _, _, _, .cons a b, r => by
    cases r with
    | cons r1 r2 => exact .cons (a.is ok r1) (b.all ok r2)
end
/-! ### the dict -/
abbrev NKV := List (NestedKey × Addr × V)
abbrev KN : NKV → List (NestedKey × Addr × Value) → Prop := Paired fun p q => p.1 = q.1 ∧ p.2.1 = q.2.1 ∧ RelV p.2.2 q.2.2
def ndE (w : World) (x : NestedKey × Addr × Value) : DictEntry := ⟨x.1.hash w, .ref x.2.1, x.2.2⟩
def ndΦ (w : World) (d : Addr) (ks : NKV) : Heap → Prop := fun h => ∃ xs o es ep, KN ks xs ∧ h.get? d = some o ∧ o.ExactDict ∧ o.data = .dict es ep ∧ es.toList = xs.map (ndE w)
def ndO (w : World) (d : Addr) (ks : NKV) : HO := .ext (ndΦ w d ks)
structure Nd (w : World) (H : Hp) (d : Addr) (ks : NKV) : Prop where
  ob : H d = some (ndO w d ks)
  keys : ∀ x ∈ ks, NK H (.ref x.2.1) x.1 ∧ x.1.depth ≤ 8
  one : (ks.map (·.1)).Nodup
  sz : ks.length ≤ sizeLine
  sm : (d == sysModules) = false
def valN (ks : NKV) (k : NestedKey) : Option V := (ks.find? fun x => decide (x.1 = k)).map (·.2.2)
def putN (ks : NKV) (k : NestedKey) (b : Addr) (v : V) : NKV := if (valN ks k).isSome then ks.map (fun x => if x.1 = k then (x.1, x.2.1, v) else x) else ks ++ [(k, b, v)]
theorem KN.val {ks : NKV} {xs : List (NestedKey × Addr × Value)} (r : KN ks xs) (k : NestedKey) : RelO (valN ks k) ((atKey xs k).map (·.2)) := by
  unfold valN atKey
  induction r with
  | nil => exact trivial
  | @cons p q ps qs h t ih =>
    rw [List.find?_cons, List.find?_cons]
    by_cases e : p.1 = k
    · have e2 : q.1 = k := h.1 ▸ e
      simp only [e, e2, decide_true]
      exact h.2.2
    · have e2 : ¬ q.1 = k := h.1 ▸ e
      simp only [e, e2, decide_false]
      exact ih
theorem KN.fsts {ks : NKV} {xs : List (NestedKey × Addr × Value)} (r : KN ks xs) : ks.map (·.1) = xs.map (·.1) := by
  induction r with
  | nil => rfl
  | cons h t ih => rw [List.map_cons, List.map_cons, ih, h.1]
theorem KN.repl {ks : NKV} {xs : List (NestedKey × Addr × Value)} (r : KN ks xs) (k : NestedKey) {v : V} {u : Value} (rv : RelV v u) : KN (ks.map fun x => if x.1 = k then (x.1, x.2.1, v) else x) (xs.map (putAt k u)) := by
  induction r with
  | nil => exact .nil
  | @cons p q ps qs h t ih =>
    refine .cons ?_ ih
    unfold putAt
    dsimp only
    by_cases e : p.1 = k
    · have e2 : q.1 = k := h.1 ▸ e
      rw [if_pos e, if_pos e2]
      exact ⟨h.1, h.2.1, rv⟩
    · have e2 : ¬ q.1 = k := h.1 ▸ e
      rw [if_neg e, if_neg e2]
      exact h
theorem KN.put {ks : NKV} {xs : List (NestedKey × Addr × Value)} (r : KN ks xs) (k : NestedKey) (b : Addr) {v : V} {u : Value} (rv : RelV v u) : KN (putN ks k b v) (storedH xs k b u) := by
  have e : (valN ks k).isSome = (atKey xs k).isSome := by rw [(r.val k).isSome_eq, Option.isSome_map]
  unfold putN storedH
  rw [e]
  by_cases q : (atKey xs k).isSome = true
  · rw [if_pos q, if_pos q]; exact r.repl k rv
  · rw [if_neg q, if_neg q]; exact Paired.snoc r ⟨rfl, rfl, rv⟩
theorem KN.mem {ks : NKV} {xs : List (NestedKey × Addr × Value)} (r : KN ks xs) {F : NestedKey → Addr → Prop} (h : ∀ x ∈ ks, F x.1 x.2.1) : ∀ x ∈ xs, F x.1 x.2.1 := by
  induction r with
  | nil => intro x hx; exact nomatch hx
  | @cons p q ps qs hq t ih =>
    intro x hx
    rcases List.mem_cons.mp hx with e | hx
    · subst e
      rw [← hq.1, ← hq.2.1]
      exact h p List.mem_cons_self
    · exact ih (fun y hy => h y (List.mem_cons_of_mem _ hy)) x hx
theorem putN_len (ks : NKV) (k : NestedKey) (b : Addr) (v : V) : (putN ks k b v).length ≤ ks.length + 1 := by
  unfold putN
  split
  · rw [List.length_map]; omega
  · rw [List.length_append]; exact Nat.le_refl _
theorem putN_keys {ks : NKV} {k : NestedKey} {b : Addr} {v : V} {F : NestedKey → Addr → Prop} (h : ∀ x ∈ ks, F x.1 x.2.1) (hk : F k b) : ∀ x ∈ putN ks k b v, F x.1 x.2.1 := by
  intro x hx
  unfold putN at hx
  split at hx
  · obtain ⟨y, hy, rfl⟩ := List.mem_map.mp hx
    split
    · exact h y hy
    · exact h y hy
  · rcases List.mem_append.mp hx with hx | hx
    · exact h x hx
    · rw [List.mem_singleton.mp hx]; exact hk
theorem valN_none {ks : NKV} {k : NestedKey} (h : valN ks k = none) : k ∉ ks.map (·.1) := fun m => by
  obtain ⟨x, hx, e⟩ := List.mem_map.mp m
  unfold valN at h
  rw [Option.map_eq_none_iff, List.find?_eq_none] at h
  exact h x hx (by simpa using e)
theorem putN_one {ks : NKV} {k : NestedKey} {b : Addr} {v : V} (h : (ks.map (·.1)).Nodup) : ((putN ks k b v).map (·.1)).Nodup := by
  unfold putN
  split
  · have e : (ks.map fun x => if x.1 = k then (x.1, x.2.1, v) else x).map (·.1) = ks.map (·.1) := by
      rw [List.map_map]
      refine List.map_congr_left fun x _ => ?_
      show (if x.1 = k then (x.1, x.2.1, v) else x).1 = x.1
      split <;> rfl
    rw [e]; exact h
  · rename_i q
    have q : valN ks k = none := by cases e : valN ks k with | none => rfl | some _ => rw [e] at q; exact absurd rfl q
    rw [List.map_append, List.nodup_append]
    refine ⟨h, by simp, fun x hx y hy e => ?_⟩
    rw [List.map_singleton, List.mem_singleton] at hy
    have hy : y = k := hy
    exact valN_none q (by rw [← hy, ← e]; exact hx)
theorem Nd.mono {w : World} {H H' : Hp} {d : Addr} {ks : NKV} (n : Nd w H d ks) (ho : H' d = some (ndO w d ks)) (t : ∀ b xs, H b = some (.tup xs) → H' b = some (.tup xs)) : Nd w H' d ks :=
  ⟨ho, fun x hx => ⟨(n.keys x hx).1.mono t, (n.keys x hx).2⟩, n.one, n.sz, n.sm⟩
theorem Nd.same {w : World} {H H' : Hp} {d : Addr} {ks : NKV} (n : Nd w H d ks) (s : Same H H') : Nd w H' d ks := n.mono (s _ _ n.ob) fun _ _ h => s _ _ h
section
variable {X : Cx} {pins : List (Addr × Obj)} {σ : L2.St} {H : Hp} {s : Shared} {a b : Addr} {v : V} {u r : Value} {A : Around} {E : Value → Shared → Prop} {ks : NKV} {k : NestedKey}
theorem Nd.heap (I : Inv X pins σ H s) (n : Nd X.w H a ks) : ∃ xs, KN ks xs ∧ s.heap.DictOfH (nestedKind X.prog X.w) a xs := by
  obtain ⟨⟨xs, o, es, ep, rel, h1, h2, h3, h4⟩, _⟩ := (show ObjOk X.prog X.w H s.heap a (ndO X.w a ks) from I.hok a _ n.ob)
  exact ⟨xs, rel, o, es, ep, h1, h2, h3, h4, rel.mem (F := fun k b => (nestedKind X.prog X.w).is s.heap k b) fun x hx => ⟨(n.keys x hx).1.is I.hok rfl, (n.keys x hx).2⟩, rel.fsts ▸ n.one⟩
theorem nd_room (hu : A.units + 64 < cLine) : (nestedKind X.prog X.w).room A.in1 := by
  show A.in1.units + 8 < cLine
  have : A.in1.units = A.units + 1 := rfl
  omega
/-- what the dict at a holds at the key at b -/
def NGet (w : World) (H : Hp) (a b : Addr) (o : Option V) : Prop := ∃ ks k, Nd w H a ks ∧ NK H (.ref b) k ∧ k.depth ≤ 8 ∧ o = valN ks k
theorem n_getItem {Q : Value → Shared → Prop} (hu : A.units + 64 < cLine) (I : Inv X pins σ H s) (g : NGet X.w H a b (some v)) (h : ∀ w' s', Inv X pins σ H s' → RelV v w' → Q w' s') :
    wpAny (model X.prog X.w) A (getItem (.ref a) (.ref b)) Q E s := by
  obtain ⟨ks, k, n, nk, dk, l⟩ := g
  obtain ⟨xs, rel, dd⟩ := n.heap I
  obtain ⟨w', hw, rw'⟩ := RelO.some_of (v := v) (o := (atKey xs k).map (·.2)) (by rw [l]; exact rel.val k)
  obtain ⟨p, hp, hp2⟩ := Option.map_eq_some_iff.mp hw
  refine wpAny_getItem_heap (knd := nestedKind X.prog X.w) (nd_room hu) ⟨nk.is I.hok rfl, dk⟩ dd hp ?_
  rw [hp2]
  exact h w' _ (I.tok _) rw'
theorem n_in {o : Option V} {Q : Value → Shared → Prop} (hu : A.units + 64 < cLine) (I : Inv X pins σ H s) (g : NGet X.w H a b o) (h : ∀ s', Inv X pins σ H s' → Q (.bool o.isSome) s') :
    wpAny (model X.prog X.w) A (compareOp .In (.ref b) (.ref a)) Q E s := by
  obtain ⟨ks, k, n, nk, dk, l⟩ := g
  obtain ⟨xs, rel, dd⟩ := n.heap I
  refine wpAny_in_heap (knd := nestedKind X.prog X.w) (nd_room hu) ⟨nk.is I.hok rfl, dk⟩ n.sm dd ?_
  have q := (rel.val k).isSome_eq
  rw [Option.isSome_map] at q
  rw [← q, ← l]
  exact h _ (I.tok _)
theorem n_notIn {o : Option V} {Q : Value → Shared → Prop} (hu : A.units + 64 < cLine) (I : Inv X pins σ H s) (g : NGet X.w H a b o) (h : ∀ s', Inv X pins σ H s' → Q (.bool (!o.isSome)) s') :
    wpAny (model X.prog X.w) A (compareOp .NotIn (.ref b) (.ref a)) Q E s := by
  obtain ⟨ks, k, n, nk, dk, l⟩ := g
  obtain ⟨xs, rel, dd⟩ := n.heap I
  refine wpAny_notIn_heap (knd := nestedKind X.prog X.w) (nd_room hu) ⟨nk.is I.hok rfl, dk⟩ n.sm dd ?_
  have q := (rel.val k).isSome_eq
  rw [Option.isSome_map] at q
  rw [← q, ← l]
  exact h _ (I.tok _)
theorem n_get2 {o : Option V} {y : V} {Q : Value → Shared → Prop} (hu : A.units + 64 < cLine) (I : Inv X pins σ H s) (g : NGet X.w H a b o) (rd : RelV y r) (h : ∀ w' s', Inv X pins σ H s' → RelV (o.getD y) w' → Q w' s') :
    wpAny (model X.prog X.w) A (call (.builtin "dict.get") [.ref a, .ref b, r]) Q E s := by
  obtain ⟨ks, k, n, nk, dk, l⟩ := g
  obtain ⟨xs, rel, dd⟩ := n.heap I
  refine call_meetsIn PySem.F.slot_dict_get dd.typeIs PySem.F.entry_dict_get (PySem.F.args_dict_get_3 _ _ _) (meetsH_dict_get_default (nestedKind X.prog X.w) a b n.sm r) ⟨nd_room hu, k, xs, ⟨nk.is I.hok rfl, dk⟩, dd, h _ _ (I.tok _) ?_⟩
  rw [l]
  exact (rel.val k).getD rd
/-- the heap behind d[k] = v -/
theorem n_setItem {Q : Unit → Shared → Prop} (hu : A.units + 64 < cLine) (I : Inv X pins σ H s) (n : Nd X.w H a ks) (nk : NK H (.ref b) k) (dk : k.depth ≤ 8) (rv : RelV v r) (h : ∀ s', Inv X pins σ (upd H a (ndO X.w a (putN ks k b v))) s' → Q () s') :
    wpAny (model X.prog X.w) A (setItem (.ref a) (.ref b) r) Q E s := by
  obtain ⟨xs, rel, dd⟩ := n.heap I
  have hz : xs.length ≤ sizeLine := by rw [← Paired.length rel]; exact n.sz
  refine wpAny_setItem_heap (knd := nestedKind X.prog X.w) (hsz := hz) (nd_room hu) ⟨nk.is I.hok rfl, dk⟩ dd fun h' dd' hs => h _ ?_
  obtain ⟨q, es, ep, hq, h2, h3, h4, _, h5⟩ := dd'
  refine d_write I (by rw [n.ob]; exact True.intro) hs ⟨q, hq⟩ ⟨⟨_, q, es, ep, rel.put k b rv, hq, h2, h3, h4⟩, ⟨q, hq⟩, fun h1 h2 p st => ?_⟩
  obtain ⟨ys, o, es', ep', p1, p2, p3⟩ := p
  exact ⟨ys, o, es', ep', p1, st _ p2, p3⟩
theorem Nd.put {w : World} (n : Nd w H a ks) (nk : NK H (.ref b) k) (dk : k.depth ≤ 8) (hl : ks.length < sizeLine) : Nd w (upd H a (ndO w a (putN ks k b v))) a (putN ks k b v) := by
  have t : ∀ c xs, H c = some (.tup xs) → (upd H a (ndO w a (putN ks k b v))) c = some (.tup xs) := fun c xs hc => by
    rw [upd_ne (ne_of hc n.ob (by intro z; cases z))]; exact hc
  exact ⟨upd_same, putN_keys (F := fun k b => NK _ (.ref b) k ∧ k.depth ≤ 8) (fun x hx => ⟨(n.keys x hx).1.mono t, (n.keys x hx).2⟩) ⟨nk.mono t, dk⟩, putN_one n.one, Nat.le_trans (putN_len _ _ _ _) hl, n.sm⟩
end
/-! ### readings and rules -/
def tNNew (w : World) : TE := fun _ H Q => ∀ d, H d = none → (d == sysModules) = false → Q (.ref d) (upd H d (ndO w d []))
def tNGet (w : World) (td ty : TE) : TE := fun σ H Q => td σ H fun x H1 => ty σ H1 fun y H2 => ∃ a b v, x = .ref a ∧ y = .ref b ∧ NGet w H2 a b (some v) ∧ Q v H2
def tNIn (w : World) (ty td : TE) : TE := fun σ H Q => ty σ H fun y H1 => td σ H1 fun x H2 => ∃ a b o, x = .ref a ∧ y = .ref b ∧ NGet w H2 a b o ∧ Q (.bl o.isSome) H2
def tNNotIn (w : World) (ty td : TE) : TE := fun σ H Q => ty σ H fun y H1 => td σ H1 fun x H2 => ∃ a b o, x = .ref a ∧ y = .ref b ∧ NGet w H2 a b o ∧ Q (.bl (!o.isSome)) H2
def sNPut (w : World) (td ty tv : TE) : TS := fun D σ H => tv σ H fun v H1 => td σ H1 fun x H2 => ty σ H2 fun y H3 => ∃ a b ks k, x = .ref a ∧ y = .ref b ∧ Nd w H3 a ks ∧ NK H3 (.ref b) k ∧ k.depth ≤ 8 ∧ D.nx σ (upd H3 a (ndO w a (putN ks k b v)))
def tNGet2 (w : World) (td ty tx : TE) : TE := fun σ H Q => td σ H fun x H1 => ∃ a ks, x = .ref a ∧ Nd w H1 a ks ∧ ty σ H1 fun y H2 => tx σ H2 fun z H3 => ∃ b o, y = .ref b ∧ NGet w H3 a b o ∧ Q (o.getD z) H3
theorem nd_new {w : World} {H : Hp} {d : Addr} (h : (d == sysModules) = false) : Nd w (upd H d (ndO w d [])) d [] :=
  ⟨upd_same, fun x hx => (by cases hx), List.nodup_nil, Nat.zero_le _, h⟩
section
variable {X : Cx} {o i e f value : Expr} {pos pos' apos cpos : Pos} {td ty tv tx : TE}
theorem pe_nnew : PE X (.Dict [] [] pos) (tNNew X.w) := ⟨fun pins s σ H Q I h =>
  wpAny_Dict_empty ⟨.ref s.heap.objs.size, _, I.laid (a := s.heap.objs.size) (o := ndO X.w s.heap.objs.size []) (t' := s.toks) (fun _ _ q => Heap.get?_push_of_some _ q) (Nat.le_refl _)
    ⟨⟨[], _, #[], 0, .nil, Heap.get?_push_size _ rfl, ⟨rfl, rfl, rfl⟩, rfl, rfl⟩, ⟨_, Heap.get?_push_size _ rfl⟩, fun h1 h2 p st => by
      obtain ⟨ys, o, es', ep', p1, p2, p3⟩ := p
      exact ⟨ys, o, es', ep', p1, st _ p2, p3⟩⟩, rfl, h _ (I.hok.fresh (Nat.le_refl _)) (beq_eq_false_iff_ne.mpr (Ne.symm (Nat.ne_of_lt I.big)))⟩⟩
theorem pe_nget (hu : X.A.units + 64 < cLine) (ho : PE X o td) (hi : PE X i ty) (hs : NoSl i) : PE X (.Subscript o i pos) (tNGet X.w td ty) := by
  refine ⟨fun pins s σ H Q I h => ?_⟩
  refine subD_of PySem.F.slot_dict_getitem.lookup hs (thn (ho.run pins s σ H _ I h) fun u s1 ⟨x, H1, I1, rx, q1⟩ => thn (hi.run pins s1 σ H1 _ I1 q1) fun iv s2 ⟨y, H2, I2, ry, a, b, v, ex, ey, g, q2⟩ => ?_)
  subst ex ey
  obtain rfl : u = Value.ref a := rx
  obtain rfl : iv = Value.ref b := ry
  have t : s2.TypeIs (.ref a) "dict" := by
    obtain ⟨ks, k, n, _⟩ := g
    obtain ⟨xs, rel, dd⟩ := n.heap I2
    exact dd.typeIs
  exact ⟨t, n_getItem hu I2 g fun w' s3 I3 rw' => ⟨v, H2, I3, rw', q2⟩⟩
theorem pc_nin (hu : X.A.units + 64 < cLine) (hi : PE X i ty) (ho : PE X o td) : PC X .In i o (tNIn X.w ty td) := by
  refine ⟨fun pins s σ H Q I h => ?_⟩
  refine thn (hi.run pins s σ H _ I h) fun iv s1 ⟨y, H1, I1, ry, q1⟩ => thn (ho.run pins s1 σ H1 _ I1 q1) fun u s2 ⟨x, H2, I2, rx, a, b, ov, ex, ey, g, q2⟩ => ?_
  subst ex ey
  obtain rfl : u = Value.ref a := rx
  obtain rfl : iv = Value.ref b := ry
  exact n_in hu I2 g fun s3 I3 => ⟨.bl ov.isSome, H2, I3, rfl, q2⟩
theorem pc_nnotin (hu : X.A.units + 64 < cLine) (hi : PE X i ty) (ho : PE X o td) : PC X .NotIn i o (tNNotIn X.w ty td) := by
  refine ⟨fun pins s σ H Q I h => ?_⟩
  refine thn (hi.run pins s σ H _ I h) fun iv s1 ⟨y, H1, I1, ry, q1⟩ => thn (ho.run pins s1 σ H1 _ I1 q1) fun u s2 ⟨x, H2, I2, rx, a, b, ov, ex, ey, g, q2⟩ => ?_
  subst ex ey
  obtain rfl : u = Value.ref a := rx
  obtain rfl : iv = Value.ref b := ry
  exact n_notIn hu I2 g fun s3 I3 => ⟨.bl (!ov.isSome), H2, I3, rfl, q2⟩
theorem ps_nput (hu : X.A.units + 64 < cLine) (ho : PE X o td) (hi : PE X i ty) (hv : PE X value tv) (hs : swapsWith value (some (.Subscript o i pos')) pos.line X.env = pure false) :
    PS X (.Assign [.Subscript o i pos'] value pos) (sNPut X.w td ty tv) := by
  refine ⟨fun pins s σ H D I h => ?_⟩
  refine wpAny_Assign_Subscript (thn (hv.run pins s σ H _ I h) fun r s1 ⟨v, H1, I1, rv, q1⟩ => thn (ho.run pins s1 σ H1 _ I1 q1) fun u s2 ⟨x, H2, I2, rx, q2⟩ => thn (hi.run pins s2 σ H2 _ I2 q2) fun iv s3 ⟨y, H3, I3, ry, a, b, ks, k, ex, ey, n, nk, dk, q3⟩ => ?_) hs
  subst ex ey
  obtain rfl : u = Value.ref a := rx
  obtain rfl : iv = Value.ref b := ry
  exact n_setItem hu I3 n nk dk rv fun s4 I4 => ⟨σ, _, I4, q3⟩
theorem pe_nget2 (hu : X.A.units + 64 < cLine) (ho : PE X o td) (he : PE X e ty) (hf : PE X f tx) (m : M2 X o "get" apos e f cpos) : PE X (.Call (.Attribute o "get" apos) [e, f] [] cpos) (tNGet2 X.w td ty tx) := by
  refine ⟨fun pins s σ H Q I h => ?_⟩
  refine wpAny_Call_method m.base m.few m.line PySem.F.plainAttrs_dict PySem.F.slot_dict_get PySem.F.type_dict_get (thn (ho.run pins s σ H _ I h) fun u s1 ⟨x, H1, I1, rx, a, ks, ex, n, q1⟩ => ?_)
  subst ex
  obtain rfl : u = Value.ref a := rx
  obtain ⟨xs, rel, dd⟩ := n.heap I1
  refine ⟨dd.typeIs, fun b q => ?_, ?_⟩
  · cases q
    obtain ⟨ob, _, _, h1, h2, _⟩ := dd
    exact ⟨ob, h1, h2.2.1⟩
  rw [m.trees]
  refine Calls.callWith_builtin rfl (Calls.evalArgs_plain (Calls.spliced_cons (thn (he.run pins s1 σ H1 _ I1 q1) fun iv s2 ⟨y, H2, I2, ry, q2⟩ =>
    Calls.spliced_cons (thn (hf.run pins s2 σ H2 _ I2 q2) fun fv s3 ⟨z, H3, I3, rz, b, ov, ey, g, q3⟩ => Calls.spliced_nil ?_))))
  subst ey
  obtain rfl : iv = Value.ref b := ry
  exact n_get2 hu I3 g rz fun w' s4 I4 rw' => ⟨_, H3, I4, rw', q3⟩
end
end Mus

set_option maxRecDepth 100000
set_option maxHeartbeats 4000000
/-! sorted(x), x a list or a tuple of data of one shape. -/
namespace PySem.W
open PySem PySem.Calls PyProof.Rows
section
variable {prog : Program} {w : World} {A : Around} {E : Value → Shared → Prop} {s : Shared}
/-- the items of a tuple, in a list of their own -/
theorem mus_collect {a : Addr} {vs : List Value} {Q : List Value → Shared → Prop} (ht : s.heap.IsTuple a vs.toArray) (hz : vs.length ≤ sizeLine)
    (h : Q vs { s with heap := (s.heap.push (seqObj "list" #[] 0)).update s.heap.objs.size (Obj.mapSeq (· ++ vs.toArray)) }) : wpAny (model prog w) A (collect (.ref a)) Q E s := by
  obtain ⟨o, e1, e2, n, e3⟩ := id ht
  have f1 : (s.heap.push (seqObj "list" #[] 0)).get? a = some o := Heap.get?_push_of_some _ e1
  have f2 : (s.heap.push (seqObj "list" #[] 0)).get? s.heap.objs.size = some (seqObj "list" #[] 0) := Heap.get?_push_size _ rfl
  have k1 : (Value.type "tuple" == Value.type "list") = false := by decide +kernel
  have k2 : (Value.type "tuple" == Value.type "tuple") = true := by decide +kernel
  unfold collect
  refine wpAny_bind (wpAny_runValue (codeAny_builtin entry_proto_collect' ?_))
  refine wpAny_bind (wpAny_newList (wpAny_pure ⟨Code.quiet_builtin _ (by decide +kernel), codeAny_builtin entry_list_iadd' ?_⟩))
  show wpAny _ _ (Builtin.List.listExtendWith (.ref s.heap.objs.size) (.ref a) (.ref s.heap.objs.size)) _ _ { s with heap := s.heap.push (seqObj "list" #[] 0) }
  unfold Builtin.List.listExtendWith
  refine wpAny_bind (wpAny_typeOf (T := "tuple") ⟨o, f1, e2⟩ ?_)
  rw [if_pos (by rw [k1, k2]; simp)]
  refine wpAny_bind (listItems_at f1 e3 (wpAny_bind (listItems_at (xs := #[]) (n := 0) f2 rfl ?_)))
  rw [if_neg (by simp)]
  refine wpAny_bind (listUpdate_at (xs := #[]) (n := 0) f2 rfl (wpAny_pure ?_) (Nat.zero_le _) (by simp only [Array.size_append, List.size_toArray, List.length_nil]; omega))
  refine wpAny_bind (wpAny_load (get?_update_seq f2 _) ?_)
  have e : ((#[] : Array Value) ++ vs.toArray).toList = vs := by simp
  show wpAny _ _ (pure ((#[] : Array Value) ++ vs.toArray).toList) Q E _
  rw [e]
  exact wpAny_pure h
theorem mus_sortedT {a : Addr} {vs : List Value} {Q : Value → Shared → Prop} (ht : s.heap.IsTuple a vs.toArray) (hL : vs.length ≤ sizeLine)
    (body : ∀ E' : Value → Shared → Prop, wpAny (model prog w) A.in1.in1 (Builtin.«list.sort» ⟨[.ref (s.heap.objs.size + 1)], []⟩) (fun f s' => f = .done (.ret .none) ∧ Q (.ref (s.heap.objs.size + 1)) s') E' { s with heap := copyHeap s.heap vs }) :
    wpAny (model prog w) A (call (.builtin "sorted") [.ref a]) Q E s := by
  have z : ((s.heap.push (seqObj "list" #[] 0)).update s.heap.objs.size (Obj.mapSeq (· ++ vs.toArray))).objs.size = s.heap.objs.size + 1 := (Heap.size_update ..).trans (size_push' ..)
  refine call_function_entry_kw kind_sorted plain_sorted entry_sorted (args_sorted1 _) ?_
  unfold Builtin.«sorted»
  refine wpAny_bind (m := checkCount "sorted" 1 1 _) (wpAny_pure (wpAny_bind (mus_collect ht hL (wpAny_bind (wpAny_newList ?_ hL)))))
  show wpAny _ _ _ _ _ { s with heap := copyHeap s.heap vs }
  rw [z]
  refine wpAny_bind (wpAny_holding (wpAny_call_entry_kw slot_list_sort ⟨_, copyHeap_at s.heap vs, rfl⟩ entry_list_sort ?sorts (args_list_sort _)))
  case sorts =>
    refine wpAny_mono (body _) (fun f s' q => ?_) fun _ _ e => e
    obtain ⟨rfl, q⟩ := q
    exact ⟨_, rfl, wpAny_pure ⟨_, rfl, q⟩⟩
theorem mus_sorted {β : Type} {R : Value → β → Prop} {enc : β → PyData} {bs : List β} {a : Addr} {vs : List Value} {Q : Value → Shared → Prop} (ht : s.heap.IsTuple a vs.toArray) (e : EachIs R vs bs) (er : EachIs (fun v b => ∃ as, Reads s.heap v (enc b) as) vs bs) (hal : AllAlike (bs.map enc)) (hk : Sortable (bs.map enc)) (hL : bs.length ≤ sizeLine)
    (hu : ∀ b, b ∈ bs → A.units + 2 + (enc b).depth < cLine) (h : ∀ out, out.length = bs.length → EachIs R out (bs.mergeSort (dataLe false enc)) → Q (.ref (s.heap.objs.size + 1)) { s with heap := sortedAll s.heap vs (List.toArray out) }) :
    wpAny (model prog w) A (call (.builtin "sorted") [.ref a]) Q E s := by
  have lv : vs.length ≤ sizeLine := e.length ▸ hL
  have er' : EachIs (fun v b => ∃ as, Reads (sortingHeap (copyHeap s.heap vs) (s.heap.objs.size + 1) vs) v (enc b) as) vs bs := er.mono fun _ _ ⟨as, r⟩ => ⟨as, PyProof.Rows.Reads.keeps (fun _ _ => sorting_copy_old) r⟩
  have S := SortsAt.data (prog := prog) (w := w) (A := A.in1.in1) (s := { s with heap := sortingHeap (copyHeap s.heap vs) (s.heap.objs.size + 1) vs }) (each_map (R := fun v d => ∃ as, Reads (sortingHeap (copyHeap s.heap vs) (s.heap.objs.size + 1) vs) v d as) enc er') hal hk (bound_map hu)
  exact mus_sortedT ht lv fun _ => list_sort_vals (s := { s with heap := copyHeap s.heap vs }) (copyHeap_at s.heap vs) S lv ⟨rfl, h _ (by rw [sortVals_length false rfl]; exact e.length) (sortVals_data false e er' hal)⟩
end
end PySem.W
namespace Mus
open PySem PySem.Spec PyProof.Rows L2
def rSortedD (K : PySem.W.Frag) : List V → Hp → VK → Prop := fun vs H Q => ∃ (a : Addr) (xs : List V) (ds : List PyData), vs = [V.ref a] ∧ (SqL K H a xs ∨ SqT K H a xs) ∧ DpAll K H xs ds ∧ PySem.W.AllAlike ds ∧ PySem.W.Sortable ds ∧ (∀ d ∈ ds, d.depth ≤ 20) ∧
  ∀ (ps : List (V × PyData)) p, ps = (xs.zip ds).mergeSort (PySem.W.dataLe false (·.2)) → H p = none → Q (.ref p) (upd H p (.lst (ps.map (·.1))))
theorem each_zip {h : Heap} : ∀ {xs : List V} {ds : List PyData} {vs : List Value}, Vals xs vs → xs.length = ds.length → PySem.W.EachIs (fun v (b : V × PyData) => RelV b.1 v) vs (xs.zip ds)
  | [], [], _, .nil, _ => .nil
  | x :: xs, d :: ds, _, .cons r rs, hl => .cons r (each_zip (h := h) rs (by simpa using hl))
  | [], _ :: _, _, _, hl => by cases hl
  | _ :: _, [], _, _, hl => by cases hl
theorem each_reads {h : Heap} : ∀ {xs : List V} {ds : List PyData} {vs : List Value} {as : List Addr}, xs.length = ds.length → ReadsAll h vs ds as → vs.length = xs.length → PySem.W.EachIs (fun v (b : V × PyData) => ∃ as, Reads h v b.2 as) vs (xs.zip ds)
  | [], [], _, _, _, .nil, _ => .nil
  | x :: xs, d :: ds, _, _, hl, .cons r rs, h2 => .cons ⟨_, r⟩ (each_reads (by simpa using hl) rs (by simpa using h2))
  | [], _ :: _, _, _, hl, _, _ => by cases hl
  | _ :: _, [], _, _, hl, _, _ => by cases hl
theorem vals_of_each : ∀ {ps : List (V × PyData)} {out : List Value}, PySem.W.EachIs (fun v (b : V × PyData) => RelV b.1 v) out ps → Vals (ps.map (·.1)) out
  | _, _, .nil => .nil
  | _, _, .cons r rs => .cons r (vals_of_each rs)
theorem dpAll_len {K : PySem.W.Frag} {H : Hp} : ∀ {xs : List V} {ds : List PyData}, DpAll K H xs ds → xs.length = ds.length
  | _, _, .nil => rfl
  | _, _, .cons _ r => congrArg (· + 1) (dpAll_len r)
section
variable {X : Cx}
theorem cr_sortedD (hu : X.A.units + 64 < cLine) : CallR X (.builtin "sorted") (rSortedD X.K) := by
  intro pins s σ H vs us Q I r h
  obtain ⟨a, xs, ds, rfl, hs, hd, hal, hk, hdep, q⟩ := h
  obtain ⟨u, rfl, ru⟩ := vals1 r
  obtain rfl : u = Value.ref a := ru
  have ll := dpAll_len hd
  have lz : (xs.zip ds).length = ds.length := by rw [List.length_zip, ll, Nat.min_self]
  have em : (xs.zip ds).map (·.2) = ds := List.map_snd_zip (by omega)
  have hu' : ∀ b ∈ xs.zip ds, X.A.units + 2 + b.2.depth < cLine := fun b hb => by
    have := hdep b.2 (by rw [← em]; exact List.mem_map.mpr ⟨b, hb, rfl⟩)
    omega
  have fin : ∀ {vs : List Value}, Vals xs vs → ∀ out, out.length = (xs.zip ds).length → PySem.W.EachIs (fun v (b : V × PyData) => RelV b.1 v) out ((xs.zip ds).mergeSort (PySem.W.dataLe false (·.2))) → EP X pins σ Q (.ref (s.heap.objs.size + 1)) { s with heap := sortedAll s.heap vs (List.toArray out) } := fun {vs} rv out hl he => by
    obtain ⟨n, hn⟩ := sortedAll_at s.heap vs (List.toArray out)
    have nd : H (s.heap.objs.size + 1) = none := I.hok.fresh (Nat.le_succ _)
    have hz : ((xs.zip ds).mergeSort (PySem.W.dataLe false (·.2))).length ≤ sizeLine := by
      rw [List.length_mergeSort, lz, ← ll]
      rcases hs with hs | hs
      · obtain ⟨_, _, _, hz⟩ := I.list hs; exact hz
      · obtain ⟨_, _, _, hz⟩ := I.tuple hs; exact hz
    exact ⟨.ref (s.heap.objs.size + 1), _, I.laid (t' := s.toks) (o := .lst (((xs.zip ds).mergeSort (PySem.W.dataLe false (·.2))).map (·.1))) (fun b o e => sortedAll_old e) (Nat.le_succ _) ⟨by rw [List.length_map]; exact hz, out, n, vals_of_each he, hn⟩, rfl, q _ _ rfl nd⟩
  rcases hs with hs | hs
  · obtain ⟨its, rv, hl, hz⟩ := I.list hs
    obtain ⟨as, ra⟩ := Dp.readsAll I ds xs its hd rv
    exact PySem.W.sorted_data hl.isList (each_zip (h := s.heap) rv ll) (each_reads ll ra rv.length.symm) (by rw [em]; exact hal) (by rw [em]; exact hk) (by rw [lz, ← ll]; exact hz) hu' (fin rv)
  · obtain ⟨its, rv, hl, hz⟩ := I.tuple hs
    obtain ⟨as, ra⟩ := Dp.readsAll I ds xs its hd rv
    exact PySem.W.mus_sorted hl (each_zip (h := s.heap) rv ll) (each_reads ll ra rv.length.symm) (by rw [em]; exact hal) (by rw [em]; exact hk) (by rw [lz, ← ll]; exact hz) hu' (fin rv)
end
end Mus

set_option maxRecDepth 100000
set_option maxHeartbeats 4000000
/-! sorted(d) and d.get(k, x) of a dict whose keys are nested tuples. -/
namespace PySem.W
open PySem PySem.Calls PyProof.Rows
theorem mus_raw {prog : Program} {w : World} {d : Addr} {es : Array DictEntry} {ep : Nat} (lo : (d == sysModules) = false) : KdlSrc prog w "dict" d d es.size (fun i v => ∃ hi : i < es.size, v = es[i].key) (fun h => h.DictRaw d es ep) where
  type := fun _ hm => hm.typeIs
  there := fun _ hm => ⟨let ⟨_, ho, _⟩ := hm; Heap.lt_size ho, let ⟨_, ho, _⟩ := hm; Heap.lt_size ho⟩
  keep := fun _ _ hm hk => hm.at fun o e => hk d (.inl rfl) o e
  notList := by decide
  notTuple := by decide
  hint := fun _ _ _ _ hm hq => kdl_hint_dict hm.typeIs hq
  iter := fun _ _ hh hm => ⟨_, _, (fun _ _ hq => wpAny_pyIter_dict_raw lo hm hq), Walks.rawKeys hh _ d (Nat.ne_of_lt (let ⟨_, ho, _⟩ := hm; Heap.lt_size ho)) es ep, ⟨⟨_, Heap.get?_push_size _ rfl, rfl, rfl⟩, hm.at fun _ e => Heap.get?_push_of_some _ e⟩⟩
end PySem.W
namespace Mus
open PySem PySem.Spec PyProof.Rows L2
def rSortedN (K : PySem.W.Frag) (w : World) : List V → Hp → VK → Prop := fun vs H Q => ∃ (a : Addr) (kvs : NKV) (ds : List PyData), vs = [V.ref a] ∧ Nd w H a kvs ∧ DpAll K H (kvs.map fun x => V.ref x.2.1) ds ∧ PySem.W.AllAlike ds ∧ PySem.W.Sortable ds ∧ (∀ d ∈ ds, d.depth ≤ 20) ∧
  ∀ (ps : List (V × PyData)) p, ps = ((kvs.map fun x => V.ref x.2.1).zip ds).mergeSort (PySem.W.dataLe false (·.2)) → H p = none → Q (.ref p) (upd H p (.lst (ps.map (·.1))))
theorem vals_refs : ∀ kvs : NKV, Vals (kvs.map fun x => V.ref x.2.1) (kvs.map fun x => Value.ref x.2.1)
  | [] => .nil
  | x :: r => .cons rfl (vals_refs r)
theorem KN.ref {ks : NKV} {xs : List (NestedKey × Addr × Value)} (r : KN ks xs) : xs.map (fun x => Value.ref x.2.1) = ks.map fun x => Value.ref x.2.1 := by
  induction r with
  | nil => rfl
  | cons h t ih => rw [List.map_cons, List.map_cons, ih, h.2.1]
section
variable {X : Cx}
theorem cr_sortedN (hc : X.calm = true) (hu : X.A.units + 64 < cLine) : CallR X (.builtin "sorted") (rSortedN X.K X.w) := by
  intro pins s σ H vs us Q I r h
  obtain ⟨a, kvs, ds, rfl, n, hd, hal, hk, hdep, q⟩ := h
  obtain ⟨u, rfl, ru⟩ := vals1 r
  obtain rfl : u = Value.ref a := ru
  obtain ⟨xs, rel, dd⟩ := n.heap I
  obtain ⟨es, ep, raw, hs, hx⟩ := dd.raw
  have hl : es.size = kvs.length := by rw [hs, Paired.length rel]
  have h16 : es.size ≤ sizeLine := by rw [hl]; exact n.sz
  refine Calls.call_function_entry PyProof.Rows.kind_sorted PyProof.Rows.plain_sorted PyProof.Rows.entry_sorted (PyProof.Rows.args_sorted1 _) ?_
  unfold Builtin.«sorted»
  refine wpAny_bind (m := checkCount "sorted" 1 1 _) (wpAny_pure ?_)
  refine wpAny_bind (PySem.W.kdu_collect (A := X.A.in1) (PySem.W.mus_raw n.sm) (I.ok.hd hc) raw h16 fun h' tk acc hk' hacc => ?_)
  have e1 : acc.toList = kvs.map fun x => Value.ref x.2.1 := by
    rw [← rel.ref]
    refine List.ext_getElem? fun j => ?_
    rw [List.getElem?_map]
    cases e : acc.toList[j]? with
    | none =>
      have : acc.toList.length ≤ j := List.getElem?_eq_none_iff.mp e
      rw [Array.length_toList, hacc.1, hs] at this
      rw [List.getElem?_eq_none this]; rfl
    | some v =>
      obtain ⟨hi, rfl⟩ := hacc.2 j v (by rw [← Array.getElem?_toList]; exact e)
      obtain ⟨y, hy, ey, _⟩ := hx j hi
      rw [hy, ey]; rfl
  have rv : Vals (kvs.map fun x => V.ref x.2.1) acc.toList := by rw [e1]; exact vals_refs kvs
  have I1 : Inv X pins σ H { s with heap := h', toks := tk } := I.kept hk'
  have ll := dpAll_len hd
  have lz : ((kvs.map fun x => V.ref x.2.1).zip ds).length = ds.length := by rw [List.length_zip, ll, Nat.min_self]
  have em : ((kvs.map fun x => V.ref x.2.1).zip ds).map (·.2) = ds := List.map_snd_zip (by omega)
  have la : acc.toList.length = ds.length := by rw [← rv.length]; exact ll
  have hL : acc.toList.length ≤ sizeLine := by rw [Array.length_toList, hacc.1]; exact h16
  obtain ⟨as, ra⟩ := Dp.readsAll I1 ds _ _ hd rv
  refine wpAny_bind (wpAny_newList ?_ hL)
  have hoL : (h'.push (seqObj "list" acc.toList.toArray 0)).get? h'.objs.size = some (seqObj "list" acc.toList.toArray 0) := Heap.get?_push_size _ rfl
  show wpAny _ _ _ _ _ { s with heap := h'.push (seqObj "list" acc.toList.toArray 0), toks := tk }
  have old : ∀ b o, h'.get? b = some o → (PySem.W.sortingHeap (h'.push (seqObj "list" acc.toList.toArray 0)) h'.objs.size acc.toList).get? b = some o := fun b o e => PySem.W.sortingHeap_old (Nat.ne_of_lt (Heap.lt_size e)) (Heap.get?_push_of_some _ e)
  have er : PySem.W.EachIs (fun v (b : V × PyData) => ∃ as, Reads (PySem.W.sortingHeap (h'.push (seqObj "list" acc.toList.toArray 0)) h'.objs.size acc.toList) v b.2 as) acc.toList ((kvs.map fun x => V.ref x.2.1).zip ds) :=
    (each_reads ll ra rv.length.symm).mono fun _ _ ⟨as, r⟩ => ⟨as, PyProof.Rows.Reads.keeps old r⟩
  have hu' : ∀ b ∈ (kvs.map fun x => V.ref x.2.1).zip ds, X.A.in1.in1.units + b.2.depth < cLine := fun b hb => by
    have := hdep b.2 (by rw [← em]; exact List.mem_map.mpr ⟨b, hb, rfl⟩)
    have e : X.A.in1.in1.units = X.A.units + 2 := rfl
    omega
  have S := PySem.W.SortsAt.data (prog := X.prog) (w := X.w) (A := X.A.in1.in1) (s := { s with heap := PySem.W.sortingHeap (h'.push (seqObj "list" acc.toList.toArray 0)) h'.objs.size acc.toList, toks := tk }) (PySem.W.each_map (R := fun v d => ∃ as, Reads _ v d as) (fun b : V × PyData => b.2) er) (by rw [em]; exact hal) (by rw [em]; exact hk) (PySem.W.bound_map hu')
  have he := PySem.W.sortVals_data false (each_zip (h := h') rv ll) er (by rw [em]; exact hal)
  refine wpAny_bind (wpAny_holding (wpAny_call_entry PyProof.Rows.slot_list_sort ⟨_, hoL, rfl⟩ PyProof.Rows.entry_list_sort
    (PySem.W.list_sort_vals (s := { s with heap := h'.push (seqObj "list" acc.toList.toArray 0), toks := tk }) hoL S hL ⟨_, rfl, ?_⟩) (PyProof.Rows.args_list_sort _)))
  generalize PySem.W.sortVals _ false acc.toList acc.toList = out at he ⊢
  obtain ⟨e', he'⟩ := PyProof.Rows.sortedHeap_at (vs := acc.toList) (out := out.toArray) hoL
  refine wpAny_pure ⟨_, rfl, .ref h'.objs.size, upd H h'.objs.size (.lst ((((kvs.map fun x => V.ref x.2.1).zip ds).mergeSort (PySem.W.dataLe false (·.2))).map (·.1))), I1.laid (t' := tk) (fun b u e => ?_) (Nat.le_refl _)
    (show ObjOk X.prog X.w _ _ _ (.lst _) from ⟨?_, out, e', vals_of_each he, he'⟩), rfl, q _ _ rfl (I1.hok.fresh (Nat.le_refl _))⟩
  · have hb : b < h'.objs.size := Heap.lt_size e
    rw [PyProof.Rows.sortedHeap_old (Nat.ne_of_lt hb) (by rw [size_push']; exact Nat.lt_succ_of_lt hb)]
    exact Heap.get?_push_of_some _ e
  · rw [List.length_map, List.length_mergeSort, lz, ← la]; exact hL
end
end Mus

set_option maxRecDepth 100000
set_option maxHeartbeats 4000000
/-! Data stand where a thing that is no list and no tuple changes. -/
namespace Mus
open PySem L2
mutual
theorem Rp.upN {p D : Addr} {H : Hp} {o : HO} (h1 : ∀ xs, H D ≠ some (.lst xs)) (h2 : ∀ xs, H D ≠ some (.tup xs)) : ∀ {v : V} {d : PyData}, Rp p H v d → Rp p (upd H D o) v d
  | _, _, .non => .non
  | _, _, .bl b => .bl b
  | _, _, .int i => .int i
  | _, _, .str x => .str x
  | _, _, .lst h n r => .lst (by rw [upd_ne fun z => h1 _ (by rw [← z]; exact h)]; exact h) n (Rps.upN h1 h2 r)
  | _, _, .tup h n l r => .tup (by rw [upd_ne fun z => h2 _ (by rw [← z]; exact h)]; exact h) n l (Rps.upN h1 h2 r)
theorem Rps.upN {p D : Addr} {H : Hp} {o : HO} (h1 : ∀ xs, H D ≠ some (.lst xs)) (h2 : ∀ xs, H D ≠ some (.tup xs)) : ∀ {vs : List V} {ds : List PyData}, Rps p H vs ds → Rps p (upd H D o) vs ds
  | _, _, .nil => .nil
  | _, _, .cons a b => .cons (Rp.upN h1 h2 a) (Rps.upN h1 h2 b)
end
theorem rp_tup {p t : Addr} {c : Int} {H : Hp} {vs : List V} {ds : List PyData} (g : Bag p c H) (nt : H t = none) (r : Rps p H vs ds) (hl : vs.length ≤ 100000 := by exact Nat.le_of_ble_eq_true rfl) : Rp p (upd H t (.tup vs)) (.ref t) (.tuple ds) :=
  .tup upd_same (g.ne nt).symm hl (r.same (same_new nt _))
theorem atI_intsU {ns : List Int} {r : Int} (h0 : 0 ≤ r) (h1 : r < ns.length) : ∃ x, x ∈ ns ∧ atI (ns.map V.int) r = some (.int x) := by
  have hi : r.toNat < ns.length := by omega
  refine ⟨ns[r.toNat], List.getElem_mem _, at_int h0 ?_⟩
  rw [List.getElem?_map, List.getElem?_eq_getElem hi]; rfl
/-- one of the listed values -/
theorem atI_mem {xs : List V} {r : Int} (h0 : 0 ≤ r) (h1 : r < xs.length) : ∃ x, x ∈ xs ∧ atI xs r = some x := by
  have hi : r.toNat < xs.length := by omega
  exact ⟨xs[r.toNat], List.getElem_mem _, at_int h0 (List.getElem?_eq_getElem hi)⟩
end Mus

set_option maxRecDepth 100000
set_option maxHeartbeats 4000000
/-! View ids as data and as keys; their order; lists sorted by them. -/
namespace Mus
open PySem PySem.Spec PyProof.Rows L2
def vKey (k i l : Int) : NestedKey := .tup [.num k, .tup [.num i, .num l]]
def vD (k i l : Int) : PyData := .tuple [.int k, .tuple [.int i, .int l]]
mutual
def kD : NestedKey → PyData
  | .none => .none
  | .num i => .int i
  | .text x => .str x
  | .tup ks => .tuple (kDs ks)
def kDs : List NestedKey → List PyData
  | [] => []
  | k :: ks => kD k :: kDs ks
end
theorem kD_v (k i l : Int) : kD (vKey k i l) = vD k i l := rfl
theorem vKey_depth (k i l : Int) : (vKey k i l).depth ≤ 8 := by simp [vKey, NestedKey.depth, NestedKey.depthAll]
theorem vKey_inj {k i l k' i' l' : Int} (h : vKey k i l = vKey k' i' l') : k = k' ∧ i = i' ∧ l = l' := by
  injection h with h
  injection h with h1 h2
  injection h1 with h1
  injection h2 with h2 _
  injection h2 with h2
  injection h2 with h2 h3
  injection h2 with h2
  injection h3 with h3 _
  injection h3 with h3
  exact ⟨h1, h2, h3⟩
theorem nk_vid {p : Addr} {H : Hp} {a : Addr} {k i l : Int} (h : Rp p H (.ref a) (vD k i l)) : NK H (.ref a) (vKey k i l) := by
  obtain _ | _ | _ | _ | _ | @⟨_, xs, _, ha, _, _, hr⟩ := h
  obtain _ | ⟨h1, _ | ⟨h2, hn⟩⟩ := hr
  cases hn
  cases h1
  obtain _ | _ | _ | _ | _ | @⟨b, ys, _, hb, _, _, hr2⟩ := h2
  obtain _ | ⟨h3, _ | ⟨h4, hn⟩⟩ := hr2
  cases hn
  cases h3
  cases h4
  exact .tup ha (.cons (.int _) (.cons (.tup hb (.cons (.int _) (.cons (.int _) .nil))) .nil))
theorem v_alike (k i l k' i' l' : Int) : PySem.W.alike (vD k i l) (vD k' i' l') = true := rfl
theorem v_depth (k i l : Int) : (vD k i l).depth ≤ 20 := by simp [vD, PyData.depth, PyData.depthAll]
/-- the order of view ids -/
def vLt (k i l k' i' l' : Int) : Bool := decide (k < k' ∨ k = k' ∧ (i < i' ∨ i = i' ∧ l < l'))
theorem v_lt (k i l k' i' l' : Int) : PySem.W.dataLt (vD k i l) (vD k' i' l') = vLt k i l k' i' l' := by
  unfold vD vLt
  rw [PySem.W.dataLt_pair rfl rfl, PySem.W.dataLt_ii, PySem.W.dataLt_int]
  have e1 : PyData.eqv (.int k) (.int k') = decide (k = k') := rfl
  have e2 : PyData.eqv (.tuple [.int i, .int l]) (.tuple [.int i', .int l']) = (decide (i = i') && decide (l = l')) := by
    show (decide (i = i') && (decide (l = l') && true)) = _
    rw [Bool.and_true]
  rw [e1, e2]
  by_cases h1 : k = k'
  · subst h1
    by_cases h2 : i = i'
    · subst h2
      by_cases h3 : l = l'
      · subst h3; simp
      · simp [h3]
    · simp [h2]
  · simp [h1]
theorem valN_mem {ks : NKV} {x : NestedKey × Addr × V} (h : (ks.map (·.1)).Nodup) (hx : x ∈ ks) : valN ks x.1 = some x.2.2 := by
  induction ks with
  | nil => cases hx
  | cons y ys ih =>
    rw [List.map_cons, List.nodup_cons] at h
    unfold valN
    rw [List.find?_cons]
    rcases List.mem_cons.mp hx with rfl | hx
    · simp
    · have ne : ¬ y.1 = x.1 := fun e => h.1 (by rw [e]; exact List.mem_map.mpr ⟨x, hx, rfl⟩)
      rw [decide_eq_false ne]
      exact ih h.2 hx
theorem putN_all {ks : NKV} {k : NestedKey} {b : Addr} {v : V} {A : NestedKey → Addr → Prop} {B : V → Prop} (h : ∀ x ∈ ks, A x.1 x.2.1 ∧ B x.2.2) (hk : A k b) (hv : B v) : ∀ x ∈ putN ks k b v, A x.1 x.2.1 ∧ B x.2.2 := by
  intro x hx
  unfold putN at hx
  split at hx
  · obtain ⟨y, hy, rfl⟩ := List.mem_map.mp hx
    split
    · exact ⟨(h y hy).1, hv⟩
    · exact h y hy
  · rcases List.mem_append.mp hx with hx | hx
    · exact h x hx
    · rw [List.mem_singleton.mp hx]; exact ⟨hk, hv⟩
/-- the entries, sorted by their keys -/
theorem sort_split {kvs : NKV} {ps : List (V × PyData)} (e : ps = ((kvs.map fun x => V.ref x.2.1).zip (kvs.map fun x => kD x.1)).mergeSort (PySem.W.dataLe false (·.2))) :
    ∃ ys : NKV, ys.Perm kvs ∧ ps.map (·.1) = ys.map (fun x => V.ref x.2.1) ∧ ys = kvs.mergeSort fun a b => !(PySem.W.dataLt (kD b.1) (kD a.1)) := by
  refine ⟨_, List.mergeSort_perm _ _, ?_, rfl⟩
  have z : (kvs.map fun x => V.ref x.2.1).zip (kvs.map fun x => kD x.1) = kvs.map fun x => (V.ref x.2.1, kD x.1) := List.zip_map' ..
  rw [e, z, ← List.map_mergeSort (r := fun a b => !(PySem.W.dataLt (kD b.1) (kD a.1))) (fun _ _ _ _ => rfl), List.map_map]
  rfl
theorem v_sorted {kvs : NKV} (h : ∀ x ∈ kvs, ∃ k i l, x.1 = vKey k i l) (n : (kvs.map (·.1)).Nodup) : (kvs.mergeSort fun a b => !(PySem.W.dataLt (kD b.1) (kD a.1))).Pairwise fun a b => PySem.W.dataLt (kD a.1) (kD b.1) = true := by
  have P : (kvs.mergeSort fun a b => !(PySem.W.dataLt (kD b.1) (kD a.1))).Perm kvs := List.mergeSort_perm _ _
  have S : (kvs.mergeSort fun a b => !(PySem.W.dataLt (kD b.1) (kD a.1))).Pairwise fun a b => (!(PySem.W.dataLt (kD b.1) (kD a.1))) = true := by
    refine List.pairwise_mergeSort (fun a b c h1 h2 => ?_) (fun a b => ?_) _
    · simp only [Bool.not_eq_true'] at h1 h2 ⊢
      cases e : PySem.W.dataLt (kD c.1) (kD a.1) with
      | false => rfl
      | true =>
        by_cases h3 : PySem.W.dataLt (kD b.1) (kD c.1) = true
        · have := PyProof.Rows.lex_trans _ _ _ h3 e
          rw [show PyProof.Rows.lexLt PyProof.Rows.itemOrd _ _ = PySem.W.dataLt (kD b.1) (kD a.1) from rfl, h1] at this
          cases this
        · have h3 : PySem.W.dataLt (kD b.1) (kD c.1) = false := by simpa using h3
          have e2 := PyProof.Rows.lex_total _ _ h2 h3
          have : PySem.W.dataLt (kD c.1) (kD a.1) = PySem.W.dataLt (kD b.1) (kD a.1) := by unfold PySem.W.dataLt; rw [e2]
          rw [this, h1] at e; cases e
    · cases e : PySem.W.dataLt (kD b.1) (kD a.1) with
      | false => rfl
      | true =>
        cases e2 : PySem.W.dataLt (kD a.1) (kD b.1) with
        | false => rfl
        | true =>
          have := PyProof.Rows.lex_trans _ _ _ e e2
          rw [PyProof.Rows.lex_irrefl] at this
          cases this
  have N : (kvs.mergeSort fun a b => !(PySem.W.dataLt (kD b.1) (kD a.1))).Pairwise fun a b => a.1 ≠ b.1 := by
    have : ((kvs.mergeSort fun a b => !(PySem.W.dataLt (kD b.1) (kD a.1))).map (·.1)).Nodup := (P.map _).nodup_iff.mpr n
    exact List.pairwise_map.mp this
  refine (S.and N).imp_of_mem fun {a b} ha hb ⟨h1, h2⟩ => ?_
  obtain ⟨k, i, l, ea⟩ := h a (P.mem_iff.mp ha)
  obtain ⟨k', i', l', eb⟩ := h b (P.mem_iff.mp hb)
  rw [ea, eb] at h1 h2 ⊢
  rw [kD_v, kD_v, v_lt] at h1 ⊢
  unfold vLt at h1 ⊢
  have ne : ¬ (k = k' ∧ i = i' ∧ l = l') := fun ⟨e1, e2, e3⟩ => h2 (by rw [e1, e2, e3])
  simp only [Bool.not_eq_true', decide_eq_false_iff_not, decide_eq_true_eq] at h1 ⊢
  omega
end Mus

set_option maxRecDepth 100000
set_option maxHeartbeats 4000000
/-! in, not in: data in a list or a tuple of data. -/
namespace Mus
open PySem PySem.Spec PyProof.Rows L2
def rInDD (K : PySem.W.Frag) (f : Bool → Bool) : R2 := fun x y H Q => ∃ d ds, Dp K H x d ∧ (Dp K H y (.list ds) ∨ Dp K H y (.tuple ds)) ∧ d.canLay0 = true ∧ PyData.canLayAll0 ds = true ∧ d.depth ≤ 20 ∧ Q (.bl (f (ds.any fun z => PyData.eqv z d))) H
section
variable {X : Cx}
theorem op_inDD (hu : X.A.units + 64 < cLine) : OpR X (compareOp .In) (rInDD X.K id) := by
  intro pins s σ H x y v u Q I rx ry h
  obtain ⟨d, ds, hd, hs, cd, cs, dp, q⟩ := h
  obtain ⟨as, r1⟩ := Dp.reads I d x v hd rx
  have hr : X.A.units + 1 + min (PyData.depthAll ds) d.depth < cLine := by
    have : min (PyData.depthAll ds) d.depth ≤ d.depth := Nat.min_le_right _ _
    omega
  rcases hs with hs | hs
  · obtain ⟨bs, r2⟩ := Dp.reads I _ y u hs ry
    exact SeqAt.in_list_reads r2 r1 cs cd hr ⟨.bl _, H, I, rfl, q⟩
  · obtain ⟨bs, r2⟩ := Dp.reads I _ y u hs ry
    exact SeqAt.in_tuple_reads r2 r1 cs cd hr ⟨.bl _, H, I, rfl, q⟩
theorem op_notInDD (hu : X.A.units + 64 < cLine) : OpR X (compareOp .NotIn) (rInDD X.K not) := by
  intro pins s σ H x y v u Q I rx ry h
  obtain ⟨d, ds, hd, hs, cd, cs, dp, q⟩ := h
  obtain ⟨as, r1⟩ := Dp.reads I d x v hd rx
  have hr : X.A.units + 1 + min (PyData.depthAll ds) d.depth < cLine := by
    have : min (PyData.depthAll ds) d.depth ≤ d.depth := Nat.min_le_right _ _
    omega
  rcases hs with hs | hs
  · obtain ⟨bs, r2⟩ := Dp.reads I _ y u hs ry
    exact SeqAt.notIn_list_reads r2 r1 cs cd hr ⟨.bl _, H, I, rfl, q⟩
  · obtain ⟨bs, r2⟩ := Dp.reads I _ y u hs ry
    exact SeqAt.notIn_tuple_reads r2 r1 cs cd hr ⟨.bl _, H, I, rfl, q⟩
end
end Mus

set_option maxRecDepth 100000
set_option maxHeartbeats 4000000
/-! Data without lists, wherever it stands; frames: what a call may have changed. -/
namespace Mus
open PySem PySem.Spec PyProof.Rows L2
mutual
inductive TD (H : Hp) : V → PyData → Prop
  | non : TD H .non .none
  | bl (b : Bool) : TD H (.bl b) (.bool b)
  | int (i : Int) : TD H (.int i) (.int i)
  | str (x : Str) : TD H (.str x) (.str x)
  | tup {a : Addr} {xs : List V} {ds : List PyData} : H a = some (.tup xs) → xs.length ≤ 100000 → TDs H xs ds → TD H (.ref a) (.tuple ds)
inductive TDs (H : Hp) : List V → List PyData → Prop
  | nil : TDs H [] []
  | cons {v : V} {vs : List V} {d : PyData} {ds : List PyData} : TD H v d → TDs H vs ds → TDs H (v :: vs) (d :: ds)
end
/-- tuples stay -/
def TupK (H H' : Hp) : Prop := ∀ b xs, H b = some (.tup xs) → H' b = some (.tup xs)
theorem TupK.refl (H : Hp) : TupK H H := fun _ _ h => h
theorem TupK.trans {H H1 H2 : Hp} (a : TupK H H1) (b : TupK H1 H2) : TupK H H2 := fun c xs h => b c xs (a c xs h)
theorem TupK.of {H H' : Hp} (s : Same H H') : TupK H H' := fun b xs h => s b _ h
theorem tupK_upd {H : Hp} {D : Addr} {o : HO} (h : ∀ xs, H D ≠ some (.tup xs)) : TupK H (upd H D o) := fun b xs e => by
  rw [upd_ne fun z => h xs (by rw [← z]; exact e)]; exact e
mutual
theorem TD.mono {H H' : Hp} (k : TupK H H') : ∀ {v : V} {d : PyData}, TD H v d → TD H' v d
  | _, _, .non => .non
  | _, _, .bl b => .bl b
  | _, _, .int i => .int i
  | _, _, .str x => .str x
  | _, _, .tup h l r => .tup (k _ _ h) l (r.mono k)
theorem TDs.mono {H H' : Hp} (k : TupK H H') : ∀ {vs : List V} {ds : List PyData}, TDs H vs ds → TDs H' vs ds
  | _, _, .nil => .nil
  | _, _, .cons a r => .cons (a.mono k) (r.mono k)
end
theorem TD.same {H H' : Hp} {v : V} {d : PyData} (h : TD H v d) (s : Same H H') : TD H' v d := h.mono (TupK.of s)
theorem TDs.same {H H' : Hp} {vs : List V} {ds : List PyData} (h : TDs H vs ds) (s : Same H H') : TDs H' vs ds := h.mono (TupK.of s)
mutual
theorem TD.dp {K : PySem.W.Frag} {H : Hp} : ∀ {v : V} {d : PyData}, TD H v d → Dp K H v d
  | _, _, .non => .non
  | _, _, .bl b => .bl b
  | _, _, .int i => .int i
  | _, _, .str x => .str x
  | _, _, .tup h _ r => .tup (SqT.of h) r.dp
theorem TDs.dp {K : PySem.W.Frag} {H : Hp} : ∀ {vs : List V} {ds : List PyData}, TDs H vs ds → DpAll K H vs ds
  | _, _, .nil => .nil
  | _, _, .cons a r => .cons a.dp r.dp
end
mutual
/-- none of it at p, where no tuple stands -/
theorem TD.rp {p : Addr} {H : Hp} (hp : ∀ xs, H p ≠ some (.tup xs)) : ∀ {v : V} {d : PyData}, TD H v d → Rp p H v d
  | _, _, .non => .non
  | _, _, .bl b => .bl b
  | _, _, .int i => .int i
  | _, _, .str x => .str x
  | _, _, .tup h l r => .tup h (fun z => hp _ (z ▸ h)) l (r.rp hp)
theorem TDs.rp {p : Addr} {H : Hp} (hp : ∀ xs, H p ≠ some (.tup xs)) : ∀ {vs : List V} {ds : List PyData}, TDs H vs ds → Rps p H vs ds
  | _, _, .nil => .nil
  | _, _, .cons a r => .cons (a.rp hp) (r.rp hp)
end
theorem TDs.length {H : Hp} : ∀ {vs : List V} {ds : List PyData}, TDs H vs ds → vs.length = ds.length
  | _, _, .nil => rfl
  | _, _, .cons _ r => congrArg (· + 1) r.length
theorem TDs.append {H : Hp} : ∀ {vs : List V} {ds : List PyData} {us : List V} {es : List PyData}, TDs H vs ds → TDs H us es → TDs H (vs ++ us) (ds ++ es)
  | _, _, _, _, .nil, r => r
  | _, _, _, _, .cons a b, r => .cons a (b.append r)
theorem TDs.at {H : Hp} : ∀ {vs : List V} {ds : List PyData} {i : Nat} {y : V}, TDs H vs ds → vs[i]? = some y → ∃ d, ds[i]? = some d ∧ TD H y d
  | _, _, _, _, .nil, h => by cases h
  | _, _, 0, _, .cons a b, h => by cases h; exact ⟨_, rfl, a⟩
  | _, _, i + 1, _, .cons a b, h => b.at (i := i) h
theorem TDs.get {H : Hp} : ∀ {vs : List V} {ds : List PyData} {i : Nat} {d : PyData}, TDs H vs ds → ds[i]? = some d → ∃ y, vs[i]? = some y ∧ TD H y d
  | _, _, _, _, .nil, h => by cases h
  | _, _, 0, _, .cons a b, h => by cases h; exact ⟨_, rfl, a⟩
  | _, _, i + 1, _, .cons a b, h => b.get (i := i) h
theorem TDs.take {H : Hp} : ∀ {vs : List V} {ds : List PyData} (n : Nat), TDs H vs ds → TDs H (vs.take n) (ds.take n)
  | _, _, 0, _ => .nil
  | _, _, n + 1, .nil => .nil
  | _, _, n + 1, .cons a q => .cons a (q.take n)
theorem TDs.drop {H : Hp} : ∀ {vs : List V} {ds : List PyData} (n : Nat), TDs H vs ds → TDs H (vs.drop n) (ds.drop n)
  | _, _, 0, r => r
  | _, _, n + 1, .nil => .nil
  | _, _, n + 1, .cons a q => q.drop n
theorem TDs.cut {H : Hp} {vs : List V} {ds : List PyData} (r : TDs H vs ds) (lo hi : Option Int) : TDs H (cutV vs lo hi) (cutD ds lo hi) := by
  unfold cutV cutD
  rw [r.length]
  exact (r.drop _).take _
/-! ### frames -/
/-- of what stood in H all but what is at fp is as it was; fp' is of fp or new; tuples stay -/
structure Fr (fp fp' : List Addr) (H H' : Hp) : Prop where
  k : ∀ b o, H b = some o → b ∉ fp → H' b = some o
  n : ∀ b ∈ fp', b ∈ fp ∨ H b = none
  t : TupK H H'
  s : ∀ b, H' b = none → H b = none
theorem Fr.refl (fp : List Addr) (H : Hp) : Fr fp fp H H := ⟨fun _ _ h _ => h, fun _ h => .inl h, TupK.refl H, fun _ h => h⟩
theorem Fr.of {fp : List Addr} {H H' : Hp} (s : Same H H') : Fr fp fp H H' := ⟨fun b o h _ => s b o h, fun _ h => .inl h, TupK.of s, fun b h => by
  cases e : H b with
  | none => rfl
  | some o => rw [s b o e] at h; cases h⟩
theorem Fr.trans {fp fp1 fp2 : List Addr} {H H1 H2 : Hp} (a : Fr fp fp1 H H1) (b : Fr fp1 fp2 H1 H2) : Fr fp fp2 H H2 := by
  refine ⟨fun c o h n => b.k c o (a.k c o h n) fun m => ?_, fun c m => ?_, a.t.trans b.t, fun c h => a.s c (b.s c h)⟩
  · rcases a.n c m with z | z
    · exact n z
    · rw [h] at z; cases z
  · rcases b.n c m with z | z
    · exact a.n c z
    · by_cases q : c ∈ fp
      · exact .inl q
      · cases e : H c with
        | none => exact .inr rfl
        | some o => rw [a.k c o e q] at z; cases z
theorem Fr.same {fp : List Addr} {H H' : Hp} (f : Fr [] fp H H') : Same H H' := fun b o h => f.k b o h List.not_mem_nil
theorem fr_upd {fp : List Addr} {H : Hp} {p : Addr} {o0 o : HO} (hp : p ∈ fp) (ho : H p = some o0) (nt : ∀ xs, o0 ≠ .tup xs) : Fr fp fp H (upd H p o) :=
  ⟨fun b u e n => by rw [upd_ne (show b ≠ p from fun z => n (by rw [z]; exact hp))]; exact e, fun _ h => .inl h, tupK_upd fun xs e => nt xs (Option.some.inj (ho.symm.trans e)), fun b h => by
    by_cases z : b = p
    · rw [z, upd_same] at h; cases h
    · rwa [upd_ne z] at h⟩
theorem fr_new {fp : List Addr} {H : Hp} {p : Addr} {o : HO} (ho : H p = none) : Fr fp (p :: fp) H (upd H p o) :=
  ⟨fun b u e n => by rw [upd_ne (ne_of_none e ho)]; exact e, fun b h => by
    rcases List.mem_cons.mp h with rfl | h
    · exact .inr ho
    · exact .inl h, tupK_upd fun xs e => (by rw [ho] at e; cases e), fun b h => by
    by_cases z : b = p
    · rw [z, upd_same] at h; cases h
    · rwa [upd_ne z] at h⟩
theorem Fr.sub {fp fp1 fp2 : List Addr} {H H' : Hp} (f : Fr fp fp1 H H') (h : ∀ b ∈ fp2, b ∈ fp1) : Fr fp fp2 H H' := ⟨f.k, fun b m => f.n b (h b m), f.t, f.s⟩
theorem Fr.wide {fp fp0 fp1 : List Addr} {H H' : Hp} (f : Fr fp fp1 H H') (h : ∀ b ∈ fp, b ∈ fp0) : Fr fp0 (fp0 ++ fp1) H H' :=
  ⟨fun b o e n => f.k b o e fun m => n (h b m), fun b m => by
    rcases List.mem_append.mp m with m | m
    · exact .inl m
    · exact (f.n b m).imp (h b) id, f.t, f.s⟩
/-! ### members, ids, messages -/
abbrev Mem := Int × Int
abbrev Vid := Int × Mem
abbrev Msg := Mem × Int × Str
abbrev Cst := Int × Str
def eM (m : Mem) : PyData := .tuple [.int m.1, .int m.2]
def eV (v : Vid) : PyData := .tuple [.int v.1, eM v.2]
def eG (g : Msg) : PyData := .tuple [eM g.1, .int g.2.1, .str g.2.2]
def eC (c : Cst) : PyData := .tuple [.int c.1, .str c.2]
def eMs (ms : List Mem) : PyData := .tuple (ms.map eM)
def kM (m : Mem) : NestedKey := .tup [.num m.1, .num m.2]
theorem kM_inj {a b : Mem} (h : kM a = kM b) : a = b := by
  injection h with h
  injection h with h1 h2
  injection h1 with h1
  injection h2 with h2 _
  injection h2 with h2
  exact Prod.ext h1 h2
theorem kM_depth (m : Mem) : (kM m).depth ≤ 8 := by simp [kM, NestedKey.depth, NestedKey.depthAll]
theorem TD.mem {H : Hp} {v : V} {m : Mem} (h : TD H v (eM m)) : ∃ a, v = .ref a ∧ H a = some (.tup [.int m.1, .int m.2]) := by
  cases h with
  | tup h _ r =>
    obtain _ | ⟨h1, _ | ⟨h2, hn⟩⟩ := r
    cases hn; cases h1; cases h2
    exact ⟨_, rfl, h⟩
theorem TD.vid {H : Hp} {v : V} {m : Vid} (h : TD H v (eV m)) : ∃ a u, v = .ref a ∧ H a = some (.tup [.int m.1, u]) ∧ TD H u (eM m.2) := by
  cases h with
  | tup h _ r =>
    obtain _ | ⟨h1, _ | ⟨h2, hn⟩⟩ := r
    cases hn; cases h1
    exact ⟨_, _, rfl, h, h2⟩
theorem TD.msg {H : Hp} {v : V} {g : Msg} (h : TD H v (eG g)) : ∃ a u, v = .ref a ∧ H a = some (.tup [u, .int g.2.1, .str g.2.2]) ∧ TD H u (eM g.1) := by
  cases h with
  | tup h _ r =>
    obtain _ | ⟨h1, _ | ⟨h2, _ | ⟨h3, hn⟩⟩⟩ := r
    cases hn; cases h2; cases h3
    exact ⟨_, _, rfl, h, h1⟩
theorem TD.cst {H : Hp} {v : V} {c : Cst} (h : TD H v (eC c)) : ∃ a, v = .ref a ∧ H a = some (.tup [.int c.1, .str c.2]) := by
  cases h with
  | tup h _ r =>
    obtain _ | ⟨h1, _ | ⟨h2, hn⟩⟩ := r
    cases hn; cases h1; cases h2
    exact ⟨_, rfl, h⟩
theorem td_mem {H : Hp} {a : Addr} {m : Mem} (h : H a = some (.tup [.int m.1, .int m.2])) : TD H (.ref a) (eM m) := .tup h (by show 2 ≤ 100000; decide) (.cons (.int _) (.cons (.int _) .nil))
theorem td_msg {H : Hp} {a : Addr} {u : V} {g : Msg} (h : H a = some (.tup [u, .int g.2.1, .str g.2.2])) (hu : TD H u (eM g.1)) : TD H (.ref a) (eG g) := .tup h (by show 3 ≤ 100000; decide) (.cons hu (.cons (.int _) (.cons (.str _) .nil)))
theorem td_cst {H : Hp} {a : Addr} {c : Cst} (h : H a = some (.tup [.int c.1, .str c.2])) : TD H (.ref a) (eC c) := .tup h (by show 2 ≤ 100000; decide) (.cons (.int _) (.cons (.str _) .nil))
theorem TD.nk {H : Hp} {v : V} {m : Mem} (h : TD H v (eM m)) : ∃ a, v = .ref a ∧ NK H (.ref a) (kM m) := by
  obtain ⟨a, rfl, h2⟩ := h.mem
  exact ⟨a, rfl, .tup h2 (.cons (.int _) (.cons (.int _) .nil))⟩
theorem eM_eqv (a b : Mem) : PyData.eqv (eM a) (eM b) = decide (a = b) := by
  show (decide (a.1 = b.1) && (decide (a.2 = b.2) && true)) = _
  rw [Bool.and_true, ← Bool.decide_and]
  exact decide_eq_decide.mpr ⟨fun h => Prod.ext h.1 h.2, fun h => by rw [h]; exact ⟨rfl, rfl⟩⟩
theorem eV_eqv (a b : Vid) : PyData.eqv (eV a) (eV b) = decide (a = b) := by
  show (decide (a.1 = b.1) && (PyData.eqv (eM a.2) (eM b.2) && true)) = _
  rw [Bool.and_true, eM_eqv, ← Bool.decide_and]
  exact decide_eq_decide.mpr ⟨fun h => Prod.ext h.1 h.2, fun h => by rw [h]; exact ⟨rfl, rfl⟩⟩
theorem eM_lay (m : Mem) : (eM m).canLay0 = true ∧ (eM m).depth = 1 ∧ SeqAt.shaped (eM m) = true := by
  refine ⟨rfl, by simp [eM, PyData.depth, PyData.depthAll], ?_⟩
  simp [eM, SeqAt.shaped, PyData.canLay0, PyData.canLayAll0, PyData.depth, PyData.depthAll]
theorem eV_lay (v : Vid) : (eV v).canLay0 = true ∧ (eV v).depth = 2 ∧ SeqAt.shaped (eV v) = true := by
  refine ⟨rfl, by simp [eV, eM, PyData.depth, PyData.depthAll], ?_⟩
  simp [eV, eM, SeqAt.shaped, PyData.canLay0, PyData.canLayAll0, PyData.depth, PyData.depthAll]
theorem eMs_lay : ∀ ms : List Mem, PyData.canLayAll0 (ms.map eM) = true
  | [] => rfl
  | m :: ms => by show ((eM m).canLay0 && PyData.canLayAll0 (ms.map eM)) = true; rw [(eM_lay m).1, eMs_lay ms]; rfl
theorem eMs_any (ms : List Mem) (m : Mem) : ((ms.map eM).any fun z => PyData.eqv z (eM m)) = decide (m ∈ ms) := by
  rw [List.any_map, Bool.eq_iff_iff, List.any_eq_true, decide_eq_true_eq]
  constructor
  · rintro ⟨x, hx, h⟩
    have h : decide (x = m) = true := by rw [← eM_eqv]; exact h
    rw [← of_decide_eq_true h]; exact hx
  · intro h
    exact ⟨m, h, by show PyData.eqv (eM m) (eM m) = true; rw [eM_eqv]; simp⟩
section
variable {K : PySem.W.Frag} {H : Hp} {x y : V} {a b : Mem} {Q : VK}
theorem rd_eqM (hx : TD H x (eM a)) (hy : TD H y (eM b)) (q : Q (.bl (decide (a = b))) H) : rEqD K x y H Q :=
  ⟨_, _, hx.dp, hy.dp, (eM_lay a).2.2, (eM_lay b).2.2, by rw [eM_eqv]; exact q⟩
theorem rd_neM (hx : TD H x (eM a)) (hy : TD H y (eM b)) (q : Q (.bl (!decide (a = b))) H) : rNeD K x y H Q :=
  ⟨_, _, hx.dp, hy.dp, (eM_lay a).2.2, (eM_lay b).2.2, by rw [eM_eqv]; exact q⟩
theorem rd_neV {a b : Vid} (hx : TD H x (eV a)) (hy : TD H y (eV b)) (q : Q (.bl (!decide (a = b))) H) : rNeD K x y H Q :=
  ⟨_, _, hx.dp, hy.dp, (eV_lay a).2.2, (eV_lay b).2.2, by rw [eV_eqv]; exact q⟩
theorem rd_eqV {a b : Vid} (hx : TD H x (eV a)) (hy : TD H y (eV b)) (q : Q (.bl (decide (a = b))) H) : rEqD K x y H Q :=
  ⟨_, _, hx.dp, hy.dp, (eV_lay a).2.2, (eV_lay b).2.2, by rw [eV_eqv]; exact q⟩
theorem rd_inMs {ms : List Mem} {f : Bool → Bool} (hx : TD H x (eM a)) (hy : TD H y (eMs ms)) (q : Q (.bl (f (decide (a ∈ ms)))) H) : rInDD K f x y H Q :=
  ⟨_, _, hx.dp, .inr hy.dp, (eM_lay a).1, eMs_lay ms, by rw [(eM_lay a).2.1]; decide, by rw [eMs_any]; exact q⟩
theorem rd_inMl {ms : List Mem} {l : Addr} {vs : List V} {f : Bool → Bool} (hx : TD H x (eM a)) (hl : H l = some (.lst vs)) (hv : TDs H vs (ms.map eM)) (q : Q (.bl (f (decide (a ∈ ms)))) H) : rInDD K f x (.ref l) H Q :=
  ⟨_, _, hx.dp, .inl (.lst (SqL.of hl) hv.dp), (eM_lay a).1, eMs_lay ms, by rw [(eM_lay a).2.1]; decide, by rw [eMs_any]; exact q⟩
end
end Mus

set_option maxRecDepth 100000
set_option maxHeartbeats 4000000
/-! Methods and makers of own classes, as DefOk is for defs. -/
namespace Mus
open PySem L2
structure MethOk (P : Program) (w : World) (K : PySem.W.Frag) (mg : Str → Option Value) (base : Heap) (CX : CXT) (C : Addr) (x : Str) (ps : List Str) (k : Nat) (sp : Sp) where
  f : Addr
  fd : FuncData
  G : FnOk P w K mg base CX k f fd ps sp
  m : Meth K C x f
  b : Binds K fd ps []
structure MethAt (K : PySem.W.Frag) (C : Addr) (x qual : Str) (ps : List Str) (st : Stmt) where
  f : Addr
  fd : FuncData
  F : Fun K x qual st f fd
  m : Meth K C x f
  b : Binds K fd ps []
def MethAt.ok {P : Program} {w : World} {K : PySem.W.Frag} {mg : Str → Option Value} {base : Heap} {CX : CXT} {C : Addr} {x qual : Str} {ps : List Str} {st : Stmt} {k : Nat} {sp : Sp} (d : MethAt K C x qual ps st) (h : ∀ {f : Addr} {fd : FuncData}, Fun K x qual st f fd → FnOk P w K mg base CX k f fd ps sp) : MethOk P w K mg base CX C x ps k sp :=
  ⟨d.f, d.fd, h d.F, d.m, d.b⟩
/-- a class whose __init__ keeps the promise -/
structure MkOk (P : Program) (w : World) (K : PySem.W.Frag) (mg : Str → Option Value) (base : Heap) (C : Addr) (x : Str) (ps : List Str) (k : Nat) (sp : Sp) where
  f : Addr
  fd : FuncData
  G : FnOk P w K mg base CX0 k f fd ps sp
  M : Mk K C f
  g : mg x = some (.ref C)
  b : Binds K fd ps []
def MethAt.mk' {P : Program} {w : World} {K : PySem.W.Frag} {mg : Str → Option Value} {base : Heap} {C : Addr} {x : Str} {qual : Str} {ps : List Str} {st : Stmt} {k : Nat} {sp : Sp} (d : MethAt K C "__init__" qual ps st) (hm : PySem.W.makesIn K C = true) (hk : PySem.W.keepIn K (.ref C) = true) (g : mg x = some (.ref C))
    (h : ∀ {f : Addr} {fd : FuncData}, Fun K "__init__" qual st f fd → FnOk P w K mg base CX0 k f fd ps sp) : MkOk P w K mg base C x ps k sp :=
  ⟨d.f, d.fd, h d.F, ⟨hm, d.m.at_, d.m.fn, hk⟩, g, d.b⟩
section
variable {X : Cx} {C : Addr} {x m : Str} {ps : List Str} {j k : Nat} {sp : Sp} {o e : Expr} {es : List Expr} {to : TE} {t : TA} {p pos apos : Pos}
theorem pmeth {pl : Sem Bool} (c : MethOk X.prog X.w X.K X.mg X.base CX0 C m ps j sp) (cl : Cls X.K C) (ho : PE X o to) (hr : Room k X.A) (ha : PA X (e :: es) t) (hj : j ≤ k := by first | decide | omega)
    (st0 : starEach (e :: es) X.env = (false, eval e X.env) :: starEach es X.env := by rfl) (pl0 : (backTo pos (starEach es X.env)).any (·.1) = false := by rfl)
    (ht : eval (.Call (.Attribute o m apos) (e :: es) [] pos) X.env = (do
      let v ← eval o X.env; standAt apos.atName; let (f, one) ← holding [v] (getMethod v m pl)
      callWith pos f one (backTo pos (starEach (e :: es) X.env)) (backToKw pos (keywordEach [] X.env))) := by rfl) :
    PE X (.Call (.Attribute o m apos) (e :: es) [] pos) (tMeth C m sp [] E0 to t) := pe_meth ho cl c.m c.G (hr.mono hj) c.b .nil pass0 ha st0 pl0 ht
theorem pmeth0 {pl : Sem Bool} (c : MethOk X.prog X.w X.K X.mg X.base CX0 C m ps j sp) (cl : Cls X.K C) (ho : PE X o to) (hr : Room k X.A) (hj : j ≤ k := by first | decide | omega)
    (ht : eval (.Call (.Attribute o m apos) [] [] pos) X.env = (do
      let v ← eval o X.env; standAt apos.atName; let (f, one) ← holding [v] (getMethod v m pl)
      callWith pos f one (backTo pos (starEach [] X.env)) (backToKw pos (keywordEach [] X.env))) := by rfl) :
    PE X (.Call (.Attribute o m apos) [] [] pos) (tMeth C m sp [] E0 to tNil) := pe_meth0 ho cl c.m c.G (hr.mono hj) c.b .nil pass0 ht
theorem pmake (c : MkOk X.prog X.w X.K X.mg X.base C x ps j sp) (hr : Room k X.A) (ha : PA X (e :: es) t) (hj : j + 1 ≤ k := by first | decide | omega) (hg : Gl X x := by rfl)
    (d0 : (x == ("__debug__" : Str)) = false := by decide) (st0 : starEach (e :: es) X.env = (false, eval e X.env) :: starEach es X.env := by rfl) (pl0 : (backTo pos (starEach es X.env)).any (·.1) = false := by rfl) :
    PE X (.Call (.Name x p) (e :: es) [] pos) (tMake C sp [] E0 t) := pe_make c.M c.G (hr.mono hj) hg c.g c.b .nil pass0 ha d0 st0 pl0
theorem pmake0 (c : MkOk X.prog X.w X.K X.mg X.base C x ps j sp) (hr : Room k X.A) (hj : j + 1 ≤ k := by first | decide | omega) (hg : Gl X x := by rfl) (d0 : (x == ("__debug__" : Str)) = false := by decide) :
    PE X (.Call (.Name x p) [] [] pos) (tMake C sp [] E0 tNil) := pe_make0 c.M c.G (hr.mono hj) hg c.g c.b .nil pass0 d0
end
end Mus

set_option maxRecDepth 100000
set_option maxHeartbeats 4000000
/-! enumerate of a list from a start: for i, x in enumerate(xs, start=n). -/
namespace Mus
open PySem PySem.Spec PyProof.Rows L2
/-- the pairs (k + i, the list's item i) -/
def ItK (K : PySem.W.Frag) (a : Addr) (k : Int) : It where
  go := fun i H => ∃ (xs : List V) (x : V), SqL K H a xs ∧ xs[i]? = some x
  yld := fun i H v H' => ∃ T x, v = .ref T ∧ H T = none ∧ H' = upd H T (.tup [.int (k + (i : Int)), x]) ∧ ∀ xs, SqL K H a xs → xs[i]? = some x
  stop := fun i H => ∃ xs : List V, SqL K H a xs ∧ xs.length = i
theorem turn_enK {P : Program} {w : World} {K : PySem.W.Frag} {elts : List Expr} {kk : Nat} {tpos : Pos} (k : Int) (a e it : Addr) :
    Turn P w K (.Tuple elts kk tpos) (ItK K a k) [e, it] e (fun i h => (∃ old, IsEnum h e it (k + (i : Int)) old) ∧ h.IsListIter it a i ∧ e ≠ it ∧ a ≠ it ∧ a ≠ e) where
  mem := by simp
  obj := fun i h st b hb => by
    obtain ⟨⟨old, he⟩, ⟨o, ho, hc, hd⟩, _⟩ := st
    rcases List.mem_cons.mp hb with z | z
    · rw [z]; exact ⟨_, he, fun v q => nomatch q⟩
    · exact ⟨o, List.mem_singleton.mp z ▸ ho, fun v q => by rw [hd] at q; cases q⟩
  keep := fun i h h' st k => by
    obtain ⟨⟨old, he⟩, hi, r⟩ := st
    exact ⟨⟨old, k e List.mem_cons_self _ he⟩, hi.at fun o q => k it (by simp) o q, r⟩
  item := by
    intro X hP hw hK hc i pins s σ H E I hf st hg
    subst hP hw hK
    obtain ⟨⟨old, he⟩, hit, hne, hai, hae⟩ := st
    obtain ⟨xs, x, hq, hx⟩ := hg
    obtain ⟨its, rv, p, hz⟩ := I.list hq
    obtain ⟨u, hu, ru⟩ := rv.get hx
    have lt : i < its.toArray.size := by simpa using (List.getElem?_eq_some_iff.mp hu).1
    refine wpAny_pyNext_enum_itemC (Draws.list (A := X.A.in1) (I.ok.hd hc) it a hai its.toArray) he ⟨hit, p.isList⟩ lt hne (by simp [hne, Ne.symm hae]) fun y h1 tk hy ho st1 hT hsz hk => ?_
    have ey : y = u := by
      have hy : its.toArray[i]? = some y := hy
      rw [List.getElem?_toArray, hu] at hy
      exact (Option.some.inj hy).symm
    subst ey
    refine ⟨_, rfl, wpAny_letOwnedTupleGo_enum (s := { s with heap := h1, toks := tk + 1 }) ho fun h2 he2 sb => ?_⟩
    have hel := Heap.lt_size he
    have hT2 := (sb.2 s.heap.objs.size (Nat.ne_of_gt hel)).trans hT
    have new : ObjOk X.prog X.w (upd H s.heap.objs.size (.tup [.int (k + (i : Int)), x])) h2 s.heap.objs.size (.tup [.int (k + (i : Int)), x]) := ⟨by show 2 ≤ sizeLine; decide, [.int (k + (i : Int)) tk, y], .cons ⟨_, rfl⟩ (.cons ru .nil), ⟨_, hT2, rfl, _, rfl⟩⟩
    have I1 : Inv X pins σ (upd H s.heap.objs.size (.tup [.int (k + (i : Int)), x])) { s with heap := h2, toks := tk + 1 } :=
      I.turnedNew (ch := [e, it]) (fun b ob hb q => by
        have n1 : b ≠ e := fun z => hb (by simp [z])
        have n2 : b ≠ it := fun z => hb (by simp [z])
        exact (sb.2 b n1).trans (hk b ob n1 n2 q)) hf (Nat.le_refl _) new
    have hfr : H s.heap.objs.size = none := I.hok.fresh (Nat.le_refl _)
    have ei : k + (i : Int) + 1 = k + ((i + 1 : Nat) : Int) := by omega
    rw [ei] at he2
    refine ⟨.ref s.heap.objs.size, _, I1, rfl, ⟨_, x, rfl, hfr, rfl, fun ys hy => by rw [I.list_inj hy hq]; exact hx⟩, ⟨⟨y, he2⟩, st1.1.at fun o q => (sb.2 it (Ne.symm hne)).trans q, hne, hai, hae⟩, fun b hb => ?_⟩
    have hb0 := (hf b hb).1
    rw [upd_ne]
    · exact hb0
    · intro z
      have hl : b < s.heap.objs.size := by
        rcases List.mem_cons.mp hb with z | z
        · rw [z]; exact hel
        · obtain ⟨o, q, _⟩ := hit
          rw [List.mem_singleton.mp z]; exact Heap.lt_size q
      exact Nat.ne_of_lt hl z
  done := by
    intro X hP hw hK hc i pins s σ H E I hf st hg
    subst hP hw hK
    obtain ⟨⟨old, he⟩, hit, hne, hai, hae⟩ := st
    obtain ⟨xs, hq, hx⟩ := hg
    obtain ⟨its, rv, p, hz⟩ := I.list hq
    have hl := rv.length
    have ei : i = its.toArray.size := by rw [← hx, hl]; rfl
    subst ei
    obtain ⟨f0, f1, f2, f3, f4, f5⟩ := hf it (by simp)
    exact wpAny_pyNext_enum_endD (Draws.list (A := X.A.in1) (I.ok.hd hc) it a hai its.toArray) he ⟨hit, p.isList⟩ fun h1 eb => ⟨rfl, I.turned (t' := s.toks) (fun b o hb q => eb b o hb q) f0 f1 f3 f4 f5⟩
  self := fun A i s Q E st h => by
    obtain ⟨⟨_, he⟩, _⟩ := st
    exact wpAny_pyIter_enum he h
theorem callWith_typeK {M : Model} {env : Env} {A : Around} {E : Value → Shared → Prop} {s : Shared} {pos : Pos} {T : String} {e : Expr} {rest : List Expr} {kws : List Keyword} {Q : Value → Shared → Prop}
    (h : wpAny M A (spliced (backTo pos (starEach (e :: rest) env))) (fun vs s₁ => wpAny M A (evalAll ((backToKw pos (keywordEach kws env)).map (·.2)))
      (fun kvs s₂ => wpAny M A (call (.type T) vs (((backToKw pos (keywordEach kws env)).filterMap (·.1)).zip kvs)) Q E s₂) E s₁) E s)
    (he : backTo pos (starEach (e :: rest) env) = (false, eval e env) :: backTo pos (starEach rest env) := by rfl)
    (hplain : (backTo pos (starEach (e :: rest) env)).any (·.1) = false := by rfl)
    (hall : (backToKw pos (keywordEach kws env)).all (·.1.isSome) = true := by rfl)
    (hkw : (backToKw pos (keywordEach kws env)).any (·.1.isNone) = false := by rfl) :
    wpAny M A (callWith pos (.type T) [] (backTo pos (starEach (e :: rest) env)) (backToKw pos (keywordEach kws env))) Q E s := by
  have g : wpAny M A (evalArgs (.type T) true (backTo pos (starEach (e :: rest) env)) (backToKw pos (keywordEach kws env))) (fun a s₁ => wpAny M A (call (.type T) ([] ++ a.pos) a.kw) Q E s₁) E s := by
    rw [he] at h ⊢
    exact evalArgs_kwB hall h
  unfold callWith
  refine wpAny_bind (wpAny_holding (wpAny_mono g (fun a s₁ h₁ => wpAny_bind (wpAny_standAt ?_)) fun _ _ x => x))
  simp only [hplain, hkw, Bool.or_false]
  refine wpAny_bind (wpAny_pure ?_)
  exact wpAny_bind (wpAny_mono h₁ (fun r s₂ hr => wpAny_bind (wpAny_holding (wpAny_point (wpAny_pure hr)))) fun _ _ x => x)
def iEnK (K : PySem.W.Frag) (ta tk : TA) : TI := fun σ H R => ta σ H fun vs H1 => tk σ H1 fun zs H2 => ∃ a xs k, vs = [.ref a] ∧ zs = [.int k] ∧ SqL K H2 a xs ∧ 0 ≤ k ∧ k < 2 ^ 62 ∧ R (ItK K a k) H2
theorem pi_enK {X : Cx} {e : Expr} {kws : List Keyword} {ta tk : TA} {p pos tpos : Pos} {elts : List Expr} {kk : Nat} (hg : Gl X "enumerate") (hm : X.mg "enumerate" = none) (ha : PA X [e] ta) (hk : PK X kws tk)
    (he : backTo pos (starEach [e] X.env) = (false, eval e X.env) :: backTo pos (starEach [] X.env) := by rfl) (hpl : (backTo pos (starEach [e] X.env)).any (·.1) = false := by rfl)
    (hall : (backToKw pos (keywordEach kws X.env)).all (·.1.isSome) = true := by rfl) (hnone : (backToKw pos (keywordEach kws X.env)).any (·.1.isNone) = false := by rfl) (hks : (backToKw pos (keywordEach kws X.env)).filterMap (·.1) = [Str.ofString "start"] := by rfl) :
    PI X (.Tuple elts kk tpos) (.Call (.Name "enumerate" p) [e] kws pos) (iEnK X.K ta tk) := by
  refine ⟨fun pins s σ H R I h => ?_⟩
  refine wpAny_Call_Name_kw (ld_blt I hg hm boot_enumerate (callWith_typeK (thn (ha.run pos pins s σ H _ I h) fun us s1 ⟨vs, H1, I1, r1, q1⟩ => thn (hk.run pos pins s1 σ H1 _ I1 q1) fun ws s2 ⟨zs, H2, I2, r2, q2⟩ => ?_) he hpl hall hnone))
  rw [hks]
  obtain ⟨a, xs, k, rfl, rfl, hq, k0, k1, q⟩ := q2
  obtain _ | ⟨r, _ | _⟩ := r1
  cases r
  obtain _ | ⟨r, _ | _⟩ := r2
  obtain ⟨t, rfl⟩ := (show ∃ t, _ = Value.int k t from r)
  obtain ⟨its, rv, p', hz⟩ := I2.list hq
  have p'' : s2.heap.IsList a its.toArray := p'.isList
  have la : a < s2.heap.objs.size := by
    obtain ⟨o, y, _⟩ := p''
    exact Heap.lt_size y
  refine enum_begins_start (begins_list a its.toArray) p'' (by omega) (by omega) fun h1 he' ho _ hk' => wpAny_pyIter_enum he' ?_
  have I3 : Inv X pins σ H2 { s2 with heap := h1 } := I2.kept (t' := s2.toks) hk'
  have e0 : k + ((0 : Nat) : Int) = k := by omega
  refine ⟨s2.heap.objs.size + 1, [s2.heap.objs.size + 1, s2.heap.objs.size], _, _, H2, rfl, I3, turn_enK k a (s2.heap.objs.size + 1) s2.heap.objs.size, ⟨⟨.none, by rw [e0]; exact he'⟩, ⟨_, ho, rfl, rfl⟩, Nat.succ_ne_self _, Nat.ne_of_lt la, Nat.ne_of_lt (Nat.lt_succ_of_lt la)⟩, fun b hb => ?_, q⟩
  have hle : s2.heap.objs.size ≤ b := by
    rcases List.mem_cons.mp hb with z | z
    · rw [z]; exact Nat.le_succ _
    · rw [List.mem_singleton.mp z]; exact Nat.le_refl _
  exact I2.fpOk hle (I2.hok.fresh hle)
theorem walk_enK {K : PySem.W.Frag} {a : Addr} {k : Int} {xs : List V} : Walk (ItK K a k) xs.length (fun H => SqL K H a xs) (YPair (fun i => some (.int (k + (i : Int)))) (fun i => xs[i]?)) where
  goes := fun i H hi h => ⟨xs, _, h, List.getElem?_eq_getElem hi⟩
  stops := fun H h => ⟨xs, h, rfl⟩
  yields := fun i H v H' hi h y => by
    obtain ⟨T, x, e1, e2, e3, e4⟩ := y
    exact ⟨T, _, x, e1, e2, e3, rfl, e4 xs h⟩
end Mus

set_option maxRecDepth 100000
set_option maxHeartbeats 4000000
namespace Mus
open PySem PySem.Spec PyProof.Rows L2
theorem valN_put {ks : NKV} {k k' : NestedKey} {b : Addr} {v : V} : valN (putN ks k b v) k' = if k' = k then some v else valN ks k' := by
  have rep : ∀ ks : NKV, (valN ks k).isSome → valN (ks.map fun x => if x.1 = k then (x.1, x.2.1, v) else x) k' = if k' = k then some v else valN ks k' := by
    intro ks
    induction ks with
    | nil => intro h; cases h
    | cons y ys ih =>
      intro h
      unfold valN at h ih ⊢
      rw [List.map_cons, List.find?_cons, List.find?_cons]
      rw [List.find?_cons] at h
      by_cases e : y.1 = k
      · simp only [e, if_true]
        by_cases e2 : k = k'
        · simp [e2]
        · have e3 : ¬ k' = k := fun z => e2 z.symm
          simp only [decide_eq_false e2, if_neg e3]
          have nomem : ∀ zs : NKV, (zs.map fun x => if x.1 = k then (x.1, x.2.1, v) else x).find? (fun x => decide (x.1 = k')) = zs.find? (fun x => decide (x.1 = k')) := by
            intro zs
            induction zs with
            | nil => rfl
            | cons z zs ih2 =>
              rw [List.map_cons, List.find?_cons, List.find?_cons]
              by_cases e4 : z.1 = k
              · simp [e4, e2, ih2]
              · simp [e4, ih2]
          rw [nomem]
      · simp only [e, if_false]
        simp only [e, decide_false] at h
        by_cases e2 : y.1 = k'
        · have e3 : ¬ k' = k := fun z => e (e2.trans z)
          simp [e2, e3]
        · simp only [decide_eq_false e2]
          exact ih h
  have app : ∀ ks : NKV, valN ks k = none → valN (ks ++ [(k, b, v)]) k' = if k' = k then some v else valN ks k' := by
    intro ks
    induction ks with
    | nil =>
      intro _
      unfold valN
      by_cases e : k' = k
      · simp [e]
      · have e3 : ¬ k = k' := fun z => e z.symm
        simp [e, e3]
    | cons y ys ih =>
      intro h
      unfold valN at h ih ⊢
      rw [List.find?_cons] at h
      rw [List.cons_append, List.find?_cons, List.find?_cons]
      by_cases e : y.1 = k
      · simp [e] at h
      · simp only [e, decide_false] at h
        by_cases e2 : y.1 = k'
        · have e3 : ¬ k' = k := fun z => e (e2.trans z)
          simp [e2, e3]
        · simp only [decide_eq_false e2]
          exact ih h
  unfold putN
  cases h : valN ks k with
  | none => simp only [Option.isSome_none]; exact app ks h
  | some x => simp only [Option.isSome_some, if_true]; exact rep ks (by rw [h]; rfl)
theorem putN_len' (ks : NKV) (k : NestedKey) (b : Addr) (v : V) : (putN ks k b v).length = if (valN ks k).isSome then ks.length else ks.length + 1 := by
  unfold putN
  split
  · rw [List.length_map]
  · rw [List.length_append]; rfl
end Mus

set_option maxRecDepth 100000
set_option maxHeartbeats 4000000
namespace Mus
open PySem PySem.Spec PyProof.Rows L2
/-! ### the order of a view, as a state -/
inductive Ltr
  | here (m : Mem) (v : Vid) (n : Int) (p : Vid)
  | cast (m : Mem) (v : Vid) (ix : Int) (z : Str)
  | order (m : Mem) (v : Vid) (place : Int) (g : Msg)
  | propose (m : Mem) (v : Vid) (ms : List Mem)
  | state (m : Mem) (v : Vid) (old : Vid) (log : List Msg) (pend : List Cst)
  | install (m : Mem) (v : Vid) (ms : List Mem) (fins : List (Vid × List Msg))
  | higher (m : Mem) (v : Vid) (p : Vid)
def eGs (gs : List Msg) : PyData := .tuple (gs.map eG)
def eCs (cs : List Cst) : PyData := .tuple (cs.map eC)
def eL : Ltr → PyData
  | .here m v n p => .tuple [.str "here", eM m, eV v, .int n, eV p]
  | .cast m v i z => .tuple [.str "cast", eM m, eV v, .int i, .str z]
  | .order m v i g => .tuple [.str "order", eM m, eV v, .int i, eG g]
  | .propose m v ms => .tuple [.str "propose", eM m, eV v, eMs ms]
  | .state m v o l c => .tuple [.str "state", eM m, eV v, eV o, eGs l, eCs c]
  | .install m v ms fs => .tuple [.str "install", eM m, eV v, eMs ms, .tuple (fs.map fun f => .tuple [eV f.1, eGs f.2])]
  | .higher m v p => .tuple [.str "higher", eM m, eV v, eV p]
abbrev Pkt := Int × Ltr
def ePk (k : Pkt) : PyData := .tuple [.int k.1, eL k.2]
structure OS where
  me : Mem
  vid : Vid
  mems : List Mem
  fd : Mem
  log : List Msg
  last : Mem → Option Int
  casts : Int
  pend : List Cst
  kept : Int → Option Msg
  kn : Nat
  told : Mem → Option Int
  tn : Nat
namespace OS
def new (me : Mem) (vid : Vid) (mems : List Mem) (fd : Mem) : OS := ⟨me, vid, mems, fd, [], fun _ => none, 0, [], fun _ => none, 0, fun _ => none, 0⟩
def others (s : OS) : List Mem := s.mems.filter fun m => !decide (m = s.me)
def deliver (s : OS) (g : Msg) : OS :=
  { s with log := s.log ++ [g], last := fun m => if m = g.1 then some g.2.1 else s.last m, pend := if g.1 = s.me then s.pend.filter (fun c => !decide (c.1 = g.2.1)) else s.pend }
/-- the letters that tell the message at the place -/
def ords (s : OS) (place : Int) (g : Msg) : List Pkt := s.others.map fun m => (m.1, .order s.me s.vid place g)
def decide (s : OS) (g : Msg) : OS × List Msg × List Pkt := (s.deliver g, [g], s.ords ((s.log.length : Int) + 1) g)
def castL (s : OS) (c : Cst) : Pkt := (s.fd.1, .cast s.me s.vid c.1 c.2)
def cast (s : OS) (z : Str) : OS × Int × List Msg × List Pkt :=
  let n := s.casts + 1
  if s.me = s.fd then
    let r := ({ s with casts := n }).decide (s.me, n, z)
    (r.1, n, r.2.1, r.2.2)
  else ({ s with casts := n, pend := s.pend ++ [(n, z)] }, n, [], [s.castL (n, z)])
def takeCast (s : OS) (m : Mem) (v : Vid) (i : Int) (z : Str) : OS × List Msg × List Pkt :=
  if s.me ≠ s.fd ∨ v ≠ s.vid ∨ m ∉ s.others then (s, [], [])
  else if i ≠ (s.last m).getD 0 + 1 then (s, [], [])
  else s.decide (m, i, z)
def drop (s : OS) (i : Int) : OS := { s with kept := fun j => if j = i then none else s.kept j, kn := s.kn - 1 }
/-- deliver what is next, as long as it is there; at most n times -/
def flush : Nat → OS → OS × List Msg
  | 0, s => (s, [])
  | n + 1, s => match s.kept ((s.log.length : Int) + 1) with
    | none => (s, [])
    | some g => let r := flush n ((s.drop ((s.log.length : Int) + 1)).deliver g); (r.1, g :: r.2)
def keep (s : OS) (i : Int) (g : Msg) : OS := if i > (s.log.length : Int) ∧ s.kept i = none then { s with kept := fun j => if j = i then some g else s.kept j, kn := s.kn + 1 } else s
def takeOrder (s : OS) (m : Mem) (v : Vid) (i : Int) (g : Msg) : OS × List Msg :=
  if s.me = s.fd ∨ m ≠ s.fd ∨ v ≠ s.vid then (s, []) else flush (s.keep i g).kn (s.keep i g)
def heard (s : OS) (m : Mem) (n : Int) : OS :=
  if m ∈ s.mems then { s with told := fun x => if x = m then some (if (s.told m).getD 0 > n then (s.told m).getD 0 else n) else s.told x, tn := if (s.told m).isSome then s.tn else s.tn + 1 } else s
def behind (s : OS) (m : Mem) : List Pkt :=
  let t := ((s.told m).getD 0).toNat
  ((s.log.drop t).take 16).mapIdx fun j g => (m.1, .order s.me s.vid (((s.told m).getD 0) + 1 + (j : Int)) g)
def again (s : OS) : List Pkt := if s.me ≠ s.fd then (s.pend.take 16).map s.castL else (s.others.map s.behind).flatten
end OS
/-! ### how it stands in the heap -/
def oF (vme vvid vms vfd : V) (lg li : Addr) (c : Int) (pn kp tl : Addr) : List (Str × V) :=
  [("_me", vme), ("_view_id", vvid), ("_members", vms), ("_founder", vfd), ("_log", .ref lg), ("_last_indexes", .ref li), ("_casts", .int c), ("_pending", .ref pn), ("_kept", .ref kp), ("_told", .ref tl)]
structure OA where
  dx : Addr
  vme : V
  vvid : V
  vms : V
  vfd : V
  lg : Addr
  li : Addr
  pn : Addr
  kp : Addr
  tl : Addr
def OA.fp (a : OA) (p : Addr) : List Addr := [p, a.lg, a.li, a.pn, a.kp, a.tl]
def KpAt (H : Hp) : Option V → Option Msg → Prop
  | none, none => True
  | some v, some g => TD H v (eG g)
  | _, _ => False
theorem KpAt.mono {H H' : Hp} {v : Option V} {g : Option Msg} (h : KpAt H v g) (t : TupK H H') : KpAt H' v g := by
  cases v <;> cases g <;> first | exact h | exact TD.mono t h
/-- a list of data at l -/
def LstAt (H : Hp) (l : Addr) (ds : List PyData) : Prop := ∃ vs, H l = some (.lst vs) ∧ TDs H vs ds
theorem LstAt.mono {H H' : Hp} {l : Addr} {ds : List PyData} (h : LstAt H l ds) (e : ∀ o, H l = some o → H' l = some o) (t : TupK H H') : LstAt H' l ds := by
  obtain ⟨vs, h1, h2⟩ := h
  exact ⟨vs, e _ h1, h2.mono t⟩
/-- a dict of ints by members at d -/
def DctAt (w : World) (H : Hp) (d : Addr) (f : Mem → Option Int) (n : Nat) : Prop := ∃ kvs, Nd w H d kvs ∧ (∀ m, valN kvs (kM m) = (f m).map V.int) ∧ kvs.length ≤ n
theorem nd_putK {κ : Type} [DecidableEq κ] {kvs : List (κ × V)} {k : κ} {v : V} (h : (kvs.map (·.1)).Nodup) : ((putK kvs k v).map (·.1)).Nodup := by
  unfold putK
  split
  · have e : (kvs.map fun kv => if kv.1 = k then (kv.1, v) else kv).map (·.1) = kvs.map (·.1) := by
      rw [List.map_map]
      refine List.map_congr_left fun x _ => ?_
      show (if x.1 = k then (x.1, v) else x).1 = x.1
      split <;> rfl
    rw [e]; exact h
  · rename_i q
    rw [List.map_append, List.nodup_append]
    refine ⟨h, by simp, fun x hx y hy e => ?_⟩
    rw [List.map_singleton, List.mem_singleton] at hy
    have hy : y = k := hy
    obtain ⟨z, hz, ez⟩ := List.mem_map.mp hx
    exact q (List.any_eq_true.mpr ⟨z, hz, by rw [ez, e, hy]; simp⟩)
theorem DctAt.mono {w : World} {H H' : Hp} {d : Addr} {f : Mem → Option Int} {n : Nat} (h : DctAt w H d f n) (e : ∀ o, H d = some o → H' d = some o) (t : TupK H H') : DctAt w H' d f n := by
  obtain ⟨kvs, h1, h2⟩ := h
  exact ⟨kvs, h1.mono (e _ h1.ob) t, h2⟩
structure OAt (w : World) (CO : Addr) (H : Hp) (p : Addr) (a : OA) (s : OS) : Prop where
  ob : H p = some (.ins CO a.dx (oF a.vme a.vvid a.vms a.vfd a.lg a.li s.casts a.pn a.kp a.tl))
  me : TD H a.vme (eM s.me)
  vid : TD H a.vvid (eV s.vid)
  ms : TD H a.vms (eMs s.mems)
  fd : TD H a.vfd (eM s.fd)
  lg : LstAt H a.lg (s.log.map eG)
  li : DctAt w H a.li s.last s.log.length
  pn : LstAt H a.pn (s.pend.map eC)
  kp : ∃ kvs, H a.kp = some (.dK kvs) ∧ (∀ i, KpAt H (valV kvs (.inl i)) (s.kept i)) ∧ kvs.length = s.kn ∧ (kvs.map (·.1)).Nodup
  tl : DctAt w H a.tl s.told s.tn
  ap : a.lg ≠ a.pn ∧ a.li ≠ a.tl
theorem OAt.mono {w : World} {CO : Addr} {H H' : Hp} {p : Addr} {a : OA} {s : OS} (h : OAt w CO H p a s) (e : ∀ b ∈ a.fp p, ∀ o, H b = some o → H' b = some o) (t : TupK H H') : OAt w CO H' p a s := by
  refine ⟨e p (by simp [OA.fp]) _ h.ob, h.me.mono t, h.vid.mono t, h.ms.mono t, h.fd.mono t, h.lg.mono (e _ (by simp [OA.fp])) t, h.li.mono (e _ (by simp [OA.fp])) t, h.pn.mono (e _ (by simp [OA.fp])) t, ?_, h.tl.mono (e _ (by simp [OA.fp])) t, h.ap⟩
  obtain ⟨kvs, h1, h2, h3⟩ := h.kp
  exact ⟨kvs, e _ (by simp [OA.fp]) _ h1, fun i => (h2 i).mono t, h3⟩
theorem OAt.same {w : World} {CO : Addr} {H H' : Hp} {p : Addr} {a : OA} {s : OS} (h : OAt w CO H p a s) (e : Same H H') : OAt w CO H' p a s := h.mono (fun b _ o x => e b o x) (TupK.of e)
/-- the places are all taken, by no tuples -/
theorem OAt.taken {w : World} {CO : Addr} {H : Hp} {p : Addr} {a : OA} {s : OS} (h : OAt w CO H p a s) : ∀ b ∈ a.fp p, ∃ o, H b = some o ∧ ∀ xs, o ≠ .tup xs := by
  obtain ⟨v1, l1, _⟩ := h.lg
  obtain ⟨v2, l2, _⟩ := h.li
  obtain ⟨v3, l3, _⟩ := h.pn
  obtain ⟨v4, l4, _⟩ := h.kp
  obtain ⟨v5, l5, _⟩ := h.tl
  intro b hb
  simp only [OA.fp, List.mem_cons, List.not_mem_nil, or_false] at hb
  rcases hb with rfl | rfl | rfl | rfl | rfl | rfl
  · exact ⟨_, h.ob, fun _ z => by cases z⟩
  · exact ⟨_, l1, fun _ z => by cases z⟩
  · exact ⟨_, l2.ob, fun _ z => by cases z⟩
  · exact ⟨_, l3, fun _ z => by cases z⟩
  · exact ⟨_, l4, fun _ z => by cases z⟩
  · exact ⟨_, l5.ob, fun _ z => by cases z⟩
/-- a change elsewhere -/
theorem OAt.upd {w : World} {CO : Addr} {H : Hp} {p q : Addr} {a : OA} {s : OS} {o : HO} (h : OAt w CO H p a s) (hq : q ∉ a.fp p) (nt : ∀ xs, H q ≠ some (.tup xs)) : OAt w CO (L2.upd H q o) p a s :=
  h.mono (fun b hb u e => by rw [upd_ne (show b ≠ q from fun z => hq (z ▸ hb))]; exact e) (tupK_upd nt)
theorem OAt.fresh {w : World} {CO : Addr} {H : Hp} {p q : Addr} {a : OA} {s : OS} (h : OAt w CO H p a s) (hq : H q = none) : q ∉ a.fp p := fun m => by
  obtain ⟨o, e, _⟩ := h.taken q m
  rw [hq] at e; cases e
/-- a new list of data -/
structure NewL (H0 : Hp) (fp : List Addr) (H : Hp) (l : Addr) (ds : List PyData) : Prop where
  at_ : LstAt H l ds
  new : H0 l = none
  out : l ∉ fp
theorem NewL.mono {H0 : Hp} {fp : List Addr} {H H' : Hp} {l : Addr} {ds : List PyData} (h : NewL H0 fp H l ds) (e : ∀ o, H l = some o → H' l = some o) (t : TupK H H') : NewL H0 fp H' l ds := ⟨h.at_.mono e t, h.new, h.out⟩
end Mus

set_option maxRecDepth 100000
set_option maxHeartbeats 4000000
/-! Events, and the first fault of each kind. -/
namespace Mus
open PySem L2
inductive Ev where
  | vw (t : Int) (m : Mem) (v : Vid) (ms : List Mem)
  | ct (t : Int) (m : Mem) (v : Vid) (i : Int) (p : Str)
  | dl (t : Int) (m : Mem) (v : Vid) (g : Msg)
  | cr (t : Int) (n : Int)
def eE : Ev → PyData
  | .vw t m v ms => .tuple [.str "view", .int t, eM m, eV v, eMs ms]
  | .ct t m v i p => .tuple [.str "cast", .int t, eM m, eV v, .int i, .str p]
  | .dl t m v g => .tuple [.str "deliver", .int t, eM m, eV v, eG g]
  | .cr t n => .tuple [.str "crash", .int t, .int n]
/-- the last view of m -/
def vwS (m : Mem) (o : Option Vid) : Ev → Option Vid
  | .vw _ m' v _ => if m' = m then some v else o
  | _ => o
def vwOf (m : Mem) (es : List Ev) : Option Vid := es.foldl (vwS m) none
theorem vwOf_snoc (m : Mem) (es : List Ev) (e : Ev) : vwOf m (es ++ [e]) = vwS m (vwOf m es) e := by
  unfold vwOf
  rw [List.foldl_append]; rfl
def dlS (m : Mem) (v : Vid) : Ev → Option Msg
  | .dl _ m' v' g => if m' = m ∧ v' = v then some g else none
  | _ => none
/-- what m delivered in v -/
def logOf (m : Mem) (v : Vid) (es : List Ev) : List Msg := es.filterMap (dlS m v)
def ctS (m : Mem) (v : Vid) : Ev → Option Cst
  | .ct _ m' v' i p => if m' = m ∧ v' = v then some (i, p) else none
  | _ => none
def castsOf (m : Mem) (v : Vid) (es : List Ev) : List Cst := es.filterMap (ctS m v)
theorem logOf_snoc (m : Mem) (v : Vid) (es : List Ev) (e : Ev) : logOf m v (es ++ [e]) = logOf m v es ++ (dlS m v e).toList := by
  unfold logOf
  rw [List.filterMap_append]
  cases h : dlS m v e <;> simp [List.filterMap, h]
theorem castsOf_snoc (m : Mem) (v : Vid) (es : List Ev) (e : Ev) : castsOf m v (es ++ [e]) = castsOf m v es ++ (ctS m v e).toList := by
  unfold castsOf
  rw [List.filterMap_append]
  cases h : ctS m v e <;> simp [List.filterMap, h]
theorem logOf_len (m : Mem) (v : Vid) (es : List Ev) : (logOf m v es).length ≤ es.length := List.length_filterMap_le _ _
theorem castsOf_len (m : Mem) (v : Vid) (es : List Ev) : (castsOf m v es).length ≤ es.length := List.length_filterMap_le _ _
/-- the first of what f finds, f told what came before -/
def firstF {α : Type} (f : List Ev → Ev → Option α) : List Ev → List Ev → Option α
  | _, [] => none
  | pre, e :: r => match f pre e with
    | some x => some x
    | none => firstF f (pre ++ [e]) r
theorem firstF_at {α : Type} {f : List Ev → Ev → Option α} {es : List Ev} {i : Nat} {e : Ev} (h : es[i]? = some e) : firstF f (es.take i) (es.drop i) = match f (es.take i) e with
    | some x => some x
    | none => firstF f (es.take (i + 1)) (es.drop (i + 1)) := by
  obtain ⟨hi, rfl⟩ := List.getElem?_eq_some_iff.mp h
  rw [List.drop_eq_getElem_cons hi, List.take_add_one, h]
  rfl
theorem take_snoc {α : Type} {es : List α} {i : Nat} {e : α} (h : es[i]? = some e) : es.take (i + 1) = es.take i ++ [e] := by
  rw [List.take_add_one, h]; rfl
/-! ### views -/
def othB (v : Vid) (ms : List Mem) : Ev → Bool
  | .vw _ _ v' ms' => decide (v' = v ∧ ms' ≠ ms)
  | _ => false
def fView (pre : List Ev) : Ev → Option PyData
  | .vw _ m v ms => if m ∉ ms then some (.tuple [.str "stranger", eM m, eV v]) else if pre.any (othB v ms) = true then some (.tuple [.str "lists", eM m, eV v]) else match vwOf m pre with
    | some old => if v.1 ≤ old.1 then some (.tuple [.str "falls", eM m, eV v]) else none
    | none => none
  | _ => none
/-! ### deliveries -/
def ctB (s : Mem) (v : Vid) (i : Int) (p : Str) : Ev → Bool
  | .ct _ m' v' i' p' => decide (m' = s ∧ v' = v ∧ i' = i ∧ p' = p)
  | _ => false
def cntM (s : Mem) (L : List Msg) : Nat := (L.filter fun g => decide (g.1 = s)).length
def fDel (pre : List Ev) : Ev → Option PyData
  | .dl _ m v g => if vwOf m pre ≠ some v then some (.tuple [.str "view", eM m, eG g]) else if pre.any (ctB g.1 v g.2.1 g.2.2) = false then some (.tuple [.str "uncast", eM m, eG g])
    else if g.2.1 ≠ (cntM g.1 (logOf m v pre) : Nat) + 1 then some (.tuple [.str "index", eM m, eG g]) else none
  | _ => none
/-! ### causes -/
def ciB (s : Mem) (v : Vid) (i : Int) : Ev → Bool
  | .ct _ m' v' i' _ => decide (m' = s ∧ v' = v ∧ i' = i)
  | _ => false
def fCause (all : List Ev) (pre : List Ev) : Ev → Option PyData
  | .dl _ m v g => match all.findIdx? (ciB g.1 v g.2.1) with
    | some j => if (logOf g.1 v (all.take j)).all (fun c => decide (c ∈ logOf m v pre)) = true then none else some (.tuple [.str "cause", eM m, eG g])
    | none => none
  | _ => none
/-! ### together -/
def tgS (v : Vid) (old : Vid) (pre : List Ev) : Ev → Option (Mem × List Msg)
  | .vw _ m v' _ => if v' = v ∧ vwOf m pre = some old then some (m, logOf m old pre) else none
  | _ => none
def fTog (pre : List Ev) : Ev → Option PyData
  | .vw _ m v _ => match vwOf m pre with
    | none => none
    | some old => match firstF (tgS v old) [] pre with
      | none => none
      | some (m1, l1) => if l1 ≠ logOf m old pre then some (.tuple [.str "apart", eM m1, eM m, eV v]) else none
  | _ => none
/-! ### own -/
def fOwn (pre : List Ev) : Ev → Option PyData
  | .vw _ m _ _ => match vwOf m pre with
    | none => none
    | some old => if (castsOf m old pre).all (fun c => decide (((m, c.1, c.2) : Msg) ∈ logOf m old pre)) = true then none else some (.tuple [.str "own", eM m, eV old])
  | _ => none
/-- faults, all told -/
def faults (es : List Ev) : List (Option PyData) := [firstF fView [] es, firstF fDel [] es, firstF (fCause es) [] es, firstF fTog [] es, firstF fOwn [] es]
end Mus

set_option maxRecDepth 100000
set_option maxHeartbeats 4000000
/-! Dicts keyed by nested tuples: get with one argument, setdefault; data as keys; what such a dict holds, as a function. -/
namespace Mus
open PySem PySem.Spec PyProof.Rows L2
section
variable {X : Cx} {pins : List (Addr × Obj)} {σ : L2.St} {H : Hp} {s : Shared} {a b : Addr} {v : V} {u r : Value} {A : Around} {E : Value → Shared → Prop} {ks : NKV} {k : NestedKey}
theorem n_get1 {o : Option V} {Q : Value → Shared → Prop} (hu : A.units + 64 < cLine) (I : Inv X pins σ H s) (g : NGet X.w H a b o) (h : ∀ w' s', Inv X pins σ H s' → RelV (o.getD .non) w' → Q w' s') :
    wpAny (model X.prog X.w) A (call (.builtin "dict.get") [.ref a, .ref b]) Q E s := by
  obtain ⟨ks, k, n, nk, dk, l⟩ := g
  obtain ⟨xs, rel, dd⟩ := n.heap I
  refine call_meetsIn PySem.F.slot_dict_get dd.typeIs PySem.F.entry_dict_get (PySem.F.args_dict_get_2 _ _) (meetsH_dict_get (nestedKind X.prog X.w) a b n.sm) ⟨nd_room hu, k, xs, ⟨nk.is I.hok rfl, dk⟩, dd, h _ _ (I.tok _) ?_⟩
  rw [l]
  exact (rel.val k).getD rfl
theorem n_setd {z : V} {f : Value} {Q : Value → Shared → Prop} (hu : A.units + 64 < cLine) (I : Inv X pins σ H s) (n : Nd X.w H a ks) (nk : NK H (.ref b) k) (dk : k.depth ≤ 8) (rz : RelV z f)
    (h1 : ∀ v, valN ks k = some v → ∀ w' s', Inv X pins σ H s' → RelV v w' → Q w' s') (h2 : valN ks k = none → ∀ s', Inv X pins σ (upd H a (ndO X.w a (putN ks k b z))) s' → Q f s') :
    wpAny (model X.prog X.w) A (call (.builtin "dict.setdefault") [.ref a, .ref b, f]) Q E s := by
  obtain ⟨xs, rel, dd⟩ := n.heap I
  have hz : xs.length ≤ sizeLine := by rw [← Paired.length rel]; exact n.sz
  have rv := rel.val k
  refine call_setdefault_heap (knd := nestedKind X.prog X.w) (hsz := hz) (nd_room hu) ⟨nk.is I.hok rfl, dk⟩ n.sm dd (fun p hp => ?_) (fun hn h' dd' hs => ?_)
  · rw [hp] at rv
    cases e : valN ks k with
    | none => rw [e] at rv; exact rv.elim
    | some v =>
      rw [e] at rv
      exact h1 v e _ _ (I.tok _) rv
  · have e : valN ks k = none := by
      rw [hn] at rv
      cases e : valN ks k with
      | none => rfl
      | some v => rw [e] at rv; exact rv.elim
    refine h2 e _ ?_
    obtain ⟨q, es, ep, hq, h2, h3, h4, _, h5⟩ := dd'
    refine d_write I (by rw [n.ob]; exact True.intro) hs ⟨q, hq⟩ ⟨⟨_, q, es, ep, rel.put k b rz, hq, h2, h3, h4⟩, ⟨q, hq⟩, fun h1 h2 p st => ?_⟩
    obtain ⟨ys, o, es', ep', p1, p2, p3⟩ := p
    exact ⟨ys, o, es', ep', p1, st _ p2, p3⟩
end
def tNGet1 (w : World) (td ty : TE) : TE := fun σ H Q => td σ H fun x H1 => ∃ a ks, x = .ref a ∧ Nd w H1 a ks ∧ ty σ H1 fun y H2 => ∃ b o, y = .ref b ∧ NGet w H2 a b o ∧ Q (o.getD .non) H2
def tNSetd (w : World) (td ty tx : TE) : TE := fun σ H Q => td σ H fun x H1 => ∃ a ks0, x = .ref a ∧ Nd w H1 a ks0 ∧ ty σ H1 fun y H2 => tx σ H2 fun z H3 => ∃ b ks k, y = .ref b ∧ Nd w H3 a ks ∧ NK H3 (.ref b) k ∧ k.depth ≤ 8 ∧
  (∀ v, valN ks k = some v → Q v H3) ∧ (valN ks k = none → Q z (upd H3 a (ndO w a (putN ks k b z))))
section
variable {X : Cx} {o i e f value : Expr} {pos pos' apos cpos : Pos} {td ty tv tx : TE}
theorem pe_nget1 (hu : X.A.units + 64 < cLine) (ho : PE X o td) (he : PE X e ty) (m : M1 X o "get" apos e cpos) : PE X (.Call (.Attribute o "get" apos) [e] [] cpos) (tNGet1 X.w td ty) := by
  refine ⟨fun pins s σ H Q I h => ?_⟩
  refine wpAny_Call_method m.base m.few m.line PySem.F.plainAttrs_dict PySem.F.slot_dict_get PySem.F.type_dict_get (thn (ho.run pins s σ H _ I h) fun u s1 ⟨x, H1, I1, rx, a, ks, ex, n, q1⟩ => ?_)
  subst ex
  obtain rfl : u = Value.ref a := rx
  obtain ⟨xs, rel, dd⟩ := n.heap I1
  refine ⟨dd.typeIs, fun b q => ?_, ?_⟩
  · cases q
    obtain ⟨ob, _, _, h1, h2, _⟩ := dd
    exact ⟨ob, h1, h2.2.1⟩
  rw [m.trees]
  refine Calls.callWith_builtin rfl (Calls.evalArgs_plain (Calls.spliced_cons (thn (he.run pins s1 σ H1 _ I1 q1) fun iv s2 ⟨y, H2, I2, ry, b, ov, ey, g, q2⟩ => Calls.spliced_nil ?_)))
  subst ey
  obtain rfl : iv = Value.ref b := ry
  exact n_get1 hu I2 g fun w' s4 I4 rw' => ⟨_, H2, I4, rw', q2⟩
theorem pe_nsetd (hu : X.A.units + 64 < cLine) (ho : PE X o td) (he : PE X e ty) (hf : PE X f tx) (m : M2 X o "setdefault" apos e f cpos) : PE X (.Call (.Attribute o "setdefault" apos) [e, f] [] cpos) (tNSetd X.w td ty tx) := by
  refine ⟨fun pins s σ H Q I h => ?_⟩
  refine wpAny_Call_method m.base m.few m.line PySem.F.plainAttrs_dict PySem.F.slot_dict_setdefault PySem.F.type_dict_setdefault (thn (ho.run pins s σ H _ I h) fun u s1 ⟨x, H1, I1, rx, a, ks0, ex, n, q1⟩ => ?_)
  subst ex
  obtain rfl : u = Value.ref a := rx
  obtain ⟨xs, rel, dd⟩ := n.heap I1
  refine ⟨dd.typeIs, fun b q => ?_, ?_⟩
  · cases q
    obtain ⟨ob, _, _, h1, h2, _⟩ := dd
    exact ⟨ob, h1, h2.2.1⟩
  rw [m.trees]
  refine Calls.callWith_builtin rfl (Calls.evalArgs_plain (Calls.spliced_cons (thn (he.run pins s1 σ H1 _ I1 q1) fun iv s2 ⟨y, H2, I2, ry, q2⟩ =>
    Calls.spliced_cons (thn (hf.run pins s2 σ H2 _ I2 q2) fun fv s3 ⟨z, H3, I3, rz, b, ks, k, ey, n3, nk, dk, q3, q4⟩ => Calls.spliced_nil ?_))))
  subst ey
  obtain rfl : iv = Value.ref b := ry
  exact n_setd hu I3 n3 nk dk rz (fun v hv w' s4 I4 rw' => ⟨v, _, I4, rw', q3 v hv⟩) fun hn s4 I4 => ⟨z, _, I4, rz, q4 hn⟩
end
/-! ### data as keys -/
mutual
def kOf : PyData → NestedKey
  | .int i => .num i
  | .str x => .text x
  | .tuple ds => .tup (kOfs ds)
  | _ => .none
def kOfs : List PyData → List NestedKey
  | [] => []
  | d :: ds => kOf d :: kOfs ds
end
mutual
/-- ints, texts, None and tuples of them -/
def pln : PyData → Bool
  | .int _ => true
  | .str _ => true
  | .none => true
  | .tuple ds => plns ds
  | _ => false
def plns : List PyData → Bool
  | [] => true
  | d :: ds => pln d && plns ds
end
mutual
theorem TD.nkD {H : Hp} : ∀ {v : V} {d : PyData}, TD H v d → pln d = true → NK H v (kOf d)
  | _, _, .non, _ => .non
  | _, _, .bl b, h => by cases h
  | _, _, .int i, _ => .int i
  | _, _, .str x, _ => .str x
  | _, _, .tup h l r, hp => .tup h (TDs.nkD r hp)
theorem TDs.nkD {H : Hp} : ∀ {vs : List V} {ds : List PyData}, TDs H vs ds → plns ds = true → NKs H vs (kOfs ds)
  | _, _, .nil, _ => .nil
  | _, _, .cons a r, hp => by
    have hp : (pln _ && plns _) = true := hp
    rw [Bool.and_eq_true] at hp
    exact .cons (TD.nkD a hp.1) (TDs.nkD r hp.2)
end
mutual
theorem kOf_inj : ∀ {d e : PyData}, pln d = true → pln e = true → kOf d = kOf e → d = e
  | .int i, .int j, _, _, h => by injection h with h; rw [h]
  | .str x, .str y, _, _, h => by injection h with h; rw [h]
  | .none, .none, _, _, _ => rfl
  | .tuple ds, .tuple es, hd, he, h => by injection h with h; rw [kOfs_inj hd he h]
  | .int _, .str _, _, _, h => by cases h
  | .int _, .none, _, _, h => by cases h
  | .int _, .tuple _, _, _, h => by cases h
  | .str _, .int _, _, _, h => by cases h
  | .str _, .none, _, _, h => by cases h
  | .str _, .tuple _, _, _, h => by cases h
  | .none, .int _, _, _, h => by cases h
  | .none, .str _, _, _, h => by cases h
  | .none, .tuple _, _, _, h => by cases h
  | .tuple _, .int _, _, _, h => by cases h
  | .tuple _, .str _, _, _, h => by cases h
  | .tuple _, .none, _, _, h => by cases h
theorem kOfs_inj : ∀ {ds es : List PyData}, plns ds = true → plns es = true → kOfs ds = kOfs es → ds = es
  | [], [], _, _, _ => rfl
  | [], _ :: _, _, _, h => by cases h
  | _ :: _, [], _, _, h => by cases h
  | d :: ds, e :: es, hd, he, h => by
    have hd : (pln d && plns ds) = true := hd
    have he : (pln e && plns es) = true := he
    rw [Bool.and_eq_true] at hd he
    have h : kOf d :: kOfs ds = kOf e :: kOfs es := h
    injection h with h1 h2
    rw [kOf_inj hd.1 he.1 h1, kOfs_inj hd.2 he.2 h2]
end
/-! ### what such a dict holds -/
def OR {α : Type} (R : V → α → Prop) : Option V → Option α → Prop
  | some v, some x => R v x
  | none, none => True
  | _, _ => False
theorem OR.imp {α : Type} {R S : V → α → Prop} (f : ∀ v x, R v x → S v x) : ∀ {o : Option V} {p : Option α}, OR R o p → OR S o p
  | some _, some _, h => f _ _ h
  | none, none, _ => trivial
  | some _, none, h => h
  | none, some _, h => h
theorem OR.iss {α : Type} {R : V → α → Prop} : ∀ {o : Option V} {p : Option α}, OR R o p → o.isSome = p.isSome
  | some _, some _, _ => rfl
  | none, none, _ => rfl
  | some _, none, h => h.elim
  | none, some _, h => h.elim
/-- the dict at d holds g, by keys key -/
structure NM {κ α : Type} (w : World) (H : Hp) (d : Addr) (n : Nat) (key : κ → NestedKey) (R : V → α → Prop) (g : κ → Option α) : Prop where
  ex : ∃ ks, Nd w H d ks ∧ ks.length ≤ n ∧ (∀ x, OR R (valN ks (key x)) (g x)) ∧ ∀ k, (∀ x, k ≠ key x) → valN ks k = none
section
variable {κ α : Type} {w : World} {H H' : Hp} {d b : Addr} {n m : Nat} {key : κ → NestedKey} {R S : V → α → Prop} {g : κ → Option α}
theorem NM.mono (h : NM w H d n key R g) (e : H' d = H d) (t : TupK H H') (f : ∀ v x, R v x → S v x) (l : n ≤ m) : NM w H' d m key S g := by
  obtain ⟨ks, n1, n2, n3, n4⟩ := h.ex
  exact ⟨ks, n1.mono (by rw [e]; exact n1.ob) t, Nat.le_trans n2 l, fun x => (n3 x).imp f, n4⟩
theorem NM.ndo (h : NM w H d n key R g) : ∃ ks, H d = some (ndO w d ks) := by
  obtain ⟨ks, n1, _⟩ := h.ex
  exact ⟨ks, n1.ob⟩
theorem NM.ne_lst (h : NM w H d n key R g) {c : Addr} {xs : List V} (hc : H c = some (.lst xs)) : c ≠ d := fun z => by
  obtain ⟨ks, e⟩ := h.ndo
  rw [z, e] at hc; cases hc
theorem nm_new (h : (d == sysModules) = false) : NM w (upd H d (ndO w d [])) d 0 key R fun _ => none :=
  ⟨[], nd_new h, Nat.le_refl _, fun x => trivial, fun k _ => rfl⟩
/-- what stands at key x now -/
def setM {κ α : Type} [DecidableEq κ] (g : κ → Option α) (x : κ) (a : α) : κ → Option α := fun y => if y = x then some a else g y
theorem NM.put [DecidableEq κ] {ks : NKV} {x : κ} {v : V} {a : α} (inj : ∀ x y, key x = key y → x = y) (n1 : Nd w H d ks) (n2 : ks.length ≤ n) (n3 : ∀ x, OR R (valN ks (key x)) (g x)) (n4 : ∀ k, (∀ x, k ≠ key x) → valN ks k = none)
    (hk : NK H (.ref b) (key x)) (dk : (key x).depth ≤ 8) (hl : n < 1000000) (hv : S v a) (f : ∀ v x, R v x → S v x) : NM w (upd H d (ndO w d (putN ks (key x) b v))) d (n + 1) key S (setM g x a) := by
  have hs := sl
  refine ⟨_, n1.put hk dk (by omega), Nat.le_trans (putN_len _ _ _ _) (by omega), fun y => ?_, fun k hn => ?_⟩
  · rw [valN_put]
    unfold setM
    by_cases e : y = x
    · rw [e, if_pos rfl, if_pos rfl]; exact hv
    · rw [if_neg e, if_neg fun z => e (inj _ _ z)]
      exact (n3 y).imp f
  · rw [valN_put, if_neg (hn x)]
    exact n4 k hn
theorem NM.get {x : κ} (h : NM w H d n key R g) (hk : NK H (.ref b) (key x)) (dk : (key x).depth ≤ 8) : ∃ o, NGet w H d b o ∧ OR R o (g x) := by
  obtain ⟨ks, n1, _, n3, _⟩ := h.ex
  exact ⟨_, ⟨ks, _, n1, hk, dk, rfl⟩, n3 x⟩
theorem NM.getN {k : NestedKey} (h : NM w H d n key R g) (hk : NK H (.ref b) k) (dk : k.depth ≤ 8) (hn : ∀ x, k ≠ key x) : NGet w H d b none := by
  obtain ⟨ks, n1, _, _, n4⟩ := h.ex
  exact ⟨ks, k, n1, hk, dk, (n4 k hn).symm⟩
end
end Mus

set_option maxRecDepth 100000
set_option maxHeartbeats 4000000
namespace Mus
open PySem PySem.Spec PyProof.Rows L2
/-! ### equality of plain data -/
mutual
theorem pln_eqv : ∀ {d e : PyData}, pln d = true → pln e = true → (PyData.eqv d e = true ↔ d = e)
  | .int i, .int j, _, _ => by
    show (i == j) = true ↔ _
    rw [beq_iff_eq]
    exact ⟨fun h => by rw [h], fun h => by injection h⟩
  | .str x, .str y, _, _ => by
    show (x == y) = true ↔ _
    rw [beq_iff_eq]
    exact ⟨fun h => by rw [h], fun h => by injection h⟩
  | .none, .none, _, _ => ⟨fun _ => rfl, fun _ => rfl⟩
  | .tuple ds, .tuple es, hd, he => by
    show PyData.eqvAll ds es = true ↔ _
    rw [plns_eqv hd he]
    exact ⟨fun h => by rw [h], fun h => by injection h⟩
  | .int _, .str _, _, _ => ⟨fun h => (by cases h), fun h => (by cases h)⟩
  | .int _, .none, _, _ => ⟨fun h => (by cases h), fun h => (by cases h)⟩
  | .int _, .tuple _, _, _ => ⟨fun h => (by cases h), fun h => (by cases h)⟩
  | .str _, .int _, _, _ => ⟨fun h => (by cases h), fun h => (by cases h)⟩
  | .str _, .none, _, _ => ⟨fun h => (by cases h), fun h => (by cases h)⟩
  | .str _, .tuple _, _, _ => ⟨fun h => (by cases h), fun h => (by cases h)⟩
  | .none, .int _, _, _ => ⟨fun h => (by cases h), fun h => (by cases h)⟩
  | .none, .str _, _, _ => ⟨fun h => (by cases h), fun h => (by cases h)⟩
  | .none, .tuple _, _, _ => ⟨fun h => (by cases h), fun h => (by cases h)⟩
  | .tuple _, .int _, _, _ => ⟨fun h => (by cases h), fun h => (by cases h)⟩
  | .tuple _, .str _, _, _ => ⟨fun h => (by cases h), fun h => (by cases h)⟩
  | .tuple _, .none, _, _ => ⟨fun h => (by cases h), fun h => (by cases h)⟩
theorem plns_eqv : ∀ {ds es : List PyData}, plns ds = true → plns es = true → (PyData.eqvAll ds es = true ↔ ds = es)
  | [], [], _, _ => ⟨fun _ => rfl, fun _ => rfl⟩
  | [], _ :: _, _, _ => ⟨fun h => (by cases h), fun h => (by cases h)⟩
  | _ :: _, [], _, _ => ⟨fun h => (by cases h), fun h => (by cases h)⟩
  | d :: ds, e :: es, hd, he => by
    have hd : (pln d && plns ds) = true := hd
    have he : (pln e && plns es) = true := he
    rw [Bool.and_eq_true] at hd he
    show (PyData.eqv d e && PyData.eqvAll ds es) = true ↔ _
    rw [Bool.and_eq_true, pln_eqv hd.1 he.1, plns_eqv hd.2 he.2, List.cons.injEq]
end
theorem eqv_dec {d e : PyData} {p : Prop} [Decidable p] (hd : pln d = true) (he : pln e = true) (h : d = e ↔ p) : PyData.eqv d e = decide p := by
  rw [Bool.eq_iff_iff, decide_eq_true_eq, pln_eqv hd he, h]
theorem eM_inj {a b : Mem} (h : eM a = eM b) : a = b := by
  unfold eM at h
  injection h with h
  injection h with h1 h
  injection h with h2 _
  injection h1 with h1
  injection h2 with h2
  exact Prod.ext h1 h2
theorem eV_inj {a b : Vid} (h : eV a = eV b) : a = b := by
  unfold eV at h
  injection h with h
  injection h with h1 h
  injection h with h2 _
  injection h1 with h1
  exact Prod.ext h1 (eM_inj h2)
theorem eG_inj {a b : Msg} (h : eG a = eG b) : a = b := by
  unfold eG at h
  injection h with h
  injection h with h1 h
  injection h with h2 h
  injection h with h3 _
  injection h2 with h2
  injection h3 with h3
  exact Prod.ext (eM_inj h1) (Prod.ext h2 h3)
theorem map_inj {α : Type} {f : α → PyData} (hf : ∀ a b, f a = f b → a = b) : ∀ {l m : List α}, l.map f = m.map f → l = m
  | [], [], _ => rfl
  | [], _ :: _, h => by cases h
  | _ :: _, [], h => by cases h
  | a :: l, b :: m, h => by
    rw [List.map_cons, List.map_cons, List.cons.injEq] at h
    rw [hf _ _ h.1, map_inj hf h.2]
theorem eMs_inj {a b : List Mem} (h : eMs a = eMs b) : a = b := by
  unfold eMs at h
  injection h with h
  exact map_inj (fun _ _ => eM_inj) h
theorem eM_pln (m : Mem) : pln (eM m) = true := rfl
theorem eV_pln (v : Vid) : pln (eV v) = true := rfl
theorem eG_pln (g : Msg) : pln (eG g) = true := rfl
theorem plns_map {α : Type} {f : α → PyData} (hf : ∀ a, pln (f a) = true) : ∀ l : List α, plns (l.map f) = true
  | [] => rfl
  | a :: l => by
    show (pln (f a) && plns (l.map f)) = true
    rw [hf a, plns_map hf l]; rfl
theorem eMs_pln (ms : List Mem) : pln (eMs ms) = true := plns_map eM_pln ms
/-! ### laid, and how deep -/
theorem lay_map {α : Type} {f : α → PyData} {n : Nat} (h : ∀ a, (f a).canLay0 = true ∧ (f a).depth ≤ n) : ∀ l : List α, PyData.canLayAll0 (l.map f) = true ∧ PyData.depthAll (l.map f) ≤ n
  | [] => ⟨rfl, Nat.zero_le _⟩
  | a :: l => by
    have i := lay_map h l
    have j := h a
    rw [List.map_cons]
    refine ⟨by simp [PyData.canLayAll0, i.1, j.1], ?_⟩
    simp [PyData.depthAll]
    omega
theorem shaped_of {d : PyData} (h : d.canLay0 = true) (l : d.depth ≤ 10) : SeqAt.shaped d = true := by
  unfold SeqAt.shaped
  rw [Bool.and_eq_true, decide_eq_true_eq]
  exact ⟨h, by omega⟩
theorem eMs_sh (ms : List Mem) : SeqAt.shaped (eMs ms) = true := by
  have h := lay_map (f := eM) (n := 1) (fun m => ⟨(eM_lay m).1, by rw [(eM_lay m).2.1]; exact Nat.le_refl _⟩) ms
  refine shaped_of (by simp [eMs, PyData.canLay0, h.1]) ?_
  unfold eMs
  have := h.2
  simp [PyData.depth]
  omega
/-! ### events in the heap -/
theorem TD.evw {H : Hp} {v : V} {t : Int} {m : Mem} {vid : Vid} {ms : List Mem} (h : TD H v (eE (.vw t m vid ms))) : ∃ b x y z, v = .ref b ∧ H b = some (.tup [.str "view", .int t, x, y, z]) ∧ TD H x (eM m) ∧ TD H y (eV vid) ∧ TD H z (eMs ms) := by
  unfold eE at h
  obtain _ | _ | _ | _ | @⟨b, xs, _, hb, _, r⟩ := h
  obtain _ | @⟨_, _, _, _, r1, r⟩ := r
  obtain _ | @⟨_, _, _, _, r2, r⟩ := r
  obtain _ | @⟨_, _, _, _, r3, r⟩ := r
  obtain _ | @⟨_, _, _, _, r4, r⟩ := r
  obtain _ | @⟨_, _, _, _, r5, r⟩ := r
  cases r; cases r1; cases r2
  exact ⟨b, _, _, _, rfl, hb, r3, r4, r5⟩
theorem TD.ect {H : Hp} {v : V} {t i : Int} {m : Mem} {vid : Vid} {p : Str} (h : TD H v (eE (.ct t m vid i p))) : ∃ b x y, v = .ref b ∧ H b = some (.tup [.str "cast", .int t, x, y, .int i, .str p]) ∧ TD H x (eM m) ∧ TD H y (eV vid) := by
  unfold eE at h
  obtain _ | _ | _ | _ | @⟨b, xs, _, hb, _, r⟩ := h
  obtain _ | @⟨_, _, _, _, r1, r⟩ := r
  obtain _ | @⟨_, _, _, _, r2, r⟩ := r
  obtain _ | @⟨_, _, _, _, r3, r⟩ := r
  obtain _ | @⟨_, _, _, _, r4, r⟩ := r
  obtain _ | @⟨_, _, _, _, r5, r⟩ := r
  obtain _ | @⟨_, _, _, _, r6, r⟩ := r
  cases r; cases r1; cases r2; cases r5; cases r6
  exact ⟨b, _, _, rfl, hb, r3, r4⟩
theorem TD.edl {H : Hp} {v : V} {t : Int} {m : Mem} {vid : Vid} {g : Msg} (h : TD H v (eE (.dl t m vid g))) : ∃ b x y z, v = .ref b ∧ H b = some (.tup [.str "deliver", .int t, x, y, z]) ∧ TD H x (eM m) ∧ TD H y (eV vid) ∧ TD H z (eG g) := by
  unfold eE at h
  obtain _ | _ | _ | _ | @⟨b, xs, _, hb, _, r⟩ := h
  obtain _ | @⟨_, _, _, _, r1, r⟩ := r
  obtain _ | @⟨_, _, _, _, r2, r⟩ := r
  obtain _ | @⟨_, _, _, _, r3, r⟩ := r
  obtain _ | @⟨_, _, _, _, r4, r⟩ := r
  obtain _ | @⟨_, _, _, _, r5, r⟩ := r
  cases r; cases r1; cases r2
  exact ⟨b, _, _, _, rfl, hb, r3, r4, r5⟩
theorem TD.ecr {H : Hp} {v : V} {t n : Int} (h : TD H v (eE (.cr t n))) : ∃ b, v = .ref b ∧ H b = some (.tup [.str "crash", .int t, .int n]) := by
  unfold eE at h
  obtain _ | _ | _ | _ | @⟨b, xs, _, hb, _, r⟩ := h
  obtain _ | @⟨_, _, _, _, r1, r⟩ := r
  obtain _ | @⟨_, _, _, _, r2, r⟩ := r
  obtain _ | @⟨_, _, _, _, r3, r⟩ := r
  cases r; cases r1; cases r2; cases r3
  exact ⟨b, rfl, hb⟩
theorem TDs.map_at {α : Type} {f : α → PyData} {H : Hp} {us : List V} {l : List α} {i : Nat} {v : V} (h : TDs H us (l.map f)) (hi : us[i]? = some v) : ∃ x, l[i]? = some x ∧ TD H v (f x) := by
  obtain ⟨d, hd, td⟩ := h.at hi
  rw [List.getElem?_map] at hd
  cases e : l[i]? with
  | none => rw [e] at hd; cases hd
  | some x => rw [e] at hd; cases hd; exact ⟨x, rfl, td⟩
theorem fView_vw (pre : List Ev) (t : Int) (m : Mem) (v : Vid) (ms : List Mem) : fView pre (.vw t m v ms) = if m ∉ ms then some (.tuple [.str "stranger", eM m, eV v]) else if pre.any (othB v ms) = true then some (.tuple [.str "lists", eM m, eV v]) else match vwOf m pre with
    | some old => if v.1 ≤ old.1 then some (.tuple [.str "falls", eM m, eV v]) else none
    | none => none := rfl
theorem fDel_dl (pre : List Ev) (t : Int) (m : Mem) (v : Vid) (g : Msg) : fDel pre (.dl t m v g) = if vwOf m pre ≠ some v then some (.tuple [.str "view", eM m, eG g]) else if pre.any (ctB g.1 v g.2.1 g.2.2) = false then some (.tuple [.str "uncast", eM m, eG g])
    else if g.2.1 ≠ (cntM g.1 (logOf m v pre) : Nat) + 1 then some (.tuple [.str "index", eM m, eG g]) else none := rfl
theorem fCause_dl (all pre : List Ev) (t : Int) (m : Mem) (v : Vid) (g : Msg) : fCause all pre (.dl t m v g) = match all.findIdx? (ciB g.1 v g.2.1) with
    | some j => if (logOf g.1 v (all.take j)).all (fun c => decide (c ∈ logOf m v pre)) = true then none else some (.tuple [.str "cause", eM m, eG g])
    | none => none := rfl
theorem fTog_vw (pre : List Ev) (t : Int) (m : Mem) (v : Vid) (ms : List Mem) : fTog pre (.vw t m v ms) = match vwOf m pre with
    | none => none
    | some old => match firstF (tgS v old) [] pre with
      | none => none
      | some (m1, l1) => if l1 ≠ logOf m old pre then some (.tuple [.str "apart", eM m1, eM m, eV v]) else none := rfl
theorem fOwn_vw (pre : List Ev) (t : Int) (m : Mem) (v : Vid) (ms : List Mem) : fOwn pre (.vw t m v ms) = match vwOf m pre with
    | none => none
    | some old => if (castsOf m old pre).all (fun c => decide (((m, c.1, c.2) : Msg) ∈ logOf m old pre)) = true then none else some (.tuple [.str "own", eM m, eV old]) := rfl
theorem vwOf_vw (m' : Mem) (pre : List Ev) (t : Int) (m : Mem) (v : Vid) (ms : List Mem) : vwOf m' (pre ++ [.vw t m v ms]) = if m = m' then some v else vwOf m' pre := vwOf_snoc _ _ _
/-! ### words that differ -/
theorem w_vc : V.str "view" ≠ .str "cast" := fun h => absurd (V.str.inj h) (by decide +kernel)
theorem w_vd : V.str "view" ≠ .str "deliver" := fun h => absurd (V.str.inj h) (by decide +kernel)
theorem w_cv : V.str "cast" ≠ .str "view" := fun h => absurd (V.str.inj h) (by decide +kernel)
theorem w_cd : V.str "cast" ≠ .str "deliver" := fun h => absurd (V.str.inj h) (by decide +kernel)
theorem w_dv : V.str "deliver" ≠ .str "view" := fun h => absurd (V.str.inj h) (by decide +kernel)
theorem w_dc : V.str "deliver" ≠ .str "cast" := fun h => absurd (V.str.inj h) (by decide +kernel)
theorem w_xv : V.str "crash" ≠ .str "view" := fun h => absurd (V.str.inj h) (by decide +kernel)
theorem w_xc : V.str "crash" ≠ .str "cast" := fun h => absurd (V.str.inj h) (by decide +kernel)
theorem w_xd : V.str "crash" ≠ .str "deliver" := fun h => absurd (V.str.inj h) (by decide +kernel)
/-! ### keys -/
def kMm (m : Mem) : NestedKey := kOf (eM m)
def kVv (v : Vid) : NestedKey := kOf (eV v)
theorem kMm_inj (a b : Mem) (h : kMm a = kMm b) : a = b := eM_inj (kOf_inj (eM_pln a) (eM_pln b) h)
theorem kVv_inj (a b : Vid) (h : kVv a = kVv b) : a = b := eV_inj (kOf_inj (eV_pln a) (eV_pln b) h)
theorem kMm_depth (m : Mem) : (kMm m).depth ≤ 8 := by simp [kMm, kOf, kOfs, eM, NestedKey.depth, NestedKey.depthAll]
theorem kVv_depth (v : Vid) : (kVv v).depth ≤ 8 := by simp [kVv, kOf, kOfs, eV, eM, NestedKey.depth, NestedKey.depthAll]
theorem TD.nkM {H : Hp} {v : V} {m : Mem} (h : TD H v (eM m)) : ∃ a, v = .ref a ∧ NK H (.ref a) (kMm m) := by
  have := h.nkD (eM_pln m)
  obtain _ | _ | _ | _ | @⟨a, xs, _, _, _, _⟩ := h
  exact ⟨a, rfl, this⟩
theorem TD.nkV {H : Hp} {v : V} {m : Vid} (h : TD H v (eV m)) : ∃ a, v = .ref a ∧ NK H (.ref a) (kVv m) := by
  have := h.nkD (eV_pln m)
  obtain _ | _ | _ | _ | @⟨a, xs, _, _, _, _⟩ := h
  exact ⟨a, rfl, this⟩
theorem TD.int_fst {H : Hp} {v : V} {d : PyData} {k : Int} {e : PyData} (h : TD H v (.tuple [.int k, e])) : ∃ b u, v = .ref b ∧ H b = some (.tup [.int k, u]) ∧ TD H u e := by
  obtain _ | _ | _ | _ | @⟨b, xs, _, hb, _, r⟩ := h
  obtain _ | @⟨_, _, _, _, r1, r⟩ := r
  obtain _ | @⟨_, _, _, _, r2, r⟩ := r
  cases r; cases r1
  exact ⟨b, _, rfl, hb, r2⟩
/-- the payloads are texts that data may hold -/
def EvOk : Ev → Prop
  | .ct _ _ _ _ p => PyData.strOk p = true
  | .dl _ _ _ g => PyData.strOk g.2.2 = true
  | .vw _ _ _ ms => ms.length ≤ 100
  | .cr _ _ => True
/-- a fault is told -/
def sp_fault (f : List Ev → Option PyData) : Sp := fun vs H Q _ => ∃ (a : Addr) (us : List V) (es : List Ev), vs = [.ref a] ∧ H a = some (.lst us) ∧ TDs H us (es.map eE) ∧ (∀ e ∈ es, EvOk e) ∧ es.length ≤ 30 ∧ ∀ v H', Same H H' → TD H' v ((f es).getD .none) → Q v H'
theorem td3 {H : Hp} {t : Addr} {z : Str} {x y : V} {d e : PyData} (nt : H t = none) (hx : TD H x d) (hy : TD H y e) : TD (upd H t (.tup [.str z, x, y])) (.ref t) (.tuple [.str z, d, e]) :=
  .tup upd_same (by show 3 ≤ 100000; decide) (.cons (.str z) (.cons (hx.same (same_new nt _)) (.cons (hy.same (same_new nt _)) .nil)))
theorem td4 {H : Hp} {t : Addr} {z : Str} {x y u : V} {d e f : PyData} (nt : H t = none) (hx : TD H x d) (hy : TD H y e) (hu : TD H u f) : TD (upd H t (.tup [.str z, x, y, u])) (.ref t) (.tuple [.str z, d, e, f]) :=
  .tup upd_same (by show 4 ≤ 100000; decide) (.cons (.str z) (.cons (hx.same (same_new nt _)) (.cons (hy.same (same_new nt _)) (.cons (hu.same (same_new nt _)) .nil))))
/-! ### more keys -/
theorem kOf_enc {κ : Type} {enc : κ → PyData} (hp : ∀ x, pln (enc x) = true) (hi : ∀ x y, enc x = enc y → x = y) (x y : κ) (h : kOf (enc x) = kOf (enc y)) : x = y := hi _ _ (kOf_inj (hp x) (hp y) h)
abbrev CK := Mem × Vid × Int × Str
def eCK (x : CK) : PyData := .tuple [eM x.1, eV x.2.1, .int x.2.2.1, .str x.2.2.2]
def kCK (x : CK) : NestedKey := kOf (eCK x)
theorem kCK_inj : ∀ x y : CK, kCK x = kCK y → x = y := kOf_enc (enc := eCK) (fun _ => rfl) fun x y h => by
  unfold eCK at h
  injection h with h
  injection h with h1 h
  injection h with h2 h
  injection h with h3 h
  injection h with h4 h
  injection h3 with h3
  injection h4 with h4
  exact Prod.ext (eM_inj h1) (Prod.ext (eV_inj h2) (Prod.ext h3 h4))
theorem kCK_depth (x : CK) : (kCK x).depth ≤ 8 := by simp [kCK, eCK, kOf, kOfs, eV, eM, NestedKey.depth, NestedKey.depthAll]
abbrev NK3 := Mem × Vid × Mem
def eN3 (x : NK3) : PyData := .tuple [eM x.1, eV x.2.1, eM x.2.2]
def kN3 (x : NK3) : NestedKey := kOf (eN3 x)
theorem kN3_inj : ∀ x y : NK3, kN3 x = kN3 y → x = y := kOf_enc (enc := eN3) (fun _ => rfl) fun x y h => by
  unfold eN3 at h
  injection h with h
  injection h with h1 h
  injection h with h2 h
  injection h with h3 h
  exact Prod.ext (eM_inj h1) (Prod.ext (eV_inj h2) (eM_inj h3))
theorem kN3_depth (x : NK3) : (kN3 x).depth ≤ 8 := by simp [kN3, eN3, kOf, kOfs, eV, eM, NestedKey.depth, NestedKey.depthAll]
abbrev MV := Mem × Vid
def eMV (x : MV) : PyData := .tuple [eM x.1, eV x.2]
def kMV (x : MV) : NestedKey := kOf (eMV x)
theorem kMV_inj : ∀ x y : MV, kMV x = kMV y → x = y := kOf_enc (enc := eMV) (fun _ => rfl) fun x y h => by
  unfold eMV at h
  injection h with h
  injection h with h1 h
  injection h with h2 h
  exact Prod.ext (eM_inj h1) (eV_inj h2)
theorem kMV_depth (x : MV) : (kMV x).depth ≤ 8 := by simp [kMV, eMV, kOf, kOfs, eV, eM, NestedKey.depth, NestedKey.depthAll]
abbrev MVI := Mem × Vid × Int
def eMVI (x : MVI) : PyData := .tuple [eM x.1, eV x.2.1, .int x.2.2]
def kMVI (x : MVI) : NestedKey := kOf (eMVI x)
theorem kMVI_inj : ∀ x y : MVI, kMVI x = kMVI y → x = y := kOf_enc (enc := eMVI) (fun _ => rfl) fun x y h => by
  unfold eMVI at h
  injection h with h
  injection h with h1 h
  injection h with h2 h
  injection h with h3 h
  injection h3 with h3
  exact Prod.ext (eM_inj h1) (Prod.ext (eV_inj h2) h3)
theorem kMVI_depth (x : MVI) : (kMVI x).depth ≤ 8 := by simp [kMVI, eMVI, kOf, kOfs, eV, eM, NestedKey.depth, NestedKey.depthAll]
def kGg (g : Msg) : NestedKey := kOf (eG g)
theorem kGg_inj : ∀ x y : Msg, kGg x = kGg y → x = y := kOf_enc (enc := eG) (fun _ => rfl) fun x y h => eG_inj h
theorem kGg_depth (g : Msg) : (kGg g).depth ≤ 8 := by simp [kGg, kOf, kOfs, eG, eM, NestedKey.depth, NestedKey.depthAll]
abbrev VV := Vid × Vid
def eVV (x : VV) : PyData := .tuple [eV x.1, eV x.2]
def kVV (x : VV) : NestedKey := kOf (eVV x)
theorem kVV_inj : ∀ x y : VV, kVV x = kVV y → x = y := kOf_enc (enc := eVV) (fun _ => rfl) fun x y h => by
  unfold eVV at h
  injection h with h
  injection h with h1 h
  injection h with h2 h
  exact Prod.ext (eV_inj h1) (eV_inj h2)
theorem kVV_depth (x : VV) : (kVV x).depth ≤ 8 := by simp [kVV, eVV, kOf, kOfs, eV, eM, NestedKey.depth, NestedKey.depthAll]
abbrev MVG := Mem × Vid × Msg
def eMVG (x : MVG) : PyData := .tuple [eM x.1, eV x.2.1, eG x.2.2]
def kMVG (x : MVG) : NestedKey := kOf (eMVG x)
theorem kMVG_inj : ∀ x y : MVG, kMVG x = kMVG y → x = y := kOf_enc (enc := eMVG) (fun _ => rfl) fun x y h => by
  unfold eMVG at h
  injection h with h
  injection h with h1 h
  injection h with h2 h
  injection h with h3 h
  exact Prod.ext (eM_inj h1) (Prod.ext (eV_inj h2) (eG_inj h3))
theorem kMVG_depth (x : MVG) : (kMVG x).depth ≤ 8 := by simp [kMVG, eMVG, kOf, kOfs, eV, eM, eG, NestedKey.depth, NestedKey.depthAll]
/-- a key made anew -/
theorem nk_tup {H : Hp} {t : Addr} {xs : List V} {ds : List PyData} (nt : H t = none) (r : TDs H xs ds) (hp : plns ds = true) : NK (upd H t (.tup xs)) (.ref t) (kOf (.tuple ds)) :=
  .tup upd_same ((TDs.nkD r hp).mono fun b xs h => same_new nt _ _ _ h)
end Mus

set_option maxRecDepth 100000
set_option maxHeartbeats 4000000
/-! groups of processes, marks, the groups in order -/
namespace Mus
open PySem L2
/-! ### lists in a strict order are their members -/
theorem pw_ext {α : Type} {R : α → α → Prop} (as : ∀ a b, R a b → ¬ R b a) : ∀ {l1 l2 : List α}, l1.Pairwise R → l2.Pairwise R → (∀ x, x ∈ l1 ↔ x ∈ l2) → l1 = l2
  | [], [], _, _, _ => rfl
  | [], b :: _, _, _, h => absurd ((h b).mpr List.mem_cons_self) List.not_mem_nil
  | a :: _, [], _, _, h => absurd ((h a).mp List.mem_cons_self) List.not_mem_nil
  | a :: l1, b :: l2, h1, h2, h => by
    rw [List.pairwise_cons] at h1 h2
    have e : a = b := by
      rcases List.mem_cons.mp ((h a).mp List.mem_cons_self) with e | ha
      · exact e
      · rcases List.mem_cons.mp ((h b).mpr List.mem_cons_self) with e | hb
        · exact e.symm
        · exact absurd (h1.1 _ hb) (as _ _ (h2.1 _ ha))
    subst e
    have irr : ¬ R a a := fun z => as a a z z
    congr 1
    refine pw_ext as h1.2 h2.2 fun x => ⟨fun hx => ?_, fun hx => ?_⟩
    · rcases List.mem_cons.mp ((h x).mp (List.mem_cons_of_mem _ hx)) with e | hx'
      · subst e; exact absurd (h1.1 _ hx) irr
      · exact hx'
    · rcases List.mem_cons.mp ((h x).mpr (List.mem_cons_of_mem _ hx)) with e | hx'
      · subst e; exact absurd (h2.1 _ hx) irr
      · exact hx'
/-- 0, 1, .. below N -/
def upI (N : Nat) : List Int := (List.range N).map fun i : Nat => (i : Int)
theorem mem_upI {N : Nat} {x : Int} : x ∈ upI N ↔ 0 ≤ x ∧ x < N := by
  unfold upI
  rw [List.mem_map]
  constructor
  · rintro ⟨i, hi, rfl⟩
    have := List.mem_range.mp hi
    omega
  · rintro ⟨h0, h1⟩
    exact ⟨x.toNat, List.mem_range.mpr (by omega), by omega⟩
theorem upI_pw (N : Nat) : (upI N).Pairwise (· < ·) := by
  unfold upI
  rw [List.pairwise_map]
  exact List.pairwise_lt_range.imp fun h => by omega
theorem upI_len (N : Nat) : (upI N).length = N := by unfold upI; rw [List.length_map, List.length_range]
theorem lt_as : ∀ a b : Int, a < b → ¬ b < a := fun a b h => by omega
/-- all with the mark v -/
def cls (m : Int → Int) (N : Nat) (v : Int) : List Int := (upI N).filter fun q => decide (m q = v)
theorem mem_cls {m : Int → Int} {N : Nat} {v q : Int} : q ∈ cls m N v ↔ (0 ≤ q ∧ q < N) ∧ m q = v := by
  unfold cls
  rw [List.mem_filter, mem_upI, decide_eq_true_eq]
theorem cls_pw (m : Int → Int) (N : Nat) (v : Int) : (cls m N v).Pairwise (· < ·) := (upI_pw N).filter _
/-- the group of p, if p is its first -/
def dueOne (m : Int → Int) (N : Nat) (p : Int) : Option (List Int) := if (cls m N (m p)).head? = some p then some (cls m N (m p)) else none
def dueG (m : Int → Int) (N : Nat) : List (List Int) := (upI N).filterMap (dueOne m N)
theorem head_lt : ∀ {l : List Int} {x : Int}, l.Pairwise (· < ·) → l.head? = some x → x ∈ l ∧ ∀ y ∈ l, x ≤ y
  | [], _, _, h => by cases h
  | a :: l, x, hp, h => by
    cases h
    rw [List.pairwise_cons] at hp
    refine ⟨List.mem_cons_self, fun y hy => ?_⟩
    rcases List.mem_cons.mp hy with rfl | hy
    · exact Int.le_refl _
    · exact Int.le_of_lt (hp.1 _ hy)
theorem mem_due {m : Int → Int} {N : Nat} {g : List Int} : g ∈ dueG m N ↔ ∃ v, g = cls m N v ∧ g ≠ [] := by
  unfold dueG
  rw [List.mem_filterMap]
  constructor
  · rintro ⟨p, hp, h⟩
    unfold dueOne at h
    split at h
    · rename_i hh
      cases h
      exact ⟨_, rfl, fun z => by rw [z] at hh; cases hh⟩
    · cases h
  · rintro ⟨v, rfl, hn⟩
    obtain ⟨p, hp⟩ : ∃ p, (cls m N v).head? = some p := by
      cases e : cls m N v with
      | nil => exact absurd e hn
      | cons a _ => exact ⟨a, rfl⟩
    have h1 := mem_cls.mp (head_lt (cls_pw m N v) hp).1
    refine ⟨p, mem_upI.mpr h1.1, ?_⟩
    unfold dueOne
    rw [h1.2, if_pos hp]
/-- by the first -/
def HLt (a b : List Int) : Prop := ∃ x y, a.head? = some x ∧ b.head? = some y ∧ x < y
theorem hlt_as : ∀ a b : List Int, HLt a b → ¬ HLt b a := by
  rintro a b ⟨x, y, h1, h2, h3⟩ ⟨x', y', h4, h5, h6⟩
  rw [h1] at h5; rw [h2] at h4
  cases h5; cases h4
  omega
theorem due_pw (m : Int → Int) (N : Nat) : (dueG m N).Pairwise HLt := by
  unfold dueG
  rw [List.pairwise_filterMap]
  refine (upI_pw N).imp fun {a b} h g hg g' hg' => ?_
  unfold dueOne at hg hg'
  split at hg
  · split at hg'
    · rename_i h1 h2
      cases hg; cases hg'
      exact ⟨_, _, h1, h2, h⟩
    · cases hg'
  · cases hg
/-- two are joined if one group has both: they have one mark -/
theorem joined_due {m : Int → Int} {N : Nat} {a b : Int} (ha : 0 ≤ a ∧ a < N) (hb : 0 ≤ b ∧ b < N) : ((dueG m N).any fun g => decide (a ∈ g) && decide (b ∈ g)) = decide (m a = m b) := by
  rw [Bool.eq_iff_iff, List.any_eq_true, decide_eq_true_eq]
  constructor
  · rintro ⟨g, hg, h⟩
    rw [Bool.and_eq_true, decide_eq_true_eq, decide_eq_true_eq] at h
    obtain ⟨v, rfl, _⟩ := mem_due.mp hg
    exact (mem_cls.mp h.1).2.trans (mem_cls.mp h.2).2.symm
  · intro h
    have h1 : a ∈ cls m N (m a) := mem_cls.mpr ⟨ha, rfl⟩
    refine ⟨cls m N (m a), mem_due.mpr ⟨_, rfl, fun z => by rw [z] at h1; cases h1⟩, ?_⟩
    rw [decide_eq_true h1, decide_eq_true (mem_cls.mpr ⟨hb, h.symm⟩)]
    rfl
/-! ### groups, their marks -/
structure Grs (N : Nat) (gs : List (List Int)) : Prop where
  ne : ∀ g ∈ gs, g ≠ []
  nd : gs.flatten.Nodup
  lt : ∀ p ∈ gs.flatten, 0 ≤ p ∧ p < N
/-- marks, set one after another -/
def mset (k : Int) (g : List Int) (ms : List Int) : List Int := g.foldl (fun ms x => ms.set x.toNat k) ms
def msets : Int → List (List Int) → List Int → List Int
  | _, [], ms => ms
  | k, g :: gs, ms => msets (k + 1) gs (mset k g ms)
theorem mset_len : ∀ {g : List Int} {k : Int} {ms : List Int}, (mset k g ms).length = ms.length
  | [], _, _ => rfl
  | x :: g, k, ms => by
    show (mset k g (ms.set x.toNat k)).length = _
    rw [mset_len, List.length_set]
theorem msets_len : ∀ {gs : List (List Int)} {k : Int} {ms : List Int}, (msets k gs ms).length = ms.length
  | [], _, _ => rfl
  | g :: gs, k, ms => by
    show (msets (k + 1) gs (mset k g ms)).length = _
    rw [msets_len, mset_len]
def at0 (ms : List Int) (p : Int) : Int := (ms[p.toNat]?).getD 0
theorem mset_at {N : Nat} {k : Int} : ∀ {g : List Int} {ms : List Int} {p : Int}, (∀ x ∈ g, 0 ≤ x ∧ x < N) → ms.length = N → 0 ≤ p ∧ p < N → at0 (mset k g ms) p = if p ∈ g then k else at0 ms p
  | [], ms, p, _, _, _ => by rw [if_neg List.not_mem_nil]; rfl
  | x :: g, ms, p, hg, hl, hp => by
    have hx := hg x List.mem_cons_self
    show at0 (mset k g (ms.set x.toNat k)) p = _
    rw [mset_at (fun y hy => hg y (List.mem_cons_of_mem _ hy)) (by rw [List.length_set]; exact hl) hp]
    by_cases h1 : p ∈ g
    · rw [if_pos h1, if_pos (List.mem_cons_of_mem _ h1)]
    · rw [if_neg h1]
      by_cases h2 : p = x
      · subst h2
        rw [if_pos List.mem_cons_self]
        unfold at0
        rw [List.getElem?_set_self (by omega)]
        rfl
      · rw [if_neg (fun z => (List.mem_cons.mp z).elim h2 h1)]
        unfold at0
        rw [List.getElem?_set_ne (by omega)]
/-- where a process is marked -/
theorem msets_at {N : Nat} : ∀ {gs : List (List Int)} {k : Int} {ms : List Int} {p : Int}, gs.flatten.Nodup → (∀ x ∈ gs.flatten, 0 ≤ x ∧ x < N) → ms.length = N → 0 ≤ p ∧ p < N →
    (∀ (j : Nat) g, gs[j]? = some g → p ∈ g → at0 (msets k gs ms) p = k + j) ∧ (p ∉ gs.flatten → at0 (msets k gs ms) p = at0 ms p)
  | [], k, ms, p, _, _, _, _ => ⟨fun j g h => by simp at h, fun _ => rfl⟩
  | g0 :: gs, k, ms, p, nd, lt, hl, hp => by
    rw [List.flatten_cons] at nd lt
    rw [List.nodup_append] at nd
    obtain ⟨n1, n2, n3⟩ := nd
    have l0 : ∀ x ∈ g0, 0 ≤ x ∧ x < N := fun x hx => lt x (List.mem_append_left _ hx)
    have ih := msets_at (gs := gs) (k := k + 1) (ms := mset k g0 ms) (p := p) n2 (fun x hx => lt x (List.mem_append_right _ hx)) (by rw [mset_len]; exact hl) hp
    refine ⟨fun j g hj hpg => ?_, fun hn => ?_⟩
    · cases j with
      | zero =>
        cases hj
        have e := ih.2 fun z => n3 p hpg p z rfl
        show at0 (msets (k + 1) gs (mset k g0 ms)) p = _
        rw [e, mset_at l0 hl hp, if_pos hpg]
        show k = k + ((0 : Nat) : Int)
        omega
      | succ j =>
        have e := ih.1 j g hj hpg
        show at0 (msets (k + 1) gs (mset k g0 ms)) p = _
        rw [e, Int.natCast_succ]
        omega
    · show at0 (msets (k + 1) gs (mset k g0 ms)) p = _
      rw [List.flatten_cons, List.mem_append] at hn
      rw [ih.2 fun z => hn (.inr z), mset_at l0 hl hp, if_neg fun z => hn (.inl z)]
/-- the marks of groups -/
def mksOf (N : Nat) (gs : List (List Int)) : List Int := msets 0 gs (List.replicate N (-1))
theorem mksOf_len (N : Nat) (gs : List (List Int)) : (mksOf N gs).length = N := by unfold mksOf; rw [msets_len, List.length_replicate]
theorem mks_in {N : Nat} {gs : List (List Int)} (G : Grs N gs) {j : Nat} {g : List Int} (hj : gs[j]? = some g) {p : Int} (hp : 0 ≤ p ∧ p < N) : p ∈ g ↔ at0 (mksOf N gs) p = j := by
  have h := msets_at (k := 0) (ms := List.replicate N (-1)) G.nd G.lt List.length_replicate hp
  have h0 : at0 (List.replicate N (-1)) p = -1 := by
    unfold at0
    rw [List.getElem?_replicate, if_pos (by omega)]
    rfl
  constructor
  · intro hm
    have := h.1 j g hj hm
    unfold mksOf
    omega
  · intro e
    unfold mksOf at e
    by_cases hf : p ∈ gs.flatten
    · obtain ⟨g', hg', hpg⟩ := List.mem_flatten.mp hf
      obtain ⟨i, hi, rfl⟩ := List.getElem_of_mem hg'
      have := h.1 i _ (List.getElem?_eq_getElem hi) hpg
      have ij : i = j := by omega
      subst ij
      rw [List.getElem?_eq_getElem hi] at hj
      cases hj
      exact hpg
    · have := h.2 hf
      omega
theorem mks_out {N : Nat} {gs : List (List Int)} (G : Grs N gs) {p : Int} (hp : 0 ≤ p ∧ p < N) : p ∉ gs.flatten ↔ at0 (mksOf N gs) p = -1 := by
  have h := msets_at (k := 0) (ms := List.replicate N (-1)) G.nd G.lt List.length_replicate hp
  have h0 : at0 (List.replicate N (-1)) p = -1 := by
    unfold at0
    rw [List.getElem?_replicate, if_pos (by omega)]
    rfl
  constructor
  · intro hn
    have := h.2 hn
    unfold mksOf
    omega
  · intro e hf
    obtain ⟨g', hg', hpg⟩ := List.mem_flatten.mp hf
    obtain ⟨i, hi, rfl⟩ := List.getElem_of_mem hg'
    have := h.1 i _ (List.getElem?_eq_getElem hi) hpg
    unfold mksOf at e
    omega
/-- those in no group -/
def restG (N : Nat) (gs : List (List Int)) : List Int := (upI N).filter fun p => !decide (p ∈ gs.flatten)
theorem rest_cls {N : Nat} {gs : List (List Int)} (G : Grs N gs) : restG N gs = cls (at0 (mksOf N gs)) N (-1) := by
  unfold restG cls
  refine List.filter_congr fun p hp => ?_
  have := mks_out G (mem_upI.mp hp)
  rw [Bool.eq_iff_iff, Bool.not_eq_true', decide_eq_false_iff_not, decide_eq_true_eq]
  exact this
theorem sort_cls {N : Nat} {gs : List (List Int)} (G : Grs N gs) {j : Nat} {g s : List Int} (hj : gs[j]? = some g) (hs : s.Pairwise (· < ·)) (hm : ∀ x, x ∈ s ↔ x ∈ g) : s = cls (at0 (mksOf N gs)) N j := by
  refine pw_ext lt_as hs (cls_pw _ _ _) fun x => ?_
  rw [hm, mem_cls]
  constructor
  · intro hx
    have hp := G.lt x (List.mem_flatten.mpr ⟨g, List.mem_of_getElem? hj, hx⟩)
    exact ⟨hp, (mks_in G hj hp).mp hx⟩
  · rintro ⟨hp, e⟩
    exact (mks_in G hj hp).mpr e
/-- the parts in the order of their firsts -/
theorem parts_due {N : Nat} {gs ss L : List (List Int)} (G : Grs N gs) (hl : ss.length = gs.length) (hss : ∀ (j : Nat) g s, gs[j]? = some g → ss[j]? = some s → s.Pairwise (· < ·) ∧ ∀ x, x ∈ s ↔ x ∈ g)
    (hP : L.Perm (ss ++ if 0 < (restG N gs).length then [restG N gs] else [])) (hS : L.Pairwise fun a b => ∀ x y, a.head? = some x → b.head? = some y → x ≠ y → x < y) : L = dueG (at0 (mksOf N gs)) N := by
  have cl : ∀ (j : Nat) s, ss[j]? = some s → s = cls (at0 (mksOf N gs)) N j ∧ s ≠ [] := fun j s hs => by
    have hj : j < gs.length := by rw [← hl]; exact (List.getElem?_eq_some_iff.mp hs).1
    have e := hss j _ _ (List.getElem?_eq_getElem hj) hs
    refine ⟨sort_cls G (List.getElem?_eq_getElem hj) e.1 e.2, fun z => ?_⟩
    have n := G.ne _ (List.getElem_mem hj)
    cases e2 : gs[j] with
    | nil => exact n e2
    | cons a r =>
      have := (e.2 a).mpr (by rw [e2]; exact List.mem_cons_self)
      rw [z] at this
      cases this
  have memL : ∀ g, g ∈ L ↔ ∃ v, g = cls (at0 (mksOf N gs)) N v ∧ g ≠ [] := fun g => by
    rw [hP.mem_iff, List.mem_append]
    constructor
    · rintro (h | h)
      · obtain ⟨j, hj, rfl⟩ := List.getElem_of_mem h
        exact ⟨j, cl j _ (List.getElem?_eq_getElem hj)⟩
      · split at h
        · rename_i h0
          rw [List.mem_singleton.mp h]
          refine ⟨-1, rest_cls G, fun z => ?_⟩
          rw [z] at h0
          exact absurd h0 (by decide)
        · cases h
    · rintro ⟨v, rfl, hn⟩
      obtain ⟨p, hp⟩ : ∃ p, p ∈ cls (at0 (mksOf N gs)) N v := by
        cases e : cls (at0 (mksOf N gs)) N v with
        | nil => exact absurd e hn
        | cons a _ => exact ⟨a, List.mem_cons_self⟩
      have hq := mem_cls.mp hp
      by_cases hf : p ∈ gs.flatten
      · obtain ⟨g', hg', hpg⟩ := List.mem_flatten.mp hf
        obtain ⟨i, hi, rfl⟩ := List.getElem_of_mem hg'
        have e := (mks_in G (List.getElem?_eq_getElem hi) hq.1).mp hpg
        have hi2 : i < ss.length := by rw [hl]; exact hi
        refine .inl ?_
        have e2 := (cl i _ (List.getElem?_eq_getElem hi2)).1
        rw [← hq.2, e, ← e2]
        exact List.getElem_mem hi2
      · have e := (mks_out G hq.1).mp hf
        have e2 := rest_cls G
        refine .inr ?_
        rw [← hq.2, e, ← e2]
        have : restG N gs ≠ [] := by rw [e2, ← e, hq.2]; exact hn
        rw [if_pos (List.length_pos_iff.mpr this)]
        exact List.mem_singleton.mpr rfl
  have apart : ∀ a ∈ L, ∀ b ∈ L, a ≠ b → ∀ x y, a.head? = some x → b.head? = some y → x ≠ y := fun a ha b hb ne x y hx hy e => by
    subst e
    obtain ⟨v, rfl, _⟩ := (memL a).mp ha
    obtain ⟨u, rfl, _⟩ := (memL b).mp hb
    have h1 := mem_cls.mp (head_lt (cls_pw _ _ _) hx).1
    have h2 := mem_cls.mp (head_lt (cls_pw _ _ _) hy).1
    exact ne (by rw [← h1.2, ← h2.2])
  have nd : L.Nodup := by
    rw [hP.nodup_iff, List.nodup_append]
    refine ⟨?_, ?_, ?_⟩
    · rw [List.Nodup, List.pairwise_iff_getElem]
      intro i j hi hj hij e
      have c1 := cl i _ (List.getElem?_eq_getElem hi)
      have c2 := cl j _ (List.getElem?_eq_getElem hj)
      cases e3 : ss[i] with
      | nil => exact c1.2 e3
      | cons a r =>
        have m1 : a ∈ ss[i] := by rw [e3]; exact List.mem_cons_self
        have m2 := m1
        rw [e, c2.1] at m2
        rw [c1.1] at m1
        have := (mem_cls.mp m1).2.symm.trans (mem_cls.mp m2).2
        omega
    · split
      · exact List.pairwise_singleton _ _
      · exact List.Pairwise.nil
    · intro a ha b hb e
      subst e
      obtain ⟨j, hj, rfl⟩ := List.getElem_of_mem ha
      have c1 := cl j _ (List.getElem?_eq_getElem hj)
      split at hb
      · have e2 := (List.mem_singleton.mp hb).trans (rest_cls G)
        cases e3 : ss[j] with
        | nil => exact c1.2 e3
        | cons a r =>
          have m1 : a ∈ ss[j] := by rw [e3]; exact List.mem_cons_self
          have m2 := m1
          rw [e2] at m2
          rw [c1.1] at m1
          have := (mem_cls.mp m1).2.symm.trans (mem_cls.mp m2).2
          omega
      · cases hb
  refine pw_ext hlt_as ?_ (due_pw _ _) fun g => (memL g).trans mem_due.symm
  have both := List.Pairwise.and_mem.mp (hS.and nd)
  refine both.imp fun {a b} ⟨ha, hb, h, ne⟩ => ?_
  obtain ⟨_, _, na⟩ := (memL a).mp ha
  obtain ⟨_, _, nb⟩ := (memL b).mp hb
  obtain ⟨x, hx⟩ : ∃ x, a.head? = some x := by
    cases a with
    | nil => exact absurd rfl na
    | cons x _ => exact ⟨x, rfl⟩
  obtain ⟨y, hy⟩ : ∃ y, b.head? = some y := by
    cases b with
    | nil => exact absurd rfl nb
    | cons y _ => exact ⟨y, rfl⟩
  exact ⟨x, y, hx, hy, h x y hx hy (apart a ha b hb ne x y hx hy)⟩
theorem len_erase_le {α : Type} [BEq α] [LawfulBEq α] {a : α} : ∀ {l m : List α}, l.Nodup → (∀ x ∈ l, x ∈ m) → l.length ≤ m.length
  | [], _, _, _ => Nat.zero_le _
  | b :: l, m, h, s => by
    rw [List.nodup_cons] at h
    have hb := s b List.mem_cons_self
    have ih := len_erase_le (a := a) (l := l) (m := m.erase b) h.2 fun x hx => by
      have hne : x ≠ b := fun z => h.1 (z ▸ hx)
      exact (List.mem_erase_of_ne hne).mpr (s x (List.mem_cons_of_mem _ hx))
    have := List.length_erase_of_mem hb
    have := List.length_pos_of_mem hb
    rw [List.length_cons]
    omega
theorem nodup_lt {N : Nat} {f : List Int} (h : f.Nodup) (l : ∀ x ∈ f, 0 ≤ x ∧ x < N) : f.length ≤ N := by
  have := len_erase_le (a := 0) (m := upI N) h fun x hx => mem_upI.mpr (l x hx)
  rwa [upI_len] at this
theorem grs_nil (N : Nat) : Grs N [] := ⟨fun _ h => (by cases h), List.Pairwise.nil, fun _ h => (by cases h)⟩
end Mus

set_option maxRecDepth 100000
set_option maxHeartbeats 4000000
/-! what sorted gives, by keys of any data -/
namespace Mus
open PySem L2
theorem srt_of {α : Type} {v : α → V} {k : α → PyData} {l : List α} {ps : List (V × PyData)} (e : ps = ((l.map v).zip (l.map k)).mergeSort (PySem.W.dataLe false (·.2))) :
    ∃ s : List α, ps.map (·.1) = s.map v ∧ s.Perm l ∧ s.Pairwise fun a b => PySem.W.dataLt (k b) (k a) = false := by
  refine ⟨l.mergeSort fun a b => !(PySem.W.dataLt (k b) (k a)), ?_, List.mergeSort_perm _ _, ?_⟩
  · have z : (l.map v).zip (l.map k) = l.map fun x => (v x, k x) := List.zip_map' ..
    rw [e, z, ← List.map_mergeSort (r := fun a b => !(PySem.W.dataLt (k b) (k a))) (fun _ _ _ _ => rfl), List.map_map]
    rfl
  · have S : (l.mergeSort fun a b => !(PySem.W.dataLt (k b) (k a))).Pairwise fun a b => (!(PySem.W.dataLt (k b) (k a))) = true := by
      refine List.pairwise_mergeSort (fun a b c h1 h2 => ?_) (fun a b => ?_) _
      · simp only [Bool.not_eq_true'] at h1 h2 ⊢
        cases e : PySem.W.dataLt (k c) (k a) with
        | false => rfl
        | true =>
          by_cases h3 : PySem.W.dataLt (k b) (k c) = true
          · have := PyProof.Rows.lex_trans _ _ _ h3 e
            rw [show PyProof.Rows.lexLt PyProof.Rows.itemOrd _ _ = PySem.W.dataLt (k b) (k a) from rfl, h1] at this
            cases this
          · have h3 : PySem.W.dataLt (k b) (k c) = false := by simpa using h3
            have e2 := PyProof.Rows.lex_total _ _ h2 h3
            have : PySem.W.dataLt (k c) (k a) = PySem.W.dataLt (k b) (k a) := by unfold PySem.W.dataLt; rw [e2]
            rw [this, h1] at e; cases e
      · cases e : PySem.W.dataLt (k b) (k a) with
        | false => rfl
        | true =>
          cases e2 : PySem.W.dataLt (k a) (k b) with
          | false => rfl
          | true =>
            have := PyProof.Rows.lex_trans _ _ _ e e2
            rw [PyProof.Rows.lex_irrefl] at this
            cases this
    exact S.imp fun h => by simpa using h
theorem srt_ints {g : List Int} {ps : List (V × PyData)} (nd : g.Nodup) (e : ps = ((g.map V.int).zip (g.map PyData.int)).mergeSort (PySem.W.dataLe false (·.2))) :
    ∃ s : List Int, ps.map (·.1) = s.map V.int ∧ s.Pairwise (· < ·) ∧ ∀ x, x ∈ s ↔ x ∈ g := by
  obtain ⟨s, h1, h2, h3⟩ := srt_of (v := V.int) (k := PyData.int) e
  refine ⟨s, h1, ?_, fun x => h2.mem_iff⟩
  have n : s.Pairwise (· ≠ ·) := h2.nodup_iff.mpr nd
  refine (h3.and n).imp fun {a b} ⟨h, hn⟩ => ?_
  rw [PySem.W.dataLt_int] at h
  have := of_decide_eq_false h
  omega
theorem srt_heads {a b : List Int} (h : PySem.W.dataLt (.tuple (b.map .int)) (.tuple (a.map .int)) = false) : ∀ x y, a.head? = some x → b.head? = some y → x ≠ y → x < y := by
  intro x y hx hy ne
  cases a with
  | nil => cases hx
  | cons x' a =>
    cases hx
    cases b with
    | nil => cases hy
    | cons y' b =>
      cases hy
      rw [PySem.W.dataLt_tuple, List.map_cons, List.map_cons, PySem.W.dataLt_cons (by rfl)] at h
      have e : PyData.eqv (.int y) (.int x) = false := by
        show decide (y = x) = false
        exact decide_eq_false fun z => ne z.symm
      rw [e] at h
      have h : PySem.W.dataLt (.int y) (.int x) = false := h
      rw [PySem.W.dataLt_int] at h
      have := of_decide_eq_false h
      omega
end Mus

set_option maxRecDepth 100000
set_option maxHeartbeats 4000000
/-! max(xs, key=len), xs a list of tuples: the first of the longest. -/
namespace Mus
open PySem PySem.Spec PyProof.Rows L2
/-- the index of the first longest -/
def lgst (n : Nat) (ln : Nat → Int) : Nat := argBest (fun i j => decide (ln i > ln j)) (n - 1)
theorem lgst_go (ln : Nat → Int) : ∀ k, argBest (fun i j => decide (ln i > ln j)) k ≤ k ∧ (∀ j, j ≤ k → ln j ≤ ln (argBest (fun i j => decide (ln i > ln j)) k)) ∧ ∀ j, j < argBest (fun i j => decide (ln i > ln j)) k → ln j < ln (argBest (fun i j => decide (ln i > ln j)) k)
  | 0 => ⟨Nat.le_refl _, fun j h => by rw [Nat.le_zero.mp h]; exact Int.le_refl _, fun j h => (Nat.not_lt_zero _ h).elim⟩
  | k + 1 => by
    obtain ⟨h1, h2, h3⟩ := lgst_go ln k
    unfold argBest
    by_cases c : ln (k + 1) > ln (argBest (fun i j => decide (ln i > ln j)) k)
    · rw [decide_eq_true c, if_pos rfl]
      refine ⟨Nat.le_refl _, fun j h => ?_, fun j h => Int.lt_of_le_of_lt (h2 j (by omega)) c⟩
      rcases Nat.lt_or_ge j (k + 1) with z | z
      · exact Int.le_of_lt (Int.lt_of_le_of_lt (h2 j (by omega)) c)
      · rw [show j = k + 1 by omega]; exact Int.le_refl _
    · rw [decide_eq_false c, if_neg Bool.false_ne_true]
      refine ⟨Nat.le_succ_of_le h1, fun j h => ?_, h3⟩
      rcases Nat.lt_or_ge j (k + 1) with z | z
      · exact h2 j (by omega)
      · rw [show j = k + 1 by omega]; omega
theorem lgst_spec {n : Nat} {ln : Nat → Int} (h : 0 < n) : lgst n ln < n ∧ (∀ j, j < n → ln j ≤ ln (lgst n ln)) ∧ ∀ j, j < lgst n ln → ln j < ln (lgst n ln) := by
  obtain ⟨h1, h2, h3⟩ := lgst_go ln (n - 1)
  exact ⟨by unfold lgst; omega, fun j hj => h2 j (by omega), h3⟩
section
variable {X : Cx}
/-- ln i: how long the i-th is -/
def tMaxLen (K : PySem.W.Frag) (ta : TA) : TE := fun σ H Q => ta σ H fun vs H1 => ∃ (a : Addr) (xs : List V) (ln : Nat → Int), vs = [.ref a] ∧ SqL K H1 a xs ∧ 0 < xs.length ∧ (∀ i v, xs[i]? = some v → ∃ b ys, v = .ref b ∧ SqT K H1 b ys ∧ ln i = (ys.length : Int)) ∧ ∀ v, xs[lgst xs.length ln]? = some v → Q v H1
theorem pe_maxLen {e : Expr} {ta : TA} {p p2 pos kp : Pos} (calm : X.calm = true) (hg : Gl X "max") (hm : X.mg "max" = none) (hg2 : Gl X "len") (hm2 : X.mg "len" = none) (ha : PA X [e] ta)
    (he : backTo pos (starEach [e] X.env) = (false, eval e X.env) :: backTo pos (starEach [] X.env) := by rfl) (hpl : (backTo pos (starEach [e] X.env)).any (·.1) = false := by rfl) :
    PE X (.Call (.Name "max" p) [e] [⟨some (Str.ofString "key"), .Name "len" p2, kp⟩] pos) (tMaxLen X.K ta) := by
  refine ⟨fun pins s σ H Q I h => ?_⟩
  refine wpAny_Call_Name_kw (ld_blt I hg hm (u := .builtin "max") rfl ?_)
  refine PyProof.Rows.callWith_kw (thn (ha.run pos pins s σ H _ I h) fun us s1 ⟨vs, H1, I1, r1, a, xs, ln, ev, hs, pos0, each, q⟩ => ?_) he hpl rfl rfl
  show wpAny _ _ (evalAll [(do let v ← eval (.Name "len" p2) X.env; standAt pos; pure v)]) _ _ s1
  refine wpAny_evalAll_cons (wpAny_bind (ld_blt I1 hg2 hm2 (u := .builtin "len") rfl (wpAny_bind (wpAny_standAt (wpAny_pure (wpAny_evalAll_nil ?_))))))
  subst ev
  obtain ⟨u, rfl, ru⟩ := vals1 r1
  cases (show u = Value.ref a from ru)
  obtain ⟨its, rv, pl, hz⟩ := I1.list hs
  have hl : s1.heap.IsList a its.toArray := pl.isList
  have la : a < s1.heap.objs.size := by
    obtain ⟨o, z, _⟩ := hl
    exact Heap.lt_size z
  have len := rv.length
  have tup : ∀ i v, its.toArray[i]? = some v → ∃ b items, v = .ref b ∧ s1.heap.IsTuple b items ∧ ln i = (items.size : Int) ∧ (items.size : Int) < 2 ^ 63 := fun i v z => by
    rw [List.getElem?_toArray] at z
    have lt : i < xs.length := by rw [len]; exact (List.getElem?_eq_some_iff.mp z).1
    obtain ⟨b, ys, e1, e2, e3⟩ := each i _ (List.getElem?_eq_getElem lt)
    obtain ⟨v', hv', rv'⟩ := rv.get (List.getElem?_eq_getElem lt)
    rw [z] at hv'
    cases hv'
    rw [e1] at rv'
    cases rv'
    obtain ⟨w2, r2, t2, z2⟩ := I1.tuple e2
    have l63 := sizeLine_eq
    have l2 := r2.length
    refine ⟨b, w2.toArray, rfl, t2, by rw [e3, List.size_toArray, l2], ?_⟩
    rw [List.size_toArray, ← l2]
    have : ys.length ≤ 16777216 := by rw [← l63]; exact z2
    show (ys.length : Int) < 9223372036854775808
    omega
  show wpAny _ _ (call (.builtin "max") [.ref a] [(Str.ofString "key", .builtin "len")]) _ _ s1
  refine call_max_walkKB (wpAny_pyIter_list hl ?_)
  have W := (Walks.list (prog := X.prog) (w := X.w) (A := X.A.in1) (I.ok.hd calm) s1.heap.objs.size a (Nat.ne_of_lt la) its.toArray).toS
  refine ⟨_, _, _, _, _, _, _, fun s' => (∀ b o, s1.heap.get? b = some o → s'.heap.get? b = some o) ∧ s'.gens = s1.gens ∧ s'.os = s1.os, fun i k _ => ∃ t, k = .int (ln i) t ∧ i < its.length, fun i j => decide (ln i > ln j), rfl, W, ⟨⟨_, Heap.get?_push_size _ rfl, rfl, rfl⟩, hl.push _⟩, ?_, ?_, ?_, ?_, ?_⟩
  · intro b hb
    show b < (s1.heap.push _).objs.size
    rw [Heap.size_push]
    rcases List.mem_cons.mp hb with z | z
    · rw [z]; exact Nat.lt_succ_self _
    · rw [List.mem_singleton.mp z]; exact Nat.lt_succ_of_lt la
  · show 0 < its.toArray.size
    rw [List.size_toArray, ← len]; exact pos0
  · have new : ∀ {b : Addr} {o : Obj}, s1.heap.get? b = some o → b ∉ [(s1.heap.push { cls := .type "list_iterator", data := .fields #[.ref a, .int 0 0] }).objs.size, s1.heap.objs.size] := fun {b o} z m => by
      have lt := Heap.lt_size z
      rcases List.mem_cons.mp m with y | y
      · have lt2 : b < (s1.heap.push { cls := .type "list_iterator", data := .fields #[.ref a, .int 0 0] }).objs.size := by rw [Heap.size_push]; exact Nat.lt_succ_of_lt lt
        rw [y] at lt2
        exact Nat.lt_irrefl _ lt2
      · rw [List.mem_singleton.mp y] at lt; exact Nat.lt_irrefl _ lt
    refine ⟨?_, fun i k _ _ z _ => z, ?_, ?_⟩
    · rintro s2 s3 ⟨j1, j2, j3⟩ m
      exact ⟨fun b o z => m.heap b o (new z) (j1 b o z), m.gens.trans j2, m.os.trans j3⟩
    · rintro i v s2 o Q' E' lt hv ⟨j1, j2, j3⟩ st hS k
      obtain ⟨b, items, e, ⟨ob, t1, t2, t3⟩, l1, l2⟩ := tup i v hv
      subst e
      have it : IsTup s2.heap b items := ⟨ob, j1 _ _ t1, t2, t3⟩
      exact len_tuple it l2 (k _ { s2 with toks := s2.toks + 1 + 1 } ⟨j1, j2, j3⟩ st hS ⟨_, by rw [l1], by rw [List.size_toArray] at lt; exact lt⟩ fun _ _ z => z)
    · rintro i j ki kj s2 Q' E' _ ⟨t, e1, _⟩ ⟨t', e2, _⟩ z
      subst e1 e2
      exact richCompare_gives (op := .Gt) (typeIs_int s2 _ t) (typeIs_int s2 _ t') F.slot_int_gt F.entry_int_gt (F.args_int_gt_2 _ _) (gives_int_gt _ _ t t') (fun x => nomatch x) z
  · exact ⟨fun b o z => Heap.get?_push_of_some _ z, rfl, rfl⟩
  · intro v s' hv hJ
    obtain ⟨j1, j2, j3⟩ := hJ
    have hv : its.toArray[lgst its.length ln]? = some v := by rw [List.size_toArray] at hv; exact hv
    rw [List.getElem?_toArray, ← len] at hv
    have lt := (lgst_spec (ln := ln) pos0).1
    obtain ⟨v', hv', rv'⟩ := rv.get (List.getElem?_eq_getElem lt)
    rw [hv] at hv'
    cases hv'
    exact ⟨_, H1, I1.call' (ch := []) j3 (Un.kept j1) (I1.hok.kept j1) (by rw [j2]; exact I1.bare) (fun _ z => nomatch z), rv', q _ (List.getElem?_eq_getElem lt)⟩
end
end Mus

set_option maxRecDepth 100000
set_option maxHeartbeats 4000000
/-! Sets whose members are nested tuples of numbers. -/
namespace Mus
open PySem PySem.Spec PyProof.Rows L2
mutual
def numK : NestedKey → Bool
  | .num _ => true
  | .tup ks => numKs ks
  | .none => false
  | .text _ => false
def numKs : List NestedKey → Bool
  | [] => true
  | k :: ks => numK k && numKs ks
end
/-- the object at b is the key k, which is of numbers alone -/
structure Nk (h : Heap) (k : NestedKey) (b : Addr) : Prop where
  is : NestedIs h k (.ref b)
  dp : k.depth ≤ 8
  nm : numK k = true
/-- a question that is answered so, whatever stands around -/
def Says (P : Program) (w : World) (s : Shared) (f : Sem Bool) (b : Bool) : Prop := ∀ (A : Around) (E : Value → Shared → Prop) (Q : Bool → Shared → Prop), Q b s → wpAny (model P w) A f Q E s
section
variable {P : Program} {w : World} {A : Around} {E : Value → Shared → Prop} {s : Shared}
theorem says_pure {f : Sem Bool} {b : Bool} (e : f = pure b) : Says P w s f b := fun A E Q q => by rw [e]; exact wpAny_pure q
mutual
theorem byv_key : ∀ (k : NestedKey) (v : Value) (n : Nat), NestedIs s.heap k v → numK k = true → k.depth ≤ n → Says P w s (hashByValue n v) true
  | .num i, v, n, x, _, _ => by cases x <;> exact says_pure (by cases n <;> rfl)
  | .none, _, _, _, c, _ => by cases c
  | .text _, _, _, _, c, _ => by cases c
  | .tup ks, v, 0, x, c, d => by simp [NestedKey.depth] at d
  | .tup ks, v, n + 1, x, c, d => by
    cases x with
    | @tup a o vs m _ x1 x2 x3 x4 =>
      intro A E Q q
      have ty : s.TypeIs (.ref a) "tuple" := ⟨o, x1, x2⟩
      have each := byv_keys ks vs.toList n x4 c (by simp [NestedKey.depth] at d; exact d)
      unfold hashByValue
      refine wpAny_bind (wpAny_specialOf ty F.slot_tuple_hash.lookup ?_)
      show wpAny (model P w) A (seqItems? (.ref a) >>= _) Q E s
      refine wpAny_bind (wpAny_seqItems x1 x3 (wpAny_bind ?_))
      show wpAny (model P w) A (forIn vs _ _) _ E s
      rw [← Array.forIn_toList]
      refine wpAny_forIn_list _ (fun left r s1 => r.1 = none ∧ s1 = s ∧ ∀ u ∈ left, Says P w s (hashByValue n u) true) _ (fun u left r s1 z => ?_) (fun r s1 z => ?_) _ _ ⟨rfl, rfl, each⟩
      · obtain ⟨_, z2, z3⟩ := z
        subst z2
        refine wpAny_bind (z3 u List.mem_cons_self _ _ _ ?_)
        simp only [Bool.not_true, Bool.false_eq_true, if_false]
        exact wpAny_pure ⟨rfl, rfl, fun u' m' => z3 u' (List.mem_cons_of_mem _ m')⟩
      · obtain ⟨z1, z2, _⟩ := z
        obtain ⟨r1, r2⟩ := r
        subst z2
        cases z1
        exact wpAny_pure q
theorem byv_keys : ∀ (ks : List NestedKey) (vs : List Value) (n : Nat), NestedAll s.heap ks vs → numKs ks = true → NestedKey.depthAll ks ≤ n → ∀ v ∈ vs, Says P w s (hashByValue n v) true
  | [], _, _, x, _, _, v, m => by cases x; cases m
  | k :: ks, _, n, x, c, d, v, m => by
    cases x with
    | cons y ys =>
      have c : (numK k && numKs ks) = true := c
      rw [Bool.and_eq_true] at c
      simp [NestedKey.depthAll] at d
      rcases List.mem_cons.mp m with e | m
      · rw [e]; exact byv_key k _ n y c.1 (by omega)
      · exact byv_keys ks _ n ys c.2 (by omega) v m
end
mutual
theorem ofc_key : ∀ (k : NestedKey) (v : Value) (n : Nat), NestedIs s.heap k v → k.depth ≤ n → Says P w s (ofAClassStatement n v) false
  | .num i, v, n, x, _ => by cases x <;> exact says_pure (by cases n <;> rfl)
  | .none, v, n, x, _ => by cases x; exact says_pure (by cases n <;> rfl)
  | .text _, v, n, x, _ => by cases x; exact says_pure (by cases n <;> rfl)
  | .tup ks, v, 0, x, d => by simp [NestedKey.depth] at d
  | .tup ks, v, n + 1, x, d => by
    cases x with
    | @tup a o vs m _ x1 x2 x3 x4 =>
      intro A E Q q
      have ty : s.TypeIs (.ref a) "tuple" := ⟨o, x1, x2⟩
      have each := ofc_keys ks vs.toList n x4 (by simp [NestedKey.depth] at d; exact d)
      have yes : (("tuple" : String) == "tuple") = true := by decide
      unfold ofAClassStatement
      refine wpAny_bind (wpAny_typeOf ty ?_)
      dsimp only
      simp only [yes, if_true, Bool.not_true, Bool.false_eq_true, if_false]
      try refine wpAny_bind (wpAny_pure ?_)
      try simp only [Bool.not_true, Bool.false_eq_true, if_false]
      show wpAny (model P w) A (seqItems? (.ref a) >>= _) Q E s
      refine wpAny_bind (wpAny_seqItems x1 x3 ?_)
      dsimp only
      refine wpAny_bind ?_
      show wpAny (model P w) A (forIn vs _ _) _ E s
      rw [← Array.forIn_toList]
      refine wpAny_forIn_list _ (fun left r s1 => r.1 = none ∧ s1 = s ∧ ∀ u ∈ left, Says P w s (ofAClassStatement n u) false) _ (fun u left r s1 z => ?_) (fun r s1 z => ?_) _ _ ⟨rfl, rfl, each⟩
      · obtain ⟨_, z2, z3⟩ := z
        subst z2
        refine wpAny_bind (z3 u List.mem_cons_self _ _ _ ?_)
        simp only [Bool.false_eq_true, if_false]
        exact wpAny_pure ⟨rfl, rfl, fun u' m' => z3 u' (List.mem_cons_of_mem _ m')⟩
      · obtain ⟨z1, z2, _⟩ := z
        obtain ⟨r1, r2⟩ := r
        subst z2
        cases z1
        exact wpAny_pure q
theorem ofc_keys : ∀ (ks : List NestedKey) (vs : List Value) (n : Nat), NestedAll s.heap ks vs → NestedKey.depthAll ks ≤ n → ∀ v ∈ vs, Says P w s (ofAClassStatement n v) false
  | [], _, _, x, _, v, m => by cases x; cases m
  | k :: ks, _, n, x, d, v, m => by
    cases x with
    | cons y ys =>
      simp [NestedKey.depthAll] at d
      rcases List.mem_cons.mp m with e | m
      · rw [e]; exact ofc_key k _ n y (by omega)
      · exact ofc_keys ks _ n ys (by omega) v m
end
/-- the search for a key among keys shows nothing of the table -/
theorem unseen_key {k : NestedKey} {b : Addr} (hk : Nk s.heap k b) {ys : List Value} (hy : ∀ y ∈ ys, ∃ k' c, y = Value.ref c ∧ Nk s.heap k' c) : Says P w s (searchCouldBeSeen (.ref b) ys) false := by
  intro A E Q q
  unfold searchCouldBeSeen
  refine wpAny_bind ?_
  refine wpAny_forIn_list _ (fun left r s1 => r.1 = none ∧ s1 = s ∧ ∀ y ∈ left, ∃ k' c, y = Value.ref c ∧ Nk s.heap k' c) _ (fun v left r s1 z => ?_) (fun r s1 z => ?_) _ _ ⟨rfl, rfl, hy⟩
  · obtain ⟨_, z2, z3⟩ := z
    subst z2
    obtain ⟨k', c, e, hc⟩ := z3 v List.mem_cons_self
    subst e
    have tl : ∀ y ∈ left, ∃ k' c, y = Value.ref c ∧ Nk s1.heap k' c := fun u m => z3 u (List.mem_cons_of_mem _ m)
    dsimp only
    cases same : (b == c || (carriedByValue (.ref b) && carriedByValue (.ref c))) with
    | true => exact wp_if_pos rfl (wpAny_pure ⟨rfl, rfl, tl⟩)
    | false =>
      refine wp_if_neg (by simp) ?_
      refine wpAny_bind (quiet_key k _ 8 s1 hk.is hk.dp _ _ _ ?_)
      simp only [Bool.not_true, Bool.false_eq_true, if_false]
      refine wpAny_bind (quiet_key k' _ 8 s1 hc.is hc.dp _ _ _ ?_)
      simp only [Bool.not_true, Bool.false_eq_true, if_false]
      refine wpAny_bind (ofc_key k _ 8 hk.is hk.dp _ _ _ ?_)
      simp only [Bool.false_eq_true, if_false]
      refine wpAny_bind (ofc_key k' _ 8 hc.is hc.dp _ _ _ ?_)
      simp only [Bool.false_eq_true, if_false]
      exact wpAny_pure ⟨rfl, rfl, tl⟩
  · obtain ⟨z1, z2, _⟩ := z
    obtain ⟨r1, r2⟩ := r
    subst z2
    cases z1
    exact wpAny_pure q
end
end Mus

set_option maxRecDepth 100000
set_option maxHeartbeats 4000000
/-! Sets of nested tuples of numbers: finding and adding. -/
namespace Mus
open PySem PySem.Spec PyProof.Rows L2
abbrev KA := Addr × NestedKey
def rowN (w : World) (p : KA) : Int × Value := (p.2.hash w, Value.ref p.1)
/-- the set at a has just the keys of L, each with the object that it came with -/
structure NS (w : World) (h : Heap) (a : Addr) (L : List KA) (es : Array (Int × Value)) (ep : Nat) (t : SetTable) : Prop where
  obj : ∃ o, h.get? a = some o ∧ o.ExactSet ∧ o.data = .set es ep t
  row : es.toList = L.map (rowN w)
  tab : TabOk t (L.map fun p => p.2.hash w)
  dif : (L.map Prod.snd).Nodup
  pl : t.plain = true
  ld : w.params.followText "set-order" = true ∨ t.led = true
  rm : L.length * 5 < t.mask * 3
  fw : L.length < 64
/-- the k-th step of the way of a hash -/
abbrev pth (t : SetTable) (hv : Int) (c : Nat) : SetTable.Probe := nth t.mask (runAt t.mask (SetTable.bits hv % (t.mask + 1)) (SetTable.bits hv)) c
section
variable {P : Program} {w : World} {A : Around} {E : Value → Shared → Prop} {s : Shared} {a : Addr} {L : List KA} {es : Array (Int × Value)} {ep : Nat} {t : SetTable}
theorem NS.len {h : Heap} (R : NS w h a L es ep t) : es.size = L.length := by
  rw [← Array.length_toList, R.row, List.length_map]
theorem NS.fit {h : Heap} (R : NS w h a L es ep t) : t.fits es.size = true := by
  have a1 : t.place.size = L.length := R.tab.sz.trans (List.length_map _)
  have a2 := R.len
  have a3 := R.rm
  unfold SetTable.fits SetTable.fill
  rw [R.tab.dm, Bool.and_eq_true, beq_iff_eq, decide_eq_true_eq, a1, a2]
  exact ⟨rfl, show L.length + 0 ≤ t.mask by omega⟩
theorem NS.ent {h : Heap} (R : NS w h a L es ep t) {i : Nat} {p : KA} (e : L[i]? = some p) : es[i]? = some (rowN w p) := by
  rw [← Array.getElem?_toList, R.row, List.getElem?_map, e]; rfl
theorem NS.stays {h : Heap} (R : NS w h a L es ep t) : t.gaveWay = false := by
  unfold SetTable.gaveWay
  rw [mask_odd R.tab.mok]; rfl
theorem pth_dummy (t : SetTable) (hv : Int) (c : Nat) : (pth t hv c).dummy = none := by
  have gen : ∀ (n : Nat) (p : SetTable.Probe), p.dummy = none → (nth t.mask p n).dummy = none := fun n => by
    induction n with
    | zero => exact fun p z => z
    | succ n ih =>
      exact fun p z => ih (adv t.mask p) (by unfold adv; split <;> exact z)
  exact gen c _ rfl
theorem pth_add (t : SetTable) (hv : Int) (c d : Nat) : nth t.mask (pth t hv c) d = pth t hv (c + d) := (nth_add t.mask c _ d).symm
/-- two places of one slot are one -/
theorem NS.one {h : Heap} (R : NS w h a L es ep t) {i i' j : Nat} (e : t.place.toList[i]? = some j) (e' : t.place.toList[i']? = some j) : i = i' := by
  have z := slot_live R.tab.ris e
  rw [slot_live R.tab.ris e'] at z
  injection z with z
  exact z.symm
theorem NS.seek (R : NS w s.heap a L es ep t) (kL : ∀ p ∈ L, Nk s.heap p.2 p.1) {x : Addr} {k : NestedKey} (hx : Nk s.heap k x) (hu : A.units + 8 < cLine) {K : Nat} (k1 : K < 10 * SetTable.turns t.mask)
    (k2 : (pth t (k.hash w) K).j ∉ t.place.toList) (k3 : ∀ c, c < K → (pth t (k.hash w) c).j ∈ t.place.toList) {Q : SetFound → Shared → Prop} (yes : k ∈ L.map Prod.snd → Q (.there none) s) (no : k ∉ L.map Prod.snd → Q (.free (pth t (k.hash w) K).j false) s) :
    ∀ (f c : Nat) (st : Option SetTable.Probe), st.getD (t.probeStart (k.hash w)) = pth t (k.hash w) c → c ≤ K → K - c < f →
      (∀ (i : Nat) (p : KA), L[i]? = some p → p.2 = k → ∃ d, c ≤ d ∧ d < K ∧ t.place.toList[i]? = some (pth t (k.hash w) d).j) → wpAny (model P w) A (setSearchFrom a (.ref x) (k.hash w) true f st) Q E s
  | 0, _, _, _, _, z, _ => (Nat.not_lt_zero _ z).elim
  | f + 1, c, st, e0, c1, c2, ahead => by
    obtain ⟨o, o1, o2, o3⟩ := R.obj
    rw [setSearchFrom_succ]
    refine wpAny_bind (wpAny_setState_of o1 o3 R.fit ?_)
    dsimp only
    refine wp_if_neg (by rw [R.stays]; exact Bool.false_ne_true) ?_
    try refine wpAny_bind (wpAny_pure ?_)
    have at1 : ∀ d, (nth t.mask (pth t (k.hash w) c) d).j = (pth t (k.hash w) (c + d)).j := fun d => by rw [pth_add]
    have toK : c + (K - c) = K := by omega
    have hashes : ∀ (i : Nat) (p : KA), L[i]? = some p → (es[i]?.map Prod.fst).getD 0 = p.2.hash w := fun i p z => by rw [R.ent z]; rfl
    rcases go_spec t R.tab.ris R.tab.dm (fun i => (es[i]?.map Prod.fst).getD 0) (k.hash w) (10 * SetTable.turns t.mask) (K - c) _ (pth_dummy t (k.hash w) c) (by omega) (fun d z => by rw [at1]; exact k3 _ (by omega)) (by rw [at1, toK]; exact k2) with ⟨d, i, d1, d2, d3, d4, d5⟩ | ⟨d4, d5⟩
    · rw [at1] at d2
      have pr : t.probe (fun i => (es[i]?.map Prod.fst).getD 0) (k.hash w) (st.getD (t.probeStart (k.hash w))) = some (.candidate (pth t (k.hash w) (c + d)).j i (pth t (k.hash w) (c + (d + 1)))) := by
        rw [e0, ← at1, ← pth_add]
        exact d5
      rw [pr]
      dsimp only
      obtain ⟨p, ip⟩ : ∃ p, L[i]? = some p := by
        have z := (List.getElem?_eq_some_iff.mp d2).1
        rw [Array.length_toList, R.tab.sz, List.length_map] at z
        exact ⟨_, List.getElem?_eq_getElem z⟩
      have pL := List.mem_of_getElem? ip
      have kp := kL p pL
      have behind : wpAny (model P w) A (searchRest a (.ref x) (k.hash w) true f es t (pth t (k.hash w) (c + d)).j i (pth t (k.hash w) (c + (d + 1)))) Q E s := by
        unfold searchRest
        rw [R.ent ip]
        dsimp only [rowN]
        refine wpAny_bind (wpAny_holding ((nestedKind P w).eqBool hu ⟨kp.is, kp.dp⟩ ⟨hx.is, hx.dp⟩ ?_))
        refine wpAny_bind (wpAny_setState_of o1 o3 R.fit ?_)
        dsimp only
        by_cases g : p.2 = k
        · exact wp_if_pos (by simp [g]) (wpAny_pure (yes (List.mem_map.mpr ⟨p, pL, g⟩)))
        · refine wp_if_neg (by simp [g]) ?_
          try refine wpAny_bind (wpAny_pure ?_)
          rw [sameMem]
          dsimp only
          simp only [if_true, slot_live R.tab.ris d2, R.ent ip, rowN]
          refine wpAny_bind (wpAny_isSame_ref_self (wpAny_bind (wpAny_pure ?_)))
          simp only [if_true]
          refine wp_if_neg (by simp [g]) ?_
          refine R.seek kL hx hu k1 k2 k3 yes no f (c + (d + 1)) _ rfl (by omega) (by omega) fun i' p' ip' g' => ?_
          obtain ⟨q, q1, q2, q3⟩ := ahead i' p' ip' g'
          refine ⟨q, Nat.lt_of_not_le fun le => ?_, q2, q3⟩
          have le : q ≤ c + d := le
          by_cases eq : q = c + d
          · rw [eq] at q3
            rw [R.one d2 q3, ip'] at ip
            exact g ((congrArg Prod.snd (Option.some.inj ip)).symm.trans g')
          · exact d4 (q - c) i' (by omega) (by rw [at1, show c + (q - c) = q by omega]; exact q3) ((hashes i' p' ip').trans (by rw [g']))
      cases led : t.led with
      | true =>
        refine wp_if_neg (by simp) ?_
        try refine wpAny_bind (wpAny_pure ?_)
        exact behind
      | false =>
        refine wp_if_pos (by simp) ?_
        refine wpAny_bind (unseen_key hx (fun y my => ?_) _ _ _ ?_)
        · obtain ⟨r, mr, er⟩ := List.mem_map.mp my
          have mr : r ∈ es.toList := Array.mem_toList_iff.mpr (Array.mem_filter.mp (Array.mem_toList_iff.mp mr)).1
          rw [R.row] at mr
          obtain ⟨p', mp', ep'⟩ := List.mem_map.mp mr
          exact ⟨p'.2, p'.1, by rw [← er, ← ep']; rfl, kL p' mp'⟩
        · refine wp_if_neg (by decide) ?_
          try refine wpAny_bind (wpAny_pure ?_)
          exact behind
    · have pr : t.probe (fun i => (es[i]?.map Prod.fst).getD 0) (k.hash w) (st.getD (t.probeStart (k.hash w))) = some (.empty (pth t (k.hash w) K).j none) := by
        have z := at1 (K - c)
        rw [toK] at z
        rw [e0, ← z]
        exact d5
      rw [pr]
      dsimp only
      refine wpAny_pure (no fun z => ?_)
      obtain ⟨p', mp', g'⟩ := List.mem_map.mp z
      obtain ⟨i', ip'⟩ := List.getElem?_of_mem mp'
      obtain ⟨q, q1, q2, q3⟩ := ahead i' p' ip' g'
      exact d4 (q - c) i' (by omega) (by rw [at1, show c + (q - c) = q by omega]; exact q3) ((hashes i' p' ip').trans (by rw [g']))
/-- as adding asks for it -/
theorem NS.search (R : NS w s.heap a L es ep t) (kL : ∀ p ∈ L, Nk s.heap p.2 p.1) {x : Addr} {k : NestedKey} (hx : Nk s.heap k x) (hu : A.units + 8 < cLine) {Q : SetFound → Shared → Prop} (yes : k ∈ L.map Prod.snd → Q (.there none) s)
    (no : ∀ K, k ∉ L.map Prod.snd → (pth t (k.hash w) K).j ∉ t.place.toList → (∀ c, c < K → (pth t (k.hash w) c).j ∈ t.place.toList) → Q (.free (pth t (k.hash w) K).j false) s) : wpAny (model P w) A (setSearch a (.ref x) (k.hash w) true) Q E s := by
  have big := R.rm
  obtain ⟨K, k1, k2, k3⟩ := R.tab.first (by rw [List.length_map]; omega) (k.hash w)
  have small : K < 100000 := by
    unfold SetTable.turns at k1
    rcases R.tab.mok with e | e | e <;> omega
  unfold setSearch
  refine R.seek kL hx hu k1 k2 k3 yes (fun z => no K z k2 k3) 100000 0 none rfl (Nat.zero_le _) (by omega) fun i p ip g => ?_
  have ih : (L.map fun p => p.2.hash w)[i]? = some (k.hash w) := by rw [List.getElem?_map, ip, ← g]; rfl
  obtain ⟨j, ij⟩ : ∃ j, t.place.toList[i]? = some j := ⟨_, List.getElem?_eq_getElem (by
    rw [Array.length_toList, R.tab.sz, List.length_map]
    exact (List.getElem?_eq_some_iff.mp ip).1)⟩
  obtain ⟨d, d1, d2⟩ := R.tab.before k2 ih ij
  exact ⟨d, Nat.zero_le _, d1, by rw [ij, ← d2]⟩
end
end Mus

set_option maxRecDepth 100000
set_option maxHeartbeats 4000000
/-! Sets of nested tuples of numbers: the table laid anew; add. -/
namespace Mus
open PySem PySem.Spec PyProof.Rows L2
theorem range_pick {α : Type} : ∀ l : List α, (List.range l.length).filterMap (fun i => l[i]?) = l
  | [] => rfl
  | x :: l => by
    rw [List.length_cons, List.range_succ_eq_map, List.filterMap_cons]
    simp only [List.getElem?_cons_zero, List.filterMap_map]
    have e : ((fun i => (x :: l)[i]?) ∘ Nat.succ) = fun i => l[i]? := by funext i; simp
    rw [e, range_pick l]
section
variable {P : Program} {w : World} {A : Around} {E : Value → Shared → Prop} {s : Shared} {a : Addr} {L : List KA} {es : Array (Int × Value)} {ep : Nat} {t : SetTable}
theorem row_at (row : es.toList = L.map (rowN w)) (i : Nat) : es[i]? = (L[i]?).map (rowN w) := by
  rw [← Array.getElem?_toList, row, List.getElem?_map]
/-- the rows in another order -/
theorem row_order (row : es.toList = L.map (rowN w)) {order : Array Nat} (pm : order.toList.Perm (List.range L.length)) :
    ∃ L2 : List KA, (order.filterMap (es[·]?)).toList = L2.map (rowN w) ∧ L2.Perm L ∧ (L2.map fun p => p.2.hash w) = order.toList.map fun i => (es.map (·.1)).getD i 0 := by
  refine ⟨order.toList.filterMap fun i => L[i]?, ?_, ?_, ?_⟩
  · rw [Array.toList_filterMap, List.map_filterMap]
    exact congrArg (fun g => List.filterMap g order.toList) (funext fun i => row_at row i)
  · have z := pm.filterMap fun i => L[i]?
    rw [range_pick] at z
    exact z
  · have lt : ∀ i ∈ order.toList, i < L.length := fun i m => List.mem_range.mp (pm.mem_iff.mp m)
    generalize order.toList = l at lt
    induction l with
    | nil => rfl
    | cons i l ih =>
      have li := lt i List.mem_cons_self
      have e1 : L[i]? = some L[i] := List.getElem?_eq_getElem li
      have e2 : (es.map (·.1))[i]? = some (L[i].2.hash w) := by rw [Array.getElem?_map, row_at row, e1]; rfl
      rw [List.filterMap_cons_some e1, List.map_cons, List.map_cons, ih fun j m => lt j (List.mem_cons_of_mem _ m)]
      rw [Array.getD_eq_getD_getElem?, e2]; rfl
theorem relayN {o : Obj} (o1 : s.heap.get? a = some o) (o2 : o.ExactSet) (o3 : o.data = .set es ep t) (row : es.toList = L.map (rowN w)) (sz : t.place.size = es.size) (dm : t.dummies = #[]) (lo : es.size ≤ t.mask)
    (dif : (L.map Prod.snd).Nodup) (pl : t.plain = true) (ld : w.params.followText "set-order" = true ∨ t.led = true) (fw : L.length < 64) {want M : Nat} (m1 : SetTable.sizeAbove want - 1 = M) (m2 : MaskOk M)
    (m3 : SetTable.sizeAbove want ≤ 128) (rm : L.length * 5 < M * 3) {Q : Unit → Shared → Prop} (q : ∀ h' L' es' ep' t', Heap.SameBut a s.heap h' → NS w h' a L' es' ep' t' → L'.Perm L → Q () { s with heap := h' }) :
    wpAny (model P w) A (setRelay a want) Q E s := by
  have le : es.size = L.length := by rw [← Array.length_toList, row, List.length_map]
  have fit : t.fits es.size = true := by
    unfold SetTable.fits SetTable.fill
    rw [dm, Bool.and_eq_true, beq_iff_eq, decide_eq_true_eq, sz]
    exact ⟨rfl, lo⟩
  obtain ⟨t', order, r1, r2, r3, r4, r5, r6, _⟩ := relaid_ok t (hs := es.map (·.1)) m1 m2 (by rw [Array.size_map, le]; omega)
  rw [Array.size_map, le] at r2
  obtain ⟨L2, n1, n2, n3⟩ := row_order row r2
  rw [← n3] at r3
  have le2 : (order.filterMap (es[·]?)).size = es.size := by rw [← Array.length_toList, n1, List.length_map, n2.length_eq, le]
  rw [setRelay_eq]
  refine wpAny_bind (wpAny_setState_of o1 o3 fit ?_)
  dsimp only
  refine wp_if_neg (by rw [sizeLine_eq]; omega) ?_
  try refine wpAny_bind (wpAny_pure ?_)
  rw [r1]
  dsimp only
  refine wpAny_bind (wp_if_neg (by rw [le2]; simp) ?_)
  try refine wpAny_bind (wpAny_pure ?_)
  refine wpAny_pure ?_
  dsimp only
  have other := Heap.SameBut.update s.heap a (Obj.putSet (order.filterMap (es[·]?)) t')
  refine wpAny_storeSet_of o1 o3 (q _ L2 _ (ep + 1) t' other ⟨⟨_, store_at o1 o3, ⟨o2.1, o2.2.1, o2.2.2⟩, rfl⟩, n1, r3, (n2.map Prod.snd).nodup_iff.mpr dif, r6.trans pl, ?_, ?_, by rw [n2.length_eq]; exact fw⟩ n2) (by rw [le2, le, sizeLine_eq]; omega)
  · rw [r5]; exact ld
  · rw [n2.length_eq, r4]; exact rm
theorem NS.add (R : NS w s.heap a L es ep t) (kL : ∀ p ∈ L, Nk s.heap p.2 p.1) {x : Addr} {k : NestedKey} (hx : Nk s.heap k x) (hu : A.units + 8 < cLine) (more : L.length + 1 < 64) {Q : Bool → Shared → Prop}
    (q : ∀ b h' L' es' ep' t', Heap.SameBut a s.heap h' → NS w h' a L' es' ep' t' → (k ∈ L.map Prod.snd → L' = L) → (k ∉ L.map Prod.snd → L'.Perm ((x, k) :: L)) → Q b { s with heap := h' }) :
    wpAny (model P w) A (setAddHashed a (.ref x) (k.hash w)) Q E s := by
  obtain ⟨o, o1, o2, o3⟩ := R.obj
  have le := R.len
  have rm := R.rm
  unfold setAddHashed
  refine wpAny_holding ?_
  rw [show (100000 : Nat) = 99999 + 1 from rfl, setAddHashedIn_succ]
  refine wpAny_bind (wpAny_setState_of o1 o3 R.fit ?_)
  dsimp only
  refine wp_if_neg (by simp [byScan, Value.scannable]) ?_
  try refine wpAny_bind (wpAny_pure ?_)
  refine wpAny_bind (R.search kL hx hu (fun mem => ?_) fun K mem free taken => ?_)
  · dsimp only
    exact wpAny_pure (q false s.heap L es ep t (Heap.SameBut.refl a s.heap) R (fun _ => rfl) fun z => (z mem).elim)
  · dsimp only
    refine wpAny_bind (wpAny_setState_of o1 o3 R.fit ?_)
    dsimp only
    obtain ⟨b1, b2, b3, b4, b5, b6, _, _, b9⟩ := R.tab.put free taken
    have rows : (SetTable.insertAt es (SetTable.below t.place (pth t (k.hash w) K).j) (k.hash w, Value.ref x)).toList = (L.take (SetTable.below t.place (pth t (k.hash w) K).j) ++ (x, k) :: L.drop (SetTable.below t.place (pth t (k.hash w) K).j)).map (rowN w) := by
      rw [SetTable.toList_insertAt, R.row, List.map_append, List.map_cons, List.map_take, List.map_drop]; rfl
    have plain' := b6.trans R.pl
    generalize t.put (way t.mask (k.hash w) K) = tp at *
    obtain ⟨t1, p⟩ := tp
    dsimp only at b1 b3 b4 b5 b6 b9 plain' ⊢
    subst b1
    have hp : wpAny (model P w) A (hashByValue 8 (.ref x)) (fun b s' => b = true ∧ s' = s) E s := byv_key k _ 8 hx.is hx.nm hx.dp _ _ _ ⟨rfl, rfl⟩
    have hp2 : ∀ {β : Type} {g : Bool → Sem β} {Q' : β → Shared → Prop}, wpAny (model P w) A (g true) Q' E s → wpAny (model P w) A (hashByValue 8 (.ref x) >>= g) Q' E s := fun {β g Q'} z => wpAny_bind (byv_key k _ 8 hx.is hx.nm hx.dp _ _ _ z)
    first
      | (refine wpAny_bind ?_; refine wp_if_pos plain' ?_; refine byv_key k _ 8 hx.is hx.nm hx.dp _ _ _ ?_)
      | refine wp_if_pos plain' (hp2 ?_)
    simp only [if_true]
    generalize SetTable.below t.place (pth t (k.hash w) K).j = p at *
    have pm : (L.take p ++ (x, k) :: L.drop p).Perm ((x, k) :: L) := by
      have z : (L.take p ++ (x, k) :: L.drop p).Perm ((x, k) :: (L.take p ++ L.drop p)) := List.perm_middle
      rw [List.take_append_drop] at z
      exact z
    have tab' : TabOk t1 ((L.take p ++ (x, k) :: L.drop p).map fun p => p.2.hash w) := by
      rw [List.map_append, List.map_cons, List.map_take, List.map_drop]
      exact b3
    generalize L.take p ++ (x, k) :: L.drop p = L1 at *
    have le1 : L1.length = L.length + 1 := pm.length_eq
    have dif1 : (L1.map Prod.snd).Nodup := (pm.map Prod.snd).nodup_iff.mpr (List.nodup_cons.mpr ⟨mem, R.dif⟩)
    generalize SetTable.insertAt es p (k.hash w, Value.ref x) = es1 at *
    have les : es1.size = L.length + 1 := by rw [← Array.length_toList, rows, List.length_map, le1]
    refine wpAny_bind (wpAny_storeSet_of o1 o3 ?_ (by rw [les, sizeLine_eq]; omega))
    have other := Heap.SameBut.update s.heap a (Obj.putSet es1 t1)
    have new1 := store_at (es' := es1) (t' := t1) o1 o3
    generalize s.heap.update a (Obj.putSet es1 t1) = h1 at *
    have led1 : w.params.followText "set-order" = true ∨ t1.led = true := by rw [b5]; exact R.ld
    rw [List.length_map] at b9
    cases full : t1.tooFull with
    | true =>
      have fl : (L.length + 1) * 5 ≥ t1.mask * 3 := by
        unfold SetTable.tooFull at full
        rw [decide_eq_true_eq, b9] at full
        exact full
      have two : (t.mask = 7 ∧ L.length = 4) ∨ (t.mask = 31 ∧ L.length = 18) := by
        rw [b4] at fl
        rcases R.tab.mok with e | e | e <;> rw [e] at fl rm <;> omega
      have lay : ∀ M, SetTable.sizeAbove (SetTable.grown (L.length + 1)) - 1 = M → MaskOk M → SetTable.sizeAbove (SetTable.grown (L.length + 1)) ≤ 128 → (L.length + 1) * 5 < M * 3 → ∀ {Q' : Unit → Shared → Prop},
          (∀ h2 L2 es2 ep2 t2, Heap.SameBut a h1 h2 → NS w h2 a L2 es2 ep2 t2 → L2.Perm L1 → Q' () { s with heap := h2 }) → wpAny (model P w) A (setRelay a (SetTable.grown (L.length + 1))) Q' E { s with heap := h1 } := fun M y1 y2 y3 y4 Q' qq => by
        refine relayN (s := { s with heap := h1 }) new1 ⟨o2.1, o2.2.1, o2.2.2⟩ rfl rows ?_ tab'.dm ?_ dif1 plain' led1 (by rw [le1]; exact more) y1 y2 y3 (by rw [le1]; exact y4) qq
        · rw [tab'.sz, List.length_map, le1, les]
        · rw [les, b4]; rcases two with ⟨z1, z2⟩ | ⟨z1, z2⟩ <;> rw [z1, z2] <;> decide
      have fin : ∀ {Q' : Unit → Shared → Prop}, (∀ h2 L2 es2 ep2 t2, Heap.SameBut a h1 h2 → NS w h2 a L2 es2 ep2 t2 → L2.Perm L1 → Q' () { s with heap := h2 }) → wpAny (model P w) A (setRelay a (SetTable.grown (L.length + 1))) Q' E { s with heap := h1 } := fun {Q'} qq => by
        rcases two with ⟨_, z⟩ | ⟨_, z⟩
        · exact lay 31 (by rw [z, size_20]) (.inr (.inl rfl)) (by rw [z, size_20]; decide) (by omega) qq
        · exact lay 127 (by rw [z, size_76]) (.inr (.inr rfl)) (by rw [z, size_76]; decide) (by omega) qq
      rw [le]
      have ff : ∀ h2 L2 es2 ep2 t2, Heap.SameBut a h1 h2 → NS w h2 a L2 es2 ep2 t2 → L2.Perm L1 → wpAny (model P w) A (pure true) Q E { s with heap := h2 } := fun h2 L2 es2 ep2 t2 z1 z2 z3 => wpAny_pure (q true h2 L2 es2 ep2 t2 (other.trans z1) z2 (fun z => (mem z).elim) fun _ => z3.trans pm)
      first
        | (refine wpAny_bind ?_; refine wp_if_pos (by simp) ?_; exact fin ff)
        | (refine wp_if_pos (by simp) ?_; exact wpAny_bind (fin ff))
    | false =>
      first
        | refine wp_if_neg (by simp) ?_
        | (refine wpAny_bind ?_; refine wp_if_neg (by simp) ?_; refine wpAny_pure ?_)
      refine wpAny_pure (q true h1 L1 es1 (ep + 1) t1 other ⟨⟨_, new1, ⟨o2.1, o2.2.1, o2.2.2⟩, rfl⟩, rows, tab', dif1, plain', led1, ?_, by rw [le1]; exact more⟩ (fun z => (mem z).elim) fun _ => pm)
      unfold SetTable.tooFull at full
      rw [decide_eq_false_iff_not, b9] at full
      rw [le1]
      omega
end
end Mus

set_option maxRecDepth 100000
set_option maxHeartbeats 4000000
/-! Walks over the values of a dict with nested keys; a set of nested keys, made by a comprehension; sorted of it. -/
namespace Mus
open PySem PySem.Spec PyProof.Rows L2
/-! ### d.values(), d locked -/
theorem paired_get {α β : Type} {R : α → β → Prop} {as : List α} {bs : List β} (r : Paired R as bs) : ∀ {i : Nat} {x : α}, as[i]? = some x → ∃ y, bs[i]? = some y ∧ R x y := by
  induction r with
  | nil => intro i x h; cases h
  | @cons p q ps qs h t ih =>
    intro i x e
    cases i with
    | zero => cases e; exact ⟨q, rfl, h⟩
    | succ i => exact ih (i := i) e
def ItvN (w : World) (d : Addr) (o : Obj) (kvs : NKV) : It :=
  ⟨fun i H => H d = some (.frz o (ndO w d kvs)) ∧ i < kvs.length, fun i H v H' => H' = H ∧ ∃ k b, kvs[i]? = some (k, b, v), fun i H => H d = some (.frz o (ndO w d kvs)) ∧ kvs.length ≤ i⟩
def iValsN (w : World) (td : TE) : TI := fun σ H R => td σ H fun x H1 => ∃ d o kvs, x = .ref d ∧ H1 d = some (.frz o (ndO w d kvs)) ∧ (d == sysModules) = false ∧ R (ItvN w d o kvs) H1
theorem frz_nd {X : Cx} {pins : List (Addr × Obj)} {σ : L2.St} {H : Hp} {s : Shared} {d : Addr} {o : Obj} {kvs : NKV} (I : Inv X pins σ H s) (h : H d = some (.frz o (ndO X.w d kvs))) :
    ∃ xs es ep, KN kvs xs ∧ o.data = .dict es ep ∧ s.heap.DictRaw d es ep ∧ es.toList = xs.map (ndE X.w) := by
  obtain ⟨h1, ⟨xs, o', es, ep, rel, g1, g2, g3, g4⟩, _⟩ := (show s.heap.get? d = some o ∧ ObjOk X.prog X.w H s.heap d (ndO X.w d kvs) from I.hok d _ h)
  rw [h1] at g1
  cases g1
  exact ⟨xs, es, ep, rel, g3, ⟨o, h1, g2, g3⟩, g4⟩
theorem turn_valsN {P : Program} {w : World} {K : PySem.W.Frag} {tg : Expr} {d : Addr} {o : Obj} {kvs : NKV} {es : Array DictEntry} {ep : Nat} (it : Addr) (od : o.data = .dict es ep) (len : es.size = kvs.length) : Turn P w K tg (ItvN w d o kvs) [it] it (fun i h => h.IsValIter it d i es.size ep) where
  mem := List.mem_singleton.mpr rfl
  obj := fun i h st b hb => by
    rw [List.mem_singleton.mp hb]
    obtain ⟨oi, q1, q2, q3⟩ := st
    exact ⟨oi, q1, fun v z => by rw [q3] at z; cases z⟩
  keep := fun i h h' st k => st.at fun oi q => k it (List.mem_singleton.mpr rfl) oi q
  item := by
    intro X e1 e2 e3 hc i pins s σ H E I hf st hg
    subst e1 e2 e3
    obtain ⟨hd, hi⟩ := hg
    obtain ⟨p0, p1, p2, p3, p4, p5⟩ := hf it (List.mem_singleton.mpr rfl)
    obtain ⟨xs, es', ep', rel, od', raw, rows⟩ := frz_nd I hd
    rw [od] at od'
    cases od'
    have lx : es.size = xs.length := by rw [len, Paired.length rel]
    refine wpAny_pyNext_values_item_raw st raw (by rw [len]; exact hi) fun h' st' sb => ?_
    obtain ⟨q, hq⟩ : ∃ q, kvs[i]? = some q := ⟨_, List.getElem?_eq_getElem hi⟩
    obtain ⟨x, hx, _, _, rx⟩ := paired_get rel hq
    have ev : es[i]'(by rw [len]; exact hi) = ndE X.w x := by
      have z : es.toList[i]? = some (ndE X.w x) := by rw [rows, List.getElem?_map, hx]; rfl
      rw [Array.getElem?_toList] at z
      rw [Array.getElem?_eq_getElem (by rw [len]; exact hi)] at z
      exact Option.some.inj z
    have I1 : Inv X pins σ H { s with heap := h' } := I.turned (t' := s.toks) (fun b ob hb e => (sb.2 b hb).trans e) p0 p1 p3 p4 p5
    obtain ⟨oi, g1, g2, g3⟩ := id st'
    refine ⟨_, rfl, go_of (s := { s with heap := h' }) g1 g2 g3 (by decide) ⟨q.2.2, H, I1, ?_, ⟨rfl, q.1, q.2.1, hq⟩, st', fun b hb => (hf b hb).1⟩⟩
    rw [ev]
    exact rx
  done := by
    intro X e1 e2 e3 hc i pins s σ H E I hf st hg
    subst e1 e2 e3
    obtain ⟨hd, hi⟩ := hg
    obtain ⟨p0, p1, p2, p3, p4, p5⟩ := hf it (List.mem_singleton.mpr rfl)
    obtain ⟨xs, es', ep', rel, od', raw, rows⟩ := frz_nd I hd
    rw [od] at od'
    cases od'
    exact wpAny_pyNext_values_end_raw (I.ok.hd hc) st raw (by rw [len]; exact hi) fun h' eb => ⟨rfl, I.turned (t' := s.toks) (fun b ob hb e => eb b ob hb e) p0 p1 p3 p4 p5⟩
  self := fun A i s Q E st h => wpAny_pyIter_valiter st h
section
variable {X : Cx}
theorem pi_valuesN {tg e : Expr} {td : TE} {apos cpos : Pos} (he : PE X e td) (hb : attributeBase e "values" X.env (eval e X.env) = eval e X.env := by rfl) (hl : (apos.endLine == cpos.line) = true := by rfl) : PI X tg (.Call (.Attribute e "values" apos) [] [] cpos) (iValsN X.w td) := by
  refine ⟨fun pins s σ H R I h => ?_⟩
  refine wpAny_Call_method (T := "dict") (id := "dict.values") hb rfl hl F.plainAttrs_dict F.slot_dict_values F.type_dict_values (thn (he.run pins s σ H _ I h) fun u s1 ⟨x, H1, I1, rx, d, o, kvs, ex, hd, hs, q⟩ => ?_)
  subst ex
  cases (show u = Value.ref d from rx)
  obtain ⟨xs, es, ep, rel, od, raw, rows⟩ := frz_nd I1 hd
  have len : es.size = kvs.length := by rw [← Array.length_toList, rows, List.length_map, Paired.length rel]
  obtain ⟨ob, g1, g2, g3⟩ := id raw
  refine ⟨raw.typeIs, fun a e => by cases e; exact ⟨ob, g1, g2.2.1⟩, ?_⟩
  have I2 : Inv X pins σ H1 { s1 with heap := s1.heap.push { cls := .type "dict_values", data := .fields #[.ref d] } } := I1.kept (t' := s1.toks) fun b ob q => Heap.get?_push_of_some _ q
  have raw2 : (s1.heap.push { cls := .type "dict_values", data := .fields #[.ref d] }).DictRaw d es ep := raw.at fun _ e => Heap.get?_push_of_some _ e
  have fin : wpAny (model X.prog X.w) X.A (pyIter (.ref s1.heap.objs.size)) (PIE X pins σ tg R) X.xe { s1 with heap := s1.heap.push { cls := .type "dict_values", data := .fields #[.ref d] } } := by
    refine wpAny_pyIter_values_raw (s := { s1 with heap := s1.heap.push { cls := .type "dict_values", data := .fields #[.ref d] } }) ⟨_, Heap.get?_push_size _ rfl, rfl, rfl⟩ raw2 (pi_one (tk := s1.toks) I2 _ (turn_valsN _ od len) ⟨_, Heap.get?_push_size _ rfl, rfl, rfl⟩ q)
  show wpAny _ _ (callWith cpos (.builtin "dict.values") [.ref d] [] []) _ X.xe s1
  exact method_meetsIn F.slot_dict_values F.entry_dict_values rfl (PySem.evalArgs_none ⟨rfl, raw.typeIs, F.args_dict_values_1 _, _, meets_dict_values_raw d hs, ⟨es, ep, raw⟩, fin⟩)
end
end Mus

set_option maxRecDepth 100000
set_option maxHeartbeats 4000000
/-! {x for y in z}, x a nested tuple of numbers; sorted of such a set. -/
namespace Mus
open PySem PySem.Spec PyProof.Rows L2
def NS0 (w : World) (h : Heap) (a : Addr) (L : List KA) : Prop := ∃ es ep t, NS w h a L es ep t
def nsO (w : World) (a : Addr) (L : List KA) : HO := .ext fun h => NS0 w h a L
/-- what a member of the set, or what is added, must be -/
def KeyAt (H : Hp) (p : KA) : Prop := NK H (.ref p.1) p.2 ∧ p.2.depth ≤ 8 ∧ numK p.2 = true
theorem KeyAt.mono {H H' : Hp} {p : KA} (h : KeyAt H p) (k : ∀ b xs, H b = some (.tup xs) → H' b = some (.tup xs)) : KeyAt H' p := ⟨h.1.mono k, h.2⟩
theorem NS0.keep {w : World} {h h' : Heap} {a : Addr} {L : List KA} (R : NS0 w h a L) (k : ∀ o, h.get? a = some o → h'.get? a = some o) : NS0 w h' a L := by
  obtain ⟨es, ep, t, R⟩ := R
  obtain ⟨o, o1, o2⟩ := R.obj
  exact ⟨es, ep, t, ⟨o, k o o1, o2⟩, R.row, R.tab, R.dif, R.pl, R.ld, R.rm, R.fw⟩
theorem nsO_ok {w : World} {P : Program} {H : Hp} {h : Heap} {a : Addr} {L : List KA} (R : NS0 w h a L) : ObjOk P w H h a (nsO w a L) := by
  obtain ⟨es, ep, t, R'⟩ := id R
  obtain ⟨o, o1, _⟩ := R'.obj
  exact ⟨R, ⟨o, o1⟩, fun h1 h2 p k => NS0.keep p k⟩
abbrev setOb (w : World) : Obj := { cls := .type "set", dict := none, data := .set #[] 0 (.fresh 0 0 (!w.params.followText "set-order")) }
theorem ns_new (w : World) (h : Heap) : NS0 w (h.push (setOb w)) h.objs.size [] :=
  ⟨#[], 0, _, ⟨_, Heap.get?_push_size _ rfl, ⟨rfl, rfl, rfl⟩, rfl⟩, rfl, ⟨List.Pairwise.nil, rfl, rfl, .inl rfl, fun x m => (by cases m), fun i h j e => (by simp at e)⟩, List.nodup_nil, rfl,
    (by
      show _ ∨ (!w.params.followText "set-order") = true
      cases w.params.followText "set-order" <;> first | exact .inr rfl | exact .inl rfl), (by show 0 * 5 < 7 * 3; decide), (by show 0 < 64; decide)⟩
section
variable {X : Cx} {pins : List (Addr × Obj)} {σ : L2.St} {H : Hp} {s : Shared}
theorem KeyAt.nk {p : KA} (h : KeyAt H p) (I : Inv X pins σ H s) : Nk s.heap p.2 p.1 := ⟨h.1.is I.hok rfl, h.2.1, h.2.2⟩
theorem ns_get {a : Addr} {L : List KA} (I : Inv X pins σ H s) (h : H a = some (nsO X.w a L)) : NS0 X.w s.heap a L := (I.hok a _ h).1
/-- what a set may hold when k, at x, was added -/
def Added (L : List KA) (x : Addr) (k : NestedKey) (L' : List KA) : Prop := (k ∈ L.map Prod.snd → L' = L) ∧ (k ∉ L.map Prod.snd → L'.Perm ((x, k) :: L))
theorem call_setadd {E : Value → Shared → Prop} {D x : Addr} {k : NestedKey} {L : List KA} {Q : Value → Shared → Prop} (hu : X.A.units + 64 < cLine) (I : Inv X pins σ H s) (hD : H D = some (nsO X.w D L)) (kL : ∀ p ∈ L, KeyAt H p) (kx : KeyAt H (x, k)) (more : L.length + 1 < 64)
    (q : ∀ s' L', Added L x k L' → Inv X pins σ (upd H D (nsO X.w D L')) s' → Q .none s') : wpAny (model X.prog X.w) X.A (call (.builtin "set.add") [.ref D, .ref x]) Q E s := by
  obtain ⟨es, ep, t, R⟩ := ns_get I hD
  obtain ⟨o, o1, o2, o3⟩ := R.obj
  have nx := kx.nk I
  refine wpAny_call_entry F.slot_set_add ⟨o, o1, o2.1⟩ F.entry_set_add ?_ (F.args_set_add_2 _ _)
  unfold Builtin.«set.add» Builtin.Frozenset.oneOther
  simp only [List.isEmpty_nil, bind_assoc]
  unfold Builtin.Frozenset.addrOf setAdd
  refine wpAny_bind (wpAny_pure ?_)
  try dsimp only
  refine wpAny_bind (wpAny_pure ?_)
  try dsimp only
  have u1 : X.A.in1.units = X.A.units + 1 := rfl
  refine wpAny_bind (wpAny_holding (wpAny_bind ((nestedKind X.prog X.w).pyHash (show X.A.in1.units + 8 < cLine by omega) ⟨nx.is, nx.dp⟩ ?_)))
  refine NS.add (s := { s with toks := s.toks + k.draws }) R (fun p m => (show Nk s.heap p.2 p.1 from (kL p m).nk I)) nx (show X.A.in1.units + 8 < cLine by omega) more fun b h' L' es' ep' t' sb R' c1 c2 => ?_
  show wpAny _ _ (ret Value.none) _ _ _
  obtain ⟨o', g, _⟩ := R'.obj
  exact wpAny_pure ⟨_, rfl, q _ L' ⟨c1, c2⟩ (I.write (e := D) (t' := s.toks + k.draws) (by rw [hD]; trivial) (.inl rfl) (fun c u n z => (sb.2 c n).trans z) ⟨o', g⟩ (nsO_ok ⟨es', ep', t', R'⟩))⟩
end
/-! ### the comprehension -/
/-- D is the new set -/
def tScN (w : World) (wi : TI) (g : TG) (tt : TT) (te : TE) (vs : List Nat) : TE := fun σ H Q => wi σ H fun J H1 => ∀ D, H1 D = none → ∃ W : Nat → Nat → Hp → Prop, (∃ m, W 0 m (upd H1 D (nsO w D []))) ∧ ∀ i m H, W i m H →
  (J.stop i H ∧ Q (.ref D) H) ∨ (J.go i H ∧ ∃ Nx : Hp → Prop, (∀ H', Nx H' → ∃ m', m' < m ∧ W (i + 1) m' H') ∧ ∀ x H', J.yld i H x H' → g x (wipe σ vs) H' fun σ2 H2 => wipe σ2 vs = wipe σ vs ∧ tt σ2 H2 fun b H3 =>
    if b = true then te σ2 H3 fun y H4 => ∃ (z : Addr) (k : NestedKey) (L : List KA), y = .ref z ∧ H4 D = some (nsO w D L) ∧ (∀ p ∈ L, KeyAt H4 p) ∧ KeyAt H4 (z, k) ∧ L.length + 1 < 64 ∧ ∀ L', Added L z k L' → Nx (upd H4 D (nsO w D L')) else Nx H3)
section
variable {X : Cx}
theorem pe_scN {elt tgt it0 : Expr} {ifs : List Expr} {sc : Scope} {own : List (PySem.Str × Nat)} {pos : Pos} {wi : TI} {g : TG} {tt : TT} {te : TE} (calm : X.calm = true) (hu : X.A.units + 64 < cLine) (nd : X.N.Nodup) (pi : PI X tgt it0 wi) (blk : BlkOk X.N X.env.scope sc own)
    (pg : ∀ (s : Shared) (H : Hp) (C : Addr) (cl : List (PySem.Str × Addr)) (fp : List Addr), PG (X.blk s H sc (compEnvC sc cl C X.env) fp) tgt g) (pt : ∀ (s : Shared) (H : Hp) (C : Addr) (cl : List (PySem.Str × Addr)) (fp : List Addr), PTs (X.blk s H sc (compEnvC sc cl C X.env) fp) ifs tt)
    (pe : ∀ (s : Shared) (H : Hp) (C : Addr) (cl : List (PySem.Str × Addr)) (fp : List Addr), PE (X.blk s H sc (compEnvC sc cl C X.env) fp) elt te) (plain : ∀ x, foldedSetIterable it0 X.env x = pure x := by intro _; rfl) :
    PE X (.SetComp elt [⟨tgt, it0, ifs, 0⟩] sc pos) (tScN X.w wi g tt te (own.map Prod.snd)) := by
  refine ⟨fun pins s σ H Q I h => ?_⟩
  rw [PpSet.eval_SetComp]
  have free : ∀ y ∈ sc.names, y.2 = .free → ∃ c, X.env.cells.lookup y.1 = some c := fun y m e => (blk.free y m e).elim (fun z => I.ok.has _ (.inl z)) fun z => I.ok.has _ (.inr z)
  refine wpAny_comprehension_free (use := none) rfl plain (closure_ok free) blk.kind (fun y m e => by rw [blk.uniq y m, e]) (thn (pi.run pins s σ H _ I h) fun xv s1 hx => thn hx fun itv s2 z2 => ?_)
  obtain ⟨it, fp, tn, J, H2, e, I2, T, st2, f2, q⟩ := z2
  subst e
  refine PpSet.newSet_ok (newEnv_comp ?_)
  generalize eD : s2.heap.objs.size = D
  have D0 : H2 D = none := I2.hok.fresh (Nat.le_of_eq eD)
  obtain ⟨W, ⟨m0, w0⟩, turn⟩ := q D D0
  generalize e3 : ({ s2 with heap := s2.heap.push (setOb X.w) } : Shared) = s3
  have g3 : s3.heap = s2.heap.push (setOb X.w) := by rw [← e3]
  have up3 : ∀ b o, s2.heap.get? b = some o → s3.heap.get? b = some o := fun b o z => by rw [g3]; exact Heap.get?_push_of_some _ z
  have I3 : Inv X pins σ (upd H2 D (nsO X.w D [])) s3 := by
    rw [← e3]
    refine I2.laid (t' := s2.toks) (fun b o z => Heap.get?_push_of_some _ z) (Nat.le_of_eq eD) ?_
    rw [← eD]
    exact nsO_ok (ns_new X.w s2.heap)
  have f3 : ∀ b ∈ fp, FpOk X pins (upd H2 D (nsO X.w D [])) b ∧ b < s3.heap.objs.size := fun b m => by
    obtain ⟨o, z, _⟩ := T.obj _ _ st2 b m
    have lt := Heap.lt_size z
    have ne : b ≠ D := by rw [← eD]; exact Nat.ne_of_lt lt
    exact ⟨⟨by rw [upd_ne ne]; exact (f2 b m).1, (f2 b m).2⟩, by rw [g3, Heap.size_push]; exact Nat.lt_succ_of_lt lt⟩
  have I4 := block_start I3 blk nd f3
  show codeAny _ _ (.compStart (.SetComp elt [⟨tgt, it0, ifs, 0⟩] sc pos) 0 (.ref it) (.ref D) (compEnvC sc (cellsFrom (s3.heap.objs.size + 1) sc.names (cloFrom X.env.cells sc.names [])) s3.heap.objs.size X.env)) (compPost (model X.prog X.w) X.A X.xe none _ (.ref D) s3.heap.objs.size) { s3 with heap := pushCells (s3.heap.push { cls := .type "dict", data := .dict #[] }) sc.names }
  have PGc := pg s3 (upd H2 D (nsO X.w D [])) s3.heap.objs.size (cellsFrom (s3.heap.objs.size + 1) sc.names (cloFrom X.env.cells sc.names [])) fp
  have PTc := pt s3 (upd H2 D (nsO X.w D [])) s3.heap.objs.size (cellsFrom (s3.heap.objs.size + 1) sc.names (cloFrom X.env.cells sc.names [])) fp
  have PEc := pe s3 (upd H2 D (nsO X.w D [])) s3.heap.objs.size (cellsFrom (s3.heap.objs.size + 1) sc.names (cloFrom X.env.cells sc.names [])) fp
  have fp0 : ∀ b ∈ fp, (upd H2 D (nsO X.w D [])) b = none := fun b m => (f3 b m).1.1
  generalize ec : compEnvC sc (cellsFrom (s3.heap.objs.size + 1) sc.names (cloFrom X.env.cells sc.names [])) s3.heap.objs.size X.env = env at I4 PGc PTc PEc ⊢
  have loc : env.locals = s3.heap.objs.size := by rw [← ec]; rfl
  generalize eH : upd H2 D (nsO X.w D []) = H3 at I3 I4 PGc PTc PEc w0 fp0 f3
  generalize e4 : ({ s3 with heap := pushCells (s3.heap.push { cls := .type "dict", data := .dict #[] }) sc.names } : Shared) = s4 at I4 ⊢
  have st4 : tn 0 s4.heap := T.keep _ _ _ st2 fun b _ o z => by rw [← e4]; exact pushCells_keeps _ _ _ _ (Heap.get?_push_of_some _ (up3 b o z))
  have stat : ∀ {σ' : L2.St} {H' : Hp} {s' : Shared}, Inv (X.blk s3 H3 sc env fp) [] σ' H' s' → (∀ b ∈ fp, H' b = none) → ∀ b ∈ fp, FpOk (X.blk s3 H3 sc env fp) [] H' b := fun {σ' H' s'} I' n b m =>
    ⟨n b m, (I'.ok.exf b m).1, I'.ok.exfs b m, .inl m, fun x c z => (I'.ok.exf b m).2 x c z, fun p hp => by cases hp⟩
  refine PpSet.codeAny_compStart_set ?loop (T.self X.A 0 _ _ _ st4 ?loop)
  refine PpSet.compLoopS_any (fun n s' => ∃ i H', Inv (X.blk s3 H3 sc env fp) [] (wipe σ (own.map Prod.snd)) H' s' ∧ tn i s'.heap ∧ (∀ b ∈ fp, H' b = none) ∧ W i n H') ?_ m0 ⟨0, H3, I4, st4, fp0, w0⟩
  rintro n s5 ⟨i, H5, I5, st5, n5, w5⟩
  rcases turn i n H5 w5 with ⟨stop, out⟩ | ⟨go, Nx, hNx, step⟩
  · refine thnF (T.done (X.blk s3 H3 sc env fp) rfl rfl rfl calm i [] s5 _ H5 (fun _ _ => False) I5 (stat I5 n5) st5 stop) fun r s6 z6 => ?_
    obtain ⟨er, I6⟩ := z6
    subst er
    have I7 : Inv X pins σ H5 s6 := I3.call' (ch := fp) I6.os I6.base I6.hok I6.bare fun b m => ⟨(f3 b m).1.2.2.2.1, (f3 b m).1.2.1, (f3 b m).1.2.2.2.2.1, (f3 b m).1.2.2.2.2.2⟩
    have none1 : H5 s3.heap.objs.size = none := by rw [← loc]; exact I6.free
    obtain ⟨mm, hn, _⟩ := I6.loc
    have hn : s6.heap.Ns env.locals mm := hn
    rw [loc] at hn
    refine ⟨mm, hn, fun h'' sb => ?_⟩
    obtain ⟨c0, c1, c2, c3, c4, c5⟩ := I3.fpOk (Nat.le_refl s3.heap.objs.size) none1
    exact ⟨.ref D, H5, I7.turned (t' := s6.toks) (fun b o nb z => (sb.2 b nb).trans z) c0 c1 c3 c4 c5, rfl, out⟩
  · refine thnF (T.item (X.blk s3 H3 sc env fp) rfl rfl rfl calm i [] s5 _ H5 (fun _ _ => False) I5 (stat I5 n5) st5 go) fun r s6 z6 => ?_
    obtain ⟨u, er, z6⟩ := z6
    subst er
    refine thnF z6 fun _ s7 ⟨x, H7, I7, r7, y7, st7, n7⟩ => ?_
    refine thnF (PGc.run _ s7 _ H7 x u _ (I7.pinned (stat I7 n7) (T.obj _ _ st7)) r7 (step x H7 y7)) fun _ s8 ⟨σ8, H8, I8, e8, q8⟩ => ?_
    refine thnF (PTc.run _ s8 σ8 H8 _ I8 q8) fun b s9 ⟨H9, I9, q9⟩ => ?_
    have back : ∀ {s' : Shared} {H' : Hp}, Inv (X.blk s3 H3 sc env fp) ([] ++ pinsAt fp s7.heap) σ8 H' s' → Nx H' → ∃ m, m < n ∧ ∃ i H', Inv (X.blk s3 H3 sc env fp) [] (wipe σ (own.map Prod.snd)) H' s' ∧ tn i s'.heap ∧ (∀ b ∈ fp, H' b = none) ∧ W i m H' := fun {s' H'} I' nx => by
      obtain ⟨m', lt, w'⟩ := hNx H' nx
      have pin : ∀ b ∈ fp, ∀ o, s7.heap.get? b = some o → s'.heap.get? b = some o ∧ H' b = none := fun b m o z => by
        have p := I'.pin (b, o) (List.mem_append_right _ (List.mem_append_right _ (mem_pinsAt m z)))
        exact ⟨p.1, p.2.1⟩
      refine ⟨m', lt, i + 1, H', (I'.unpinned (pins := [])).weak (by rw [← e8, wipe_length]) (fun j v z => by rw [← e8] at z; exact (wipe_some z).1), T.keep _ _ _ st7 fun b m o z => (pin b m o z).1, fun b m => ?_, w'⟩
      obtain ⟨o, z, _⟩ := T.obj _ _ st7 b m
      exact (pin b m o z).2
    cases b with
    | false =>
      simp only [Bool.false_eq_true, if_false] at q9 ⊢
      exact back I9 q9
    | true =>
      simp only [if_true] at q9 ⊢
      refine thnF (PEc.run _ s9 σ8 H9 _ I9 q9) fun z s10 ⟨yv, H10, I10, r10, za, k, L, ey, hD, kL, kz, more, nx⟩ => ?_
      subst ey
      cases (show z = Value.ref za from r10)
      exact call_setadd (X := X.blk s3 H3 sc env fp) hu I10 hD kL kz more fun s11 L' ad I11 => back I11 (nx L' ad)
end
end Mus

set_option maxRecDepth 100000
set_option maxHeartbeats 4000000
/-! sorted of a set of nested tuples. -/
namespace Mus
open PySem PySem.Spec PyProof.Rows L2
theorem perm_of_map {α β : Type} {f : α → β} {l m : List β} (p : l.Perm m) : ∀ L : List α, m = L.map f → ∃ L' : List α, L'.Perm L ∧ l = L'.map f := by
  induction p with
  | nil => exact fun L e => ⟨L, .refl _, e⟩
  | cons x _ ih =>
    intro L e
    cases L with
    | nil => cases e
    | cons y L =>
      rw [List.map_cons, List.cons.injEq] at e
      obtain ⟨L', h1, h2⟩ := ih L e.2
      exact ⟨y :: L', h1.cons y, by rw [List.map_cons, ← e.1, ← h2]⟩
  | swap x y l =>
    intro L e
    match L, e with
    | a :: b :: L, e =>
      rw [List.map_cons, List.map_cons, List.cons.injEq, List.cons.injEq] at e
      exact ⟨b :: a :: L, .swap a b L, by rw [List.map_cons, List.map_cons, ← e.1, ← e.2.1, ← e.2.2]⟩
  | trans _ _ ih1 ih2 =>
    intro L e
    obtain ⟨L1, h1, h2⟩ := ih2 L e
    obtain ⟨L2, h3, h4⟩ := ih1 L1 h2
    exact ⟨L2, h3.trans h1, h4⟩
def rSortedS (K : PySem.W.Frag) (w : World) : List V → Hp → VK → Prop := fun vs H Q => ∃ (a : Addr) (L : List KA) (enc : KA → PyData), vs = [V.ref a] ∧ H a = some (nsO w a L) ∧ (∀ p ∈ L, Dp K H (.ref p.1) (enc p) ∧ (enc p).depth ≤ 20) ∧
  ((L.map Prod.snd).Nodup → ∀ L' : List KA, L'.Perm L → PySem.W.AllAlike (L'.map enc) ∧ PySem.W.Sortable (L'.map enc) ∧ ∀ (ps : List (V × PyData)) p, ps = ((L'.map fun x => V.ref x.1).zip (L'.map enc)).mergeSort (PySem.W.dataLe false (·.2)) → H p = none → Q (.ref p) (upd H p (.lst (ps.map (·.1)))))
theorem refs_vals : ∀ L : List KA, Vals (L.map fun x => V.ref x.1) (L.map fun x => Value.ref x.1)
  | [] => .nil
  | x :: r => .cons rfl (refs_vals r)
theorem dp_each {K : PySem.W.Frag} {H : Hp} {enc : KA → PyData} : ∀ {L : List KA}, (∀ p ∈ L, Dp K H (.ref p.1) (enc p) ∧ (enc p).depth ≤ 20) → DpAll K H (L.map fun x => V.ref x.1) (L.map enc)
  | [], _ => .nil
  | x :: r, h => .cons (h x List.mem_cons_self).1 (dp_each fun p m => h p (List.mem_cons_of_mem _ m))
section
variable {X : Cx}
theorem cr_sortedS (hc : X.calm = true) (hu : X.A.units + 64 < cLine) : CallR X (.builtin "sorted") (rSortedS X.K X.w) := by
  intro pins s σ H vs us Q I r h
  obtain ⟨a, L, enc, rfl, ha, hd, q⟩ := h
  obtain ⟨u, rfl, ru⟩ := vals1 r
  obtain rfl : u = Value.ref a := ru
  obtain ⟨es, ep, t, R⟩ := ns_get I ha
  obtain ⟨o, o1, o2, o3⟩ := R.obj
  have len := R.len
  have few := R.fw
  refine Calls.call_function_entry PyProof.Rows.kind_sorted PyProof.Rows.plain_sorted PyProof.Rows.entry_sorted (PyProof.Rows.args_sorted1 _) ?_
  unfold Builtin.«sorted»
  refine wpAny_bind (m := checkCount "sorted" 1 1 _) (wpAny_pure ?_)
  refine wpAny_bind (collect_set (A := X.A.in1) (I.ok.hd hc) ⟨o, o1, o2.1, o3⟩ R.fit (by unfold scanBound; omega) R.tab.ris R.ld fun s1 out keep grow gens os pm => ?_)
  rw [R.row, List.map_map] at pm
  obtain ⟨L', pL, eo⟩ := perm_of_map (f := fun x : KA => Value.ref x.1) pm L rfl
  subst eo
  obtain ⟨hal, hk, q⟩ := q R.dif L' pL
  have hd' := dp_each fun p m => hd p (pL.mem_iff.mp m)
  have I1 : Inv X pins σ H s1 := I.call' (ch := []) os (Un.kept keep) (I.hok.kept keep) (by rw [gens]; exact I.bare) (fun _ z => nomatch z)
  have rv := refs_vals L'
  have ll := dpAll_len hd'
  have lz : ((L'.map fun x => V.ref x.1).zip (L'.map enc)).length = (L'.map enc).length := by rw [List.length_zip, ll, Nat.min_self]
  have em : ((L'.map fun x => V.ref x.1).zip (L'.map enc)).map (·.2) = L'.map enc := List.map_snd_zip (by omega)
  have hL : (L'.map fun x => Value.ref x.1).length ≤ sizeLine := by rw [List.length_map, pL.length_eq, sizeLine_eq]; omega
  obtain ⟨as, ra⟩ := Dp.readsAll I1 _ _ _ hd' rv
  refine wpAny_bind (wpAny_newList ?_ hL)
  generalize hvs : L'.map (fun x => Value.ref x.1) = ws at *
  have hoL : (s1.heap.push (seqObj "list" ws.toArray 0)).get? s1.heap.objs.size = some (seqObj "list" ws.toArray 0) := Heap.get?_push_size _ rfl
  have old : ∀ b o, s1.heap.get? b = some o → (PySem.W.sortingHeap (s1.heap.push (seqObj "list" ws.toArray 0)) s1.heap.objs.size ws).get? b = some o := fun b o e => PySem.W.sortingHeap_old (Nat.ne_of_lt (Heap.lt_size e)) (Heap.get?_push_of_some _ e)
  have er := (each_reads (h := s1.heap) ll ra rv.length.symm).mono fun _ _ ⟨as, r⟩ => (⟨as, PyProof.Rows.Reads.keeps old r⟩ : ∃ as, Reads _ _ _ as)
  have hu' : ∀ b ∈ (L'.map fun x => V.ref x.1).zip (L'.map enc), X.A.in1.in1.units + b.2.depth < cLine := fun b hb => by
    have m : b.2 ∈ L'.map enc := by rw [← em]; exact List.mem_map.mpr ⟨b, hb, rfl⟩
    obtain ⟨p, mp, e⟩ := List.mem_map.mp m
    have d20 := (hd p (pL.mem_iff.mp mp)).2
    rw [e] at d20
    have e : X.A.in1.in1.units = X.A.units + 2 := rfl
    omega
  have S := PySem.W.SortsAt.data (prog := X.prog) (w := X.w) (A := X.A.in1.in1) (s := { s1 with heap := PySem.W.sortingHeap (s1.heap.push (seqObj "list" ws.toArray 0)) s1.heap.objs.size ws }) (PySem.W.each_map (R := fun v d => ∃ as, Reads _ v d as) (fun b : V × PyData => b.2) er) (by rw [em]; exact hal) (by rw [em]; exact hk) (PySem.W.bound_map hu')
  have he := PySem.W.sortVals_data false (each_zip (h := s1.heap) rv ll) er (by rw [em]; exact hal)
  refine wpAny_bind (wpAny_holding (wpAny_call_entry PyProof.Rows.slot_list_sort ⟨_, hoL, rfl⟩ PyProof.Rows.entry_list_sort
    (PySem.W.list_sort_vals (s := { s1 with heap := s1.heap.push (seqObj "list" ws.toArray 0) }) hoL S hL ⟨_, rfl, ?_⟩) (PyProof.Rows.args_list_sort _)))
  generalize PySem.W.sortVals _ false ws ws = fin at he ⊢
  obtain ⟨e', he'⟩ := PyProof.Rows.sortedHeap_at (vs := ws) (out := fin.toArray) hoL
  refine wpAny_pure ⟨_, rfl, .ref s1.heap.objs.size, upd H s1.heap.objs.size (.lst ((((L'.map fun x => V.ref x.1).zip (L'.map enc)).mergeSort (PySem.W.dataLe false (·.2))).map (·.1))), I1.laid (t' := s1.toks) (fun b u e => ?_) (Nat.le_refl _)
    (show ObjOk X.prog X.w _ _ _ (.lst _) from ⟨?_, fin, e', vals_of_each he, he'⟩), rfl, q _ _ rfl (I1.hok.fresh (Nat.le_refl _))⟩
  · have hb : b < s1.heap.objs.size := Heap.lt_size e
    rw [PyProof.Rows.sortedHeap_old (Nat.ne_of_lt hb) (by rw [size_push']; exact Nat.lt_succ_of_lt hb)]
    exact Heap.get?_push_of_some _ e
  · rw [List.length_map, List.length_mergeSort, lz, ← ll, rv.length]; exact hL
end
end Mus

set_option maxRecDepth 100000
set_option maxHeartbeats 4000000
/-! An attempt: the states of the members, and the finals that follow. -/
namespace Mus
open PySem PySem.Spec PyProof.Rows L2
structure Ste where
  who : Mem
  att : Vid
  old : Vid
  log : List Msg
  pend : List Cst
def eS (s : Ste) : PyData := eL (.state s.who s.att s.old s.log s.pend)
/-- the index of the last message of m -/
def lastX (log : List Msg) (m : Mem) : Int := log.foldl (fun l g => if g.1 = m then g.2.1 else l) 0
theorem lastX_snoc (log : List Msg) (g : Msg) (m : Mem) : lastX (log ++ [g]) m = if g.1 = m then g.2.1 else lastX log m := by
  unfold lastX
  rw [List.foldl_append]; rfl
/-- the first of the longest logs -/
def longS (b : List Msg) (s : Ste) : List Msg := if s.log.length > b.length then s.log else b
def longest (l : List Ste) : List Msg := l.foldl longS []
theorem longest_snoc (l : List Ste) (s : Ste) : longest (l ++ [s]) = longS (longest l) s := by
  unfold longest
  rw [List.foldl_append]; rfl
def lnOf (l : List Ste) (i : Nat) : Int := ((l.map fun s => (s.log.length : Int))[i]?).getD 0
theorem lnOf_at {l : List Ste} {i : Nat} {s : Ste} (h : l[i]? = some s) : lnOf l i = (s.log.length : Int) := by
  unfold lnOf
  rw [List.getElem?_map, h]; rfl
theorem longest_take (l : List Ste) : ∀ k, k < l.length → ∃ s, l[argBest (fun i j => decide (lnOf l i > lnOf l j)) k]? = some s ∧ longest (l.take (k + 1)) = s.log
  | 0, h => by
    refine ⟨l[0], List.getElem?_eq_getElem h, ?_⟩
    have e : l.take 1 = [l[0]] := by
      rw [List.take_add_one, List.getElem?_eq_getElem h]; rfl
    rw [e]
    show longS [] l[0] = _
    unfold longS
    split
    · rfl
    · rename_i c
      cases q : l[0].log with
      | nil => rfl
      | cons x r => rw [q] at c; exact (c (Nat.succ_pos _)).elim
  | k + 1, h => by
    obtain ⟨s, h1, h2⟩ := longest_take l k (by omega)
    have h3 : l[k + 1]? = some l[k + 1] := List.getElem?_eq_getElem h
    have e : l.take (k + 1 + 1) = l.take (k + 1) ++ [l[k + 1]] := by rw [List.take_add_one, h3]; rfl
    rw [e, longest_snoc, h2]
    unfold longS argBest
    rw [lnOf_at h3, lnOf_at h1]
    by_cases c : l[k + 1].log.length > s.log.length
    · rw [if_pos c, decide_eq_true (by omega), if_pos rfl]
      exact ⟨_, h3, rfl⟩
    · rw [if_neg c, decide_eq_false (by omega), if_neg Bool.false_ne_true]
      exact ⟨s, h1, rfl⟩
theorem longest_at {l : List Ste} (h : 0 < l.length) : ∃ s, l[lgst l.length (lnOf l)]? = some s ∧ longest l = s.log := by
  obtain ⟨s, h1, h2⟩ := longest_take l (l.length - 1) (by omega)
  rw [show l.length - 1 + 1 = l.length by omega, List.take_length] at h2
  exact ⟨s, h1, h2⟩
theorem longest_mem (l : List Ste) : longest l = [] ∨ ∃ s ∈ l, longest l = s.log := by
  rcases Nat.eq_zero_or_pos l.length with h | h
  · rw [List.length_eq_zero_iff.mp h]; exact .inl rfl
  · obtain ⟨s, h1, h2⟩ := longest_at h
    exact .inr ⟨s, List.mem_of_getElem? h1, h2⟩
/-- what of the pending casts of s stands not in L -/
def leftOf (L : List Msg) (s : Ste) : List Msg := (s.pend.filter fun c => decide (c.1 > lastX L s.who)).map fun c => (s.who, c.1, c.2)
def finOf (l : List Ste) : List Msg := longest l ++ (l.map (leftOf (longest l))).flatten
structure AS where
  id : Vid
  ms : List Mem
  g : Mem → Option Ste
  /-- how many counted -/
  k : Nat
namespace AS
def new (id : Vid) (ms : List Mem) : AS := ⟨id, ms, fun _ => none, 0⟩
def counts (a : AS) (s : Ste) : Bool := decide (s.att = a.id ∧ s.who ∈ a.ms ∧ a.g s.who = none)
def add (a : AS) (s : Ste) : AS := if a.counts s = true then { a with g := setM a.g s.who s, k := a.k + 1 } else a
def missing (a : AS) : List Mem := a.ms.filter fun m => (a.g m).isNone
def ready (a : AS) : Bool := decide (a.missing.length = 0)
def hereB (v : Vid) (o : Option Ste) : Option Ste := o.filter fun s => decide (s.old = v)
def here (a : AS) (v : Vid) : List Ste := a.ms.filterMap fun m => hereB v (a.g m)
def final (a : AS) (v : Vid) : List Msg := finOf (a.here v)
/-- the ids of the old views, in ascending order -/
def vlt (x y : Vid) : Prop := vLt x.1 x.2.1 x.2.2 y.1 y.2.1 y.2.2 = true
theorem vlt_as (x y : Vid) : vlt x y → ¬ vlt y x := by
  unfold vlt vLt
  simp only [decide_eq_true_eq]
  omega
def Ids (a : AS) (vs : List Vid) : Prop := vs.Pairwise vlt ∧ ∀ v, v ∈ vs ↔ ∃ m ∈ a.ms, ∃ s, a.g m = some s ∧ s.old = v
theorem Ids.one {a : AS} {vs ws : List Vid} (h : a.Ids vs) (k : a.Ids ws) : vs = ws := pw_ext vlt_as h.1 k.1 fun x => (h.2 x).trans (k.2 x).symm
theorem ready_all {a : AS} (h : a.ready = true) {m : Mem} (hm : m ∈ a.ms) : ∃ s, a.g m = some s := by
  have h : a.missing.length = 0 := of_decide_eq_true h
  have h := List.length_eq_zero_iff.mp h
  cases e : a.g m with
  | some s => exact ⟨s, rfl⟩
  | none =>
    have : m ∈ a.missing := List.mem_filter.mpr ⟨hm, by rw [e]; rfl⟩
    rw [h] at this; cases this
end AS
def eF (f : Vid × List Msg) : PyData := .tuple [eV f.1, eGs f.2]
def eFs (fs : List (Vid × List Msg)) : PyData := .tuple (fs.map eF)
/-! ### in the heap -/
def aF (vid vms : V) (d : Addr) : List (Str × V) := [("id", vid), ("members", vms), ("_states", .ref d)]
structure AA where
  dx : Addr
  vid : V
  vms : V
  d : Addr
structure AAt (w : World) (CA : Addr) (H : Hp) (p : Addr) (A : AA) (a : AS) : Prop where
  ob : H p = some (.ins CA A.dx (aF A.vid A.vms A.d))
  id : TD H A.vid (eV a.id)
  ms : TD H A.vms (eMs a.ms)
  g : NM w H A.d a.k kM (fun v s => TD H v (eS s)) a.g
  bd : ∀ m s, a.g m = some s → m ∈ a.ms ∧ s.who = m ∧ s.log.length ≤ 1000 ∧ s.pend.length ≤ 1000
  ml : a.ms.length ≤ 12
  kl : a.k ≤ 1000
section
variable {w : World} {CA : Addr} {H H' : Hp} {p : Addr} {A : AA} {a : AS}
theorem AAt.mono (h : AAt w CA H p A a) (e : ∀ b ∈ [p, A.d], ∀ o, H b = some o → H' b = some o) (t : TupK H H') : AAt w CA H' p A a := by
  obtain ⟨ks, z⟩ := h.g.ndo
  exact ⟨e p List.mem_cons_self _ h.ob, h.id.mono t, h.ms.mono t, h.g.mono (by rw [e A.d (by simp) _ z, z]) t (fun _ _ x => x.mono t) (Nat.le_refl _), h.bd, h.ml, h.kl⟩
theorem AAt.same (h : AAt w CA H p A a) (s : Same H H') : AAt w CA H' p A a := h.mono (fun b _ o x => s b o x) (TupK.of s)
theorem AS.here_mem {a : AS} {v : Vid} {s : Ste} : s ∈ a.here v ↔ ∃ m ∈ a.ms, a.g m = some s ∧ s.old = v := by
  unfold AS.here AS.hereB
  rw [List.mem_filterMap]
  constructor
  · rintro ⟨m, hm, e⟩
    cases g : a.g m with
    | none => rw [g] at e; cases e
    | some x =>
      rw [g] at e
      by_cases c : x.old = v
      · simp [Option.filter, c] at e
        subst e
        exact ⟨m, hm, g, c⟩
      · simp [Option.filter, c] at e
  · rintro ⟨m, hm, e, c⟩
    exact ⟨m, hm, by rw [e]; simp [Option.filter, c]⟩
theorem left_len (L : List Msg) (s : Ste) : (leftOf L s).length ≤ s.pend.length := by
  unfold leftOf
  rw [List.length_map]
  exact List.length_filter_le _ _
theorem flat_len {L : List Msg} {B : Nat} : ∀ {l : List Ste}, (∀ s ∈ l, s.pend.length ≤ B) → ((l.map (leftOf L)).flatten).length ≤ B * l.length
  | [], _ => Nat.zero_le _
  | s :: l, h => by
    have i := flat_len (L := L) (B := B) (l := l) fun x m => h x (List.mem_cons_of_mem _ m)
    have j := Nat.le_trans (left_len L s) (h s List.mem_cons_self)
    rw [List.map_cons, List.flatten_cons, List.length_append, List.length_cons, Nat.mul_succ]
    omega
theorem AAt.ne (h : AAt w CA H p A a) : p ≠ A.d := fun z => by
  obtain ⟨ks, e⟩ := h.g.ndo
  have := h.ob
  rw [z, e] at this; cases this
theorem AAt.tup (h : AAt w CA H p A a) : ∃ b xs, A.vms = .ref b ∧ H b = some (.tup xs) ∧ xs.length = a.ms.length ∧ TDs H xs (a.ms.map eM) := by
  have := h.ms
  unfold eMs at this
  generalize A.vms = v at this
  obtain _ | _ | _ | _ | @⟨b, xs, _, hb, _, r⟩ := this
  exact ⟨b, xs, rfl, hb, by rw [r.length, List.length_map], r⟩
end
theorem TD.ste {H : Hp} {v : V} {s : Ste} (h : TD H v (eS s)) : ∃ b x1 x2 x3 x4 x5, v = .ref b ∧ H b = some (.tup [.str "state", x1, x2, x3, x4, x5]) ∧ TD H x1 (eM s.who) ∧ TD H x2 (eV s.att) ∧ TD H x3 (eV s.old) ∧ TD H x4 (eGs s.log) ∧ TD H x5 (eCs s.pend) := by
  unfold eS eL at h
  obtain _ | _ | _ | _ | @⟨b, xs, _, hb, _, r⟩ := h
  obtain _ | @⟨_, _, _, _, r0, r⟩ := r
  obtain _ | @⟨_, _, _, _, r1, r⟩ := r
  obtain _ | @⟨_, _, _, _, r2, r⟩ := r
  obtain _ | @⟨_, _, _, _, r3, r⟩ := r
  obtain _ | @⟨_, _, _, _, r4, r⟩ := r
  obtain _ | @⟨_, _, _, _, r5, r⟩ := r
  cases r; cases r0
  exact ⟨b, _, _, _, _, _, rfl, hb, r1, r2, r3, r4, r5⟩
theorem TD.tups {H : Hp} {v : V} {ds : List PyData} (h : TD H v (.tuple ds)) : ∃ b xs, v = .ref b ∧ H b = some (.tup xs) ∧ xs.length ≤ 100000 ∧ TDs H xs ds := by
  obtain _ | _ | _ | _ | @⟨b, xs, _, hb, l, r⟩ := h
  exact ⟨b, xs, rfl, hb, l, r⟩
/-! ### slices, and what may be laid -/
theorem cut_hi {α : Type} (xs : List α) (n : Nat) : (xs.drop (HT.sIx xs.length 0 none)).take (HT.sIx xs.length xs.length (some (n : Int)) - HT.sIx xs.length 0 none) = xs.take n := by
  have e : HT.sIx xs.length xs.length (some (n : Int)) = min n xs.length := HT.sIx_nat _ _ n
  rw [e]
  show (xs.drop 0).take (min n xs.length - 0) = _
  rw [List.drop_zero, Nat.sub_zero]
  by_cases h : n ≤ xs.length
  · rw [Nat.min_eq_left h]
  · rw [Nat.min_eq_right (by omega), List.take_length, List.take_of_length_le (by omega)]
theorem cut_lo {α : Type} (xs : List α) (n : Nat) : (xs.drop (HT.sIx xs.length 0 (some (n : Int)))).take (HT.sIx xs.length xs.length none - HT.sIx xs.length 0 (some (n : Int))) = xs.drop n := by
  have e : HT.sIx xs.length 0 (some (n : Int)) = min n xs.length := HT.sIx_nat _ _ n
  rw [e]
  show (xs.drop (min n xs.length)).take (xs.length - min n xs.length) = _
  rw [List.take_of_length_le (by rw [List.length_drop]; exact Nat.le_refl _)]
  by_cases h : n ≤ xs.length
  · rw [Nat.min_eq_left h]
  · rw [Nat.min_eq_right (by omega), List.drop_eq_nil_of_le (Nat.le_refl _), List.drop_eq_nil_of_le (by omega)]
section
variable {K : PySem.W.Frag} {H : Hp} {x : V} {ds : List PyData} {Q : VK}
theorem sl_take {n : Nat} (h : TD H x (.tuple ds)) (q : ∀ p H', Same H H' → TD H' (.ref p) (.tuple (ds.take n)) → Q (.ref p) H') : rSlA K x none (some (n : Int)) H Q := by
  obtain ⟨a, xs, rfl, ha, la, ra⟩ := h.tups
  refine ⟨a, xs, rfl, SqT.of ha, fun e => ?_, fun _ p np => ?_⟩
  · have e2 := e.2
    rw [show HT.sIx xs.length xs.length (some (n : Int)) = min n xs.length from HT.sIx_nat _ _ n] at e2
    exact q a H (Same.refl _) (by rw [List.take_of_length_le (by rw [← ra.length]; omega)]; exact h)
  · have ec : cutV xs none (some (n : Int)) = xs.take n := cut_hi xs n
    rw [ec]
    exact q p _ (same_new np _) (.tup upd_same (by rw [List.length_take]; omega) ((ra.take n).same (same_new np _)))
theorem sl_drop {n : Nat} (h : TD H x (.tuple ds)) (q : ∀ p H', Same H H' → TD H' (.ref p) (.tuple (ds.drop n)) → Q (.ref p) H') : rSlA K x (some (n : Int)) none H Q := by
  obtain ⟨a, xs, rfl, ha, la, ra⟩ := h.tups
  refine ⟨a, xs, rfl, SqT.of ha, fun e => ?_, fun _ p np => ?_⟩
  · have e1 := e.1
    rw [show HT.sIx xs.length 0 (some (n : Int)) = min n xs.length from HT.sIx_nat _ _ n] at e1
    have lr := ra.length
    have z : ds.drop n = ds := by
      by_cases h : n = 0
      · rw [h]; rfl
      · have : ds = [] := List.length_eq_zero_iff.mp (by omega)
        rw [this, List.drop_nil]
    exact q a H (Same.refl _) (by rw [z]; exact h)
  · have ec : cutV xs (some (n : Int)) none = xs.drop n := cut_lo xs n
    rw [ec]
    exact q p _ (same_new np _) (.tup upd_same (by rw [List.length_drop]; omega) ((ra.drop n).same (same_new np _)))
end
/-- texts that data may hold -/
def GsOk (gs : List Msg) : Prop := ∀ g ∈ gs, PyData.strOk g.2.2 = true
theorem lay_mem {α : Type} {f : α → PyData} {n : Nat} : ∀ {l : List α}, (∀ x ∈ l, (f x).canLay0 = true ∧ (f x).depth ≤ n) → PyData.canLayAll0 (l.map f) = true ∧ PyData.depthAll (l.map f) ≤ n
  | [], _ => ⟨rfl, Nat.zero_le _⟩
  | d :: l, h => by
    have i := lay_mem (n := n) (l := l) fun e he => h e (List.mem_cons_of_mem _ he)
    have j := h d List.mem_cons_self
    refine ⟨by simp [PyData.canLayAll0, i.1, j.1], ?_⟩
    simp [PyData.depthAll]
    omega
theorem gs_shape {gs : List Msg} (h : GsOk gs) : (eGs gs).canLay0 = true ∧ (eGs gs).depth ≤ 3 := by
  have i := lay_mem (f := eG) (n := 2) (l := gs) fun g m => by
    have := h g m
    simp [eG, eM, PyData.canLay0, PyData.canLayAll0, PyData.depth, PyData.depthAll, this]
  refine ⟨by simp [eGs, PyData.canLay0, i.1], ?_⟩
  simp [eGs, PyData.depth]
  exact i.2
theorem gs_sh {gs : List Msg} (h : GsOk gs) : SeqAt.shaped (eGs gs) = true := shaped_of (gs_shape h).1 (by have := (gs_shape h).2; omega)
theorem GsOk.take {gs : List Msg} (h : GsOk gs) (n : Nat) : GsOk (gs.take n) := fun g m => h g (List.mem_of_mem_take m)
theorem GsOk.drop {gs : List Msg} (h : GsOk gs) (n : Nat) : GsOk (gs.drop n) := fun g m => h g (List.mem_of_mem_drop m)
theorem eMsg_inj {a b : List Msg} (h : eGs a = eGs b) : a = b := by
  unfold eGs at h
  injection h with h
  exact map_inj (fun _ _ => eG_inj) h
theorem eGs_eqv (a b : List Msg) : PyData.eqv (eGs a) (eGs b) = decide (a = b) := eqv_dec (plns_map eG_pln a) (plns_map eG_pln b) ⟨eMsg_inj, fun h => by rw [h]⟩
end Mus

set_option maxRecDepth 100000
set_option maxHeartbeats 4000000
/-! Errors of the program's own: made without arguments, let out by methods. -/
namespace Mus
open PySem PySem.Spec PyProof.Rows L2
section
variable {X : Cx} {C : Addr} {bmB : List Value} {B newId initId : String}
theorem pmk_own0 {x : Str} {p pos : Pos} (F : ExcBaseFacts B newId initId bmB) (q : PySem.W.excIn X.K C bmB newId = true) (gC : X.mg x = some (.ref C)) (kC : PySem.W.keepIn X.K (.ref C) = true) (r : Raises X (.ref C)) (hg : Gl X x := by rfl)
    (hdb : (x == ("__debug__" : Str)) = false := by decide) : PMk X (.Call (.Name x p) [] [] pos) (fun _ H Q => Q (.ref C) none H) := by
  intro pins s σ H Q I h
  refine wpAny_Call_Name_kw (ld_glob I hg gC ?_ hdb)
  refine PySem.W.callWith_K0 I.kIn kC ?_
  show wpAny _ _ (call (.ref C) []) _ _ _
  obtain ⟨mem, g, dw, tn, io⟩ := s
  obtain ⟨chain, N, nm0, qn, bs, hdct, sn, sub, ab, col, dd, k0, k1, k2, k3, k5, mN, cC, hN, hni, T⟩ := exc_obj I.kIn q
  exact wpAny_call_exc_subT F T cC hN hni (fun h' a hm => mk_of I hm r h (I.hok.gone hm.new)) (by show 0 ≤ sizeLine; rw [sizeLine_eq]; omega)
end
section
variable {X : Cx} {C : Addr} {x m : Str} {ps : List Str} {j k : Nat} {sp : Sp} {o e : Expr} {es : List Expr} {to : TE} {t : TA} {p pos apos : Pos} {W : WX} {E : XK}
/-- o.m(e, ..), what it lets out leaves this def, too -/
theorem pmethE {pl : Sem Bool} (c : MethOk X.prog X.w X.K X.mg X.base (L2.CX X.prog X.w) C m ps j sp) (cl : Cls X.K C) (tk : Takes X W) (hW : ∀ cls d σ H, E cls d H → W cls d σ H) (ho : PE X o to) (hr : Room k X.A) (ha : PA X (e :: es) t) (hj : j ≤ k := by first | decide | omega)
    (st0 : starEach (e :: es) X.env = (false, eval e X.env) :: starEach es X.env := by rfl) (pl0 : (backTo pos (starEach es X.env)).any (·.1) = false := by rfl)
    (ht : eval (.Call (.Attribute o m apos) (e :: es) [] pos) X.env = (do
      let v ← eval o X.env; standAt apos.atName; let (f, one) ← holding [v] (getMethod v m pl)
      callWith pos f one (backTo pos (starEach (e :: es) X.env)) (backToKw pos (keywordEach [] X.env))) := by rfl) :
    PE X (.Call (.Attribute o m apos) (e :: es) [] pos) (tMeth C m sp [] E to t) := pe_meth ho cl c.m c.G (hr.mono hj) c.b .nil (passes_call tk hW) ha st0 pl0 ht
theorem pmethE0 {pl : Sem Bool} (c : MethOk X.prog X.w X.K X.mg X.base (L2.CX X.prog X.w) C m ps j sp) (cl : Cls X.K C) (tk : Takes X W) (hW : ∀ cls d σ H, E cls d H → W cls d σ H) (ho : PE X o to) (hr : Room k X.A) (hj : j ≤ k := by first | decide | omega)
    (ht : eval (.Call (.Attribute o m apos) [] [] pos) X.env = (do
      let v ← eval o X.env; standAt apos.atName; let (f, one) ← holding [v] (getMethod v m pl)
      callWith pos f one (backTo pos (starEach [] X.env)) (backToKw pos (keywordEach [] X.env))) := by rfl) :
    PE X (.Call (.Attribute o m apos) [] [] pos) (tMeth C m sp [] E to tNil) := pe_meth0 ho cl c.m c.G (hr.mono hj) c.b .nil (passes_call tk hW) ht
/-- f(e, ..), the same of a def -/
theorem pcallE (c : DefOk X.prog X.w X.K X.mg X.base (L2.CX X.prog X.w) x ps j sp) (tk : Takes X W) (hW : ∀ cls d σ H, E cls d H → W cls d σ H) (hr : Room k X.A) (ha : PA X (e :: es) t) (hj : j ≤ k := by first | decide | omega) (hg : Gl X x := by rfl)
    (db0 : (x == ("__debug__" : Str)) = false := by decide) (st0 : starEach (e :: es) X.env = (false, eval e X.env) :: starEach es X.env := by rfl) (pl0 : (backTo pos (starEach es X.env)).any (·.1) = false := by rfl) :
    PE X (.Call (.Name x p) (e :: es) [] pos) (tCall sp [] E t) := pe_call c.G (hr.mono hj) hg c.m c.kp c.b .nil (passes_call tk hW) ha db0 st0 pl0
end
end Mus

set_option maxRecDepth 100000
set_option maxHeartbeats 4000000
/-! Calls whose errors are caught where the slots stand. -/
namespace Mus
open PySem PySem.Spec PyProof.Rows L2
/-! ### calls in a try's body -/
def tMethA (C : Addr) (m : Str) (sp : Sp) (E : L2.St → XK) (ta : TE) (t : TA) : TE := fun σ H Q => ta σ H fun x H1 => ∃ a dx fs, x = .ref a ∧ H1 a = some (.ins C dx fs) ∧ fs.lookup m = none ∧ t σ H1 fun vs H2 => sp (x :: vs) H2 Q (E σ)
section
variable {X : Cx} {C : Addr} {x m : Str} {ps : List Str} {j k : Nat} {sp : Sp} {o e : Expr} {es : List Expr} {to : TE} {t : TA} {p pos apos : Pos} {W : WX}
theorem pmethA {pl : Sem Bool} (c : MethOk X.prog X.w X.K X.mg X.base (L2.CX X.prog X.w) C m ps j sp) (cl : Cls X.K C) (tk : Takes X W) (ho : PE X o to) (hr : Room k X.A) (ha : PA X (e :: es) t) (hj : j ≤ k := by first | decide | omega)
    (st0 : starEach (e :: es) X.env = (false, eval e X.env) :: starEach es X.env := by rfl) (pl0 : (backTo pos (starEach es X.env)).any (·.1) = false := by rfl)
    (ht : eval (.Call (.Attribute o m apos) (e :: es) [] pos) X.env = (do
      let v ← eval o X.env; standAt apos.atName; let (f, one) ← holding [v] (getMethod v m pl)
      callWith pos f one (backTo pos (starEach (e :: es) X.env)) (backToKw pos (keywordEach [] X.env))) := by rfl) :
    PE X (.Call (.Attribute o m apos) (e :: es) [] pos) (tMethA C m sp (WE W) to t) := by
  refine ⟨fun pins s σ H Q I h => ?_⟩
  refine PySem.W.methodCall_KW (pl := pl) (thn (ho.run pins s σ H _ I h) fun u s1 ⟨x, H1, I1, rx, a, dx, fs, ex, ea, l, q⟩ => ?_) ht
  subst ex
  obtain rfl : u = Value.ref a := rx
  refine getmeth_ok I1 ea cl c.m l ?_
  refine PySem.W.callWith_K (first := [.ref a]) (h₀ := X.base) I.ok.mod.kin c.m.kp (thn (ha.run pos pins s1 σ H1 _ I1 q) fun us s2 ⟨vs, H2, I2, r, q2⟩ => ⟨I2.kIn, ?_⟩) st0 pl0
  exact run_fnS (us := .ref a :: us) (vs := .ref a :: vs) c.G (hr.mono hj) c.b (passAt tk σ) I2 (.cons rfl r) q2
theorem pmethA0 {pl : Sem Bool} (c : MethOk X.prog X.w X.K X.mg X.base (L2.CX X.prog X.w) C m ps j sp) (cl : Cls X.K C) (tk : Takes X W) (ho : PE X o to) (hr : Room k X.A) (hj : j ≤ k := by first | decide | omega)
    (ht : eval (.Call (.Attribute o m apos) [] [] pos) X.env = (do
      let v ← eval o X.env; standAt apos.atName; let (f, one) ← holding [v] (getMethod v m pl)
      callWith pos f one (backTo pos (starEach [] X.env)) (backToKw pos (keywordEach [] X.env))) := by rfl) :
    PE X (.Call (.Attribute o m apos) [] [] pos) (tMethA C m sp (WE W) to tNil) := by
  refine ⟨fun pins s σ H Q I h => ?_⟩
  refine PySem.W.methodCall_KW (pl := pl) (thn (ho.run pins s σ H _ I h) fun u s1 ⟨x, H1, I1, rx, a, dx, fs, ex, ea, l, q⟩ => ?_) ht
  subst ex
  obtain rfl : u = Value.ref a := rx
  refine getmeth_ok I1 ea cl c.m l ?_
  refine PySem.W.callWith_K0 (first := [.ref a]) I1.kIn c.m.kp ?_
  exact run_fnS (us := [.ref a]) (vs := [.ref a]) c.G (hr.mono hj) c.b (passAt tk σ) I1 (.cons rfl .nil) q
theorem pcallA (c : DefOk X.prog X.w X.K X.mg X.base (L2.CX X.prog X.w) x ps j sp) (tk : Takes X W) (hr : Room k X.A) (ha : PA X (e :: es) t) (hj : j ≤ k := by first | decide | omega) (hg : Gl X x := by rfl)
    (db0 : (x == ("__debug__" : Str)) = false := by decide) (st0 : starEach (e :: es) X.env = (false, eval e X.env) :: starEach es X.env := by rfl) (pl0 : (backTo pos (starEach es X.env)).any (·.1) = false := by rfl) :
    PE X (.Call (.Name x p) (e :: es) [] pos) (tCallS sp (WE W) t) := pe_callS c.G (hr.mono hj) hg c.m c.kp c.b (fun σ => passAt tk σ) ha db0 st0 pl0
end
end Mus

set_option maxRecDepth 100000
set_option maxHeartbeats 4000000
/-! The same rules, so that Lean finds the inner readings: they may name what they don't depend on. -/
namespace Mus
open PySem PySem.Spec PyProof.Rows L2
def s00 : Shared := {}
def h00 : Hp := fun _ => none
def o00 : Obj := default
def x00 : Value → Shared → Prop := fun _ _ => False
section
variable {X : Cx} {x n : Str} {c : Value} {i : Nat} {body suite : List Stmt} {b₀ : Stmt} {np pos pos' : Pos} {tb : WX → List (Addr × Obj) → (Value → Shared → Prop) → TS} {ts : Addr → Obj → Value → Option Addr → List (Addr × Obj) → TS} {Wout : WX}
theorem ps_tryAs (hs : X.stack = X.env :: X.outer) (hf : X.env.frame = some X.env.locals) (hN : X.N.Nodup) (hi : X.N[i]? = some n) (hln : X.env.kindOf n = some .local) (hc : Names X x c) (tk : Takes X Wout)
    (hb : ∀ W pn xe, Takes (X.tr pn xe) W → PassesOwn (model X.prog X.w) X.A X.env xe → PSs (X.tr pn xe) body (tb W pn xe)) (hsu : ∀ a oe cls d pn, Zc cls d oe → (∃ vs, oe.data = .fields vs) → PSs (X.suite a ((a, oe) :: pn)) (b₀ :: suite) (ts a oe cls d pn))
    (i1 : ∀ W pn xe, tb W pn xe = tb W [] x00 := by intros; rfl) (i2 : ∀ a oe cls d pn, ts a oe cls d pn = ts a o00 cls d [] := by intros; rfl) :
    PS X (.Try body [.ExceptHandler (some (.Name x np)) (some n) (b₀ :: suite) pos'] [] [] pos) (fun D σ H => tb (wAs X.K c i (fun a cls d => ts a o00 cls d []) Wout D) [] x00 D σ H) :=
  ps_try_as (tb := fun W => tb W [] x00) hs hf hN hi hln hc tk (fun W pn xe t p => i1 W pn xe ▸ hb W pn xe t p) fun a oe cls d pn z f => i2 a oe cls d pn ▸ hsu a oe cls d pn z f
end
section
variable {X : Cx} {body : List Stmt} {h₀ : ExceptHandler} {hds : List ExceptHandler} {l : List (Value × (Addr → Value → Option Addr → TS))} {pos : Pos} {tb : WX → List (Addr × Obj) → (Value → Shared → Prop) → TS} {Wout : WX}
theorem ps_tryX (hs : X.stack = X.env :: X.outer) (hf : X.env.frame = some X.env.locals) (tk : Takes X Wout)
    (hb : ∀ W pn xe, Takes (X.tr pn xe) W → PassesOwn (model X.prog X.w) X.A X.env xe → PSs (X.tr pn xe) body (tb W pn xe)) (hh : HdsOk X (h₀ :: hds) l) (i1 : ∀ W pn xe, tb W pn xe = tb W [] x00 := by intros; rfl) :
    PS X (.Try body (h₀ :: hds) [] [] pos) (fun D σ H => tb (wMany X.K Wout D l) [] x00 D σ H) :=
  ps_try_many (tb := fun W => tb W [] x00) hs hf tk (fun W pn xe t p => i1 W pn xe ▸ hb W pn xe t p) hh
theorem hd_one {x : Str} {c : Value} {ts : Addr → Obj → Value → Option Addr → List (Addr × Obj) → TS} {b₀ : Stmt} {suite : List Stmt} {np pos' : Pos} (hc : Names X x c)
    (hsu : ∀ a oe cls d pn, Zc cls d oe → (∃ vs, oe.data = .fields vs) → PSs (X.suite a ((a, oe) :: pn)) (b₀ :: suite) (ts a oe cls d pn)) (r : HdsOk X hds l) (i2 : ∀ a oe cls d pn, ts a oe cls d pn = ts a o00 cls d [] := by intros; rfl) :
    HdsOk X (.ExceptHandler (some (.Name x np)) none (b₀ :: suite) pos' :: hds) ((c, fun a cls d => ts a o00 cls d []) :: l) :=
  .cons hc (fun a oe cls d pn z f => i2 a oe cls d pn ▸ hsu a oe cls d pn z f) r
end
section
variable {X : Cx} {elt tg iter : Expr} {ifs : List Expr} {scope : Scope} {own : List (Str × Nat)} {pos : Pos} {wi : TI} {g : Shared → Hp → Addr → List (Str × Addr) → List Addr → TG} {tt : Shared → Hp → Addr → List (Str × Addr) → List Addr → TT} {te : Shared → Hp → Addr → List (Str × Addr) → List Addr → TE}
theorem pe_lcX (hc : X.calm = true) (hN : X.N.Nodup) (hi : PI X tg iter wi) (ok : BlkOk X.N X.env.scope scope own)
    (hg : ∀ (s : Shared) (H : Hp) (C : Addr) (cl : List (Str × Addr)) (fp : List Addr), PG (X.blk s H scope (compEnvC scope cl C X.env) fp) tg (g s H C cl fp)) (ht : ∀ (s : Shared) (H : Hp) (C : Addr) (cl : List (Str × Addr)) (fp : List Addr), PTs (X.blk s H scope (compEnvC scope cl C X.env) fp) ifs (tt s H C cl fp))
    (he : ∀ (s : Shared) (H : Hp) (C : Addr) (cl : List (Str × Addr)) (fp : List Addr), PE (X.blk s H scope (compEnvC scope cl C X.env) fp) elt (te s H C cl fp)) (hs : ∀ x, foldedSetIterable iter X.env x = pure x := by intro _; rfl)
    (i1 : ∀ s H C cl fp, g s H C cl fp = g s00 h00 0 [] [] := by intros; rfl) (i2 : ∀ s H C cl fp, tt s H C cl fp = tt s00 h00 0 [] [] := by intros; rfl) (i3 : ∀ s H C cl fp, te s H C cl fp = te s00 h00 0 [] [] := by intros; rfl) :
    PE X (.ListComp elt [⟨tg, iter, ifs, 0⟩] scope pos) (tLc wi (g s00 h00 0 [] []) (tt s00 h00 0 [] []) (te s00 h00 0 [] []) (own.map (·.2))) :=
  pe_lc hc hN hi ok (fun s H C cl fp => i1 s H C cl fp ▸ hg s H C cl fp) (fun s H C cl fp => i2 s H C cl fp ▸ ht s H C cl fp) (fun s H C cl fp => i3 s H C cl fp ▸ he s H C cl fp) hs
theorem ps_setLcX {i : Nat} {y : Str} {py : Pos} {spos : Pos} (hc : X.calm = true) (hN : X.N.Nodup) (hy : X.N[i]? = some y) (hyl : X.env.scope.names.lookup y = some .local)
    (hsw : swapsWith (.ListComp elt [⟨tg, iter, ifs, 0⟩] scope pos) (some (.Name y py)) spos.line X.env = pure true) (hi : PI X tg iter wi) (ok : BlkOk X.N X.env.scope scope own)
    (hg : ∀ (s : Shared) (H : Hp) (C : Addr) (cl : List (Str × Addr)) (fp : List Addr), PG (X.blk s H scope (compEnvC scope cl C X.env) fp) tg (g s H C cl fp)) (ht : ∀ (s : Shared) (H : Hp) (C : Addr) (cl : List (Str × Addr)) (fp : List Addr), PTs (X.blk s H scope (compEnvC scope cl C X.env) fp) ifs (tt s H C cl fp))
    (he : ∀ (s : Shared) (H : Hp) (C : Addr) (cl : List (Str × Addr)) (fp : List Addr), PE (X.blk s H scope (compEnvC scope cl C X.env) fp) elt (te s H C cl fp)) (hs : ∀ x, foldedSetIterable iter X.env x = pure x := by intro _; rfl)
    (i1 : ∀ s H C cl fp, g s H C cl fp = g s00 h00 0 [] [] := by intros; rfl) (i2 : ∀ s H C cl fp, tt s H C cl fp = tt s00 h00 0 [] [] := by intros; rfl) (i3 : ∀ s H C cl fp, te s H C cl fp = te s00 h00 0 [] [] := by intros; rfl) :
    PS X (.Assign [.Name y py] (.ListComp elt [⟨tg, iter, ifs, 0⟩] scope pos) spos) (tAsg (tLc wi (g s00 h00 0 [] []) (tt s00 h00 0 [] []) (te s00 h00 0 [] []) (own.map (·.2))) (gName i)) :=
  ps_setLc hc hN hy hyl hsw hi ok (fun s H C cl fp => i1 s H C cl fp ▸ hg s H C cl fp) (fun s H C cl fp => i2 s H C cl fp ▸ ht s H C cl fp) (fun s H C cl fp => i3 s H C cl fp ▸ he s H C cl fp) hs
end
end Mus

set_option maxRecDepth 100000
set_option maxHeartbeats 4000000
/-! An object whose fields are stored one after another, beside new things. -/
namespace Mus
open PySem L2
structure Bld (H : Hp) (p dx CO : Addr) (fs : List (Str × V)) (X : Hp) : Prop where
  ob : X p = some (.ins CO dx fs)
  k : ∀ b o, H b = some o → b ≠ p → X b = some o
  s : ∀ b, X b = none → H b = none
variable {H X : Hp} {p dx CO q : Addr} {fs fs' : List (Str × V)} {o : HO}
theorem Bld.start (h : H p = some (.ins CO dx fs)) : Bld H p dx CO fs H := ⟨h, fun _ _ e _ => e, fun _ e => e⟩
theorem Bld.put (B : Bld H p dx CO fs X) : Bld H p dx CO fs' (upd X p (.ins CO dx fs')) :=
  ⟨upd_same, fun b u e n => by rw [upd_ne n]; exact B.k b u e n, fun b e => B.s b (by
    by_cases z : b = p
    · rw [z, upd_same] at e; cases e
    · rwa [upd_ne z] at e)⟩
theorem Bld.new (B : Bld H p dx CO fs X) (hq : X q = none) : Bld H p dx CO fs (upd X q o) :=
  ⟨by rw [upd_ne (ne_of_none B.ob hq)]; exact B.ob, fun b u e n => by rw [upd_ne (ne_of_none (B.k b u e n) hq)]; exact B.k b u e n, fun b e => B.s b (by
    by_cases z : b = q
    · rw [z, upd_same] at e; cases e
    · rwa [upd_ne z] at e)⟩
theorem Bld.tup (B : Bld H p dx CO fs X) (hp : ∀ xs, H p ≠ some (.tup xs)) : TupK H X := fun b xs e => B.k b _ e fun z => hp xs (z ▸ e)
end Mus

set_option maxRecDepth 100000
set_option maxHeartbeats 4000000
namespace Mus
open PySem L2
local macro_rules | `(tactic| walk_at "rd") => `(tactic| first
  | refine ⟨_, rfl, ?_⟩ | refine ⟨(True.intro : True), ?_⟩
  | refine ⟨_, _, rfl, rfl, (⟨by decide, by decide, by decide⟩ : CPow _ _), ?_⟩
  | refine ⟨_, _, rfl, rfl, (⟨by decide, by decide⟩ : CDiv _ _), ?_⟩
  | refine ⟨_, _, rfl, rfl, (by show (0 : Int) < _; decide), ?_⟩
  | refine ⟨_, _, rfl, rfl, ?_⟩ | refine ⟨rfl, ?_⟩ | refine iteT ?_ | refine iteF ?_ | refine ⟨_, _, rfl, ?_⟩ | refine .inl ⟨_, rfl, ?_⟩
  | refine ⟨_, _, _, _, _, rfl, (by assumption), (by assumption), (by assumption), rfl, ?_⟩ | refine ⟨_, _, _, _, rfl, rfl, SqT.of (by assumption), rfl, ?_⟩ | refine ⟨_, _, rfl, SqT.of (by assumption), rfl, ?_⟩
  | refine ⟨_, _, _, _, _, rfl, .ty _, Rp.ty (by assumption), kit_int _, ?_⟩ | refine ⟨_, _, _, _, _, rfl, .ty _, Rp.ty (by assumption), kit_bool _, ?_⟩
  | refine ⟨_, _, _, _, _, rfl, .ty _, Rp.ty (by assumption), kit_str _, ?_⟩ | refine ⟨_, _, _, _, _, rfl, .ty _, Rp.ty (by assumption), kit_tup _, ?_⟩)
local macro_rules | `(tactic| walk_at "cal") => `(tactic| first
  | refine ⟨_, _, _, _, _, rfl, (by assumption), ?_⟩ | refine ⟨_, _, _, _, _, rfl, (by assumption), (by assumption), ?_⟩)
local macro_rules | `(tactic| walk_at "sq") => `(tactic| first
  | refine ⟨_, _, rfl, Or.inr (SqT.of (by assumption)), ?_⟩ | refine ⟨_, _, _, _, rfl, rfl, SqT.of (by assumption), rfl, ?_⟩)
local macro_rules | `(tactic| walk_at "rds") => `(tactic| repeat first | walk_at "rd" | walk_at "cal" | walk_at "sq")
local macro_rules | `(tactic| walk_at "ze") => `(tactic| repeat first
  | exact zes_nil | exact ze_bl | exact ze_str | exact ze_non | apply zes_cons | apply ze_tup | apply ze_lst | apply ze_cat | exact di_c | exact di_v rfl | apply di_opC | apply di_op | apply di_neg | apply ze_i | (refine (⟨?_, ?_, ?_⟩ : CPow _ _) <;> decide) | exact Nat.le_of_ble_eq_true rfl | exact ze_varD rfl (by assumption))
local macro_rules | `(tactic| walk_at "rdz") => `(tactic| repeat (fail_if_success (first | show tLst _ _ _ _ | show tAsg (tLst _) _ _ _ _ | show tSeq (tAsg (tLst _) _) _ _ _ _)); first | walk_at "rd" | walk_at "cal" | walk_at "sq")
def top (i : Nat) : Stmt := PySem.Challenge.pw_mustercall_k30_attempts.main.body.getD i (.Pass ⟨0, 0, 0, 0⟩)
structure Tx (K : PySem.W.Frag) (mg : Str → Option Value) (CA CV : Addr) : Prop where
  b_len : mg "len" = none
  b_isinstance : mg "isinstance" = none
  b_int : mg "int" = none
  b_bool : mg "bool" = none
  b_str : mg "str" = none
  b_list : mg "list" = none
  b_tuple : mg "tuple" = none
  b_range : mg "range" = none
  b_max : mg "max" = none
  b_abs : mg "abs" = none
  b_sorted : mg "sorted" = none
  g_Attempt : mg "Attempt" = some (.ref CA)
  cl_Attempt : L2.Cls K CA
  n_Attempt_id : NoAttr K CA "id"
  n_Attempt_members : NoAttr K CA "members"
  n_Attempt__states : NoAttr K CA "_states"
  g_BadView : mg "BadView" = some (.ref CV)
  x_BadView : PySem.W.excIn K CV [.type "ValueError", .type "Exception", .type "BaseException", .type "object"] "ValueError.__new__" = true
  k_BadView : PySem.W.keepIn K (.ref CV) = true
  b_BadView : PySem.W.subIn K (.ref CV) (.type "BaseException") = some true
  t_BadView : PySem.W.typeIn K (.ref CV) = some (.type "type")
  m_VV : PySem.W.exmOne K (.ref CV) (.ref CV) = some true
section
variable {P : Program} {w : World} {K : PySem.W.Frag} {mg : Str → Option Value} {base : Heap} {CA CV : Addr}
/-! ### Attempt -/
def sp_ainit (w : World) (CA : Addr) : Sp := fun vs H Q _ => ∃ (p dx : Addr) (v u : V) (id : Vid) (ms : List Mem), vs = [.ref p, v, u] ∧ H p = some (.ins CA dx []) ∧ TD H v (eV id) ∧ TD H u (eMs ms) ∧ ms.length ≤ 12 ∧
  ∀ A H', AAt w CA H' p A (.new id ms) → A.dx = dx → H A.d = none → (∀ b o, H b = some o → b ≠ p → H' b = some o) → Q .non H'
abbrev s_Attempt___init__ : Stmt := inClass (top 6) 0
abbrev N_Attempt___init__ : List Str := ["self", "view_id", "members"]
abbrev P_Attempt___init__ : List Str := ["self", "view_id", "members"]
theorem sc_Attempt___init__ : FnScope N_Attempt___init__ P_Attempt___init__ (defScope s_Attempt___init__) := ⟨rfl, rfl, rfl, by decide +kernel, rfl, by decide +kernel, by decide +kernel⟩
theorem ok_ainit {f : Addr} {fd : FuncData} (T : Tx K mg CA CV) (F : Fun K "__init__" "Attempt.__init__" s_Attempt___init__ f fd) : FnOk P w K mg base CX0 1 f fd P_Attempt___init__ (sp_ainit w CA) := by
  have nd := sc_Attempt___init__.nd
  refine F.ok sc_Attempt___init__ (fun vs H Q E h => ?_) (fun cdv A outer s H vs Q E hr h => ?_)
  · obtain ⟨_, _, _, _, _, _, rfl, _⟩ := h
    rfl
  · obtain ⟨p, dx, v, u, id, ms, rfl, hp, hv, hu, ml, q⟩ := h
    refine ⟨_, (pss_cons (ps_fld (pv 0) (pv 1) rfl)
      (pss_cons (ps_fld (pv 0) (pv 2) rfl)
      (pss_one (ps_fld (pv 0) pe_nnew rfl)))), ?_⟩
    refine ⟨_, rfl, _, rfl, p, CA, dx, [], rfl, hp, T.cl_Attempt, T.n_Attempt_id, (by decide), ?_⟩
    have B := (Bld.start hp).put (fs' := [("id", v)])
    refine ⟨_, rfl, _, rfl, p, CA, dx, [("id", v)], rfl, B.ob, T.cl_Attempt, T.n_Attempt_members, (by show 1 < 1000; decide), ?_⟩
    have B := B.put (fs' := [("id", v), ("members", u)])
    have B0 := B
    refine fun d nd' ds => ⟨_, rfl, p, CA, dx, [("id", v), ("members", u)], rfl, (B.new nd').ob, T.cl_Attempt, T.n_Attempt__states, (by show 2 < 1000; decide), ?_⟩
    have np : p ≠ d := ne_of_none B.ob nd'
    have B := (B.new (o := ndO w d []) nd').put (fs' := aF v u d)
    have t := B.tup (fun xs z => by rw [hp] at z; cases z)
    refine q ⟨dx, v, u, d⟩ _ ⟨B.ob, hv.mono t, hu.mono t, ?_, fun m s z => (by cases z), ml, Nat.zero_le _⟩ rfl ?_ B.k
    · refine ⟨[], ⟨?_, fun x m => (by cases m), List.nodup_nil, Nat.zero_le _, ds⟩, Nat.le_refl _, fun x => trivial, fun k _ => rfl⟩
      rw [upd_ne np.symm]; exact upd_same
    · exact B0.s d nd'
def sp_aadd (w : World) (CA : Addr) : Sp := fun vs H Q _ => ∃ (p : Addr) (A : AA) (a : AS) (v : V) (s : Ste), vs = [.ref p, v] ∧ AAt w CA H p A a ∧ TD H v (eS s) ∧ a.k < 1000 ∧ s.log.length ≤ 1000 ∧ s.pend.length ≤ 1000 ∧
  ∀ H', AAt w CA H' p A (a.add s) → Fr [A.d] [A.d] H H' → Q (.bl (a.counts s)) H'
abbrev s_Attempt_add : Stmt := inClass (top 6) 1
abbrev N_Attempt_add : List Str := ["self", "letter", "sender"]
abbrev P_Attempt_add : List Str := ["self", "letter"]
theorem sc_Attempt_add : FnScope N_Attempt_add P_Attempt_add (defScope s_Attempt_add) := ⟨rfl, rfl, rfl, by decide +kernel, rfl, by decide +kernel, by decide +kernel⟩
theorem ok_aadd {f : Addr} {fd : FuncData} (T : Tx K mg CA CV) (F : Fun K "add" "Attempt.add" s_Attempt_add f fd) : FnOk P w K mg base CX0 1 f fd P_Attempt_add (sp_aadd w CA) := by
  have nd := sc_Attempt_add.nd
  refine F.ok sc_Attempt_add (fun vs H Q E h => ?_) (fun cdv A outer s H vs Q E hr h => ?_)
  · obtain ⟨_, _, _, _, _, rfl, _⟩ := h
    rfl
  · obtain ⟨p, aa, a, v, st, rfl, O, hv, kl, l1, l2, q⟩ := h
    have ob := O.ob
    obtain ⟨c1, n1, n2, n3⟩ : L2.Cls K CA ∧ NoAttr K CA "id" ∧ NoAttr K CA "members" ∧ NoAttr K CA "_states" := ⟨T.cl_Attempt, T.n_Attempt_id, T.n_Attempt_members, T.n_Attempt__states⟩
    obtain ⟨b, x1, x2, x3, x4, x5, rfl, hb, t1, t2, t3, t4, t5⟩ := hv.ste
    obtain ⟨c, rfl, nk⟩ := t1.nk
    refine ⟨_, (pss_cons (ps_set (i := 2) nd rfl (Or.inl rfl) (pe_ix ix_tup (pv 1) pe_int (fun _ _ => rfl)))
      (pss_cons (ps_if (PW.pt (pw_or (pt_cmpR (op_neD hr.units) (pe_ix ix_tup (pv 1) pe_int (fun _ _ => rfl)) (pe_fld (pv 0) (by rfl)) (nomark _)) (pw_or (pt_cmpR (op_notInDD hr.units) (pv 2) (pe_fld (pv 0) (by rfl)) (by rfl)) (pw_or1 (pt_cmp (pc_nin hr.units (pv 2) (pe_fld (pv 0) (by rfl))))))))
        (pss_one (ps_ret pe_bl))
        pss_nil)
      (pss_cons (ps_nput hr.units (pe_fld (pv 0) (by rfl)) (pv 2) (pv 1) rfl)
      (pss_one (ps_ret pe_bl))))), ?_⟩
    have no : a.counts st = false → Q (.bl false) H := fun z => by
      have q := q H (by unfold AS.add; rw [z]; exact O) (Fr.refl _ _)
      rw [z] at q
      exact q
    walk_at "rds"
    refine rd_neV t2 O.id ?_
    walk_at "rds"
    refine iB (fun h => ?_) (fun h => ?_)
    · have h : ¬ st.att = a.id := by simpa using h
      exact no (decide_eq_false fun z => h z.1)
    · have h1 : st.att = a.id := by simpa using h
      walk_at "rds"
      refine rd_inMs t1 O.ms ?_
      walk_at "rds"
      refine iB (fun h => ?_) (fun h => ?_)
      · have h : st.who ∉ a.ms := by simpa using h
        exact no (decide_eq_false fun z => h z.2.1)
      · have h2 : st.who ∈ a.ms := by simpa using h
        obtain ⟨o, g1, g2⟩ := O.g.get nk (kM_depth _)
        walk_at "rds"
        refine ⟨aa.d, c, o, rfl, rfl, g1, ?_⟩
        rw [g2.iss]
        refine ⟨_, rfl, ?_⟩
        refine iB (fun h => ?_) (fun h => ?_)
        · exact no (decide_eq_false fun z => by rw [z.2.2] at h; cases h)
        · have h3 : a.g st.who = none := by
            cases e : a.g st.who with
            | none => rfl
            | some x => rw [e] at h; cases h
          have yes : a.counts st = true := decide_eq_true ⟨h1, h2, h3⟩
          walk_at "rds"
          obtain ⟨ks, m1, m2, m3, m4⟩ := O.g.ex
          refine ⟨aa.d, c, ks, kM st.who, rfl, rfl, m1, nk, kM_depth _, ?_⟩
          have ne := O.ne
          have kt : TupK H (upd H aa.d (ndO w aa.d (putN ks (kM st.who) c (.ref b)))) := tupK_upd fun xs z => by rw [m1.ob] at z; cases z
          show Q (.bl true) (upd H aa.d (ndO w aa.d (putN ks (kM st.who) c (.ref b))))
          rw [← yes]
          refine q _ ?_ (fr_upd List.mem_cons_self m1.ob fun xs z => by cases z)
          unfold AS.add
          rw [yes, if_pos rfl]
          refine ⟨by rw [upd_ne ne]; exact ob, O.id.mono kt, O.ms.mono kt, ?_, fun m s z => ?_, O.ml, by show a.k + 1 ≤ 1000; omega⟩
          · exact NM.put (fun x y => kM_inj) m1 m2 m3 m4 nk (kM_depth _) (by have := O.kl; omega) (hv.mono kt) fun v x z => z.mono kt
          · show m ∈ a.ms ∧ _
            have z : setM a.g st.who st m = some s := z
            unfold setM at z
            by_cases e : m = st.who
            · rw [if_pos e] at z
              cases z
              exact ⟨e ▸ h2, e.symm, l1, l2⟩
            · rw [if_neg e] at z
              exact O.bd m s z
def sp_amiss (w : World) (CA : Addr) : Sp := fun vs H Q _ => ∃ (p : Addr) (A : AA) (a : AS), vs = [.ref p] ∧ AAt w CA H p A a ∧ ∀ r H', Same H H' → H r = none → LstAt H' r (a.missing.map eM) → Q (.ref r) H'
abbrev s_Attempt_missing : Stmt := inClass (top 6) 2
abbrev N_Attempt_missing : List Str := ["self", "member"]
abbrev P_Attempt_missing : List Str := ["self"]
theorem sc_Attempt_missing : FnScope N_Attempt_missing P_Attempt_missing (defScope s_Attempt_missing) := ⟨rfl, rfl, rfl, by decide +kernel, rfl, by decide +kernel, by decide +kernel⟩
theorem ok_amiss {f : Addr} {fd : FuncData} (T : Tx K mg CA CV) (F : Fun K "missing" "Attempt.missing" s_Attempt_missing f fd) : FnOk P w K mg base CX0 1 f fd P_Attempt_missing (sp_amiss w CA) := by
  have nd := sc_Attempt_missing.nd
  refine F.ok sc_Attempt_missing (fun vs H Q E h => ?_) (fun cdv A outer s H vs Q E hr h => ?_)
  · obtain ⟨_, _, _, rfl, _⟩ := h
    rfl
  · obtain ⟨p, aa, a, rfl, O, q⟩ := h
    have hs := sl
    have ob := O.ob
    obtain ⟨c1, n2, n3⟩ : L2.Cls K CA ∧ NoAttr K CA "members" ∧ NoAttr K CA "_states" := ⟨T.cl_Attempt, T.n_Attempt_members, T.n_Attempt__states⟩
    obtain ⟨b, xs, em, hb, lx, hx⟩ := O.tup
    rw [em] at ob
    refine ⟨_, (pss_one (ps_ret (pe_lcX (own := [("member", 1)]) rfl nd (pi_tup (pe_fld (pv 0) (by rfl))) (blkOk_by (own := [("member", 1)]) (N := N_Attempt_missing) (sc := defScope s_Attempt_missing) (by decide +kernel)) (fun _ _ _ _ _ => (pg_name (i := 1) nd rfl (Or.inl rfl))) (fun _ _ _ _ _ => (pts_one (pt_cmp (pc_nnotin hr.units (pv 1) (pe_fld (pv 0) (by rfl)))))) (fun _ _ _ _ _ => (pv 1))))), ?_⟩
    walk_at "rds"
    refine ⟨⟨_, SqT.of hb⟩, fun D nD => ?_⟩
    refine lc_tup (K := K) (a := b) (xs := xs) (fun i H' => LstAt H' D (((a.ms.take i).filter fun m => (a.g m).isNone).map eM) ∧ Same H H') ?_ ?_ ?_ ?_
    · exact ⟨⟨[], upd_same, .nil⟩, same_new nD _⟩
    · rintro i H' _ ⟨_, s1⟩
      exact SqT.of (s1 _ _ hb)
    · rintro i x H' hi ⟨⟨ws, hD, hw⟩, s1⟩
      obtain ⟨m, hm, rd⟩ := hx.map_at hi
      have ht := take_snoc hm
      have ob1 := s1 _ _ ob
      obtain ⟨c, rfl, nk⟩ := (rd.same s1).nk
      obtain ⟨o, g1, g2⟩ := (O.same s1).g.get nk (kM_depth _)
      refine ⟨rfl, ?_⟩
      walk_at "rds"
      refine ⟨_, c, o, rfl, rfl, g1, ?_⟩
      rw [g2.iss]
      refine ⟨_, rfl, ?_⟩
      have lw := hw.length
      rw [List.length_map] at lw
      have := List.length_filter_le (fun m => (a.g m).isNone) (a.ms.take i)
      rw [List.length_take] at this
      have ml := O.ml
      have sD : ∀ o, Same H (upd H' D o) := fun o b u e => by rw [upd_ne (ne_of_none e nD)]; exact s1 b u e
      refine iB (fun h => ?_) (fun h => ?_)
      · have h : (a.g m).isNone = true := by cases z : a.g m <;> rw [z] at h <;> first | rfl | cases h
        walk_at "rds"
        refine ⟨ws, hD, by omega, ⟨ws ++ [.ref c], upd_same, ?_⟩, sD _⟩
        rw [ht, List.filter_append, List.map_append, show [m].filter (fun m => (a.g m).isNone) = [m] by rw [List.filter_cons, if_pos h]; rfl]
        exact (hw.mono (tupK_upd fun xs e => by rw [hD] at e; cases e)).append (.cons (rd.mono (TupK.of (sD _))) .nil)
      · have h : (a.g m).isNone = false := by cases z : a.g m <;> rw [z] at h <;> first | rfl | cases h
        refine ⟨⟨ws, hD, ?_⟩, s1⟩
        rw [ht, List.filter_append, show [m].filter (fun m => (a.g m).isNone) = [] by rw [List.filter_cons, if_neg (by rw [h]; decide)]; rfl, List.append_nil]
        exact hw
    · rintro H' ⟨hD, s1⟩
      rw [lx, List.take_length] at hD
      exact q D H' s1 nD hD
def sp_aready (w : World) (CA : Addr) : Sp := fun vs H Q _ => ∃ (p : Addr) (A : AA) (a : AS), vs = [.ref p] ∧ AAt w CA H p A a ∧ ∀ H', Same H H' → Q (.bl a.ready) H'
abbrev s_Attempt_ready : Stmt := inClass (top 6) 3
abbrev N_Attempt_ready : List Str := ["self"]
abbrev P_Attempt_ready : List Str := ["self"]
theorem sc_Attempt_ready : FnScope N_Attempt_ready P_Attempt_ready (defScope s_Attempt_ready) := ⟨rfl, rfl, rfl, by decide +kernel, rfl, by decide +kernel, by decide +kernel⟩
theorem ok_aready {f : Addr} {fd : FuncData} (T : Tx K mg CA CV) (m_Attempt_missing : MethOk P w K mg base CX0 CA "missing" P_Attempt_missing 1 (sp_amiss w CA)) (F : Fun K "ready" "Attempt.ready" s_Attempt_ready f fd) : FnOk P w K mg base CX0 2 f fd P_Attempt_ready (sp_aready w CA) := by
  have nd := sc_Attempt_ready.nd
  refine F.ok sc_Attempt_ready (fun vs H Q E h => ?_) (fun cdv A outer s H vs Q E hr h => ?_)
  · obtain ⟨_, _, _, rfl, _⟩ := h
    rfl
  · obtain ⟨p, aa, a, rfl, O, q⟩ := h
    have ob := O.ob
    refine ⟨_, (pss_one (ps_ret (pe_cmpR op_eq (pe_callB call_len_seq (by rfl) T.b_len (by decide +kernel) (pa_cons (pmeth0 m_Attempt_missing T.cl_Attempt (pv 0) hr) pa_nil)) pe_int (nomark _)))), ?_⟩
    walk_at "rds"
    refine ⟨p, aa.dx, _, rfl, ob, rfl, p, aa, a, rfl, O, fun r H' s1 _ ⟨us, g1, g2⟩ => ?_⟩
    refine ⟨r, us, rfl, .inl (SqL.of g1), ?_⟩
    walk_at "rds"
    have e : decide (V.int (us.length : Int) = V.int 0) = a.ready := by
      rw [dec_int, g2.length, List.length_map]
      unfold AS.ready
      rw [Bool.eq_iff_iff, decide_eq_true_eq, beq_iff_eq]
      omega
    show Q (.bl (decide (V.int (us.length : Int) = V.int 0))) H'
    rw [e]
    exact q _ s1
/-! ### the last index, the rest -/
def sp_lastx : Sp := fun vs H Q _ => ∃ (v u : V) (log : List Msg) (m : Mem), vs = [v, u] ∧ TD H v (eGs log) ∧ TD H u (eM m) ∧ Q (.int (lastX log m)) H
abbrev s_last_index : Stmt := top 4
abbrev N_last_index : List Str := ["log", "member", "last", "sender", "index", "_"]
abbrev P_last_index : List Str := ["log", "member"]
theorem sc_last_index : FnScope N_last_index P_last_index (defScope s_last_index) := ⟨rfl, rfl, rfl, by decide +kernel, rfl, by decide +kernel, by decide +kernel⟩
theorem ok_lastx {f : Addr} {fd : FuncData} (T : Tx K mg CA CV) (F : Fun K "last_index" "last_index" s_last_index f fd) : FnOk P w K mg base CX0 1 f fd P_last_index sp_lastx := by
  have nd := sc_last_index.nd
  refine F.ok sc_last_index (fun vs H Q E h => ?_) (fun cdv A outer s H vs Q E hr h => ?_)
  · obtain ⟨_, _, _, _, rfl, _⟩ := h
    rfl
  · obtain ⟨v, u, log, m, rfl, hv, hu, q⟩ := h
    obtain ⟨b, xs, rfl, hb, _, hx⟩ := hv.tups
    refine ⟨_, (pss_cons (ps_set (i := 2) nd rfl (Or.inl rfl) pe_int)
      (pss_cons (ps_for PassesOwn.never rfl (pi_tup (pv 0)) (pg_tup (by rfl) (pgs_cons (pg_name (i := 3) nd rfl (Or.inl rfl)) (pgs_cons (pg_name (i := 4) nd rfl (Or.inl rfl)) (pgs_cons (pg_name (i := 5) nd rfl (Or.inl rfl)) pgs_nil))))
        (pss_one (ps_if (pt_cmpR (op_eqD hr.units) (pv 3) (pv 1) (nomark _))
          (pss_one (ps_set (i := 2) nd rfl (Or.inl rfl) (pv 4)))
          pss_nil)))
      (pss_one (ps_ret (pv 2))))), ?_⟩
    walk_at "rds"
    refine ⟨⟨_, SqT.of hb⟩, for_tup (xs := xs) (fun i σ H' => ∃ x3 x4 x5 : Option V, σ = [some (.ref b), some u, some (.int (lastX (log.take i) m)), x3, x4, x5] ∧ H' = H) ?_ ?_ ?_ ?_⟩
    · exact ⟨_, _, _, rfl, rfl⟩
    · rintro i σ' H' _ ⟨_, _, _, _, rfl⟩
      exact SqT.of hb
    · rintro i x _ H' hi ⟨x3, x4, x5, rfl, rfl⟩
      obtain ⟨g, hg, td⟩ := hx.map_at hi
      obtain ⟨c, y, rfl, hc, ty⟩ := td.msg
      have ht := take_snoc hg
      refine ⟨c, _, rfl, SqT.of hc, rfl, ?_⟩
      walk_at "rds"
      refine rd_eqM ty hu ?_
      walk_at "rds"
      refine iB (fun h => ?_) (fun h => ?_)
      · have h := of_decide_eq_true h
        walk_at "rds"
        rw [ht, lastX_snoc, if_pos h]
        exact ⟨_, _, _, rfl, rfl⟩
      · have h := of_decide_eq_false h
        rw [ht, lastX_snoc, if_neg h]
        exact ⟨_, _, _, rfl, rfl⟩
    · rintro _ H' ⟨x3, x4, x5, rfl, rfl⟩
      have e : log.take xs.length = log := by rw [hx.length, List.length_map, List.take_length]
      rw [e]
      walk_at "rds"
      exact q
def sp_rest (CV : Addr) : Sp := fun vs H Q E => ∃ (v u : V) (log fin : List Msg), vs = [v, u] ∧ TD H v (eGs log) ∧ TD H u (eGs fin) ∧ GsOk log ∧ GsOk fin ∧
  (fin.take log.length ≠ log → ∀ H', Same H H' → E (.ref CV) none H') ∧ (fin.take log.length = log → ∀ r H', Same H H' → H r = none → LstAt H' r ((fin.drop log.length).map eG) → Q (.ref r) H')
abbrev s_rest_of : Stmt := top 7
abbrev N_rest_of : List Str := ["log", "final"]
abbrev P_rest_of : List Str := ["log", "final"]
theorem sc_rest_of : FnScope N_rest_of P_rest_of (defScope s_rest_of) := ⟨rfl, rfl, rfl, by decide +kernel, rfl, by decide +kernel, by decide +kernel⟩
theorem ok_rest {f : Addr} {fd : FuncData} (T : Tx K mg CA CV) (F : Fun K "rest_of" "rest_of" s_rest_of f fd) : FnOk P w K mg base (L2.CX P w) 1 f fd P_rest_of (sp_rest CV) := by
  have nd := sc_rest_of.nd
  refine F.okX sc_rest_of (fun vs H Q E h => ?_) (fun cdv A outer s H vs Q E hr h => ?_)
  · obtain ⟨_, _, _, _, rfl, _⟩ := h
    rfl
  · obtain ⟨v, u, log, fin, rfl, hv, hu, k1, k2, q1, q2⟩ := h
    obtain ⟨b, xs, rfl, hb, _, hx⟩ := hv.tups
    have lx : xs.length = log.length := by rw [hx.length, List.length_map]
    refine ⟨_, (pss_cons (ps_if (pt_cmpR (op_neD hr.units) (pe_slice sl_tupA (pv 1) po_none (po_some (pe_callB call_len_seq (by rfl) T.b_len (by decide +kernel) (pa_cons (pv 0) pa_nil)))) (pv 0) (nomark _))
        (pss_one (ps_raise rfl (takes_of rfl rfl rfl rfl) (pmk_own0 PySem.F.excBase_ValueError T.x_BadView T.g_BadView T.k_BadView (raises_own T.b_BadView T.t_BadView))))
        pss_nil)
      (pss_one (ps_ret (pe_callTy call_list_of (by rfl) T.b_list (by decide +kernel) (pa_cons (pe_slice sl_tupA (pv 1) (po_some (pe_callB call_len_seq (by rfl) T.b_len (by decide +kernel) (pa_cons (pv 0) pa_nil))) po_none) pa_nil))))), ?_⟩
    walk_at "rds"
    have hv' := hv
    have el : (xs.length : Int) = ((log.length : Nat) : Int) := by rw [lx]
    show rSlA _ _ none (some (xs.length : Int)) _ _
    rw [el]
    refine sl_take (by unfold eGs at hu; exact hu) fun p H1 s1 t1 => ?_
    rw [← List.map_take] at t1
    have t1 : TD H1 (.ref p) (eGs (fin.take log.length)) := t1
    walk_at "rds"
    refine ⟨_, _, t1.dp, (hv'.same s1).dp, gs_sh (k2.take _), gs_sh k1, ?_⟩
    rw [eGs_eqv]
    walk_at "rds"
    refine iB (fun h => ?_) (fun h => ?_)
    · have h : ¬ fin.take log.length = log := by simpa using h
      exact q1 h _ s1
    · have h : fin.take log.length = log := by simpa using h
      have hu := hu.same s1
      walk_at "rds"
      refine ⟨b, xs, rfl, .inr (SqT.of (s1 _ _ hb)), ?_⟩
      refine ⟨_, rfl, ?_⟩
      dsimp only [tNoPart]
      show rSlA _ _ (some (xs.length : Int)) none _ _
      rw [el]
      refine sl_drop (by unfold eGs at hu; exact hu) fun r H2 s2 t2 => ?_
      obtain ⟨c, ys, e, hc, _, hy⟩ := t2.tups
      cases e
      refine ⟨r, ys, rfl, .inr (SqT.of hc), fun l nl => ?_⟩
      have s12 := s1.trans s2
      have z0 : H l = none := by
        cases e : H l with
        | none => rfl
        | some o => rw [s12 _ _ e] at nl; cases nl
      refine q2 h l _ (s12.trans (same_new nl _)) z0 ⟨ys, upd_same, ?_⟩
      rw [List.map_drop]
      exact hy.same (same_new nl _)
end
end Mus

set_option maxRecDepth 100000
set_option maxHeartbeats 4000000
/-! The states of an attempt as the values of its dict; the set of their old views, sorted. -/
namespace Mus
open PySem PySem.Spec PyProof.Rows L2
theorem choose_list {α β : Type} {R : α → β → Prop} : ∀ {l : List α}, (∀ x ∈ l, ∃ y, R x y) → ∃ m : List β, m.length = l.length ∧ ∀ (i : Nat) x, l[i]? = some x → ∃ y, m[i]? = some y ∧ R x y
  | [], _ => ⟨[], rfl, fun i x h => by simp at h⟩
  | a :: l, h => by
    obtain ⟨y, hy⟩ := h a List.mem_cons_self
    obtain ⟨m, h1, h2⟩ := choose_list (R := R) (l := l) fun x hx => h x (List.mem_cons_of_mem _ hx)
    refine ⟨y :: m, by rw [List.length_cons, List.length_cons, h1], fun i x e => ?_⟩
    cases i with
    | zero => cases e; exact ⟨y, rfl, hy⟩
    | succ i => exact h2 i x e
theorem nodup_le {α : Type} [DecidableEq α] : ∀ {l D : List α}, l.Nodup → (∀ x ∈ l, x ∈ D) → l.length ≤ D.length
  | [], _, _, _ => Nat.zero_le _
  | a :: l, D, n, h => by
    rw [List.nodup_cons] at n
    have ha := h a List.mem_cons_self
    have i := nodup_le (D := D.erase a) n.2 fun x hx => (List.mem_erase_of_ne (fun e : x = a => n.1 (by rw [← e]; exact hx))).mpr (h x (List.mem_cons_of_mem _ hx))
    have e := List.length_erase_of_mem ha
    have := List.length_pos_of_mem ha
    rw [List.length_cons]
    omega
theorem AAt.vals {w : World} {CA : Addr} {H : Hp} {p : Addr} {A : AA} {a : AS} (O : AAt w CA H p A a) :
    ∃ (ks : NKV) (sts : List Ste), Nd w H A.d ks ∧ sts.length = ks.length ∧ (∀ (i : Nat) x, ks[i]? = some x → ∃ s, sts[i]? = some s ∧ TD H x.2.2 (eS s)) ∧ (∀ s, s ∈ sts ↔ ∃ m ∈ a.ms, a.g m = some s) ∧ ks.length ≤ 12 := by
  obtain ⟨ks, n1, n2, n3, n4⟩ := O.g.ex
  have each : ∀ x ∈ ks, ∃ s : Ste, ∃ m, x.1 = kM m ∧ a.g m = some s ∧ TD H x.2.2 (eS s) := fun x hx => by
    have e := valN_mem n1.one hx
    obtain ⟨m, em⟩ : ∃ m, x.1 = kM m := Classical.byContradiction fun no => by
      have z := n4 x.1 fun m em => no ⟨m, em⟩
      rw [z] at e; cases e
    have r := n3 m
    rw [← em, e] at r
    cases g : a.g m with
    | none => rw [g] at r; exact r.elim
    | some s => rw [g] at r; exact ⟨s, m, em, g, r⟩
  obtain ⟨sts, l1, l2⟩ := choose_list each
  have few : ks.length ≤ 12 := by
    have := nodup_le (D := a.ms.map kM) n1.one fun k hk => by
      obtain ⟨x, hx, e⟩ := List.mem_map.mp hk
      obtain ⟨s, m, e1, e2, _⟩ := each x hx
      exact List.mem_map.mpr ⟨m, (O.bd m s e2).1, by rw [← e, e1]⟩
    rw [List.length_map, List.length_map] at this
    exact Nat.le_trans this O.ml
  refine ⟨ks, sts, n1, l1, fun i x e => ?_, fun s => ⟨fun hs => ?_, fun ⟨m, hm, e⟩ => ?_⟩, few⟩
  · obtain ⟨s, h1, _, _, _, h2⟩ := l2 i x e
    exact ⟨s, h1, h2⟩
  · obtain ⟨i, hi⟩ := List.getElem?_of_mem hs
    have lt : i < ks.length := by rw [← l1]; exact (List.getElem?_eq_some_iff.mp hi).1
    obtain ⟨s', h1, m, _, h2, _⟩ := l2 i _ (List.getElem?_eq_getElem lt)
    rw [hi] at h1
    cases h1
    exact ⟨m, (O.bd m s h2).1, h2⟩
  · have r := n3 m
    rw [e] at r
    obtain ⟨v, hv⟩ : ∃ v, valN ks (kM m) = some v := by
      cases z : valN ks (kM m) with
      | none => rw [z] at r; exact r.elim
      | some v => exact ⟨v, rfl⟩
    unfold valN at hv
    obtain ⟨x, hx, _⟩ := Option.map_eq_some_iff.mp hv
    have xk : x.1 = kM m := by simpa using List.find?_some hx
    obtain ⟨i, hi⟩ := List.getElem?_of_mem (List.mem_of_find?_eq_some hx)
    obtain ⟨s', h1, m', em, h2, _⟩ := l2 i x hi
    have : m' = m := kM_inj (em.symm.trans xk)
    rw [this, e] at h2
    cases h2
    exact List.mem_of_getElem? h1
/-- the loop over the values -/
theorem sc_valsN {w : World} {d : Addr} {o : Obj} {kvs : NKV} {g : TG} {tt : TT} {te : TE} {vs : List Nat} {σ : L2.St} {H1 : Hp} {D : Addr} {Qd : Hp → Prop} (Pv : Nat → Hp → Prop) (h0 : Pv 0 (upd H1 D (nsO w D []))) (hl : ∀ i H, Pv i H → H d = some (.frz o (ndO w d kvs)))
    (hs : ∀ (i : Nat) k b v H, kvs[i]? = some (k, b, v) → Pv i H → g v (wipe σ vs) H fun σ2 H2 => wipe σ2 vs = wipe σ vs ∧ tt σ2 H2 fun b H3 =>
      if b = true then te σ2 H3 fun y H4 => ∃ (z : Addr) (k : NestedKey) (L : List KA), y = .ref z ∧ H4 D = some (nsO w D L) ∧ (∀ p ∈ L, KeyAt H4 p) ∧ KeyAt H4 (z, k) ∧ L.length + 1 < 64 ∧ ∀ L', Added L z k L' → Pv (i + 1) (upd H4 D (nsO w D L')) else Pv (i + 1) H3) (hd : ∀ H, Pv kvs.length H → Qd H) :
    ∃ W : Nat → Nat → Hp → Prop, (∃ m, W 0 m (upd H1 D (nsO w D []))) ∧ ∀ i m H, W i m H →
      ((ItvN w d o kvs).stop i H ∧ Qd H) ∨ ((ItvN w d o kvs).go i H ∧ ∃ Nx : Hp → Prop, (∀ H', Nx H' → ∃ m', m' < m ∧ W (i + 1) m' H') ∧ ∀ x H', (ItvN w d o kvs).yld i H x H' → g x (wipe σ vs) H' fun σ2 H2 => wipe σ2 vs = wipe σ vs ∧ tt σ2 H2 fun b H3 =>
        if b = true then te σ2 H3 fun y H4 => ∃ (z : Addr) (k : NestedKey) (L : List KA), y = .ref z ∧ H4 D = some (nsO w D L) ∧ (∀ p ∈ L, KeyAt H4 p) ∧ KeyAt H4 (z, k) ∧ L.length + 1 < 64 ∧ ∀ L', Added L z k L' → Nx (upd H4 D (nsO w D L')) else Nx H3) := by
  refine ⟨fun i m H => m = kvs.length - i ∧ i ≤ kvs.length ∧ Pv i H, ⟨kvs.length, by simp, Nat.zero_le _, h0⟩, ?_⟩
  rintro i m H ⟨rfl, hi, p⟩
  by_cases lt : i < kvs.length
  · refine .inr ⟨⟨hl i H p, lt⟩, Pv (i + 1), fun H' p' => ⟨kvs.length - (i + 1), by omega, rfl, lt, p'⟩, fun x H' y => ?_⟩
    obtain ⟨e, k, b, hx⟩ := y
    subst e
    exact hs i k b x _ hx p
  · have e : i = kvs.length := by omega
    subst e
    exact .inl ⟨⟨hl _ H p, Nat.le_refl _⟩, hd H p⟩
/-! ### keys of view ids -/
def vidOf : NestedKey → Vid
  | .tup [.num k, .tup [.num i, .num l]] => (k, (i, l))
  | _ => (0, (0, 0))
theorem vidOf_k (v : Vid) : vidOf (kVv v) = v := rfl
theorem kD_kVv (v : Vid) : kD (kVv v) = eV v := rfl
theorem numK_v (v : Vid) : numK (kVv v) = true := rfl
theorem vlt_of {x y : Vid} (h : PySem.W.dataLt (eV y) (eV x) = false) (ne : x ≠ y) : AS.vlt x y := by
  have e : PySem.W.dataLt (eV y) (eV x) = vLt y.1 y.2.1 y.2.2 x.1 x.2.1 x.2.2 := v_lt _ _ _ _ _ _
  rw [e] at h
  unfold AS.vlt
  unfold vLt at h ⊢
  simp only [decide_eq_false_iff_not, decide_eq_true_eq] at h ⊢
  have : ¬ (x.1 = y.1 ∧ x.2.1 = y.2.1 ∧ x.2.2 = y.2.2) := fun ⟨h1, h2, h3⟩ => ne (Prod.ext h1 (Prod.ext h2 h3))
  omega
/-- what a set of ids holds -/
structure VSet (H : Hp) (L : List KA) (Pm : Vid → Prop) : Prop where
  ent : ∀ p ∈ L, ∃ v, p.2 = kVv v ∧ TD H (.ref p.1) (eV v)
  mem : ∀ v, kVv v ∈ L.map Prod.snd ↔ Pm v
theorem VSet.mono {H H' : Hp} {L : List KA} {Pm : Vid → Prop} (h : VSet H L Pm) (t : TupK H H') : VSet H' L Pm := ⟨fun p m => by
  obtain ⟨v, e, td⟩ := h.ent p m
  exact ⟨v, e, td.mono t⟩, h.mem⟩
theorem VSet.key {H : Hp} {L : List KA} {Pm : Vid → Prop} (h : VSet H L Pm) : ∀ p ∈ L, KeyAt H p := fun p m => by
  obtain ⟨v, e, td⟩ := h.ent p m
  obtain ⟨b, eb, nk⟩ := td.nkV
  cases eb
  exact ⟨by rw [e]; exact nk, by rw [e]; exact kVv_depth v, by rw [e]; exact numK_v v⟩
theorem VSet.add {H : Hp} {L L' : List KA} {Pm : Vid → Prop} {z : Addr} {v : Vid} (h : VSet H L Pm) (td : TD H (.ref z) (eV v)) (ad : Added L z (kVv v) L') : VSet H L' (fun x => Pm x ∨ x = v) ∧ L'.length ≤ L.length + 1 := by
  by_cases c : kVv v ∈ L.map Prod.snd
  · rw [ad.1 c]
    refine ⟨⟨h.ent, fun x => ⟨fun m => .inl ((h.mem x).mp m), fun m => ?_⟩⟩, Nat.le_succ _⟩
    rcases m with m | m
    · exact (h.mem x).mpr m
    · rw [m]; exact c
  · have pm := ad.2 c
    refine ⟨⟨fun p m => ?_, fun x => ?_⟩, by rw [pm.length_eq]; exact Nat.le_refl _⟩
    · rcases List.mem_cons.mp (pm.mem_iff.mp m) with e | m
      · rw [e]; exact ⟨v, rfl, td⟩
      · exact h.ent p m
    · rw [(pm.map Prod.snd).mem_iff, List.map_cons, List.mem_cons, h.mem x]
      constructor
      · rintro (e | m)
        · exact .inr (kVv_inj _ _ e)
        · exact .inl m
      · rintro (m | e)
        · exact .inr m
        · rw [e]; exact .inl rfl
/-- sorted of it -/
theorem VSet.enc {H : Hp} {L : List KA} {Pm : Vid → Prop} (h : VSet H L Pm) : ∀ p ∈ L, kD p.2 = eV (vidOf p.2) ∧ p.2 = kVv (vidOf p.2) ∧ TD H (.ref p.1) (eV (vidOf p.2)) := fun p m => by
  obtain ⟨v, e, td⟩ := h.ent p m
  rw [e, vidOf_k]
  exact ⟨kD_kVv v, rfl, td⟩
theorem VSet.dp {K : PySem.W.Frag} {H : Hp} {L : List KA} {Pm : Vid → Prop} (h : VSet H L Pm) : ∀ p ∈ L, Dp K H (.ref p.1) (kD p.2) ∧ (kD p.2).depth ≤ 20 := fun p m => by
  obtain ⟨e1, _, e3⟩ := h.enc p m
  rw [e1]
  exact ⟨e3.dp, by rw [(eV_lay _).2.1]; decide⟩
theorem VSet.alike {H : Hp} {L L' : List KA} {Pm : Vid → Prop} (h : VSet H L Pm) (pL : L'.Perm L) : PySem.W.AllAlike (L'.map fun p => kD p.2) := fun d md d' md' => by
  obtain ⟨p, mp, e⟩ := List.mem_map.mp md
  obtain ⟨p', mp', e'⟩ := List.mem_map.mp md'
  rw [← e, ← e', (h.enc p (pL.mem_iff.mp mp)).1, (h.enc p' (pL.mem_iff.mp mp')).1]
  rfl
theorem VSet.tupd {H : Hp} {L L' : List KA} {Pm : Vid → Prop} (h : VSet H L Pm) (pL : L'.Perm L) : PySem.W.Sortable (L'.map fun p => kD p.2) := .inl fun d md => by
  obtain ⟨p, mp, e⟩ := List.mem_map.mp md
  rw [← e, (h.enc p (pL.mem_iff.mp mp)).1]
  exact ⟨_, _, rfl⟩
theorem VSet.srt {H : Hp} {L L' : List KA} {Pm : Vid → Prop} (h : VSet H L Pm) (pL : L'.Perm L) (nd : (L.map Prod.snd).Nodup) {ps : List (V × PyData)} (eps : ps = ((L'.map fun x => V.ref x.1).zip (L'.map fun p => kD p.2)).mergeSort (PySem.W.dataLe false (·.2))) :
    ∃ s : List KA, ps.map (·.1) = s.map (fun x => V.ref x.1) ∧ (s.map fun x => vidOf x.2).Pairwise AS.vlt ∧ (∀ v, v ∈ s.map (fun x => vidOf x.2) ↔ Pm v) ∧ (∀ x ∈ s, TD H (.ref x.1) (eV (vidOf x.2))) ∧ s.length = L.length := by
  obtain ⟨s, e1, e2, e3⟩ := srt_of (v := fun x : KA => V.ref x.1) (k := fun x : KA => kD x.2) eps
  have sL := e2.trans pL
  have ns : (s.map Prod.snd).Nodup := (sL.map Prod.snd).nodup_iff.mpr nd
  have ns : s.Pairwise fun x y => x.2 ≠ y.2 := List.pairwise_map.mp ns
  refine ⟨s, e1, ?_, fun v => ?_, fun x m => (h.enc x (sL.mem_iff.mp m)).2.2, sL.length_eq⟩
  · rw [List.pairwise_map]
    refine (e3.and ns).imp_of_mem fun {x y} mx my ⟨z1, z2⟩ => ?_
    obtain ⟨x1, x2, _⟩ := h.enc x (sL.mem_iff.mp mx)
    obtain ⟨y1, y2, _⟩ := h.enc y (sL.mem_iff.mp my)
    rw [x1, y1] at z1
    exact vlt_of z1 fun z => z2 (by rw [x2, y2, z])
  · rw [← h.mem v]
    constructor
    · intro m
      obtain ⟨x, mx, e⟩ := List.mem_map.mp m
      have mx := sL.mem_iff.mp mx
      refine List.mem_map.mpr ⟨x, mx, ?_⟩
      rw [← e]
      exact (h.enc x mx).2.1
    · intro m
      obtain ⟨x, mx, e⟩ := List.mem_map.mp m
      refine List.mem_map.mpr ⟨x, sL.mem_iff.mpr mx, ?_⟩
      show vidOf x.2 = v
      have e : x.2 = kVv v := e
      rw [e]; rfl
end Mus

set_option maxRecDepth 100000
set_option maxHeartbeats 4000000
/-! The orders of the law, their texts, their counts. -/
namespace Mus
open PySem PySem.Spec PyProof.Rows L2
def nTxt (i : Int) : Str := Str.ofString (toString i)
def vTxt (v k : Int) : Str := ((Str.ofString "v" ++ nTxt v) ++ Str.ofString ".") ++ nTxt k
def pTxt (v k : Int) : Str := ((Str.ofString "p" ++ nTxt v) ++ Str.ofString ".") ++ nTxt k
theorem all20 {p : Int → Bool} (h : ((List.range 20).all fun a => p (a : Int)) = true) {i : Int} (h0 : 0 ≤ i) (h1 : i < 20) : p i = true := by
  have z := List.all_eq_true.mp h i.toNat (List.mem_range.mpr (by omega))
  have e : ((i.toNat : Nat) : Int) = i := by omega
  rw [e] at z
  exact z
theorem n_len {i : Int} (h0 : 0 ≤ i) (h1 : i < 20) : (nTxt i).length ≤ 2 := of_decide_eq_true (all20 (p := fun i => decide ((nTxt i).length ≤ 2)) (by decide +kernel) h0 h1)
theorem n_log {i : Int} (h0 : 0 ≤ i) (h1 : i < 20) : i.natAbs.log2 < 1920 := of_decide_eq_true (all20 (p := fun i => decide (i.natAbs.log2 < 1920)) (by decide +kernel) h0 h1)
theorem v_ok {v k : Int} (h0 : 0 ≤ v) (h1 : v < 20) (k0 : 0 ≤ k) (k1 : k < 20) : PyData.strOk (vTxt v k) = true := by
  have z := all20 (p := fun v => (List.range 20).all fun b => PyData.strOk (vTxt v (b : Int))) (by decide +kernel) h0 h1
  exact all20 (p := fun k => PyData.strOk (vTxt v k)) z k0 k1
theorem p_ok {v k : Int} (h0 : 0 ≤ v) (h1 : v < 20) (k0 : 0 ≤ k) (k1 : k < 20) : PyData.strOk (pTxt v k) = true := by
  have z := all20 (p := fun v => (List.range 20).all fun b => PyData.strOk (pTxt v (b : Int))) (by decide +kernel) h0 h1
  exact all20 (p := fun k => PyData.strOk (pTxt v k)) z k0 k1
/-! ### counts -/
def cntX (s : Mem) (L : List Msg) : Nat := (L.filter fun g => decide (g.1 = s)).length
theorem cntX_snoc (s : Mem) (L : List Msg) (g : Msg) : cntX s (L ++ [g]) = if g.1 = s then cntX s L + 1 else cntX s L := by
  unfold cntX
  rw [List.filter_append]
  by_cases h : g.1 = s
  · rw [if_pos h, List.filter_cons, if_pos (by rw [decide_eq_true_eq]; exact h)]; simp
  · rw [if_neg h, List.filter_cons, if_neg (by rw [decide_eq_true_eq]; exact h)]; simp
theorem cntX_le (s : Mem) (L : List Msg) : cntX s L ≤ L.length := List.length_filter_le _ _
def sndM (ms : List Mem) (seed : Int) (k : Nat) : Mem := (ms[(seed / ((k : Int) + 1) % (ms.length : Int)).toNat]?).getD (0, 0)
def ordM (ms : List Mem) (view seed : Int) : Nat → List Msg
  | 0 => []
  | n + 1 => ordM ms view seed n ++ [(sndM ms seed n, (cntX (sndM ms seed n) (ordM ms view seed n) : Int) + 1, vTxt view n)]
theorem ordM_len (ms : List Mem) (view seed : Int) : ∀ n, (ordM ms view seed n).length = n
  | 0 => rfl
  | n + 1 => by
    unfold ordM
    rw [List.length_append, ordM_len ms view seed n]; rfl
theorem ordM_take (ms : List Mem) (view seed : Int) : ∀ m n, n ≤ m → (ordM ms view seed m).take n = ordM ms view seed n
  | 0, n, h => by rw [Nat.le_zero.mp h]; rfl
  | m + 1, n, h => by
    by_cases e : n = m + 1
    · rw [e, List.take_of_length_le (by rw [ordM_len]; exact Nat.le_refl _)]
    · have l : n ≤ m := by omega
      have u : ordM ms view seed (m + 1) = ordM ms view seed m ++ [(sndM ms seed m, (cntX (sndM ms seed m) (ordM ms view seed m) : Int) + 1, vTxt view m)] := rfl
      rw [u, List.take_append_of_le_length (by rw [ordM_len]; exact l), ordM_take ms view seed m n l]
theorem ordM_ok {ms : List Mem} {view seed : Int} (h0 : 0 ≤ view) (h1 : view < 20) : ∀ n, n ≤ 20 → GsOk (ordM ms view seed n)
  | 0, _ => fun g m => by cases m
  | n + 1, h => fun g m => by
    unfold ordM at m
    rcases List.mem_append.mp m with m | m
    · exact ordM_ok h0 h1 n (by omega) g m
    · rw [List.mem_singleton.mp m]
      exact v_ok h0 h1 (by omega) (by omega)
/-- lists of messages whose indexes are 1, 2, .. for each sender -/
def Ixd (L : List Msg) : Prop := ∀ s, lastX L s = (cntX s L : Int) ∧ ∀ i : Int, (∃ g ∈ L, g.1 = s ∧ g.2.1 = i) ↔ 1 ≤ i ∧ i ≤ (cntX s L : Int)
theorem ordM_ixd (ms : List Mem) (view seed : Int) : ∀ n, Ixd (ordM ms view seed n)
  | 0 => fun s => ⟨rfl, fun i => ⟨fun ⟨g, m, _⟩ => (by cases m), fun h => by have : (cntX s (ordM ms view seed 0) : Int) = 0 := rfl; omega⟩⟩
  | n + 1 => fun s => by
    obtain ⟨i1, i2⟩ := ordM_ixd ms view seed n s
    unfold ordM
    generalize hg : (sndM ms seed n, (cntX (sndM ms seed n) (ordM ms view seed n) : Int) + 1, vTxt view n) = g at *
    have g1 : g.2.1 = (cntX g.1 (ordM ms view seed n) : Int) + 1 := by rw [← hg]
    rw [lastX_snoc, cntX_snoc]
    by_cases h : g.1 = s
    · rw [if_pos h, if_pos h, g1, h]
      refine ⟨by omega, fun i => ⟨?_, fun ⟨k1, k2⟩ => ?_⟩⟩
      · rintro ⟨x, m, e1, e2⟩
        rcases List.mem_append.mp m with m | m
        · have := (i2 i).mp ⟨x, m, e1, e2⟩
          omega
        · rw [List.mem_singleton.mp m, g1, h] at e2
          omega
      · by_cases c : i ≤ (cntX s (ordM ms view seed n) : Int)
        · obtain ⟨x, m, e⟩ := (i2 i).mpr ⟨k1, c⟩
          exact ⟨x, List.mem_append_left _ m, e⟩
        · exact ⟨g, List.mem_append_right _ List.mem_cons_self, h, by rw [g1, h]; omega⟩
    · rw [if_neg h, if_neg h]
      refine ⟨i1, fun i => ⟨?_, fun k => ?_⟩⟩
      · rintro ⟨x, m, e1, e2⟩
        rcases List.mem_append.mp m with m | m
        · exact (i2 i).mp ⟨x, m, e1, e2⟩
        · rw [List.mem_singleton.mp m] at e1
          exact (h e1).elim
      · obtain ⟨x, m, e⟩ := (i2 i).mpr k
        exact ⟨x, List.mem_append_left _ m, e⟩
/-- the dict of counts -/
def cgM (L : List Msg) : Mem → Option Int := fun s => if cntX s L = 0 then none else some (cntX s L : Int)
theorem cgM_getD (L : List Msg) (s : Mem) : (cgM L s).getD 0 = (cntX s L : Int) := by
  unfold cgM
  split
  · rename_i h; rw [h]; rfl
  · rfl
theorem cgM_snoc (L : List Msg) (g : Msg) : cgM (L ++ [g]) = setM (cgM L) g.1 ((cntX g.1 L : Int) + 1) := by
  funext s
  unfold cgM setM
  rw [cntX_snoc]
  by_cases h : g.1 = s
  · subst h
    rw [if_pos rfl, if_neg (Nat.succ_ne_zero _), if_pos rfl]; rfl
  · have e : ¬ s = g.1 := fun z => h z.symm
    simp only [if_neg h, if_neg e]
end Mus

set_option maxRecDepth 100000
set_option maxHeartbeats 4000000
namespace Mus
open PySem L2
local macro_rules | `(tactic| walk_at "rd") => `(tactic| first
  | refine ⟨_, rfl, ?_⟩ | refine ⟨(True.intro : True), ?_⟩
  | refine ⟨_, _, rfl, rfl, (⟨by decide, by decide, by decide⟩ : CPow _ _), ?_⟩
  | refine ⟨_, _, rfl, rfl, (⟨by decide, by decide⟩ : CDiv _ _), ?_⟩
  | refine ⟨_, _, rfl, rfl, (by show (0 : Int) < _; decide), ?_⟩
  | refine ⟨_, _, rfl, rfl, ?_⟩ | refine ⟨rfl, ?_⟩ | refine iteT ?_ | refine iteF ?_ | refine ⟨_, _, rfl, ?_⟩ | refine .inl ⟨_, rfl, ?_⟩
  | refine ⟨_, _, _, _, _, rfl, (by assumption), (by assumption), (by assumption), rfl, ?_⟩ | refine ⟨_, _, _, _, rfl, rfl, SqT.of (by assumption), rfl, ?_⟩ | refine ⟨_, _, rfl, SqT.of (by assumption), rfl, ?_⟩
  | refine ⟨_, _, _, _, _, rfl, .ty _, Rp.ty (by assumption), kit_int _, ?_⟩ | refine ⟨_, _, _, _, _, rfl, .ty _, Rp.ty (by assumption), kit_bool _, ?_⟩
  | refine ⟨_, _, _, _, _, rfl, .ty _, Rp.ty (by assumption), kit_str _, ?_⟩ | refine ⟨_, _, _, _, _, rfl, .ty _, Rp.ty (by assumption), kit_tup _, ?_⟩)
local macro_rules | `(tactic| walk_at "cal") => `(tactic| first
  | refine ⟨_, _, _, _, _, rfl, (by assumption), ?_⟩ | refine ⟨_, _, _, _, _, rfl, (by assumption), (by assumption), ?_⟩)
local macro_rules | `(tactic| walk_at "sq") => `(tactic| first
  | refine ⟨_, _, rfl, Or.inr (SqT.of (by assumption)), ?_⟩ | refine ⟨_, _, _, _, rfl, rfl, SqT.of (by assumption), rfl, ?_⟩)
local macro_rules | `(tactic| walk_at "rds") => `(tactic| repeat first | walk_at "rd" | walk_at "cal" | walk_at "sq")
local macro_rules | `(tactic| walk_at "ze") => `(tactic| repeat first
  | exact zes_nil | exact ze_bl | exact ze_str | exact ze_non | apply zes_cons | apply ze_tup | apply ze_lst | apply ze_cat | exact di_c | exact di_v rfl | apply di_opC | apply di_op | apply di_neg | apply ze_i | (refine (⟨?_, ?_, ?_⟩ : CPow _ _) <;> decide) | exact Nat.le_of_ble_eq_true rfl | exact ze_varD rfl (by assumption))
local macro_rules | `(tactic| walk_at "rdz") => `(tactic| repeat (fail_if_success (first | show tLst _ _ _ _ | show tAsg (tLst _) _ _ _ _ | show tSeq (tAsg (tLst _) _) _ _ _ _)); first | walk_at "rd" | walk_at "cal" | walk_at "sq")
section
variable {P : Program} {w : World} {K : PySem.W.Frag} {mg : Str → Option Value} {base : Heap} {CA CV : Addr}
def sp_cell20 (K : PySem.W.Frag) : Sp := fun vs H Q _ => ∃ (a : Addr) (ns : List Int) (k : Int), vs = [.ref a, .int k] ∧ 0 ≤ k ∧ SqL K H a (ns.map V.int) ∧ ∀ x, Q (.int x) H
abbrev s__law_cell : Stmt := top 9
abbrev N__law_cell : List Str := ["script", "k"]
abbrev P__law_cell : List Str := ["script", "k"]
theorem sc__law_cell : FnScope N__law_cell P__law_cell (defScope s__law_cell) := ⟨rfl, rfl, rfl, by decide +kernel, rfl, by decide +kernel, by decide +kernel⟩
theorem ok__law_cell {f : Addr} {fd : FuncData} (T : Tx K mg CA CV) (F : Fun K "_law_cell" "_law_cell" s__law_cell f fd) : FnOk P w K mg base CX0 (1) f fd P__law_cell (sp_cell20 K) := by
  have nd := sc__law_cell.nd
  refine F.ok sc__law_cell (fun vs H Q E h => ?_) (fun cdv A outer s H vs Q E hr h => ?_)
  · obtain ⟨_, _, _, rfl, _⟩ := h
    rfl
  · obtain ⟨a, ns, k, rfl, k0, hS, q⟩ := h
    refine ⟨_, (pss_cons (ps_if (pt_cmpR op_lt (pv 1) (pe_callB call_len_seq (by rfl) T.b_len (by decide +kernel) (pa_cons (pv 0) pa_nil)) (nomark _))
        (pss_one (ps_ret (pe_ix ix_list (pv 0) (pv 1) (fun _ _ => rfl))))
        pss_nil)
      (pss_one (ps_ret pe_int))), ?_⟩
    have hl : (ns.map V.int).length = ns.length := List.length_map _
    walk_at "rds"
    refine ⟨a, _, rfl, .inl hS, ?_⟩
    walk_at "rds"
    refine iB (fun h => ?_) (fun h => ?_)
    · have hk : k < (((ns.map V.int).length : Nat) : Int) := of_decide_eq_true h
      have hk2 : k.toNat < ns.length := by omega
      walk_at "rds"
      exact ⟨a, _, _, .int ns[k.toNat], rfl, rfl, hS, at_int k0 (by rw [List.getElem?_map, List.getElem?_eq_getElem hk2]; rfl), q _⟩
    · exact q _
def sp_lord : Sp := fun vs H Q _ => ∃ (v : V) (ms : List Mem) (view seed : Int), vs = [v, .int view, .int seed] ∧ TD H v (eMs ms) ∧ 0 < ms.length ∧ ms.length ≤ 12 ∧ 0 ≤ view ∧ view < 20 ∧ 0 ≤ seed ∧
  ∀ r H', Same H H' → H r = none → LstAt H' r ((ordM ms view seed 12).map eG) → Q (.ref r) H'
abbrev s__law_order : Stmt := top 10
abbrev N__law_order : List Str := ["members", "view", "seed", "order", "counts", "k", "sender"]
abbrev P__law_order : List Str := ["members", "view", "seed"]
theorem sc__law_order : FnScope N__law_order P__law_order (defScope s__law_order) := ⟨rfl, rfl, rfl, by decide +kernel, rfl, by decide +kernel, by decide +kernel⟩
theorem ok__law_order {f : Addr} {fd : FuncData} (T : Tx K mg CA CV) (F : Fun K "_law_order" "_law_order" s__law_order f fd) : FnOk P w K mg base CX0 (1) f fd P__law_order (sp_lord) := by
  have nd := sc__law_order.nd
  refine F.ok sc__law_order (fun vs H Q E h => ?_) (fun cdv A outer s H vs Q E hr h => ?_)
  · obtain ⟨_, _, _, _, rfl, _⟩ := h
    rfl
  · obtain ⟨v, ms, view, seed, rfl, hv, m0, m12, v0, v20, s0, q⟩ := h
    have hs := sl
    obtain ⟨b, xs, rfl, hb, _, hx⟩ := (show TD H v (.tuple (ms.map eM)) from hv).tups
    have lx := hx.length
    rw [List.length_map] at lx
    refine ⟨_, (pss_cons (ps_set (i := 3) nd rfl (Or.inl rfl) (pe_lst pa_nil))
      (pss_cons (ps_set (i := 4) nd rfl (Or.inl rfl) pe_nnew)
      (pss_cons (ps_for PassesOwn.never rfl (pi_range1 (by rfl) T.b_range (pa_cons pe_int pa_nil)) (pg_name (i := 5) nd rfl (Or.inl rfl))
        (pss_cons (ps_set (i := 6) nd rfl (Or.inl rfl) (pe_ix ix_tup (pv 0) (pe_op op_mod (pe_op op_fdivW (pv 2) (pe_op op_add (pv 5) pe_int)) (pe_callB call_len_seq (by rfl) T.b_len (by decide +kernel) (pa_cons (pv 0) pa_nil))) (fun _ _ => rfl)))
        (pss_cons (ps_nput hr.units (pv 4) (pv 6) (pe_op op_add (pe_nget2 hr.units (pv 4) (pv 6) pe_int ⟨rfl, rfl, rfl, rfl⟩) pe_int) rfl)
        (pss_one (ps_expr (pe_bm PySem.F.plainAttrs_list PySem.F.slot_list_append PySem.F.type_list_append mt_append (pv 3) (pa_cons (pe_tup (pa_cons (pv 6) (pa_cons (pe_nget hr.units (pv 4) (pv 6) (fun _ _ => rfl)) (pa_cons (pe_op op_add_str (pe_op op_add_str (pe_op op_add_str pe_str (pe_callTy call_str_int (by rfl) T.b_str (by decide +kernel) (pa_cons (pv 1) pa_nil))) pe_str) (pe_callTy call_str_int (by rfl) T.b_str (by decide +kernel) (pa_cons (pv 5) pa_nil))) pa_nil)))) pa_nil)))))))
      (pss_one (ps_ret (pv 3)))))), ?_⟩
    refine ⟨by show 0 ≤ sizeLine; omega, fun R nR => ?_⟩
    have nR0 := nR
    have s1 := same_new nR (.lst [])
    have hR : (upd H R (.lst [])) R = some (.lst []) := upd_same
    generalize upd H R (.lst []) = H1 at *
    refine fun D nD ds => ?_
    have nD0 : H D = none := by
      cases e : H D with
      | none => rfl
      | some o => rw [s1 _ _ e] at nD; cases nD
    have s2 := s1.trans (same_new nD (ndO w D []))
    have N : NM w (upd H1 D (ndO w D [])) D 0 kM (fun v (x : Int) => v = .int x) (cgM (ordM ms view seed 0)) := nm_new ds
    have RD : R ≠ D := ne_of_none hR nD
    have hR2 := same_new nD (ndO w D []) _ _ hR
    refine ⟨12, rfl, by decide, by decide, for_range (lo := 0) (n := 12) (fun i σ H' => ∃ x5 x6 : Option V, σ = [some (.ref b), some (.int view), some (.int seed), some (.ref R), some (.ref D), x5, x6] ∧ LstAt H' R ((ordM ms view seed i).map eG) ∧ NM w H' D i kM (fun v (x : Int) => v = .int x) (cgM (ordM ms view seed i)) ∧ ∀ b u, H b = some u → H' b = some u) ?_ ?_ ?_⟩
    · exact ⟨_, _, rfl, ⟨[], hR2, .nil⟩, N, s2⟩
    · rintro i _ H3 hi ⟨x5, x6, rfl, ⟨rs, hR3, hr3⟩, N3, s3⟩
      rw [Int.zero_add]
      walk_at "rds"
      have hb3 := s3 _ _ hb
      have l0 : (0 : Int) < (ms.length : Int) := by omega
      have i0 : 0 ≤ seed / ((i : Int) + 1) % (ms.length : Int) := Int.emod_nonneg _ (by omega)
      have i1 : seed / ((i : Int) + 1) % (ms.length : Int) < (ms.length : Int) := Int.emod_lt_of_pos _ l0
      refine ⟨⟨by omega, Nat.lt_trans (n_log (by omega) (by omega)) (by decide)⟩, ?_⟩
      refine ⟨_, rfl, b, xs, rfl, .inr (SqT.of hb3), ?_⟩
      rw [lx]
      refine ⟨_, _, rfl, rfl, l0, ?_⟩
      obtain ⟨y, hy⟩ : ∃ y, xs[(seed / ((i : Int) + 1) % (ms.length : Int)).toNat]? = some y := ⟨_, List.getElem?_eq_getElem (by omega)⟩
      obtain ⟨s, hs2, td⟩ := hx.map_at hy
      have es : sndM ms seed i = s := by unfold sndM; rw [hs2]; rfl
      have td := td.same s3
      obtain ⟨c, rfl, nk⟩ := td.nk
      refine ⟨b, xs, _, .ref c, rfl, rfl, SqT.of hb3, at_int i0 hy, ?_⟩
      obtain ⟨ks, n1, n2, n3, n4⟩ := N3.ex
      have r3 := n3 s
      have eo : (valN ks (kM s)).getD (.int 0) = .int (cntX s (ordM ms view seed i) : Int) := by
        rw [← cgM_getD]
        cases z : valN ks (kM s) with
        | none =>
          rw [z] at r3
          cases z2 : cgM (ordM ms view seed i) s with
          | none => rfl
          | some x => rw [z2] at r3; exact r3.elim
        | some u =>
          rw [z] at r3
          cases z2 : cgM (ordM ms view seed i) s with
          | none => rw [z2] at r3; exact r3.elim
          | some x => rw [z2] at r3; exact r3
      walk_at "rds"
      refine ⟨D, ks, rfl, n1, _, rfl, c, _, rfl, ⟨ks, kM s, n1, nk, kM_depth _, rfl⟩, ?_⟩
      rw [eo]
      walk_at "rds"
      refine ⟨D, c, ks, kM s, rfl, rfl, n1, nk, kM_depth _, ?_⟩
      have N4 : NM w (upd H3 D (ndO w D (putN ks (kM s) c (.int ((cntX s (ordM ms view seed i) : Int) + 1))))) D (i + 1) kM (fun v (x : Int) => v = .int x) (setM (cgM (ordM ms view seed i)) s ((cntX s (ordM ms view seed i) : Int) + 1)) :=
        NM.put (fun x y => kM_inj) n1 n2 n3 n4 nk (kM_depth _) (by omega) rfl fun v x z => z
      have RD3 : R ≠ D := N3.ne_lst hR3
      have t34 : TupK H3 (upd H3 D (ndO w D (putN ks (kM s) c (.int ((cntX s (ordM ms view seed i) : Int) + 1))))) := tupK_upd fun zs z => by rw [n1.ob] at z; cases z
      have hR4 : (upd H3 D (ndO w D (putN ks (kM s) c (.int ((cntX s (ordM ms view seed i) : Int) + 1))))) R = some (.lst rs) := by rw [upd_ne RD3]; exact hR3
      have s4 : ∀ b u, H b = some u → (upd H3 D (ndO w D (putN ks (kM s) c (.int ((cntX s (ordM ms view seed i) : Int) + 1))))) b = some u := fun b u e => by
        rw [upd_ne (ne_of_none e nD0)]; exact s3 b u e
      have td4 := td.mono t34
      have nk4 := nk.mono t34
      have hr4 := hr3.mono t34
      generalize e4 : upd H3 D _ = H4
      have N4 : NM w H4 D (i + 1) kM (fun v (x : Int) => v = .int x) (setM (cgM (ordM ms view seed i)) s ((cntX s (ordM ms view seed i) : Int) + 1)) := by rw [← e4]; exact N4
      have hR4 : H4 R = some (.lst rs) := by rw [← e4]; exact hR4
      have s4 : ∀ b u, H b = some u → H4 b = some u := by rw [← e4]; exact s4
      have td4 : TD H4 (.ref c) (eM s) := by rw [← e4]; exact td4
      have nk4 : NK H4 (.ref c) (kM s) := by rw [← e4]; exact nk4
      have hr4 : TDs H4 rs ((ordM ms view seed i).map eG) := by rw [← e4]; exact hr4
      clear e4 t34
      obtain ⟨o4, g1, g2⟩ := N4.get nk4 (kM_depth _)
      have es4 : setM (cgM (ordM ms view seed i)) s ((cntX s (ordM ms view seed i) : Int) + 1) s = some ((cntX s (ordM ms view seed i) : Int) + 1) := by unfold setM; rw [if_pos rfl]
      rw [es4] at g2
      obtain ⟨v4, rfl⟩ : ∃ v4, o4 = some v4 := by
        cases o4 with
        | none => exact g2.elim
        | some v4 => exact ⟨v4, rfl⟩
      have g2 : v4 = .int ((cntX s (ordM ms view seed i) : Int) + 1) := g2
      subst g2
      walk_at "rds"
      refine ⟨.inl ⟨rfl, _, SqL.of hR4⟩, ?_⟩
      walk_at "rds"
      refine ⟨D, c, _, rfl, rfl, g1, ?_⟩
      walk_at "rds"
      have z1 : (Str.ofString "v").length = 1 := by decide +kernel
      have z2 : (Str.ofString ".").length = 1 := by decide +kernel
      have z3 := n_len v0 v20
      have z4 := n_len (i := (i : Int)) (by omega) (by omega)
      refine ⟨n_log v0 v20, ?_⟩
      refine ⟨_, _, rfl, rfl, (by show (Str.ofString "v").length + (nTxt view).length ≤ sizeLine; omega), ?_⟩
      refine ⟨_, _, rfl, rfl, (by show (Str.ofString "v" ++ nTxt view).length + (Str.ofString ".").length ≤ sizeLine; rw [Str.length_append]; omega), ?_⟩
      walk_at "rds"
      refine ⟨n_log (by omega) (by omega), ?_⟩
      refine ⟨_, _, rfl, rfl, (by show ((Str.ofString "v" ++ nTxt view) ++ Str.ofString ".").length + (nTxt (i : Int)).length ≤ sizeLine; rw [Str.length_append, Str.length_append]; omega), ?_⟩
      refine ⟨by show 3 ≤ sizeLine; omega, fun t nt => ?_⟩
      have s5 := same_new nt (.tup [.ref c, .int ((cntX s (ordM ms view seed i) : Int) + 1), .str (vTxt view i)])
      have td5 : TD (upd H4 t (.tup [.ref c, .int ((cntX s (ordM ms view seed i) : Int) + 1), .str (vTxt view i)])) (.ref t) (eG (s, (cntX s (ordM ms view seed i) : Int) + 1, vTxt view i)) := td_msg (g := (s, (cntX s (ordM ms view seed i) : Int) + 1, vTxt view i)) upd_same (td4.same s5)
      have lr := hr4.length
      rw [List.length_map, ordM_len] at lr
      refine ⟨R, rs, _, rfl, rfl, s5 _ _ hR4, by omega, ?_⟩
      have RD4 : R ≠ D := N4.ne_lst hR4
      obtain ⟨ks4, eD4⟩ := N4.ndo
      have nR5 : ∀ o, TupK (upd H4 t (.tup [.ref c, .int ((cntX s (ordM ms view seed i) : Int) + 1), .str (vTxt view i)])) (upd (upd H4 t (.tup [.ref c, .int ((cntX s (ordM ms view seed i) : Int) + 1), .str (vTxt view i)])) R o) := fun o => tupK_upd fun zs z => by rw [s5 _ _ hR4] at z; cases z
      have eo2 : ordM ms view seed (i + 1) = ordM ms view seed i ++ [(s, (cntX s (ordM ms view seed i) : Int) + 1, vTxt view i)] := by
        show ordM ms view seed i ++ [(sndM ms seed i, (cntX (sndM ms seed i) (ordM ms view seed i) : Int) + 1, vTxt view i)] = _
        rw [es]
      refine ⟨_, _, rfl, ⟨rs ++ [.ref t], upd_same, ?_⟩, ?_, fun b u e => ?_⟩
      · rw [eo2, List.map_append]
        exact ((hr4.same s5).mono (nR5 _)).append (.cons (td5.mono (nR5 _)) .nil)
      · rw [eo2, cgM_snoc]
        refine N4.mono ?_ (fun b zs z => nR5 _ _ _ (s5 _ _ z)) (fun _ _ z => z) (Nat.le_refl _)
        rw [upd_ne RD4.symm, eD4]
        exact s5 _ _ eD4
      · rw [upd_ne (ne_of_none e nR0)]
        exact s5 _ _ (s4 b u e)
    · rintro _ H3 ⟨x5, x6, rfl, L3, N3, s3⟩
      walk_at "rds"
      exact q R _ s3 nR0 L3
end
end Mus

set_option maxRecDepth 100000
set_option maxHeartbeats 4000000
namespace Mus
open PySem L2
local macro_rules | `(tactic| walk_at "rd") => `(tactic| first
  | refine ⟨_, rfl, ?_⟩ | refine ⟨(True.intro : True), ?_⟩
  | refine ⟨_, _, rfl, rfl, (⟨by decide, by decide, by decide⟩ : CPow _ _), ?_⟩
  | refine ⟨_, _, rfl, rfl, (⟨by decide, by decide⟩ : CDiv _ _), ?_⟩
  | refine ⟨_, _, rfl, rfl, (by show (0 : Int) < _; decide), ?_⟩
  | refine ⟨_, _, rfl, rfl, ?_⟩ | refine ⟨rfl, ?_⟩ | refine iteT ?_ | refine iteF ?_ | refine ⟨_, _, rfl, ?_⟩ | refine .inl ⟨_, rfl, ?_⟩
  | refine ⟨_, _, _, _, _, rfl, (by assumption), (by assumption), (by assumption), rfl, ?_⟩ | refine ⟨_, _, _, _, rfl, rfl, SqT.of (by assumption), rfl, ?_⟩ | refine ⟨_, _, rfl, SqT.of (by assumption), rfl, ?_⟩
  | refine ⟨_, _, _, _, _, rfl, .ty _, Rp.ty (by assumption), kit_int _, ?_⟩ | refine ⟨_, _, _, _, _, rfl, .ty _, Rp.ty (by assumption), kit_bool _, ?_⟩
  | refine ⟨_, _, _, _, _, rfl, .ty _, Rp.ty (by assumption), kit_str _, ?_⟩ | refine ⟨_, _, _, _, _, rfl, .ty _, Rp.ty (by assumption), kit_tup _, ?_⟩)
local macro_rules | `(tactic| walk_at "cal") => `(tactic| first
  | refine ⟨_, _, _, _, _, rfl, (by assumption), ?_⟩ | refine ⟨_, _, _, _, _, rfl, (by assumption), (by assumption), ?_⟩)
local macro_rules | `(tactic| walk_at "sq") => `(tactic| first
  | refine ⟨_, _, rfl, Or.inr (SqT.of (by assumption)), ?_⟩ | refine ⟨_, _, _, _, rfl, rfl, SqT.of (by assumption), rfl, ?_⟩)
local macro_rules | `(tactic| walk_at "rds") => `(tactic| repeat first | walk_at "rd" | walk_at "cal" | walk_at "sq")
local macro_rules | `(tactic| walk_at "ze") => `(tactic| repeat first
  | exact zes_nil | exact ze_bl | exact ze_str | exact ze_non | apply zes_cons | apply ze_tup | apply ze_lst | apply ze_cat | exact di_c | exact di_v rfl | apply di_opC | apply di_op | apply di_neg | apply ze_i | (refine (⟨?_, ?_, ?_⟩ : CPow _ _) <;> decide) | exact Nat.le_of_ble_eq_true rfl | exact ze_varD rfl (by assumption))
local macro_rules | `(tactic| walk_at "rdz") => `(tactic| repeat (fail_if_success (first | show tLst _ _ _ _ | show tAsg (tLst _) _ _ _ _ | show tSeq (tAsg (tLst _) _) _ _ _ _)); first | walk_at "rd" | walk_at "cal" | walk_at "sq")
def fndL : List Mem := [(2, 1), (1, 3), (0, 2)]
theorem fnd_inj : ∀ a < 3, ∀ b < 3, ∀ r < 3, fndL[(a + r) % 3]? = fndL[(b + r) % 3]? → a = b := by decide +kernel
section
variable {P : Program} {w : World} {K : PySem.W.Frag} {mg : Str → Option Value} {base : Heap} {CA CV : Addr}
def sp_lviews : Sp := fun vs H Q _ => ∃ (first : Int), vs = [.int first] ∧ 0 ≤ first ∧ ∀ r us (vws : List Vid) H', Same H H' → H' r = some (.lst us) → TDs H' us (vws.map eV) → vws.length = 3 → vws.Nodup → Q (.ref r) H'
abbrev s__law_views : Stmt := top 11
abbrev N__law_views : List Str := ["first", "founders", "j"]
abbrev P__law_views : List Str := ["first"]
theorem sc__law_views : FnScope N__law_views P__law_views (defScope s__law_views) := ⟨rfl, rfl, rfl, by decide +kernel, rfl, by decide +kernel, by decide +kernel⟩
theorem ok__law_views {f : Addr} {fd : FuncData} (T : Tx K mg CA CV) (F : Fun K "_law_views" "_law_views" s__law_views f fd) : FnOk P w K mg base CX0 (1) f fd P__law_views (sp_lviews) := by
  have nd := sc__law_views.nd
  refine F.ok sc__law_views (fun vs H Q E h => ?_) (fun cdv A outer s H vs Q E hr h => ?_)
  · obtain ⟨_, rfl, _⟩ := h
    rfl
  · obtain ⟨first, rfl, f0, q⟩ := h
    have hs := sl
    refine ⟨_, (pss_cons (ps_set (i := 1) nd rfl (Or.inr rfl) (pe_lst (pa_cons (pe_tup (pa_cons pe_int (pa_cons pe_int pa_nil))) (pa_cons (pe_tup (pa_cons pe_int (pa_cons pe_int pa_nil))) (pa_cons (pe_tup (pa_cons pe_int (pa_cons pe_int pa_nil))) pa_nil)))))
      (pss_one (ps_ret (pe_lcX (own := [("j", 2)]) rfl nd (pi_range1 (by rfl) T.b_range (pa_cons pe_int pa_nil)) (blkOk_by (own := [("j", 2)]) (N := N__law_views) (sc := defScope s__law_views) (by decide +kernel)) (fun _ _ _ _ _ => (pg_name (i := 2) nd rfl (Or.inl rfl))) (fun _ _ _ _ _ => pts_nil) (fun _ _ _ _ _ => (pe_tup (pa_cons (pe_op op_mod (pe_op op_fdivW (pv 0) (pe_ix ix_list (pe_lst (pa_cons pe_int (pa_cons pe_int (pa_cons pe_int pa_nil)))) (pv 2) (fun _ _ => rfl))) pe_int) (pa_cons (pe_ix ix_list (pv 1) (pe_op op_mod (pe_op op_add (pv 2) (pe_op op_fdiv (pv 0) pe_int)) pe_int) (fun _ _ => rfl)) pa_nil)))))))), ?_⟩
    refine ⟨by show 2 ≤ sizeLine; omega, fun t1 n1 => ?_⟩
    have s1 := same_new n1 (.tup [.int 2, .int 1])
    have h1 : (upd H t1 (.tup [.int 2, .int 1])) t1 = some (.tup [.int 2, .int 1]) := upd_same
    generalize upd H t1 (.tup [.int 2, .int 1]) = H1 at *
    refine ⟨by show 2 ≤ sizeLine; omega, fun t2 n2 => ?_⟩
    have s2 := same_new n2 (.tup [.int 1, .int 3])
    have h2 : (upd H1 t2 (.tup [.int 1, .int 3])) t2 = some (.tup [.int 1, .int 3]) := upd_same
    generalize upd H1 t2 (.tup [.int 1, .int 3]) = H2 at *
    refine ⟨by show 2 ≤ sizeLine; omega, fun t3 n3 => ?_⟩
    have s3 := same_new n3 (.tup [.int 0, .int 2])
    have h3 : (upd H2 t3 (.tup [.int 0, .int 2])) t3 = some (.tup [.int 0, .int 2]) := upd_same
    generalize upd H2 t3 (.tup [.int 0, .int 2]) = H3 at *
    refine ⟨by show 3 ≤ sizeLine; omega, fun b n4 => ?_⟩
    have s4 := same_new n4 (.lst [.ref t1, .ref t2, .ref t3])
    have h4 : (upd H3 b (.lst [.ref t1, .ref t2, .ref t3])) b = some (.lst [.ref t1, .ref t2, .ref t3]) := upd_same
    have fl : TDs (upd H3 b (.lst [.ref t1, .ref t2, .ref t3])) [.ref t1, .ref t2, .ref t3] (fndL.map eM) :=
      .cons (td_mem (m := (2, 1)) (s4 _ _ (s3 _ _ (s2 _ _ h1)))) (.cons (td_mem (m := (1, 3)) (s4 _ _ (s3 _ _ h2))) (.cons (td_mem (m := (0, 2)) (s4 _ _ h3)) .nil))
    have h4' := h4
    have s04 := s1.trans (s2.trans (s3.trans s4))
    clear s1 s2 s3 s4 h1 h2 h3 n1 n2 n3 n4
    generalize upd H3 b (.lst [.ref t1, .ref t2, .ref t3]) = H4 at *
    walk_at "rds"
    refine ⟨by decide, by decide, fun D nD => ?_⟩
    refine lc_range (lo := 0) (n := 3) (fun i H' => (∃ (us : List V) (vws : List Vid), H' D = some (.lst us) ∧ TDs H' us (vws.map eV) ∧ vws.length = i ∧ ∀ k v, vws[k]? = some v → fndL[(k + (first / 189 % 3).toNat) % 3]? = some v.2) ∧ Same H4 H') ?_ ?_ ?_
    · exact ⟨⟨[], [], upd_same, .nil, rfl, fun k v e => by simp at e⟩, same_new nD _⟩
    · rintro i H5 hi ⟨⟨us, vws, hD, hu, lv, hf⟩, s5⟩
      rw [Int.zero_add]
      refine ⟨rfl, ?_⟩
      walk_at "rds"
      refine ⟨by show 3 ≤ sizeLine; omega, fun L nL => ?_⟩
      have sL := same_new nL (.lst [.int 7, .int 21, .int 63])
      have hL : (upd H5 L (.lst [.int 7, .int 21, .int 63])) L = some (.lst [.int 7, .int 21, .int 63]) := upd_same
      have hD6 := sL _ _ hD
      have hu6 := hu.same sL
      have s6 := s5.trans sL
      generalize upd H5 L (.lst [.int 7, .int 21, .int 63]) = H6 at *
      obtain ⟨d, e1, d0, d1⟩ : ∃ d : Int, atI [V.int 7, .int 21, .int 63] (i : Int) = some (.int d) ∧ 0 < d ∧ d.natAbs.log2 < 9000 := by
        have : i = 0 ∨ i = 1 ∨ i = 2 := by omega
        rcases this with rfl | rfl | rfl
        · exact ⟨7, rfl, by decide, by decide⟩
        · exact ⟨21, rfl, by decide, by decide⟩
        · exact ⟨63, rfl, by decide, by decide⟩
      refine ⟨_, rfl, L, _, _, _, rfl, rfl, SqL.of hL, e1, ?_⟩
      refine ⟨_, _, rfl, rfl, ⟨d0, d1⟩, ?_⟩
      walk_at "rds"
      have q0 : 0 ≤ first / 189 := Int.ediv_nonneg f0 (by decide)
      have m0 : 0 ≤ ((i : Int) + first / 189) % 3 := Int.emod_nonneg _ (by decide)
      have m1 : ((i : Int) + first / 189) % 3 < 3 := Int.emod_lt_of_pos _ (by decide)
      have er : (((i : Int) + first / 189) % 3).toNat = (i + (first / 189 % 3).toNat) % 3 := by omega
      obtain ⟨y, hy⟩ : ∃ y, [V.ref t1, .ref t2, .ref t3][(((i : Int) + first / 189) % 3).toNat]? = some y := ⟨_, List.getElem?_eq_getElem (by show _ < 3; omega)⟩
      obtain ⟨m, hm, td⟩ := fl.map_at hy
      refine ⟨b, _, _, y, rfl, rfl, SqL.of (s6 _ _ h4'), at_int m0 hy, ?_⟩
      refine ⟨by show 2 ≤ sizeLine; omega, fun t nt => ?_⟩
      have s7 := same_new nt (.tup [.int (first / d % 3), y])
      have td7 : TD (upd H6 t (.tup [.int (first / d % 3), y])) (.ref t) (eV (first / d % 3, m)) := .tup upd_same (by show 2 ≤ 100000; decide) (.cons (.int _) (.cons ((td.same s6).same s7) .nil))
      have lu := hu6.length
      rw [List.length_map] at lu
      refine ⟨us, s7 _ _ hD6, by omega, ⟨us ++ [.ref t], vws ++ [(first / d % 3, m)], upd_same, ?_, by rw [List.length_append, lv]; rfl, fun k v e => ?_⟩, fun c o e => ?_⟩
      · have tk : TupK (upd H6 t (.tup [.int (first / d % 3), y])) (upd (upd H6 t (.tup [.int (first / d % 3), y])) D (.lst (us ++ [.ref t]))) := tupK_upd fun zs z => by rw [s7 _ _ hD6] at z; cases z
        rw [List.map_append]
        exact ((hu6.same s7).mono tk).append (.cons (td7.mono tk) .nil)
      · rcases Nat.lt_or_ge k vws.length with lt | ge
        · rw [List.getElem?_append_left lt] at e
          exact hf k v e
        · rw [List.getElem?_append_right ge] at e
          have k0 : k - vws.length = 0 := by
            have := (List.getElem?_eq_some_iff.mp e).1
            simp at this
            omega
          rw [k0] at e
          cases e
          have : k = i := by omega
          rw [this, ← er]
          exact hm
      · rw [upd_ne (ne_of_none e nD)]
        exact s7 _ _ (s6 _ _ e)
    · rintro H5 ⟨⟨us, vws, hD, hu, lv, hf⟩, s5⟩
      refine q D us vws H5 (s04.trans s5) hD hu lv ?_
      refine List.pairwise_iff_getElem.mpr fun i j hi0 hj hij e => ?_
      have hi := List.getElem?_eq_getElem hi0
      have hj' := List.getElem?_eq_getElem hj
      have a1 := hf i _ hi
      have a2 := hf j _ hj'
      rw [e] at a1
      have := fnd_inj i (by omega) j (by omega) (first / 189 % 3).toNat (by omega) (a1.trans a2.symm)
      omega
end
end Mus

set_option maxRecDepth 100000
set_option maxHeartbeats 4000000
namespace Mus
open PySem L2
local macro_rules | `(tactic| walk_at "rd") => `(tactic| first
  | refine ⟨_, rfl, ?_⟩ | refine ⟨(True.intro : True), ?_⟩
  | refine ⟨_, _, rfl, rfl, (⟨by decide, by decide, by decide⟩ : CPow _ _), ?_⟩
  | refine ⟨_, _, rfl, rfl, (⟨by decide, by decide⟩ : CDiv _ _), ?_⟩
  | refine ⟨_, _, rfl, rfl, (by show (0 : Int) < _; decide), ?_⟩
  | refine ⟨_, _, rfl, rfl, ?_⟩ | refine ⟨rfl, ?_⟩ | refine iteT ?_ | refine iteF ?_ | refine ⟨_, _, rfl, ?_⟩ | refine .inl ⟨_, rfl, ?_⟩
  | refine ⟨_, _, _, _, _, rfl, (by assumption), (by assumption), (by assumption), rfl, ?_⟩ | refine ⟨_, _, _, _, rfl, rfl, SqT.of (by assumption), rfl, ?_⟩ | refine ⟨_, _, rfl, SqT.of (by assumption), rfl, ?_⟩
  | refine ⟨_, _, _, _, _, rfl, .ty _, Rp.ty (by assumption), kit_int _, ?_⟩ | refine ⟨_, _, _, _, _, rfl, .ty _, Rp.ty (by assumption), kit_bool _, ?_⟩
  | refine ⟨_, _, _, _, _, rfl, .ty _, Rp.ty (by assumption), kit_str _, ?_⟩ | refine ⟨_, _, _, _, _, rfl, .ty _, Rp.ty (by assumption), kit_tup _, ?_⟩)
local macro_rules | `(tactic| walk_at "cal") => `(tactic| first
  | refine ⟨_, _, _, _, _, rfl, (by assumption), ?_⟩ | refine ⟨_, _, _, _, _, rfl, (by assumption), (by assumption), ?_⟩)
local macro_rules | `(tactic| walk_at "sq") => `(tactic| first
  | refine ⟨_, _, rfl, Or.inr (SqT.of (by assumption)), ?_⟩ | refine ⟨_, _, _, _, rfl, rfl, SqT.of (by assumption), rfl, ?_⟩)
local macro_rules | `(tactic| walk_at "rds") => `(tactic| repeat first | walk_at "rd" | walk_at "cal" | walk_at "sq")
local macro_rules | `(tactic| walk_at "ze") => `(tactic| repeat first
  | exact zes_nil | exact ze_bl | exact ze_str | exact ze_non | apply zes_cons | apply ze_tup | apply ze_lst | apply ze_cat | exact di_c | exact di_v rfl | apply di_opC | apply di_op | apply di_neg | apply ze_i | (refine (⟨?_, ?_, ?_⟩ : CPow _ _) <;> decide) | exact Nat.le_of_ble_eq_true rfl | exact ze_varD rfl (by assumption))
local macro_rules | `(tactic| walk_at "rdz") => `(tactic| repeat (fail_if_success (first | show tLst _ _ _ _ | show tAsg (tLst _) _ _ _ _ | show tSeq (tAsg (tLst _) _) _ _ _ _)); first | walk_at "rd" | walk_at "cal" | walk_at "sq")
/-- a state letter as the law draws it -/
structure StOk (ms : List Mem) (vws : List Vid) (st : Ste) : Prop where
  lg : ∃ (j n : Nat), j < 3 ∧ n ≤ 12 ∧ vws[j]? = some st.old ∧ st.log = ordM ms (j : Int) ((j : Int) * 37 + 5) n
  pn : ∀ c ∈ st.pend, 1 ≤ c.1 ∧ PyData.strOk c.2 = true
  pl : st.pend.length ≤ 100
section
variable {P : Program} {w : World} {K : PySem.W.Frag} {mg : Str → Option Value} {base : Heap} {CA CV : Addr}
def sp_lst : Sp := fun vs H Q _ => ∃ (v va : V) (a : Addr) (us : List V) (ms : List Mem) (att : Vid) (vws : List Vid) (k : Nat) (seed : Int) (m : Mem), vs = [v, va, .ref a, .int k, .int seed] ∧ TD H v (eMs ms) ∧ TD H va (eV att) ∧ H a = some (.lst us) ∧ TDs H us (vws.map eV) ∧ vws.length = 3 ∧
  ms[k]? = some m ∧ ms.length ≤ 12 ∧ 0 ≤ seed ∧ ∀ r st H', Same H H' → TD H' (.ref r) (eS st) → StOk ms vws st → st.who = m → st.att = att → Q (.ref r) H'
abbrev s__law_state : Stmt := top 12
abbrev N__law_state : List Str := ["members", "attempt", "views", "k", "seed", "view", "order", "size", "log", "last", "pending", "j", "later", "message"]
abbrev P__law_state : List Str := ["members", "attempt", "views", "k", "seed"]
theorem sc__law_state : FnScope N__law_state P__law_state (defScope s__law_state) := ⟨rfl, rfl, rfl, by decide +kernel, rfl, by decide +kernel, by decide +kernel⟩
theorem ok__law_state {f : Addr} {fd : FuncData} (T : Tx K mg CA CV) (c__law_order : DefOk P w K mg base CX0 "_law_order" P__law_order 1 (sp_lord))(F : Fun K "_law_state" "_law_state" s__law_state f fd) : FnOk P w K mg base CX0 (2) f fd P__law_state (sp_lst) := by
  have nd := sc__law_state.nd
  refine F.ok sc__law_state (fun vs H Q E h => ?_) (fun cdv A outer s H vs Q E hr h => ?_)
  · obtain ⟨_, _, _, _, _, _, _, _, _, _, rfl, _⟩ := h
    rfl
  · obtain ⟨v, va, a, us, ms, att, vws, k, seed, m, rfl, hv, hva, ha, hu, l3, hk, m12, s0, q⟩ := h
    have hs := sl
    obtain ⟨b, xs, rfl, hb, _, hx⟩ := (show TD H v (.tuple (ms.map eM)) from hv).tups
    have lx := hx.length
    rw [List.length_map] at lx
    have kl : k < ms.length := (List.getElem?_eq_some_iff.mp hk).1
    obtain ⟨j, ej, j3⟩ : ∃ j : Nat, seed / 7 % 3 = (j : Int) ∧ j < 3 := ⟨(seed / 7 % 3).toNat, by omega, by omega⟩
    obtain ⟨n, en, n13⟩ : ∃ n : Nat, seed / 21 % 13 = (n : Int) ∧ n < 13 := ⟨(seed / 21 % 13).toNat, by omega, by omega⟩
    obtain ⟨p, ep, p4⟩ : ∃ p : Nat, seed / 300 % 4 = (p : Int) ∧ p < 4 := ⟨(seed / 300 % 4).toNat, by omega, by omega⟩
    refine ⟨_, (pss_cons (ps_set (i := 5) nd rfl (Or.inl rfl) (pe_op op_mod (pe_op op_fdiv (pv 4) pe_int) pe_int))
      (pss_cons (ps_set (i := 6) nd rfl (Or.inl rfl) (pcall c__law_order hr (pa_cons (pv 0) (pa_cons (pv 5) (pa_cons (pe_op op_add (pe_op op_mul (pv 5) pe_int) pe_int) pa_nil)))))
      (pss_cons (ps_set (i := 7) nd rfl (Or.inl rfl) (pe_op op_mod (pe_op op_fdiv (pv 4) pe_int) pe_int))
      (pss_cons (ps_set (i := 8) nd rfl (Or.inl rfl) (pe_callTy call_tuple_of (by rfl) T.b_tuple (by decide +kernel) (pa_cons (pe_slice sl_list (pv 6) po_none (po_some (pv 7))) pa_nil)))
      (pss_cons (ps_set (i := 9) nd rfl (Or.inr rfl) (pe_callB call_len_seq (by rfl) T.b_len (by decide +kernel) (pa_cons (pe_lcX (own := [("message", 13)]) rfl nd (pi_tup (pv 8)) (blkOk_by (own := [("message", 13)]) (N := N__law_state) (sc := defScope s__law_state) (by decide +kernel)) (fun _ _ _ _ _ => (pg_name (i := 13) nd rfl (Or.inl rfl))) (fun _ _ _ _ _ => (pts_one (pt_cmpR (op_eqD hr.units) (pe_ix ix_tup (pv 13) pe_int (fun _ _ => rfl)) (pe_ix ix_tup (pv 0) (pv 3) (fun _ _ => rfl)) (nomark _)))) (fun _ _ _ _ _ => (pv 13))) pa_nil)))
      (pss_cons (ps_set (i := 10) nd rfl (Or.inl rfl) (pe_lst pa_nil))
      (pss_cons (ps_for PassesOwn.never rfl (pi_range1 (by rfl) T.b_range (pa_cons (pe_op op_mod (pe_op op_fdiv (pv 4) pe_int) pe_int) pa_nil)) (pg_name (i := 11) nd rfl (Or.inl rfl))
        (pss_one (ps_expr (pe_bm PySem.F.plainAttrs_list PySem.F.slot_list_append PySem.F.type_list_append mt_append (pv 10) (pa_cons (pe_tup (pa_cons (pe_op op_add (pe_op op_add (pv 9) pe_int) (pv 11)) (pa_cons (pe_op op_add_str (pe_op op_add_str (pe_op op_add_str pe_str (pe_callTy call_str_int (by rfl) T.b_str (by decide +kernel) (pa_cons (pv 3) pa_nil))) pe_str) (pe_callTy call_str_int (by rfl) T.b_str (by decide +kernel) (pa_cons (pe_op op_add (pe_op op_add (pv 9) pe_int) (pv 11)) pa_nil))) pa_nil))) pa_nil)))))
      (pss_cons (ps_setLcX (i := 12) (own := [("message", 13)]) rfl nd rfl rfl (sw_true rfl rfl rfl (by decide +kernel)) (pi_list (pv 6)) (blkOk_by (own := [("message", 13)]) (N := N__law_state) (sc := defScope s__law_state) (by decide +kernel)) (fun _ _ _ _ _ => (pg_name (i := 13) nd rfl (Or.inl rfl))) (fun _ _ _ _ _ => (pts_one (PW.pt (pw_and (pt_cmpR (op_eqD hr.units) (pe_ix ix_tup (pv 13) pe_int (fun _ _ => rfl)) (pe_ix ix_tup (pv 0) (pv 3) (fun _ _ => rfl)) (nomark _)) (pw_and1 (pt_cmpR op_gt (pe_ix ix_tup (pv 13) pe_int (fun _ _ => rfl)) (pv 9) (nomark _))))))) (fun _ _ _ _ _ => (pv 13)))
      (pss_cons (ps_set (i := 10) nd rfl (Or.inl rfl) (pe_op op_cat (pe_lcX (own := [("message", 13)]) rfl nd (pi_list (pe_slice sl_list (pv 12) po_none (po_some (pe_callB call_len_seq (by rfl) T.b_len (by decide +kernel) (pa_cons (pv 10) pa_nil))))) (blkOk_by (own := [("message", 13)]) (N := N__law_state) (sc := defScope s__law_state) (by decide +kernel)) (fun _ _ _ _ _ => (pg_name (i := 13) nd rfl (Or.inl rfl))) (fun _ _ _ _ _ => pts_nil) (fun _ _ _ _ _ => (pe_tup (pa_cons (pe_ix ix_tup (pv 13) pe_int (fun _ _ => rfl)) (pa_cons (pe_ix ix_tup (pv 13) pe_int (fun _ _ => rfl)) pa_nil))))) (pe_slice sl_list (pv 10) (po_some (pe_callB call_len_seq (by rfl) T.b_len (by decide +kernel) (pa_cons (pv 12) pa_nil))) po_none)))
      (pss_one (ps_ret (pe_tup (pa_cons pe_str (pa_cons (pe_ix ix_tup (pv 0) (pv 3) (fun _ _ => rfl)) (pa_cons (pv 1) (pa_cons (pe_ix ix_list (pv 2) (pv 5) (fun _ _ => rfl)) (pa_cons (pv 8) (pa_cons (pe_callTy call_tuple_of (by rfl) T.b_tuple (by decide +kernel) (pa_cons (pv 10) pa_nil)) pa_nil)))))))))))))))))), ?_⟩
    refine ⟨_, rfl, ?_⟩
    refine ⟨_, _, rfl, rfl, (⟨by decide, by decide⟩ : CDiv _ _), ?_⟩
    refine ⟨_, _, rfl, rfl, (by show (0 : Int) < _; decide), ?_⟩
    refine ⟨_, rfl, ?_⟩
    refine ⟨_, rfl, ?_⟩
    refine ⟨_, rfl, ?_⟩
    refine ⟨_, _, rfl, rfl, ?_⟩
    refine ⟨.inr (by decide), ?_⟩
    refine ⟨_, _, rfl, rfl, ?_⟩
    refine ⟨.ref b, ms, seed / 7 % 3, seed / 7 % 3 * 37 + 5, rfl, hv, by omega, m12, by omega, by omega, by omega, fun R H1 s1 _ ⟨rs, hR, hr⟩ => ?_⟩
    rw [ej] at hr
    refine ⟨_, rfl, ?_⟩
    refine ⟨_, _, rfl, rfl, (⟨by decide, by decide⟩ : CDiv _ _), ?_⟩
    refine ⟨_, _, rfl, rfl, (by show (0 : Int) < _; decide), ?_⟩
    refine ⟨_, rfl, ?_⟩
    refine ⟨_, rfl, ?_⟩
    refine ⟨_, rfl, ?_⟩
    refine ⟨R, rs, rfl, SqL.of hR, fun c nc => ?_⟩
    have ec : cutV rs none (some (seed / 21 % 13)) = rs.take n := by rw [en]; exact cut_hi rs n
    rw [ec]
    have s2 := same_new nc (.lst (rs.take n))
    have hc : (upd H1 c (.lst (rs.take n))) c = some (.lst (rs.take n)) := upd_same
    have hR2 := s2 _ _ hR
    have hr2 := hr.same s2
    have s02 := s1.trans s2
    generalize upd H1 c (.lst (rs.take n)) = H2 at *
    refine ⟨c, rs.take n, rfl, .inl ⟨SqL.of hc, fun g ng => ?_⟩⟩
    have tg : TD (upd H2 g (.tup (rs.take n))) (.ref g) (eGs ((ordM ms (j : Int) ((j : Int) * 37 + 5) 12).take n)) := .tup upd_same (by rw [List.length_take]; omega) (by
      rw [List.map_take]
      exact (hr2.take n).same (same_new ng _))
    rw [ordM_take _ _ _ 12 n (by omega)] at tg
    have s3 := same_new ng (.tup (rs.take n))
    have hR3 := s3 _ _ hR2
    have hr3 := hr2.same s3
    have s03 := s02.trans s3
    generalize upd H2 g (.tup (rs.take n)) = H3 at *
    clear s1 s2 s3 hc hR hR2 hr hr2 s02
    generalize hL : ordM ms (j : Int) ((j : Int) * 37 + 5) n = L at *
    generalize hO : ordM ms (j : Int) ((j : Int) * 37 + 5) 12 = O at *
    refine ⟨_, rfl, ?_⟩
    refine ⟨_, rfl, ?_⟩
    obtain ⟨gb, gs, eg, hg, _, rg⟩ := (show TD H3 (.ref g) (.tuple (L.map eG)) from tg).tups
    cases eg
    have lg := rg.length
    rw [List.length_map] at lg
    have hx3 := hx.same s03
    have hb3 := s03 _ _ hb
    obtain ⟨y, hy, ty⟩ : ∃ y, xs[((k : Nat) : Int).toNat]? = some y ∧ TD H3 y (eM m) := by
      obtain ⟨y, hy⟩ : ∃ y, xs[((k : Nat) : Int).toNat]? = some y := ⟨_, List.getElem?_eq_getElem (by omega)⟩
      obtain ⟨m', hm', t⟩ := hx3.map_at hy
      have e : ((k : Nat) : Int).toNat = k := by omega
      rw [e, hk] at hm'
      cases hm'
      exact ⟨y, hy, t⟩
    have ay : atI xs (k : Int) = some y := at_int (by omega) hy
    refine ⟨⟨_, SqT.of hg⟩, fun D nD => ?_⟩
    refine lc_tup (K := K) (a := g) (xs := gs) (fun i H4 => (∃ ws, H4 D = some (.lst ws) ∧ ws.length = ((L.take i).filter fun x => decide (x.1 = m)).length) ∧ Same H3 H4) ?_ ?_ ?_ ?_
    · exact ⟨⟨[], upd_same, rfl⟩, same_new nD _⟩
    · rintro i H4 _ ⟨_, s4⟩
      exact SqT.of (s4 _ _ hg)
    · rintro i x H4 hi ⟨⟨ws, hD, lw⟩, s4⟩
      obtain ⟨x0, hx0, td⟩ := rg.map_at hi
      obtain ⟨cx, u, rfl, hcx, tu⟩ := (td.same s4).msg
      have hb4 := s4 _ _ hb3
      have lf := List.length_filter_le (fun x : Msg => decide (x.1 = m)) (L.take i)
      rw [List.length_take] at lf
      have ln : L.length ≤ 12 := by rw [← hL, ordM_len]; omega
      refine ⟨rfl, ?_⟩
      refine ⟨_, rfl, ?_⟩
      refine ⟨_, _, _, _, rfl, rfl, SqT.of (by assumption), rfl, ?_⟩
      refine ⟨_, rfl, ?_⟩
      refine ⟨_, rfl, ?_⟩
      refine ⟨b, xs, _, y, rfl, rfl, SqT.of hb4, ay, ?_⟩
      refine rd_eqM tu (ty.same s4) ?_
      refine ⟨_, rfl, ?_⟩
      refine iB (fun h => ?_) (fun h => ?_)
      · walk_at "rds"
        refine ⟨ws, hD, by omega, ⟨ws ++ [.ref cx], upd_same, ?_⟩, fun c o e => by rw [upd_ne (ne_of_none e nD)]; exact s4 _ _ e⟩
        rw [take_snoc hx0, List.filter_append, List.length_append, List.length_append, lw, show [x0].filter (fun x : Msg => decide (x.1 = m)) = [x0] by rw [List.filter_cons, if_pos h]; rfl]
        rfl
      · refine ⟨⟨ws, hD, ?_⟩, s4⟩
        rw [take_snoc hx0, List.filter_append, show [x0].filter (fun x : Msg => decide (x.1 = m)) = [] by rw [List.filter_cons, if_neg (by rw [h]; decide)]; rfl, List.append_nil, lw]
    · rintro H4 ⟨⟨ws, hD, lw⟩, s4⟩
      rw [lg, List.take_length] at lw
      have l12 : ws.length ≤ 12 := by
        have lf := List.length_filter_le (fun x : Msg => decide (x.1 = m)) L
        have ln : L.length ≤ 12 := by rw [← hL, ordM_len]; omega
        omega
      have s04 := s03.trans s4
      have hR4 := s4 _ _ hR3
      have hr4 := hr3.same s4
      have tg4 := tg.same s4
      have ty4 := ty.same s4
      have hb4 := s4 _ _ hb3
      refine ⟨D, ws, rfl, .inl (SqL.of hD), ?_⟩
      clear s4 hR3 hr3 tg ty hb3 lw hD nD hx3 hg rg lg hy s03
      generalize ws.length = last at *
      refine ⟨by show 0 ≤ sizeLine; omega, fun Pn nP => ?_⟩
      have s5 := same_new nP (.lst [])
      have hP : (upd H4 Pn (.lst [])) Pn = some (.lst []) := upd_same
      have nP0 : H Pn = none := by
        cases e : H Pn with
        | none => rfl
        | some o => rw [s04 _ _ e] at nP; cases nP
      have s05 := s04.trans s5
      have hR5 := s5 _ _ hR4
      have hr5 := hr4.same s5
      have tg5 := tg4.same s5
      have ty5 := ty4.same s5
      have hb5 := s5 _ _ hb4
      have nRP : R ≠ Pn := ne_of_none hR4 nP
      clear hR4 hr4 tg4 ty4 hb4 s04
      generalize upd H4 Pn (.lst []) = H5 at *
      refine ⟨_, rfl, ?_⟩
      refine ⟨_, _, rfl, rfl, (⟨by decide, by decide⟩ : CDiv _ _), ?_⟩
      refine ⟨_, _, rfl, rfl, (by show (0 : Int) < _; decide), ?_⟩
      refine ⟨_, rfl, ?_⟩
      refine ⟨by show (-4611686018427387904 : Int) ≤ _; omega, by show _ < (4611686018427387904 : Int); omega, for_range (lo := 0) (n := (seed / 300 % 4).toNat) (fun i σ H6 => (∃ x11 : Option V, σ = [some (.ref b), some va, some (.ref a), some (.int (k : Nat)), some (.int seed), some (.int (seed / 7 % 3)), some (.ref R), some (.int (seed / 21 % 13)), some (.ref g), some (.int (last : Nat)), some (.ref Pn), x11, none, none]) ∧ (∃ (ps : List V) (cs : List Cst), H6 Pn = some (.lst ps) ∧ TDs H6 ps (cs.map eC) ∧ cs.length = i ∧ ∀ c ∈ cs, 1 ≤ c.1 ∧ PyData.strOk c.2 = true) ∧ ∀ c o, H5 c = some o → c ≠ Pn → H6 c = some o) ?_ ?_ ?_⟩
      · exact ⟨⟨_, rfl⟩, ⟨[], [], hP, .nil, rfl, fun c m => by cases m⟩, fun _ _ e _ => e⟩
      · rintro i _ H6 hi ⟨⟨x11, rfl⟩, ⟨ps, cs, hP6, hp6, lc, okc⟩, f6⟩
        rw [Int.zero_add]
        have i4 : i < 4 := by omega
        refine ⟨_, rfl, ?_⟩
        refine ⟨.inl ⟨rfl, _, SqL.of hP6⟩, ?_⟩
        refine ⟨_, rfl, ?_⟩
        refine ⟨_, _, rfl, rfl, ?_⟩
        refine ⟨_, rfl, ?_⟩
        refine ⟨_, _, rfl, rfl, ?_⟩
        refine ⟨_, rfl, ?_⟩
        refine ⟨_, rfl, ?_⟩
        have z1 : (Str.ofString "p").length = 1 := by decide +kernel
        have z2 : (Str.ofString ".").length = 1 := by decide +kernel
        have z3 := n_len (i := (k : Int)) (by omega) (by omega)
        have z4 := n_len (i := (last : Int) + 1 + (i : Int)) (by omega) (by omega)
        refine ⟨n_log (by omega) (by omega), ?_⟩
        refine ⟨_, _, rfl, rfl, (by show (Str.ofString "p").length + (nTxt (k : Int)).length ≤ sizeLine; omega), ?_⟩
        refine ⟨_, _, rfl, rfl, (by show (Str.ofString "p" ++ nTxt (k : Int)).length + (Str.ofString ".").length ≤ sizeLine; rw [Str.length_append]; omega), ?_⟩
        refine ⟨_, rfl, ?_⟩
        refine ⟨_, _, rfl, rfl, ?_⟩
        refine ⟨_, rfl, ?_⟩
        refine ⟨_, _, rfl, rfl, ?_⟩
        refine ⟨_, rfl, ?_⟩
        refine ⟨n_log (i := (last : Int) + 1 + (i : Int)) (by omega) (by omega), ?_⟩
        refine ⟨_, _, rfl, rfl, (by show ((Str.ofString "p" ++ nTxt (k : Int)) ++ Str.ofString ".").length + (nTxt ((last : Int) + 1 + (i : Int))).length ≤ sizeLine; rw [Str.length_append, Str.length_append]; omega), ?_⟩
        refine ⟨by show 2 ≤ sizeLine; omega, fun t nt => ?_⟩
        have s7 := same_new nt (.tup [.int ((last : Int) + 1 + (i : Int)), .str (pTxt k ((last : Int) + 1 + (i : Int)))])
        have td7 : TD (upd H6 t (.tup [.int ((last : Int) + 1 + (i : Int)), .str (pTxt k ((last : Int) + 1 + (i : Int)))])) (.ref t) (eC ((last : Int) + 1 + (i : Int), pTxt k ((last : Int) + 1 + (i : Int)))) := td_cst (c := ((last : Int) + 1 + (i : Int), pTxt k ((last : Int) + 1 + (i : Int)))) upd_same
        have lp := hp6.length
        rw [List.length_map] at lp
        refine ⟨Pn, ps, _, rfl, rfl, s7 _ _ hP6, by omega, ?_⟩
        have tk : ∀ o, TupK (upd H6 t (.tup [.int ((last : Int) + 1 + (i : Int)), .str (pTxt k ((last : Int) + 1 + (i : Int)))])) (upd (upd H6 t (.tup [.int ((last : Int) + 1 + (i : Int)), .str (pTxt k ((last : Int) + 1 + (i : Int)))])) Pn o) := fun o => tupK_upd fun zs z => by rw [s7 _ _ hP6] at z; cases z
        refine ⟨⟨_, rfl⟩, ⟨ps ++ [.ref t], cs ++ [((last : Int) + 1 + (i : Int), pTxt k ((last : Int) + 1 + (i : Int)))], upd_same, ?_, by rw [List.length_append, lc]; rfl, fun c m => ?_⟩, fun c o e n => by rw [upd_ne n]; exact s7 _ _ (f6 c o e n)⟩
        · rw [List.map_append]
          exact ((hp6.same s7).mono (tk _)).append (.cons (td7.mono (tk _)) .nil)
        · rcases List.mem_append.mp m with m | m
          · exact okc c m
          · rw [List.mem_singleton.mp m]
            exact ⟨by show 1 ≤ (last : Int) + 1 + (i : Int); omega, p_ok (by omega) (by omega) (by omega) (by omega)⟩
      · rintro _ H6 ⟨⟨x11, rfl⟩, ⟨ps, cs, hP6, hp6, lc, okc⟩, f6⟩
        have s06 : Same H H6 := fun c o e => f6 _ _ (s05 _ _ e) (ne_of_none e nP0)
        have hR6 := f6 _ _ hR5 nRP
        have t56 : TupK H5 H6 := fun c zs e => f6 _ _ e fun z => by rw [z, hP] at e; cases e
        have hr6 := hr5.mono t56
        have tg6 := tg5.mono t56
        have ty6 := ty5.mono t56
        have hb6 := t56 _ _ hb5
        have lp : ps.length ≤ 3 := by
          have := hp6.length
          rw [List.length_map] at this
          omega
        clear f6 s05 hR5 hr5 tg5 ty5 hb5 nRP t56 lc
        have okO : GsOk O := by rw [← hO]; exact ordM_ok (by omega) (by omega) 12 (by omega)
        have lO : O.length = 12 := by rw [← hO, ordM_len]
        have lrs := hr6.length
        rw [List.length_map, lO] at lrs
        refine ⟨_, rfl, ?_⟩
        refine ⟨_, rfl, ?_⟩
        refine ⟨⟨_, SqL.of hR6⟩, fun D nD => ?_⟩
        refine lc_list (K := K) (a := R) (xs := rs) (fun i H7 => (∃ (ws : List V) (ls : List Msg), H7 D = some (.lst ws) ∧ TDs H7 ws (ls.map eG) ∧ ls.length ≤ i ∧ ∀ g ∈ ls, 1 ≤ g.2.1 ∧ PyData.strOk g.2.2 = true) ∧ Same H6 H7) ?_ ?_ ?_ ?_
        · exact ⟨⟨[], [], upd_same, .nil, Nat.le_refl _, fun g m => by cases m⟩, same_new nD _⟩
        · rintro i H7 _ ⟨_, s7⟩
          exact SqL.of (s7 _ _ hR6)
        · rintro i x H7 hi ⟨⟨ws, ls, hD, hw, ll, okl⟩, s7⟩
          have i12 : i < 12 := by
            have := (List.getElem?_eq_some_iff.mp hi).1
            omega
          obtain ⟨x0, hx0, td⟩ := hr6.map_at hi
          obtain ⟨cx, u, rfl, hcx, tu⟩ := (td.same s7).msg
          have hb7 := s7 _ _ hb6
          have lw := hw.length
          rw [List.length_map] at lw
          have keep : (∃ (ws : List V) (ls : List Msg), H7 D = some (.lst ws) ∧ TDs H7 ws (ls.map eG) ∧ ls.length ≤ i + 1 ∧ ∀ g ∈ ls, 1 ≤ g.2.1 ∧ PyData.strOk g.2.2 = true) ∧ Same H6 H7 := ⟨⟨ws, ls, hD, hw, by omega, okl⟩, s7⟩
          refine ⟨rfl, ?_⟩
          refine ⟨_, rfl, ?_⟩
          refine ⟨_, _, _, _, rfl, rfl, SqT.of (by assumption), rfl, ?_⟩
          refine ⟨_, rfl, ?_⟩
          refine ⟨_, rfl, ?_⟩
          refine ⟨b, xs, _, y, rfl, rfl, SqT.of hb7, ay, ?_⟩
          refine rd_eqM tu (ty6.same s7) ?_
          refine ⟨_, rfl, ?_⟩
          refine iB (fun h => ?_) (fun h => ?_)
          · walk_at "rds"
            refine iB (fun h2 => ?_) (fun h2 => ?_)
            · have h2 : (last : Int) < x0.2.1 := of_decide_eq_true h2
              refine ⟨_, rfl, ?_⟩
              have tk : TupK H7 (upd H7 D (.lst (ws ++ [.ref cx]))) := tupK_upd fun zs z => by rw [hD] at z; cases z
              refine ⟨ws, hD, by omega, ⟨ws ++ [.ref cx], ls ++ [x0], upd_same, ?_, by rw [List.length_append]; show _ + 1 ≤ _; omega, fun g m => ?_⟩, fun c o e => by rw [upd_ne (ne_of_none e nD)]; exact s7 _ _ e⟩
              · rw [List.map_append]
                exact (hw.mono tk).append (.cons ((td.same s7).mono tk) .nil)
              · rcases List.mem_append.mp m with m | m
                · exact okl g m
                · rw [List.mem_singleton.mp m]
                  exact ⟨by omega, okO x0 (List.mem_of_getElem? hx0)⟩
            · exact keep
          · exact keep
        · rintro H7 ⟨⟨ws, ls, hD, hw, ll, okl⟩, s7⟩
          have l2 := hw.length
          rw [List.length_map] at l2
          have ll : ws.length ≤ 12 := by omega
          have hP7 := s7 _ _ hP6
          have hp7 := hp6.same s7
          have tg7 := tg6.same s7
          have ty7 := ty6.same s7
          have hb7 := s7 _ _ hb6
          have s07 := s06.trans s7
          clear s7 hP6 hp6 tg6 ty6 hb6 s06 hR6 hr6 nD lrs
          refine ⟨_, rfl, ?_⟩
          refine ⟨_, rfl, ?_⟩
          refine ⟨Pn, ps, rfl, .inl (SqL.of hP7), ?_⟩
          refine ⟨_, rfl, ?_⟩
          refine ⟨D, ws, rfl, SqL.of hD, fun e ne => ?_⟩
          have ec2 : cutV ws none (some ((ps.length : Nat) : Int)) = ws.take ps.length := cut_hi ws ps.length
          rw [ec2]
          have s8 := same_new ne (.lst (ws.take ps.length))
          have he : (upd H7 e (.lst (ws.take ps.length))) e = some (.lst (ws.take ps.length)) := upd_same
          have hq8 := (hw.take ps.length).same s8
          rw [← List.map_take] at hq8
          have hD8 := s8 _ _ hD
          have hP8 := s8 _ _ hP7
          have hp8 := hp7.same s8
          have tg8 := tg7.same s8
          have ty8 := ty7.same s8
          have hb8 := s8 _ _ hb7
          have s08 := s07.trans s8
          have okl8 : ∀ g ∈ ls.take ps.length, 1 ≤ g.2.1 ∧ PyData.strOk g.2.2 = true := fun g m => okl g (List.mem_of_mem_take m)
          have le : (ws.take ps.length).length ≤ 3 := by rw [List.length_take]; omega
          clear s8 hP7 hp7 tg7 ty7 hb7 s07 hw
          generalize ws.take ps.length = es at *
          generalize ls.take ps.length = ms2 at *
          generalize upd H7 e (.lst es) = H8 at *
          refine ⟨e, rfl, ⟨_, SqL.of he⟩, fun D2 nD2 => ?_⟩
          refine lc_list (K := K) (a := e) (xs := es) (fun i H9 => (∃ ws : List V, H9 D2 = some (.lst ws) ∧ TDs H9 ws (((ms2.take i).map fun g => ((g.2.1, g.2.2) : Cst)).map eC)) ∧ Same H8 H9) ?_ ?_ ?_ ?_
          · exact ⟨⟨[], upd_same, .nil⟩, same_new nD2 _⟩
          · rintro i H9 _ ⟨_, s9⟩
            exact SqL.of (s9 _ _ he)
          · rintro i x H9 hi ⟨⟨ws2, hD2, hw2⟩, s9⟩
            obtain ⟨x0, hx0, td⟩ := hq8.map_at hi
            obtain ⟨cx, u, rfl, hcx, tu⟩ := (td.same s9).msg
            have lw := hw2.length
            rw [List.length_map, List.length_map, List.length_take] at lw
            have i3 : i < es.length := (List.getElem?_eq_some_iff.mp hi).1
            refine ⟨rfl, ?_⟩
            refine ⟨_, rfl, ?_⟩
            refine ⟨_, _, _, _, rfl, rfl, SqT.of (by assumption), rfl, ?_⟩
            refine ⟨_, rfl, ?_⟩
            refine ⟨_, _, _, _, rfl, rfl, SqT.of (by assumption), rfl, ?_⟩
            refine ⟨by show 2 ≤ sizeLine; omega, fun t nt => ?_⟩
            have s10 := same_new nt (.tup [.int x0.2.1, .str x0.2.2])
            have tk : TupK (upd H9 t (.tup [.int x0.2.1, .str x0.2.2])) (upd (upd H9 t (.tup [.int x0.2.1, .str x0.2.2])) D2 (.lst (ws2 ++ [.ref t]))) := tupK_upd fun zs z => by rw [s10 _ _ hD2] at z; cases z
            refine ⟨ws2, s10 _ _ hD2, by omega, ⟨ws2 ++ [.ref t], upd_same, ?_⟩, fun c o e => by rw [upd_ne (ne_of_none e nD2)]; exact s10 _ _ (s9 _ _ e)⟩
            rw [take_snoc hx0, List.map_append, List.map_append]
            exact ((hw2.same s10).mono tk).append (.cons ((td_cst (c := (x0.2.1, x0.2.2)) upd_same).mono tk) .nil)
          · rintro H9 ⟨⟨ws2, hD2, hw2⟩, s9⟩
            have l8 := hq8.length
            rw [List.length_map] at l8
            rw [l8, List.take_length] at hw2
            have lw2 := hw2.length
            rw [List.length_map, List.length_map] at lw2
            refine ⟨_, rfl, ?_⟩
            refine ⟨_, rfl, ?_⟩
            refine ⟨D, ws, rfl, .inl (SqL.of (s9 _ _ hD8)), ?_⟩
            refine ⟨_, rfl, ?_⟩
            have hP9 := s9 _ _ hP8
            have hp9 := hp8.same s9
            refine ⟨Pn, ps, rfl, SqL.of hP9, fun p9 np9 => ?_⟩
            have ec3 : cutV ps (some ((ws.length : Nat) : Int)) none = ps.drop ws.length := cut_lo ps ws.length
            rw [ec3]
            have s10 := same_new np9 (.lst (ps.drop ws.length))
            have h10 : (upd H9 p9 (.lst (ps.drop ws.length))) p9 = some (.lst (ps.drop ws.length)) := upd_same
            have hd10 : TDs (upd H9 p9 (.lst (ps.drop ws.length))) (ps.drop ws.length) ((cs.drop ws.length).map eC) := by
              rw [List.map_drop]
              exact (hp9.drop _).same s10
            have hD10 := s10 _ _ hD2
            have hw10 := hw2.same s10
            have s810 := s9.trans s10
            have okd : ∀ c ∈ cs.drop ws.length, 1 ≤ c.1 ∧ PyData.strOk c.2 = true := fun c m => okc c (List.mem_of_mem_drop m)
            have ld : (ps.drop ws.length).length ≤ 3 := by rw [List.length_drop]; omega
            clear s10 hP9 hp9 np9 hD2 hw2
            generalize ps.drop ws.length = qs at *
            generalize cs.drop ws.length = ds at *
            generalize upd H9 p9 (.lst qs) = H10 at *
            refine ⟨D2, p9, ws2, qs, rfl, rfl, hD10, h10, by omega, fun p11 np11 => ?_⟩
            have s11 := same_new np11 (.lst (ws2 ++ qs))
            have h11 : (upd H10 p11 (.lst (ws2 ++ qs))) p11 = some (.lst (ws2 ++ qs)) := upd_same
            have hw11 := (hw10.append hd10).same s11
            rw [← List.map_append] at hw11
            have s811 := s810.trans s11
            have s011 := s08.trans s811
            have okp : ∀ c ∈ (ms2.map fun g => ((g.2.1, g.2.2) : Cst)) ++ ds, 1 ≤ c.1 ∧ PyData.strOk c.2 = true := fun c m => by
              rcases List.mem_append.mp m with m | m
              · obtain ⟨x, mx, e⟩ := List.mem_map.mp m
                rw [← e]
                exact okl8 x mx
              · exact okd c m
            have lp11 : (ws2 ++ qs).length ≤ 100 := by rw [List.length_append]; omega
            have lpe := hw11.length
            rw [List.length_map] at lpe
            have tg11 := tg8.same s811
            have ty11 := ty8.same s811
            have hb11 := s811 _ _ hb8
            clear s11 hD10 hw10 h10 hd10 np11 s810
            generalize (ms2.map fun g => ((g.2.1, g.2.2) : Cst)) ++ ds = pend at *
            generalize ws2 ++ qs = wp at *
            generalize upd H10 p11 (.lst wp) = H11 at *
            obtain ⟨o, ho⟩ : ∃ o, vws[j]? = some o := ⟨_, List.getElem?_eq_getElem (by omega)⟩
            obtain ⟨z, hz, tz⟩ : ∃ z, us[(seed / 7 % 3).toNat]? = some z ∧ TD H11 z (eV o) := by
              have lu := hu.length
              rw [List.length_map] at lu
              have e : (seed / 7 % 3).toNat = j := by omega
              rw [e]
              obtain ⟨z, hz⟩ : ∃ z, us[j]? = some z := ⟨_, List.getElem?_eq_getElem (by omega)⟩
              obtain ⟨o', ho', t⟩ := hu.map_at hz
              rw [ho] at ho'
              cases ho'
              exact ⟨z, hz, t.same s011⟩
            refine ⟨_, rfl, ?_⟩
            refine ⟨_, rfl, ?_⟩
            refine ⟨b, xs, _, y, rfl, rfl, SqT.of hb11, ay, ?_⟩
            refine ⟨_, rfl, _, rfl, _, rfl, a, us, _, z, rfl, rfl, SqL.of (s011 _ _ ha), at_int (by omega) hz, ?_⟩
            refine ⟨_, rfl, _, rfl, p11, wp, rfl, .inl ⟨SqL.of h11, fun tp ntp => ?_⟩⟩
            have s12 := same_new ntp (.tup wp)
            have t12 : TD (upd H11 tp (.tup wp)) (.ref tp) (eCs pend) := .tup upd_same (by omega) (hw11.same s12)
            refine ⟨by show 6 ≤ sizeLine; omega, fun t nt => ?_⟩
            have s13 := same_new nt (.tup [.str "state", y, va, z, .ref g, .ref tp])
            refine q t ⟨m, att, o, L, pend⟩ _ (s011.trans (s12.trans s13)) (.tup upd_same (by show 6 ≤ 100000; decide) (.cons (.str _) (.cons ((ty11.same s12).same s13) (.cons (((hva.same s011).same s12).same s13) (.cons ((tz.same s12).same s13) (.cons ((tg11.same s12).same s13) (.cons (t12.same s13) .nil))))))) ⟨⟨j, n, j3, by omega, ho, hL.symm⟩, okp, by show pend.length ≤ 100; omega⟩ rfl rfl
end
end Mus

set_option maxRecDepth 100000
set_option maxHeartbeats 4000000
namespace Mus
open PySem L2
local macro_rules | `(tactic| walk_at "rd") => `(tactic| first
  | refine ⟨_, rfl, ?_⟩ | refine ⟨(True.intro : True), ?_⟩
  | refine ⟨_, _, rfl, rfl, (⟨by decide, by decide, by decide⟩ : CPow _ _), ?_⟩
  | refine ⟨_, _, rfl, rfl, (⟨by decide, by decide⟩ : CDiv _ _), ?_⟩
  | refine ⟨_, _, rfl, rfl, (by show (0 : Int) < _; decide), ?_⟩
  | refine ⟨_, _, rfl, rfl, ?_⟩ | refine ⟨rfl, ?_⟩ | refine iteT ?_ | refine iteF ?_ | refine ⟨_, _, rfl, ?_⟩ | refine .inl ⟨_, rfl, ?_⟩
  | refine ⟨_, _, _, _, _, rfl, (by assumption), (by assumption), (by assumption), rfl, ?_⟩ | refine ⟨_, _, _, _, rfl, rfl, SqT.of (by assumption), rfl, ?_⟩ | refine ⟨_, _, rfl, SqT.of (by assumption), rfl, ?_⟩
  | refine ⟨_, _, _, _, _, rfl, .ty _, Rp.ty (by assumption), kit_int _, ?_⟩ | refine ⟨_, _, _, _, _, rfl, .ty _, Rp.ty (by assumption), kit_bool _, ?_⟩
  | refine ⟨_, _, _, _, _, rfl, .ty _, Rp.ty (by assumption), kit_str _, ?_⟩ | refine ⟨_, _, _, _, _, rfl, .ty _, Rp.ty (by assumption), kit_tup _, ?_⟩)
local macro_rules | `(tactic| walk_at "cal") => `(tactic| first
  | refine ⟨_, _, _, _, _, rfl, (by assumption), ?_⟩ | refine ⟨_, _, _, _, _, rfl, (by assumption), (by assumption), ?_⟩)
local macro_rules | `(tactic| walk_at "sq") => `(tactic| first
  | refine ⟨_, _, rfl, Or.inr (SqT.of (by assumption)), ?_⟩ | refine ⟨_, _, _, _, rfl, rfl, SqT.of (by assumption), rfl, ?_⟩)
local macro_rules | `(tactic| walk_at "rds") => `(tactic| repeat first | walk_at "rd" | walk_at "cal" | walk_at "sq")
local macro_rules | `(tactic| walk_at "ze") => `(tactic| repeat first
  | exact zes_nil | exact ze_bl | exact ze_str | exact ze_non | apply zes_cons | apply ze_tup | apply ze_lst | apply ze_cat | exact di_c | exact di_v rfl | apply di_opC | apply di_op | apply di_neg | apply ze_i | (refine (⟨?_, ?_, ?_⟩ : CPow _ _) <;> decide) | exact Nat.le_of_ble_eq_true rfl | exact ze_varD rfl (by assumption))
local macro_rules | `(tactic| walk_at "rdz") => `(tactic| repeat (fail_if_success (first | show tLst _ _ _ _ | show tAsg (tLst _) _ _ _ _ | show tSeq (tAsg (tLst _) _) _ _ _ _)); first | walk_at "rd" | walk_at "cal" | walk_at "sq")
section
variable {P : Program} {w : World} {K : PySem.W.Frag} {mg : Str → Option Value} {base : Heap} {CA CV : Addr}
/-! ### finals -/
def sp_afin (w : World) (CA : Addr) : Sp := fun vs H Q _ => ∃ (p : Addr) (A : AA) (a : AS) (v : V) (o : Vid), vs = [.ref p, v] ∧ AAt w CA H p A a ∧ a.ready = true ∧ TD H v (eV o) ∧ 0 < (a.here o).length ∧ ∀ r H', Same H H' → TD H' r (eGs (a.final o)) → Q r H'
abbrev s_Attempt__final : Stmt := inClass (top 6) 5
abbrev N_Attempt__final : List Str := ["self", "view_id", "states", "longest", "rest", "state", "sender", "pending", "last", "member", "index", "payload"]
abbrev P_Attempt__final : List Str := ["self", "view_id"]
theorem sc_Attempt__final : FnScope N_Attempt__final P_Attempt__final (defScope s_Attempt__final) := ⟨rfl, rfl, rfl, by decide +kernel, rfl, by decide +kernel, by decide +kernel⟩
theorem ok_afin {f : Addr} {fd : FuncData} (T : Tx K mg CA CV) (c_last_index : DefOk P w K mg base CX0 "last_index" P_last_index 1 (sp_lastx)) (F : Fun K "_final" "Attempt._final" s_Attempt__final f fd) : FnOk P w K mg base CX0 2 f fd P_Attempt__final (sp_afin w CA) := by
  have nd := sc_Attempt__final.nd
  refine F.ok sc_Attempt__final (fun vs H Q E h => ?_) (fun cdv A outer s H vs Q E hr h => ?_)
  · obtain ⟨_, _, _, _, _, rfl, _⟩ := h
    rfl
  · obtain ⟨p, aa, a, v, o, rfl, O, rdy, hv, pos, q⟩ := h
    have hs := sl
    have ob := O.ob
    obtain ⟨c1, n2, n3⟩ : L2.Cls K CA ∧ NoAttr K CA "members" ∧ NoAttr K CA "_states" := ⟨T.cl_Attempt, T.n_Attempt_members, T.n_Attempt__states⟩
    obtain ⟨b, xs, em, hb, lx, hx⟩ := O.tup
    rw [em] at ob
    have pb : ∀ s ∈ a.here o, s.pend.length ≤ 1000 := fun s m => by
      obtain ⟨_, _, e, _⟩ := AS.here_mem.mp m
      exact (O.bd _ _ e).2.2.2
    have lb : ∀ s ∈ a.here o, s.log.length ≤ 1000 := fun s m => by
      obtain ⟨_, _, e, _⟩ := AS.here_mem.mp m
      exact (O.bd _ _ e).2.2.1
    refine ⟨_, (pss_cons (ps_setLcX (i := 2) (own := [("member", 9)]) rfl nd rfl rfl (sw_true rfl rfl rfl (by decide +kernel)) (pi_tup (pe_fld (pv 0) (by rfl))) (blkOk_by (own := [("member", 9)]) (N := N_Attempt__final) (sc := defScope s_Attempt__final) (by decide +kernel)) (fun _ _ _ _ _ => (pg_name (i := 9) nd rfl (Or.inl rfl))) (fun _ _ _ _ _ => (pts_one (pt_cmpR (op_eqD hr.units) (pe_ix ix_tup (pe_nget hr.units (pe_fld (pv 0) (by rfl)) (pv 9) (fun _ _ => rfl)) pe_int (fun _ _ => rfl)) (pv 1) (nomark _)))) (fun _ _ _ _ _ => (pe_nget hr.units (pe_fld (pv 0) (by rfl)) (pv 9) (fun _ _ => rfl))))
      (pss_cons (ps_set (i := 3) nd rfl (Or.inl rfl) (pe_maxLen rfl (by rfl) T.b_max (by rfl) T.b_len (pa_cons (pe_lcX (own := [("state", 5)]) rfl nd (pi_list (pv 2)) (blkOk_by (own := [("state", 5)]) (N := N_Attempt__final) (sc := defScope s_Attempt__final) (by decide +kernel)) (fun _ _ _ _ _ => (pg_name (i := 5) nd rfl (Or.inl rfl))) (fun _ _ _ _ _ => pts_nil) (fun _ _ _ _ _ => (pe_ix ix_tup (pv 5) pe_int (fun _ _ => rfl)))) pa_nil)))
      (pss_cons (ps_set (i := 4) nd rfl (Or.inl rfl) (pe_lst pa_nil))
      (pss_cons (ps_for PassesOwn.never rfl (pi_list (pv 2)) (pg_name (i := 5) nd rfl (Or.inl rfl))
        (pss_cons (ps_asg (pe_tup (pa_cons (pe_ix ix_tup (pv 5) pe_int (fun _ _ => rfl)) (pa_cons (pe_ix ix_tup (pv 5) pe_int (fun _ _ => rfl)) pa_nil))) (pg_tup (by rfl) (pgs_cons (pg_name (i := 6) nd rfl (Or.inr rfl)) (pgs_cons (pg_name (i := 7) nd rfl (Or.inl rfl)) pgs_nil))))
        (pss_cons (ps_set (i := 8) nd rfl (Or.inr rfl) (pcall c_last_index hr (pa_cons (pv 3) (pa_cons (pv 6) pa_nil))))
        (pss_one (ps_expr (pe_bm PySem.F.plainAttrs_list PySem.F.slot_list_extend PySem.F.type_list_extend mt_extend (pv 4) (pa_cons (pe_lcX (own := [("index", 10), ("payload", 11)]) rfl nd (pi_tup (pv 7)) (blkOk_by (own := [("index", 10), ("payload", 11)]) (N := N_Attempt__final) (sc := defScope s_Attempt__final) (by decide +kernel)) (fun _ _ _ _ _ => (pg_tup (by rfl) (pgs_cons (pg_name (i := 10) nd rfl (Or.inl rfl)) (pgs_cons (pg_name (i := 11) nd rfl (Or.inl rfl)) pgs_nil)))) (fun _ _ _ _ _ => (pts_one (pt_cmpR op_gt (pv 10) (pv 8) (nomark _)))) (fun _ _ _ _ _ => (pe_tup (pa_cons (pv 6) (pa_cons (pv 10) (pa_cons (pv 11) pa_nil)))))) pa_nil)))))))
      (pss_one (ps_ret (pe_op op_catA (pv 3) (pe_callTy call_tuple_of (by rfl) T.b_tuple (by decide +kernel) (pa_cons (pv 4) pa_nil))))))))), ?_⟩
    refine ⟨_, rfl, ?_⟩
    refine ⟨_, _, _, _, _, rfl, (by assumption), (by assumption), (by assumption), rfl, ?_⟩
    refine ⟨_, rfl, ?_⟩
    refine ⟨⟨_, SqT.of hb⟩, fun D nD => ?_⟩
    refine lc_tup (K := K) (a := b) (xs := xs) (fun i H' => LstAt H' D (((a.ms.take i).filterMap fun m => AS.hereB o (a.g m)).map eS) ∧ Same H H') ?_ ?_ ?_ ?_
    · exact ⟨⟨[], upd_same, .nil⟩, same_new nD _⟩
    · rintro i H' _ ⟨_, s1⟩
      exact SqT.of (s1 _ _ hb)
    · rintro i x H' hi ⟨⟨ws, hD, hw⟩, s1⟩
      obtain ⟨m, hm, rd⟩ := hx.map_at hi
      have ht := take_snoc hm
      have ob1 := s1 _ _ ob
      obtain ⟨c, rfl, nk⟩ := (rd.same s1).nk
      obtain ⟨ov, g1, g2⟩ := (O.same s1).g.get nk (kM_depth _)
      obtain ⟨st, es⟩ := AS.ready_all rdy (List.mem_of_getElem? hm)
      rw [es] at g2
      obtain ⟨sv, rfl⟩ : ∃ sv, ov = some sv := by
        cases ov with
        | some sv => exact ⟨sv, rfl⟩
        | none => exact g2.elim
      have g2 : TD H' sv (eS st) := g2
      have g2' := g2
      obtain ⟨bs, x1, x2, x3, x4, x5, rfl, hbs, t1, t2, t3, t4, t5⟩ := g2.ste
      refine ⟨rfl, ?_⟩
      have lw := hw.length
      rw [List.length_map] at lw
      have lf := List.length_filterMap_le (fun m => AS.hereB o (a.g m)) (a.ms.take i)
      rw [List.length_take] at lf
      have ml := O.ml
      have hb0 : AS.hereB o (some st) = (if st.old = o then some st else none) := by
        unfold AS.hereB Option.filter
        simp
      refine ⟨_, rfl, ?_⟩
      refine ⟨_, _, _, _, _, rfl, (by assumption), (by assumption), (by assumption), rfl, ?_⟩
      refine ⟨_, rfl, ?_⟩
      refine ⟨aa.d, c, _, rfl, rfl, g1, ?_⟩
      refine ⟨_, _, _, _, rfl, rfl, SqT.of (by assumption), rfl, ?_⟩
      refine ⟨_, rfl, ?_⟩
      refine rd_eqV t3 (hv.same s1) ?_
      refine ⟨_, rfl, ?_⟩
      have sD : ∀ o, Same H (upd H' D o) := fun o b u e => by rw [upd_ne (ne_of_none e nD)]; exact s1 b u e
      refine iB (fun h => ?_) (fun h => ?_)
      · have h := of_decide_eq_true h
        refine ⟨_, rfl, ?_⟩
        refine ⟨_, _, _, _, _, rfl, (by assumption), (by assumption), (by assumption), rfl, ?_⟩
        refine ⟨_, rfl, ?_⟩
        refine ⟨aa.d, c, _, rfl, rfl, g1, ?_⟩
        refine ⟨ws, hD, by omega, ⟨ws ++ [.ref bs], upd_same, ?_⟩, sD _⟩
        rw [ht, List.filterMap_append, List.map_append, show [m].filterMap (fun m => AS.hereB o (a.g m)) = [st] by rw [List.filterMap_cons, es, hb0, if_pos h]; rfl]
        have tk : TupK H' (upd H' D (.lst (ws ++ [.ref bs]))) := tupK_upd fun xs e => by rw [hD] at e; cases e
        exact (hw.mono tk).append (.cons (g2'.mono tk) .nil)
      · have h := of_decide_eq_false h
        refine ⟨⟨ws, hD, ?_⟩, s1⟩
        rw [ht, List.filterMap_append, show [m].filterMap (fun m => AS.hereB o (a.g m)) = [] by rw [List.filterMap_cons, es, hb0, if_neg h]; rfl, List.append_nil]
        exact hw
    · rintro H' ⟨⟨ws, hD, hw⟩, s1⟩
      rw [lx, List.take_length] at hw
      have hw : TDs H' ws ((a.here o).map eS) := hw
      refine ⟨_, rfl, ?_⟩
      refine ⟨_, rfl, ?_⟩
      refine ⟨⟨_, SqL.of hD⟩, fun D2 nD2 => ?_⟩
      have len := hw.length
      rw [List.length_map] at len
      have hl12 : (a.here o).length ≤ 12 := by
        have := List.length_filterMap_le (fun m => AS.hereB o (a.g m)) a.ms
        have := O.ml
        unfold AS.here
        omega
      refine lc_list (K := K) (a := D) (xs := ws) (fun i H2 => LstAt H2 D2 (((a.here o).take i).map fun s => eGs s.log) ∧ Same H' H2) ?_ ?_ ?_ ?_
      · exact ⟨⟨[], upd_same, .nil⟩, same_new nD2 _⟩
      · rintro i H2 _ ⟨_, s2⟩
        exact SqL.of (s2 _ _ hD)
      · rintro i x H2 hi ⟨⟨us, hD2, hu⟩, s2⟩
        obtain ⟨st, hst, td⟩ := hw.map_at hi
        obtain ⟨bs, x1, x2, x3, x4, x5, rfl, hbs, t1, t2, t3, t4, t5⟩ := (td.same s2).ste
        have i12 : i < 12 := by
          have := (List.getElem?_eq_some_iff.mp hst).1
          omega
        have lu := hu.length
        rw [List.length_map, List.length_take] at lu
        refine ⟨rfl, ?_⟩
        refine ⟨_, rfl, ?_⟩
        refine ⟨_, _, _, _, rfl, rfl, SqT.of (by assumption), rfl, ?_⟩
        have sD : ∀ o, Same H' (upd H2 D2 o) := fun o b u e => by rw [upd_ne (ne_of_none e nD2)]; exact s2 b u e
        have tk : TupK H2 (upd H2 D2 (.lst (us ++ [x4]))) := tupK_upd fun xs e => by rw [hD2] at e; cases e
        refine ⟨us, hD2, by omega, ⟨us ++ [x4], upd_same, ?_⟩, sD _⟩
        rw [take_snoc hst, List.map_append]
        exact (hu.mono tk).append (.cons (t4.mono tk) .nil)
      · rintro H2 ⟨⟨us, hD2, hu⟩, s2⟩
        rw [len, List.take_length] at hu
        have lu := hu.length
        rw [List.length_map] at lu
        refine ⟨D2, us, lnOf (a.here o), rfl, SqL.of hD2, by omega, fun i v hi => ?_, fun lv hlv => ?_⟩
        · obtain ⟨st, hst, td⟩ := hu.map_at hi
          obtain ⟨b2, ys, rfl, hb2, _, hy⟩ := td.tups
          exact ⟨b2, ys, rfl, SqT.of hb2, by rw [lnOf_at hst, hy.length, List.length_map]⟩
        · obtain ⟨st, hst, td⟩ := hu.map_at hlv
          obtain ⟨st2, h2, eL⟩ := longest_at pos
          rw [lu, h2] at hst
          cases hst
          rw [← eL] at td
          have s12 := s1.trans s2
          have hD := s2 _ _ hD
          have hw := hw.same s2
          have hv := hv.same s12
          clear hD2 hu hlv h2 eL nD2
          refine ⟨by show 0 ≤ sizeLine; omega, fun R nR => ?_⟩
          have sR := same_new nR (.lst [])
          have hR : (upd H2 R (.lst [])) R = some (.lst []) := upd_same
          have nRH : H R = none := by
            cases e : H R with
            | none => rfl
            | some o => rw [s12 _ _ e] at nR; cases nR
          have hD3 := sR _ _ hD
          have hw3 := hw.same sR
          have td3 := td.same sR
          have s03 := s12.trans sR
          generalize upd H2 R (.lst []) = H3 at *
          refine ⟨_, rfl, ?_⟩
          refine ⟨_, rfl, ?_⟩
          refine ⟨⟨_, SqL.of hD3⟩, for_list (K := K) (xs := ws) (fun i σ H4 => ∃ x5 x6 x7 x8 : Option V, σ = [some (.ref p), some v, some (.ref D), some lv, some (.ref R), x5, x6, x7, x8, none, none, none] ∧ LstAt H4 R ((((a.here o).take i).map (leftOf (longest (a.here o)))).flatten.map eG) ∧ ∀ b u, H3 b = some u → b ≠ R → H4 b = some u) ?_ ?_ ?_ ?_⟩
          · exact ⟨_, _, _, _, rfl, ⟨[], hR, .nil⟩, fun b u e _ => e⟩
          · rintro i _ H4 _ ⟨_, _, _, _, rfl, _, s4⟩
            exact SqL.of (s4 _ _ hD3 (ne_of_none hD nR))
          · rintro i x _ H4 hi ⟨x5, x6, x7, x8, rfl, ⟨rs, hR4, hr4⟩, s4⟩
            have k4 : TupK H3 H4 := fun b ys e => s4 _ _ e fun z => by rw [z, hR] at e; cases e
            obtain ⟨st, hst, td⟩ := hw3.map_at hi
            obtain ⟨bs, y1, y2, y3, y4, y5, rfl, hbs, t1, t2, t3, t4, t5⟩ := (td.mono k4).ste
            have tL := td3.mono k4
            refine ⟨_, rfl, ?_⟩
            refine ⟨_, _, _, _, rfl, rfl, SqT.of (by assumption), rfl, ?_⟩
            refine ⟨_, rfl, ?_⟩
            refine ⟨_, _, _, _, rfl, rfl, SqT.of (by assumption), rfl, ?_⟩
            refine ⟨by show 2 ≤ sizeLine; omega, fun t nt => ?_⟩
            have s5 := same_new nt (.tup [y1, y5])
            have ht : (upd H4 t (.tup [y1, y5])) t = some (.tup [y1, y5]) := upd_same
            have t1 := t1.same s5
            have t5 := t5.same s5
            have tL := tL.same s5
            have hR5 := s5 _ _ hR4
            have hr5 := hr4.same s5
            have s5' : ∀ b u, H3 b = some u → b ≠ R → (upd H4 t (.tup [y1, y5])) b = some u := fun b u e n => s5 _ _ (s4 b u e n)
            clear hR4 hr4 s5 nt t2 t3 t4 hbs
            generalize upd H4 t (.tup [y1, y5]) = H5 at *
            refine ⟨t, _, rfl, SqT.of ht, rfl, ?_⟩
            refine ⟨_, _, rfl, ?_⟩
            refine ⟨_, _, rfl, rfl, ?_⟩
            refine ⟨_, rfl, ?_⟩
            refine ⟨_, rfl, ?_⟩
            refine ⟨lv, y1, longest (a.here o), st.who, rfl, tL, t1, ?_⟩
            refine ⟨_, rfl, ?_⟩
            obtain ⟨b5, zs, rfl, hb5, l5, hz⟩ := (show TD H5 y5 (.tuple (st.pend.map eC)) from t5).tups
            have lz := hz.length
            rw [List.length_map] at lz
            refine ⟨.inl ⟨rfl, _, SqL.of hR5⟩, ?_⟩
            refine ⟨_, rfl, ?_⟩
            refine ⟨_, rfl, ?_⟩
            refine ⟨⟨_, SqT.of hb5⟩, fun D6 nD6 => ?_⟩
            refine lc_tup (K := K) (a := b5) (xs := zs) (fun j H6 => LstAt H6 D6 (((st.pend.take j).filter fun c => decide (c.1 > lastX (longest (a.here o)) st.who)).map fun c => eG (st.who, c.1, c.2)) ∧ Same H5 H6) ?_ ?_ ?_ ?_
            · exact ⟨⟨[], upd_same, .nil⟩, same_new nD6 _⟩
            · rintro j H6 _ ⟨_, s6⟩
              exact SqT.of (s6 _ _ hb5)
            · rintro j x H6 hj ⟨⟨us, hD6, hu6⟩, s6⟩
              obtain ⟨c, hc, tc⟩ := hz.map_at hj
              obtain ⟨bc, rfl, hbc⟩ := (tc.same s6).cst
              have t16 := t1.same s6
              refine ⟨bc, _, rfl, SqT.of hbc, rfl, ?_⟩
              refine ⟨_, _, rfl, ?_⟩
              refine ⟨_, _, rfl, rfl, ?_⟩
              refine ⟨rfl, ?_⟩
              refine ⟨_, rfl, ?_⟩
              refine ⟨_, rfl, ?_⟩
              refine ⟨_, _, rfl, rfl, ?_⟩
              refine ⟨_, rfl, ?_⟩
              have lu6 := hu6.length
              rw [List.length_map] at lu6
              have lf6 := List.length_filter_le (fun c : Cst => decide (c.1 > lastX (longest (a.here o)) st.who)) (st.pend.take j)
              rw [List.length_take] at lf6
              have sD6 : ∀ o, Same H5 (upd H6 D6 o) := fun o b u e => by rw [upd_ne (ne_of_none e nD6)]; exact s6 b u e
              refine iB (fun h => ?_) (fun h => ?_)
              · have h : decide (c.1 > lastX (longest (a.here o)) st.who) = true := h
                refine ⟨_, rfl, _, rfl, _, rfl, by show 3 ≤ sizeLine; omega, fun t7 nt7 => ?_⟩
                have nD7 : D6 ≠ t7 := ne_of_none hD6 nt7
                have s7 := same_new nt7 (.tup [y1, .int c.1, .str c.2])
                have tk : TupK (upd H6 t7 (.tup [y1, .int c.1, .str c.2])) (upd (upd H6 t7 (.tup [y1, .int c.1, .str c.2])) D6 (.lst (us ++ [.ref t7]))) := tupK_upd fun xs e => by rw [s7 _ _ hD6] at e; cases e
                refine ⟨us, s7 _ _ hD6, by omega, ⟨us ++ [.ref t7], upd_same, ?_⟩, fun b u e => by rw [upd_ne (ne_of_none e nD6)]; exact s7 _ _ (s6 b u e)⟩
                rw [take_snoc hc, List.filter_append, List.map_append, show [c].filter (fun c : Cst => decide (c.1 > lastX (longest (a.here o)) st.who)) = [c] by rw [List.filter_cons, if_pos h]; rfl]
                exact ((hu6.same s7).mono tk).append (.cons ((td_msg (g := (st.who, c.1, c.2)) upd_same (t16.same s7)).mono tk) .nil)
              · have h : decide (c.1 > lastX (longest (a.here o)) st.who) = false := h
                refine ⟨⟨us, hD6, ?_⟩, s6⟩
                rw [take_snoc hc, List.filter_append, show [c].filter (fun c : Cst => decide (c.1 > lastX (longest (a.here o)) st.who)) = [] by rw [List.filter_cons, if_neg (by rw [h]; decide)]; rfl, List.append_nil]
                exact hu6
            · rintro H6 ⟨⟨us, hD6, hu6⟩, s6⟩
              rw [lz, List.take_length] at hu6
              have hu6 : TDs H6 us ((leftOf (longest (a.here o)) st).map eG) := by
                unfold leftOf
                rw [List.map_map]
                exact hu6
              have lrs := hr5.length
              rw [List.length_map] at lrs
              have lus := hu6.length
              rw [List.length_map] at lus
              have fl := flat_len (L := longest (a.here o)) (B := 1000) (l := (a.here o).take i) fun s m => pb s (List.mem_of_mem_take m)
              have ll := left_len (longest (a.here o)) st
              have lp := pb st (List.mem_of_getElem? hst)
              rw [List.length_take] at fl
              refine ⟨R, D6, rs, us, rfl, rfl, s6 _ _ hR5, hD6, by omega, ?_⟩
              have tk : TupK H6 (upd H6 R (.lst (rs ++ us))) := tupK_upd fun xs e => by rw [s6 _ _ hR5] at e; cases e
              refine ⟨_, _, _, _, rfl, ⟨rs ++ us, upd_same, ?_⟩, fun b u e n => by rw [upd_ne n]; exact s6 _ _ (s5' b u e n)⟩
              rw [take_snoc hst, List.map_append, List.flatten_append, List.map_append]
              have e1 : ([st].map (leftOf (longest (a.here o)))).flatten = leftOf (longest (a.here o)) st := by simp
              rw [e1]
              exact ((hr5.same s6).mono tk).append (hu6.mono tk)
          · rintro _ H4 ⟨x5, x6, x7, x8, rfl, ⟨rs, hR4, hr4⟩, s4⟩
            have k4 : TupK H3 H4 := fun b ys e => s4 _ _ e fun z => by rw [z, hR] at e; cases e
            have s04 : Same H H4 := fun b u e => s4 _ _ (s03 b u e) (ne_of_none e nRH)
            have tL := td3.mono k4
            rw [len, List.take_length] at hr4
            obtain ⟨bL, ls, rfl, hbL, lL, hls⟩ := (show TD H4 lv (.tuple ((longest (a.here o)).map eG)) from tL).tups
            have lrs := hr4.length
            rw [List.length_map] at lrs
            have lls := hls.length
            rw [List.length_map] at lls
            have fl := flat_len (L := longest (a.here o)) (B := 1000) (l := a.here o) pb
            have lgl : (longest (a.here o)).length ≤ 1000 := by
              rcases longest_mem (a.here o) with e | ⟨s, m, e⟩
              · rw [e]; exact Nat.zero_le _
              · rw [e]; exact lb s m
            have fin : ∀ r H', Same H4 H' → TD H' (.ref r) (.tuple (((longest (a.here o)).map eG) ++ ((((a.here o).map (leftOf (longest (a.here o)))).flatten).map eG))) → Q (.ref r) H' := fun r H' s t => by
              rw [← List.map_append] at t
              exact q (.ref r) H' (s04.trans s) t
            refine ⟨_, rfl, ?_⟩
            refine ⟨_, rfl, ?_⟩
            refine ⟨R, rs, rfl, .inl ⟨SqL.of hR4, fun l nl => ?_⟩⟩
            have sl4 := same_new nl (.tup rs)
            have tl : TDs (upd H4 l (.tup rs)) rs _ := hr4.same sl4
            have hl : (upd H4 l (.tup rs)) l = some (.tup rs) := upd_same
            refine ⟨bL, l, ls, rs, rfl, rfl, SqT.of (sl4 _ _ hbL), SqT.of hl, by omega, fun e => ?_, fun _ e => ?_, fun _ _ r nr => ?_⟩
            · refine fin l _ sl4 (.tup hl (by omega) ?_)
              have : (longest (a.here o)).map eG = [] := List.length_eq_zero_iff.mp (by rw [List.length_map, ← lls, e]; rfl)
              rw [this]
              exact tl
            · refine fin bL _ sl4 (.tup (sl4 _ _ hbL) lL ?_)
              have : (((a.here o).map (leftOf (longest (a.here o)))).flatten).map eG = [] := List.length_eq_zero_iff.mp (by rw [List.length_map, ← lrs, e]; rfl)
              rw [this, List.append_nil]
              exact hls.same sl4
            · have s9 := sl4.trans (same_new nr (.tup (ls ++ rs)))
              exact fin r _ s9 (.tup upd_same (by rw [List.length_append]; omega) ((hls.same s9).append (tl.same (same_new nr _))))
end
end Mus

set_option maxRecDepth 100000
set_option maxHeartbeats 4000000
namespace Mus
open PySem L2
local macro_rules | `(tactic| walk_at "rd") => `(tactic| first
  | refine ⟨_, rfl, ?_⟩ | refine ⟨(True.intro : True), ?_⟩
  | refine ⟨_, _, rfl, rfl, (⟨by decide, by decide, by decide⟩ : CPow _ _), ?_⟩
  | refine ⟨_, _, rfl, rfl, (⟨by decide, by decide⟩ : CDiv _ _), ?_⟩
  | refine ⟨_, _, rfl, rfl, (by show (0 : Int) < _; decide), ?_⟩
  | refine ⟨_, _, rfl, rfl, ?_⟩ | refine ⟨rfl, ?_⟩ | refine iteT ?_ | refine iteF ?_ | refine ⟨_, _, rfl, ?_⟩ | refine .inl ⟨_, rfl, ?_⟩
  | refine ⟨_, _, _, _, _, rfl, (by assumption), (by assumption), (by assumption), rfl, ?_⟩ | refine ⟨_, _, _, _, rfl, rfl, SqT.of (by assumption), rfl, ?_⟩ | refine ⟨_, _, rfl, SqT.of (by assumption), rfl, ?_⟩
  | refine ⟨_, _, _, _, _, rfl, .ty _, Rp.ty (by assumption), kit_int _, ?_⟩ | refine ⟨_, _, _, _, _, rfl, .ty _, Rp.ty (by assumption), kit_bool _, ?_⟩
  | refine ⟨_, _, _, _, _, rfl, .ty _, Rp.ty (by assumption), kit_str _, ?_⟩ | refine ⟨_, _, _, _, _, rfl, .ty _, Rp.ty (by assumption), kit_tup _, ?_⟩)
local macro_rules | `(tactic| walk_at "cal") => `(tactic| first
  | refine ⟨_, _, _, _, _, rfl, (by assumption), ?_⟩ | refine ⟨_, _, _, _, _, rfl, (by assumption), (by assumption), ?_⟩)
local macro_rules | `(tactic| walk_at "sq") => `(tactic| first
  | refine ⟨_, _, rfl, Or.inr (SqT.of (by assumption)), ?_⟩ | refine ⟨_, _, _, _, rfl, rfl, SqT.of (by assumption), rfl, ?_⟩)
local macro_rules | `(tactic| walk_at "rds") => `(tactic| repeat first | walk_at "rd" | walk_at "cal" | walk_at "sq")
local macro_rules | `(tactic| walk_at "ze") => `(tactic| repeat first
  | exact zes_nil | exact ze_bl | exact ze_str | exact ze_non | apply zes_cons | apply ze_tup | apply ze_lst | apply ze_cat | exact di_c | exact di_v rfl | apply di_opC | apply di_op | apply di_neg | apply ze_i | (refine (⟨?_, ?_, ?_⟩ : CPow _ _) <;> decide) | exact Nat.le_of_ble_eq_true rfl | exact ze_varD rfl (by assumption))
local macro_rules | `(tactic| walk_at "rdz") => `(tactic| repeat (fail_if_success (first | show tLst _ _ _ _ | show tAsg (tLst _) _ _ _ _ | show tSeq (tAsg (tLst _) _) _ _ _ _)); first | walk_at "rd" | walk_at "cal" | walk_at "sq")
section
variable {P : Program} {w : World} {K : PySem.W.Frag} {mg : Str → Option Value} {base : Heap} {CA CV : Addr}
def sp_afins (w : World) (CA CV : Addr) : Sp := fun vs H Q E => ∃ (p : Addr) (A : AA) (a : AS), vs = [.ref p] ∧ AAt w CA H p A a ∧ (a.ready = false → ∀ H', Same H H' → E (.ref CV) none H') ∧
  (a.ready = true → ∀ is r H', a.Ids is → Same H H' → TD H' (.ref r) (eFs (is.map fun v => (v, a.final v))) → Q (.ref r) H')
abbrev s_Attempt_finals : Stmt := inClass (top 6) 4
abbrev N_Attempt_finals : List Str := ["self", "finals", "view_id", "state"]
abbrev P_Attempt_finals : List Str := ["self"]
theorem sc_Attempt_finals : FnScope N_Attempt_finals P_Attempt_finals (defScope s_Attempt_finals) := ⟨rfl, rfl, rfl, by decide +kernel, rfl, by decide +kernel, by decide +kernel⟩
theorem ok_afins {f : Addr} {fd : FuncData} (T : Tx K mg CA CV) (m_Attempt_ready : MethOk P w K mg base CX0 CA "ready" P_Attempt_ready 2 (sp_aready w CA)) (m_Attempt__final : MethOk P w K mg base CX0 CA "_final" P_Attempt__final 2 (sp_afin w CA)) (F : Fun K "finals" "Attempt.finals" s_Attempt_finals f fd) : FnOk P w K mg base (L2.CX P w) 3 f fd P_Attempt_finals (sp_afins w CA CV) := by
  have nd := sc_Attempt_finals.nd
  refine F.okX sc_Attempt_finals (fun vs H Q E h => ?_) (fun cdv A outer s H vs Q E hr h => ?_)
  · obtain ⟨_, _, _, rfl, _⟩ := h
    rfl
  · obtain ⟨p, aa, a, rfl, O, q1, q2⟩ := h
    have hs := sl
    have ob := O.ob
    obtain ⟨c1, n3⟩ : L2.Cls K CA ∧ NoAttr K CA "_states" := ⟨T.cl_Attempt, T.n_Attempt__states⟩
    refine ⟨_, (pss_cons (ps_if (pt_not (pt_val (pmeth0 m_Attempt_ready T.cl_Attempt (pv 0) hr)))
        (pss_one (ps_raise rfl (takes_of rfl rfl rfl rfl) (pmk_own0 PySem.F.excBase_ValueError T.x_BadView T.g_BadView T.k_BadView (raises_own T.b_BadView T.t_BadView))))
        pss_nil)
      (pss_cons (ps_set (i := 1) nd rfl (Or.inl rfl) (pe_lst pa_nil))
      (pss_cons (ps_for (passes_of rfl) rfl (pi_list (pe_callB (cr_sortedS rfl hr.units) (by rfl) T.b_sorted (by decide +kernel) (pa_cons (pe_lock (pe_scN (own := [("state", 3)]) (te := tOp (rIxT K) (tVar 3) (tC (.int 3))) rfl hr.units nd (pi_valuesN (pe_fld (pv 0) (by rfl))) (blkOk_by (own := [("state", 3)]) (N := N_Attempt_finals) (sc := defScope s_Attempt_finals) (by decide +kernel)) (fun _ _ _ _ _ => (pg_name (i := 3) nd rfl (Or.inl rfl))) (fun _ _ _ _ _ => pts_nil) (fun _ _ _ _ _ => (pe_ix ix_tup (pv 3) pe_int (fun _ _ => rfl))))) pa_nil))) (pg_name (i := 2) nd rfl (Or.inl rfl))
        (pss_one (ps_expr (pe_bm PySem.F.plainAttrs_list PySem.F.slot_list_append PySem.F.type_list_append mt_append (pv 1) (pa_cons (pe_tup (pa_cons (pv 2) (pa_cons (pmeth m_Attempt__final T.cl_Attempt (pv 0) hr (pa_cons (pv 2) pa_nil)) pa_nil))) pa_nil)))))
      (pss_one (ps_ret (pe_callTy call_tuple_of (by rfl) T.b_tuple (by decide +kernel) (pa_cons (pv 1) pa_nil))))))), ?_⟩
    walk_at "rds"
    refine ⟨p, aa.dx, _, rfl, ob, rfl, p, aa, a, rfl, O, fun H1 s1 => ?_⟩
    walk_at "rds"
    cases rdy : a.ready with
    | false =>
      refine iteT ?_
      exact q1 rdy _ s1
    | true =>
      refine iteF ?_
      refine ⟨by show 0 ≤ sizeLine; omega, fun R nR => ?_⟩
      have nR0 : H R = none := by
        cases e : H R with
        | none => rfl
        | some o => rw [s1 _ _ e] at nR; cases nR
      have s2 := s1.trans (same_new nR (.lst []))
      have hR : (upd H1 R (.lst [])) R = some (.lst []) := upd_same
      generalize upd H1 R (.lst []) = H2 at *
      have O2 := O.same s2
      obtain ⟨ks, sts, nk, ll, each, all, kl⟩ := O2.vals
      have pd := O2.ne
      have mu : L2.Mut (some (ndO w aa.d ks)) := trivial
      refine ⟨aa.d, ndO w aa.d ks, nk.ob, mu, fun od => ?_⟩
      have hp3 : (upd H2 aa.d (.frz od (ndO w aa.d ks))) p = some (.ins CA aa.dx (aF aa.vid aa.vms aa.d)) := by rw [upd_ne pd]; exact O2.ob
      have hd3 : (upd H2 aa.d (.frz od (ndO w aa.d ks))) aa.d = some (.frz od (ndO w aa.d ks)) := upd_same
      have k3 : TupK H2 (upd H2 aa.d (.frz od (ndO w aa.d ks))) := tupK_upd fun xs e => by rw [nk.ob] at e; cases e
      have f3 : ∀ b o, H2 b = some o → b ≠ aa.d → (upd H2 aa.d (.frz od (ndO w aa.d ks))) b = some o := fun b o e n => by rw [upd_ne n]; exact e
      have z3 : ∀ b, (upd H2 aa.d (.frz od (ndO w aa.d ks))) b = none → H2 b = none := fun b e => by
        by_cases z : b = aa.d
        · rw [z, upd_same] at e; cases e
        · rwa [upd_ne z] at e
      have sm := nk.sm
      generalize upd H2 aa.d (.frz od (ndO w aa.d ks)) = H3 at *
      unfold tScN
      walk_at "rds"
      refine ⟨aa.d, od, ks, rfl, hd3, sm, fun D nD => ?_⟩
      have dD : D ≠ aa.d := fun z => by rw [z, hd3] at nD; cases nD
      refine sc_valsN (w := w) (d := aa.d) (o := od) (kvs := ks) (fun i H4 => ∃ L, H4 D = some (nsO w D L) ∧ VSet H4 L (fun v => ∃ s ∈ sts.take i, s.old = v) ∧ L.length ≤ i ∧ ∀ b o, H3 b = some o → H4 b = some o) ?_ ?_ ?_ ?_
      · exact ⟨[], upd_same, ⟨fun p m => (by cases m), fun v => ⟨fun m => (by cases m), fun ⟨s, m, _⟩ => (by cases m)⟩⟩, Nat.le_refl _, same_new nD _⟩
      · rintro i H4 ⟨_, _, _, _, s4⟩
        exact s4 _ _ hd3
      · rintro i k b v H4 hk ⟨L, hD, VS, lL, s4⟩
        have i12 : i < 12 := by
          have := (List.getElem?_eq_some_iff.mp hk).1
          omega
        obtain ⟨st, hst, td⟩ := each i _ hk
        have td : TD H2 v (eS st) := td
        obtain ⟨bs, x1, x2, x3, x4, x5, rfl, hbs, t1, t2, t3, t4, t5⟩ := ((td.mono k3).mono (TupK.of s4)).ste
        obtain ⟨z, rfl, _⟩ := t3.nkV
        refine ⟨rfl, ?_⟩
        walk_at "rds"
        refine ⟨z, kVv st.old, L, rfl, hD, VS.key, ?_, by omega, fun L' ad => ?_⟩
        · obtain ⟨_, e, nkz⟩ := t3.nkV
          cases e
          exact ⟨nkz, kVv_depth _, numK_v _⟩
        · obtain ⟨V1, l1⟩ := VS.add t3 ad
          have tk : TupK H4 (upd H4 D (nsO w D L')) := tupK_upd fun xs e => by rw [hD] at e; cases e
          have V2 := V1.mono tk
          refine ⟨L', upd_same, ⟨V2.ent, fun v => (V2.mem v).trans ?_⟩, by omega, fun b o e => by rw [upd_ne (ne_of_none e nD)]; exact s4 _ _ e⟩
          rw [take_snoc hst]
          constructor
          · rintro (⟨s, m, e⟩ | e)
            · exact ⟨s, List.mem_append_left _ m, e⟩
            · exact ⟨st, List.mem_append_right _ List.mem_cons_self, e.symm⟩
          · rintro ⟨s, m, e⟩
            rcases List.mem_append.mp m with m | m
            · exact .inl ⟨s, m, e⟩
            · rw [List.mem_singleton.mp m] at e; exact .inr e.symm
      · rintro H4 ⟨L, hD, VS, lL, s4⟩
        rw [← ll, List.take_length] at VS
        refine ⟨s4 _ _ hd3, ?_⟩
        have s5 : Same H2 (upd H4 aa.d (ndO w aa.d ks)) := fun b o e => by
          by_cases z : b = aa.d
          · rw [z, upd_same]; rw [z, nk.ob] at e; exact e
          · rw [upd_ne z]; exact s4 _ _ (f3 b o e z)
        have tk5 : TupK H4 (upd H4 aa.d (ndO w aa.d ks)) := tupK_upd fun xs e => by rw [s4 _ _ hd3] at e; cases e
        have hD5 : (upd H4 aa.d (ndO w aa.d ks)) D = some (nsO w D L) := by rw [upd_ne dD]; exact hD
        have VS := VS.mono tk5
        clear s4 hD tk5 hd3 k3 f3 z3 nD hp3
        generalize upd H4 aa.d (ndO w aa.d ks) = H5 at *
        refine ⟨D, L, fun p => kD p.2, rfl, hD5, VS.dp, fun ndL L' pL => ⟨VS.alike pL, VS.tupd pL, fun ps l eps nl => ?_⟩⟩
        obtain ⟨sl2, e1, pw, mem, tds, lsl⟩ := VS.srt pL ndL eps
        rw [e1]
        have s6 := same_new nl (.lst (sl2.map fun x => V.ref x.1))
        have hl : (upd H5 l (.lst (sl2.map fun x => V.ref x.1))) l = some (.lst (sl2.map fun x => V.ref x.1)) := upd_same
        have s26 := s5.trans s6
        have tds := fun x m => (tds x m).same s6
        have hR6 := s26 _ _ hR
        have O6 := O2.same s26
        have nlR : l ≠ R := fun z => by rw [z, s5 _ _ hR] at nl; cases nl
        clear s6 nl hD5 VS s5
        generalize upd H5 l (.lst (sl2.map fun x => V.ref x.1)) = H6 at *
        have ids : a.Ids (sl2.map fun x => vidOf x.2) := by
          refine ⟨pw, fun v => (mem v).trans ?_⟩
          constructor
          · rintro ⟨s, m, e⟩
            obtain ⟨mm, h1, h2⟩ := (all s).mp m
            exact ⟨mm, h1, s, h2, e⟩
          · rintro ⟨mm, h1, s, h2, e⟩
            exact ⟨s, (all s).mpr ⟨mm, h1, h2⟩, e⟩
        have s06 := s2.trans s26
        have ls := lsl
        refine ⟨l, rfl, ⟨_, SqL.of hl⟩, for_list (xs := sl2.map fun x => V.ref x.1) (fun i σ H7 => ∃ x2 : Option V, σ = [some (.ref p), some (.ref R), x2, none] ∧ LstAt H7 R (((sl2.take i).map fun x => vidOf x.2).map fun v => eF (v, a.final v)) ∧ ∀ b u, H6 b = some u → b ≠ R → H7 b = some u) ?_ ?_ ?_ ?_⟩
        · exact ⟨_, rfl, ⟨[], hR6, .nil⟩, fun b u e _ => e⟩
        · rintro i _ H7 _ ⟨_, rfl, _, s7⟩
          exact SqL.of (s7 _ _ hl nlR)
        · rintro i x _ H7 hi ⟨x2, rfl, ⟨rs, hR7, hr7⟩, s7⟩
          have k7 : TupK H6 H7 := fun b ys e => s7 _ _ e fun z => by rw [z, hR6] at e; cases e
          rw [List.getElem?_map] at hi
          obtain ⟨y, hy, rfl⟩ := Option.map_eq_some_iff.mp hi
          have my := List.mem_of_getElem? hy
          have s07 : Same H H7 := fun b u e => s7 _ _ (s06 b u e) (ne_of_none e nR0)
          have O7 := O.same s07
          have tv := (tds y my).mono k7
          have pos : 0 < (a.here (vidOf y.2)).length := by
            obtain ⟨mm, h1, s, h2, h3⟩ := (ids.2 (vidOf y.2)).mp (List.mem_map.mpr ⟨y, my, rfl⟩)
            exact List.length_pos_of_mem (AS.here_mem.mpr ⟨mm, h1, h2, h3⟩)
          have i64 : i < 12 := by
            have := (List.getElem?_eq_some_iff.mp hy).1
            omega
          have lrs := hr7.length
          rw [List.length_map, List.length_map, List.length_take] at lrs
          have ob7 := O7.ob
          walk_at "rds"
          refine ⟨.inl ⟨rfl, _, SqL.of hR7⟩, ?_⟩
          walk_at "rds"
          refine ⟨p, aa.dx, _, rfl, ob7, rfl, _, rfl, p, aa, a, .ref y.1, vidOf y.2, rfl, O7, rdy, tv, pos, fun r H8 s8 t8 => ?_⟩
          refine ⟨by show 2 ≤ sizeLine; omega, fun t nt => ?_⟩
          have s9 := same_new nt (.tup [.ref y.1, r])
          have tt9 : TD (upd H8 t (.tup [.ref y.1, r])) (.ref t) (eF (vidOf y.2, a.final (vidOf y.2))) := .tup upd_same (by show 2 ≤ 100000; decide) (.cons ((tv.same s8).same s9) (.cons (t8.same s9) .nil))
          have s79 := s8.trans s9
          have hR9 := s79 _ _ hR7
          generalize upd H8 t (.tup [.ref y.1, r]) = H9 at *
          refine ⟨R, rs, .ref t, rfl, rfl, hR9, by omega, ?_⟩
          have tk : TupK H9 (upd H9 R (.lst (rs ++ [.ref t]))) := tupK_upd fun xs e => by rw [hR9] at e; cases e
          refine ⟨_, rfl, ⟨rs ++ [.ref t], upd_same, ?_⟩, fun b u e n => by rw [upd_ne n]; exact s79 _ _ (s7 b u e n)⟩
          rw [take_snoc hy, List.map_append, List.map_append]
          exact ((hr7.same s79).mono tk).append (.cons (tt9.mono tk) .nil)
        · rintro _ H7 ⟨x2, rfl, ⟨rs, hR7, hr7⟩, s7⟩
          have s07 : Same H H7 := fun b u e => s7 _ _ (s06 b u e) (ne_of_none e nR0)
          rw [List.length_map, List.take_length] at hr7
          have lrs := hr7.length
          rw [List.length_map, List.length_map] at lrs
          walk_at "rds"
          refine ⟨R, rs, rfl, .inl ⟨SqL.of hR7, fun t nt => ?_⟩⟩
          refine q2 rdy _ t _ ids (s07.trans (same_new nt _)) (.tup upd_same (by omega) ?_)
          rw [List.map_map]
          exact hr7.same (same_new nt _)
end
end Mus

set_option maxRecDepth 100000
set_option maxHeartbeats 4000000
/-! The law's own way to the finals. -/
namespace Mus
open PySem PySem.Spec PyProof.Rows L2
def hereO (a : AS) (v : Vid) (m : Mem) : Option (Mem × Ste) := (AS.hereB v (a.g m)).map fun s => (m, s)
def hereP (a : AS) (v : Vid) : List (Mem × Ste) := a.ms.filterMap (hereO a v)
theorem hereP_snd (a : AS) (v : Vid) : (hereP a v).map Prod.snd = a.here v := by
  unfold hereP AS.here
  rw [List.map_filterMap]
  congr 1
  funext m
  unfold hereO
  cases AS.hereB v (a.g m) <;> rfl
theorem hereO_some {a : AS} {v : Vid} {m : Mem} {x : Mem × Ste} (h : hereO a v m = some x) : x.1 = m ∧ a.g m = some x.2 ∧ x.2.old = v := by
  unfold hereO AS.hereB at h
  cases g : a.g m with
  | none => rw [g] at h; cases h
  | some s =>
    rw [g] at h
    by_cases c : s.old = v
    · simp [Option.filter, c] at h
      subst h
      exact ⟨rfl, rfl, c⟩
    · simp [Option.filter, c] at h
theorem hereO_eq {a : AS} {v : Vid} {m : Mem} {s : Ste} (g : a.g m = some s) : hereO a v m = if s.old = v then some (m, s) else none := by
  unfold hereO AS.hereB
  rw [g]
  by_cases c : s.old = v <;> simp [Option.filter, c]
theorem hereP_mem {a : AS} {v : Vid} {x : Mem × Ste} (h : x ∈ hereP a v) : x.1 ∈ a.ms ∧ a.g x.1 = some x.2 ∧ x.2.old = v := by
  obtain ⟨m, hm, e⟩ := List.mem_filterMap.mp h
  obtain ⟨e1, e2, e3⟩ := hereO_some e
  rw [e1]
  exact ⟨hm, e2, e3⟩
theorem ixd_nil : Ixd [] := fun s => ⟨rfl, fun i => ⟨fun ⟨g, m, _⟩ => (by cases m), fun h => by have : (cntX s [] : Int) = 0 := rfl; omega⟩⟩
/-- indexes of m in L -/
def idxs (m : Mem) (L : List Msg) : List Int := (L.filter fun g => decide (g.1 = m)).map fun g => g.2.1
theorem idxs_mem {m : Mem} {L : List Msg} {i : Int} : i ∈ idxs m L ↔ ∃ g ∈ L, g.1 = m ∧ g.2.1 = i := by
  unfold idxs
  rw [List.mem_map]
  constructor
  · rintro ⟨g, h, e⟩
    obtain ⟨h1, h2⟩ := List.mem_filter.mp h
    exact ⟨g, h1, of_decide_eq_true h2, e⟩
  · rintro ⟨g, h1, h2, e⟩
    exact ⟨g, List.mem_filter.mpr ⟨h1, decide_eq_true h2⟩, e⟩
theorem idx_gt {m : Mem} {L : List Msg} {i : Int} (h : Ixd L) (h1 : 1 ≤ i) : (i ∉ idxs m L) ↔ i > lastX L m := by
  obtain ⟨e1, e2⟩ := h m
  rw [idxs_mem, e2 i, e1]
  omega
theorem left_eq {L : List Msg} {s : Ste} (h : Ixd L) (p : ∀ c ∈ s.pend, 1 ≤ c.1) : leftOf L s = (s.pend.filter fun c => !decide (c.1 ∈ idxs s.who L)).map fun c => (s.who, c.1, c.2) := by
  unfold leftOf
  congr 1
  refine List.filter_congr fun c m => ?_
  rw [← decide_not]
  exact decide_eq_decide.mpr (idx_gt h (p c m)).symm
theorem eV_eqv' (a b : Vid) : PyData.eqv (eV a) (eV b) = decide (a = b) := eV_eqv a b
theorem eVs_any (vs : List Vid) (v : Vid) : ((vs.map eV).any fun z => PyData.eqv z (eV v)) = decide (v ∈ vs) := by
  rw [List.any_map, Bool.eq_iff_iff, List.any_eq_true, decide_eq_true_eq]
  constructor
  · rintro ⟨x, hx, h⟩
    have h : decide (x = v) = true := by rw [← eV_eqv]; exact h
    rw [← of_decide_eq_true h]; exact hx
  · intro h
    exact ⟨v, h, by show PyData.eqv (eV v) (eV v) = true; rw [eV_eqv]; simp⟩
theorem rd_inVl {K : PySem.W.Frag} {H : Hp} {x : V} {v : Vid} {Q : VK} {vs : List Vid} {l : Addr} {us : List V} {f : Bool → Bool} (hx : TD H x (eV v)) (hl : H l = some (.lst us)) (hv : TDs H us (vs.map eV)) (q : Q (.bl (f (decide (v ∈ vs)))) H) : rInDD K f x (.ref l) H Q :=
  ⟨_, _, hx.dp, .inl (.lst (SqL.of hl) hv.dp), (eV_lay v).1, (lay_mem (f := eV) (n := 2) (l := vs) fun w _ => ⟨(eV_lay w).1, by rw [(eV_lay w).2.1]; exact Nat.le_refl _⟩).1, by rw [(eV_lay v).2.1]; decide, by rw [eVs_any]; exact q⟩
/-- sorted ids -/
theorem ids_srt {us : List V} {vl : List Vid} (len : us.length = vl.length) (nd : vl.Nodup) {ps : List (V × PyData)} (e : ps = (us.zip (vl.map eV)).mergeSort (PySem.W.dataLe false (·.2))) :
    ∃ s : List (V × Vid), ps.map (·.1) = s.map (·.1) ∧ s.Perm (us.zip vl) ∧ (s.map (·.2)).Pairwise AS.vlt ∧ ∀ v, v ∈ s.map (·.2) ↔ v ∈ vl := by
  have e1 : us = (us.zip vl).map (fun x => x.1) := (List.map_fst_zip (by omega)).symm
  have e2 : vl.map eV = (us.zip vl).map (fun x => eV x.2) := by
    have z : (us.zip vl).map (fun x => x.2) = vl := List.map_snd_zip (by omega)
    conv => lhs; rw [← z, List.map_map]
    rfl
  have e' : ps = (((us.zip vl).map (fun x => x.1)).zip ((us.zip vl).map (fun x => eV x.2))).mergeSort (PySem.W.dataLe false (·.2)) := by
    rw [← e1, ← e2]; exact e
  obtain ⟨s, h1, h2, h3⟩ := srt_of (v := fun x : V × Vid => x.1) (k := fun x : V × Vid => eV x.2) e'
  have ms : (s.map (·.2)).Perm vl := by
    have := h2.map (·.2)
    rwa [show (us.zip vl).map (·.2) = vl from List.map_snd_zip (by omega)] at this
  have ns : s.Pairwise fun x y => x.2 ≠ y.2 := List.pairwise_map.mp (ms.nodup_iff.mpr nd)
  refine ⟨s, h1, h2, ?_, fun v => ms.mem_iff⟩
  rw [List.pairwise_map]
  exact (h3.and ns).imp fun {x y} ⟨z1, z2⟩ => vlt_of z1 z2
/-- two tuples of data, one behind the other -/
theorem cat_td {K : PySem.W.Frag} {H : Hp} {x y : V} {ds es : List PyData} {Q : VK} (hx : TD H x (.tuple ds)) (hy : TD H y (.tuple es)) (l : ds.length + es.length ≤ 100000) (q : ∀ r H', Same H H' → TD H' (.ref r) (.tuple (ds ++ es)) → Q (.ref r) H') : rCatA K x y H Q := by
  have hs : sizeLine = 16777216 := sl
  obtain ⟨a, xs, rfl, ha, la, ra⟩ := hx.tups
  obtain ⟨b, ys, rfl, hb, lb, rb⟩ := hy.tups
  have l1 := ra.length
  have l2 := rb.length
  refine ⟨a, b, xs, ys, rfl, rfl, SqT.of ha, SqT.of hb, by omega, fun e => ?_, fun _ e => ?_, fun _ _ r nr => ?_⟩
  · have : ds = [] := List.length_eq_zero_iff.mp (by rw [← l1, e]; rfl)
    exact q b H (Same.refl _) (by rw [this, List.nil_append]; exact hy)
  · have : es = [] := List.length_eq_zero_iff.mp (by rw [← l2, e]; rfl)
    exact q a H (Same.refl _) (by rw [this, List.append_nil]; exact hx)
  · exact q r _ (same_new nr _) (.tup upd_same (by rw [List.length_append]; omega) ((ra.same (same_new nr _)).append (rb.same (same_new nr _))))
end Mus

set_option maxRecDepth 100000
set_option maxHeartbeats 4000000
namespace Mus
open PySem L2
local macro_rules | `(tactic| walk_at "rd") => `(tactic| first
  | refine ⟨_, rfl, ?_⟩ | refine ⟨(True.intro : True), ?_⟩
  | refine ⟨_, _, rfl, rfl, (⟨by decide, by decide, by decide⟩ : CPow _ _), ?_⟩
  | refine ⟨_, _, rfl, rfl, (⟨by decide, by decide⟩ : CDiv _ _), ?_⟩
  | refine ⟨_, _, rfl, rfl, (by show (0 : Int) < _; decide), ?_⟩
  | refine ⟨_, _, rfl, rfl, ?_⟩ | refine ⟨rfl, ?_⟩ | refine iteT ?_ | refine iteF ?_ | refine ⟨_, _, rfl, ?_⟩ | refine .inl ⟨_, rfl, ?_⟩
  | refine ⟨_, _, _, _, _, rfl, (by assumption), (by assumption), (by assumption), rfl, ?_⟩ | refine ⟨_, _, _, _, rfl, rfl, SqT.of (by assumption), rfl, ?_⟩ | refine ⟨_, _, rfl, SqT.of (by assumption), rfl, ?_⟩
  | refine ⟨_, _, _, _, _, rfl, .ty _, Rp.ty (by assumption), kit_int _, ?_⟩ | refine ⟨_, _, _, _, _, rfl, .ty _, Rp.ty (by assumption), kit_bool _, ?_⟩
  | refine ⟨_, _, _, _, _, rfl, .ty _, Rp.ty (by assumption), kit_str _, ?_⟩ | refine ⟨_, _, _, _, _, rfl, .ty _, Rp.ty (by assumption), kit_tup _, ?_⟩)
local macro_rules | `(tactic| walk_at "cal") => `(tactic| first
  | refine ⟨_, _, _, _, _, rfl, (by assumption), ?_⟩ | refine ⟨_, _, _, _, _, rfl, (by assumption), (by assumption), ?_⟩)
local macro_rules | `(tactic| walk_at "sq") => `(tactic| first
  | refine ⟨_, _, rfl, Or.inr (SqT.of (by assumption)), ?_⟩ | refine ⟨_, _, _, _, rfl, rfl, SqT.of (by assumption), rfl, ?_⟩)
local macro_rules | `(tactic| walk_at "rds") => `(tactic| repeat first | walk_at "rd" | walk_at "cal" | walk_at "sq")
local macro_rules | `(tactic| walk_at "ze") => `(tactic| repeat first
  | exact zes_nil | exact ze_bl | exact ze_str | exact ze_non | apply zes_cons | apply ze_tup | apply ze_lst | apply ze_cat | exact di_c | exact di_v rfl | apply di_opC | apply di_op | apply di_neg | apply ze_i | (refine (⟨?_, ?_, ?_⟩ : CPow _ _) <;> decide) | exact Nat.le_of_ble_eq_true rfl | exact ze_varD rfl (by assumption))
local macro_rules | `(tactic| walk_at "rdz") => `(tactic| repeat (fail_if_success (first | show tLst _ _ _ _ | show tAsg (tLst _) _ _ _ _ | show tSeq (tAsg (tLst _) _) _ _ _ _)); first | walk_at "rd" | walk_at "cal" | walk_at "sq")
section
variable {P : Program} {w : World} {K : PySem.W.Frag} {mg : Str → Option Value} {base : Heap} {CA CV : Addr}
/-- the states as the law keeps them -/
structure LSt (w : World) (H : Hp) (d : Addr) (a : AS) : Prop where
  g : NM w H d a.k kM (fun v s => TD H v (eS s)) a.g
  ml : a.ms.length ≤ 12
  all : ∀ m ∈ a.ms, ∃ s, a.g m = some s
  ok : ∀ m s, a.g m = some s → s.who = m ∧ s.log.length ≤ 1000 ∧ s.pend.length ≤ 1000 ∧ Ixd s.log ∧ ∀ c ∈ s.pend, 1 ≤ c.1
theorem LSt.same {H H' : Hp} {d : Addr} {a : AS} (h : LSt w H d a) (s : Same H H') : LSt w H' d a := by
  obtain ⟨ks, z⟩ := h.g.ndo
  exact ⟨h.g.mono (by rw [s _ _ z, z]) (TupK.of s) (fun _ _ x => x.same s) (Nat.le_refl _), h.ml, h.all, h.ok⟩
/-- what stands at a member -/
theorem LSt.at {H : Hp} {d c : Addr} {a : AS} {m : Mem} (h : LSt w H d a) (hm : m ∈ a.ms) (nk : NK H (.ref c) (kM m)) : ∃ bs s x1 x2 x3 x4 x5, a.g m = some s ∧ NGet w H d c (some (.ref bs)) ∧ H bs = some (.tup [.str "state", x1, x2, x3, x4, x5]) ∧ TD H x1 (eM s.who) ∧ TD H x3 (eV s.old) ∧ TD H x4 (eGs s.log) ∧ TD H x5 (eCs s.pend) := by
  obtain ⟨s, e⟩ := h.all m hm
  obtain ⟨o, g1, g2⟩ := h.g.get nk (kM_depth _)
  rw [e] at g2
  cases o with
  | none => exact g2.elim
  | some v =>
    have g2 : TD H v (eS s) := g2
    obtain ⟨bs, x1, x2, x3, x4, x5, rfl, hbs, t1, t2, t3, t4, t5⟩ := g2.ste
    exact ⟨bs, s, x1, x2, x3, x4, x5, e, g1, hbs, t1, t3, t4, t5⟩
def sp_lfins (w : World) : Sp := fun vs H Q _ => ∃ (d : Addr) (v : V) (a : AS), vs = [.ref d, v] ∧ LSt w H d a ∧ TD H v (eMs a.ms) ∧ ∀ is r H', a.Ids is → Same H H' → TD H' (.ref r) (eFs (is.map fun v => (v, a.final v))) → Q (.ref r) H'
abbrev s__law_finals : Stmt := top 13
abbrev N__law_finals : List Str := ["states", "members", "rows", "ids", "member", "view_id", "here", "longest", "final", "known", "index", "payload", "message"]
abbrev P__law_finals : List Str := ["states", "members"]
theorem sc__law_finals : FnScope N__law_finals P__law_finals (defScope s__law_finals) := ⟨rfl, rfl, rfl, by decide +kernel, rfl, by decide +kernel, by decide +kernel⟩
theorem ok__law_finals {f : Addr} {fd : FuncData} (T : Tx K mg CA CV) (F : Fun K "_law_finals" "_law_finals" s__law_finals f fd) : FnOk P w K mg base CX0 (1) f fd P__law_finals (sp_lfins w) := by
  have nd := sc__law_finals.nd
  refine F.ok sc__law_finals (fun vs H Q E h => ?_) (fun cdv A outer s H vs Q E hr h => ?_)
  · obtain ⟨_, _, _, rfl, _⟩ := h
    rfl
  · obtain ⟨d, v, a, rfl, L0, hv, q⟩ := h
    have hs := sl
    obtain ⟨b, xs, rfl, hb, _, hx⟩ := (show TD H v (.tuple (a.ms.map eM)) from hv).tups
    have lx := hx.length
    rw [List.length_map] at lx
    refine ⟨_, (pss_cons (ps_set (i := 2) nd rfl (Or.inl rfl) (pe_lst pa_nil))
      (pss_cons (ps_set (i := 3) nd rfl (Or.inl rfl) (pe_lst pa_nil))
      (pss_cons (ps_for PassesOwn.never rfl (pi_tup (pv 1)) (pg_name (i := 4) nd rfl (Or.inr rfl))
        (pss_one (ps_if (pt_cmpR (op_notInDD hr.units) (pe_ix ix_tup (pe_nget hr.units (pv 0) (pv 4) (fun _ _ => rfl)) pe_int (fun _ _ => rfl)) (pv 3) (by rfl))
          (pss_one (ps_expr (pe_bm PySem.F.plainAttrs_list PySem.F.slot_list_append PySem.F.type_list_append mt_append (pv 3) (pa_cons (pe_ix ix_tup (pe_nget hr.units (pv 0) (pv 4) (fun _ _ => rfl)) pe_int (fun _ _ => rfl)) pa_nil))))
          pss_nil)))
      (pss_cons (ps_for PassesOwn.never rfl (pi_list (pe_callB (cr_sortedD hr.units) (by rfl) T.b_sorted (by decide +kernel) (pa_cons (pv 3) pa_nil))) (pg_name (i := 5) nd rfl (Or.inr rfl))
        (pss_cons (ps_setLcX (i := 6) (own := [("member", 4)]) rfl nd rfl rfl (sw_true rfl rfl rfl (by decide +kernel)) (pi_tup (pv 1)) (blkOk_by (own := [("member", 4)]) (N := N__law_finals) (sc := defScope s__law_finals) (by decide +kernel)) (fun _ _ _ _ _ => (pg_name (i := 4) nd rfl (Or.inl rfl))) (fun _ _ _ _ _ => (pts_one (pt_cmpR (op_eqD hr.units) (pe_ix ix_tup (pe_nget hr.units (pv 0) (pv 4) (fun _ _ => rfl)) pe_int (fun _ _ => rfl)) (pv 5) (nomark _)))) (fun _ _ _ _ _ => (pv 4)))
        (pss_cons (ps_set (i := 7) nd rfl (Or.inl rfl) (pe_tup pa_nil))
        (pss_cons (ps_for PassesOwn.never rfl (pi_list (pv 6)) (pg_name (i := 4) nd rfl (Or.inr rfl))
          (pss_one (ps_if (pt_cmpR op_gt (pe_callB call_len_seq (by rfl) T.b_len (by decide +kernel) (pa_cons (pe_ix ix_tup (pe_nget hr.units (pv 0) (pv 4) (fun _ _ => rfl)) pe_int (fun _ _ => rfl)) pa_nil)) (pe_callB call_len_seq (by rfl) T.b_len (by decide +kernel) (pa_cons (pv 7) pa_nil)) (nomark _))
            (pss_one (ps_set (i := 7) nd rfl (Or.inl rfl) (pe_ix ix_tup (pe_nget hr.units (pv 0) (pv 4) (fun _ _ => rfl)) pe_int (fun _ _ => rfl))))
            pss_nil)))
        (pss_cons (ps_set (i := 8) nd rfl (Or.inl rfl) (pe_callTy call_list_of (by rfl) T.b_list (by decide +kernel) (pa_cons (pv 7) pa_nil)))
        (pss_cons (ps_for PassesOwn.never rfl (pi_list (pv 6)) (pg_name (i := 4) nd rfl (Or.inr rfl))
          (pss_cons (ps_setLcX (i := 9) (own := [("message", 12)]) rfl nd rfl rfl (sw_true rfl rfl rfl (by decide +kernel)) (pi_tup (pv 7)) (blkOk_by (own := [("message", 12)]) (N := N__law_finals) (sc := defScope s__law_finals) (by decide +kernel)) (fun _ _ _ _ _ => (pg_name (i := 12) nd rfl (Or.inl rfl))) (fun _ _ _ _ _ => (pts_one (pt_cmpR (op_eqD hr.units) (pe_ix ix_tup (pv 12) pe_int (fun _ _ => rfl)) (pv 4) (nomark _)))) (fun _ _ _ _ _ => (pe_ix ix_tup (pv 12) pe_int (fun _ _ => rfl))))
          (pss_one (ps_for PassesOwn.never rfl (pi_tup (pe_ix ix_tup (pe_nget hr.units (pv 0) (pv 4) (fun _ _ => rfl)) pe_int (fun _ _ => rfl))) (pg_tup (by rfl) (pgs_cons (pg_name (i := 10) nd rfl (Or.inl rfl)) (pgs_cons (pg_name (i := 11) nd rfl (Or.inl rfl)) pgs_nil)))
            (pss_one (ps_if (pt_cmpR op_notIn_seq (pv 10) (pv 9) (by rfl))
              (pss_one (ps_expr (pe_bm PySem.F.plainAttrs_list PySem.F.slot_list_append PySem.F.type_list_append mt_append (pv 8) (pa_cons (pe_tup (pa_cons (pv 4) (pa_cons (pv 10) (pa_cons (pv 11) pa_nil)))) pa_nil))))
              pss_nil))))))
        (pss_one (ps_expr (pe_bm PySem.F.plainAttrs_list PySem.F.slot_list_append PySem.F.type_list_append mt_append (pv 2) (pa_cons (pe_tup (pa_cons (pv 5) (pa_cons (pe_callTy call_tuple_of (by rfl) T.b_tuple (by decide +kernel) (pa_cons (pv 8) pa_nil)) pa_nil))) pa_nil))))))))))
      (pss_one (ps_ret (pe_callTy call_tuple_of (by rfl) T.b_tuple (by decide +kernel) (pa_cons (pv 2) pa_nil)))))))), ?_⟩
    refine ⟨by show 0 ≤ sizeLine; omega, fun R nR => ?_⟩
    have s1 := same_new nR (.lst [])
    have hR1 : (upd H R (.lst [])) R = some (.lst []) := upd_same
    generalize upd H R (.lst []) = H1 at *
    refine ⟨by show 0 ≤ sizeLine; omega, fun I nI => ?_⟩
    have nI0 : H I = none := by
      cases e : H I with
      | none => rfl
      | some o => rw [s1 _ _ e] at nI; cases nI
    have s2 := same_new nI (.lst [])
    have hI2 : (upd H1 I (.lst [])) I = some (.lst []) := upd_same
    have hR2 := s2 _ _ hR1
    have RI : R ≠ I := ne_of_none hR1 nI
    have s02 := s1.trans s2
    clear s1 s2 hR1 nI
    generalize upd H1 I (.lst []) = H2 at *
    refine ⟨_, rfl, ?_⟩
    refine ⟨_, rfl, ?_⟩
    refine ⟨⟨_, SqT.of (s02 _ _ hb)⟩, for_tup (K := K) (xs := xs) (fun i σ H3 => (∃ x4 : Option V, σ = [some (.ref d), some (.ref b), some (.ref R), some (.ref I), x4, none, none, none, none, none, none, none, none]) ∧ (∃ (us : List V) (vl : List Vid), H3 I = some (.lst us) ∧ TDs H3 us (vl.map eV) ∧ vl.Nodup ∧ vl.length ≤ i ∧ ∀ v, v ∈ vl ↔ ∃ m ∈ a.ms.take i, ∃ s, a.g m = some s ∧ s.old = v) ∧ ∀ c o, H2 c = some o → c ≠ I → H3 c = some o) ?_ ?_ ?_ ?_⟩
    · exact ⟨⟨_, rfl⟩, ⟨[], [], hI2, .nil, List.nodup_nil, Nat.le_refl _, fun v => ⟨fun m => (by cases m), fun ⟨m, h, _⟩ => (by cases h)⟩⟩, fun _ _ e _ => e⟩
    · rintro i _ H3 _ ⟨_, _, f3⟩
      exact SqT.of (f3 _ _ (s02 _ _ hb) (ne_of_none hb nI0))
    · rintro i x _ H3 hi ⟨⟨x4, rfl⟩, ⟨us, vl, hI3, hu, nd3, lv, mem3⟩, f3⟩
      have s03 : Same H H3 := fun c o e => f3 _ _ (s02 _ _ e) (ne_of_none e nI0)
      obtain ⟨m, hm, td⟩ := hx.map_at hi
      obtain ⟨c, rfl, nk⟩ := (td.same s03).nk
      have mm := List.mem_of_getElem? hm
      obtain ⟨bs, st, x1, x2, x3, x4', x5, eg, g1, hbs, t1, t3, t4, t5⟩ := (L0.same s03).at mm nk
      have lu := hu.length
      rw [List.length_map] at lu
      have ml := L0.ml
      have i12 : i < 12 := by
        have := (List.getElem?_eq_some_iff.mp hm).1
        omega
      refine ⟨_, rfl, ?_⟩
      refine ⟨_, rfl, ?_⟩
      refine ⟨d, c, _, rfl, rfl, g1, ?_⟩
      refine ⟨_, _, _, _, rfl, rfl, SqT.of (by assumption), rfl, ?_⟩
      refine ⟨_, rfl, ?_⟩
      refine rd_inVl t3 hI3 hu ?_
      refine ⟨_, rfl, ?_⟩
      refine iB (fun h => ?_) (fun h => ?_)
      · have h : st.old ∉ vl := by simpa using h
        refine ⟨_, rfl, ?_⟩
        refine ⟨.inl ⟨rfl, _, SqL.of hI3⟩, ?_⟩
        refine ⟨_, rfl, ?_⟩
        refine ⟨_, rfl, ?_⟩
        refine ⟨d, c, _, rfl, rfl, g1, ?_⟩
        refine ⟨_, _, _, _, rfl, rfl, SqT.of (by assumption), rfl, ?_⟩
        refine ⟨I, us, x3, rfl, rfl, hI3, by omega, ?_⟩
        have tk : TupK H3 (upd H3 I (.lst (us ++ [x3]))) := tupK_upd fun zs z => by rw [hI3] at z; cases z
        refine ⟨⟨_, rfl⟩, ⟨us ++ [x3], vl ++ [st.old], upd_same, ?_, ?_, by rw [List.length_append]; show _ + 1 ≤ _; omega, fun v => ?_⟩, fun c o e n => by rw [upd_ne n]; exact f3 _ _ e n⟩
        · rw [List.map_append]
          exact (hu.mono tk).append (.cons (t3.mono tk) .nil)
        · refine List.nodup_append.mpr ⟨nd3, by simp, fun x hx y hy e => ?_⟩
          rw [List.mem_singleton] at hy
          rw [e, hy] at hx
          exact h hx
        · rw [take_snoc hm, List.mem_append, mem3 v, List.mem_singleton]
          constructor
          · rintro (⟨m', h1, h2⟩ | e)
            · exact ⟨m', List.mem_append_left _ h1, h2⟩
            · exact ⟨m, List.mem_append_right _ List.mem_cons_self, st, eg, e.symm⟩
          · rintro ⟨m', h1, s', h2, h3⟩
            rcases List.mem_append.mp h1 with h1 | h1
            · exact .inl ⟨m', h1, s', h2, h3⟩
            · rw [List.mem_singleton.mp h1, eg] at h2
              cases h2
              exact .inr h3.symm
      · have h : st.old ∈ vl := by simpa using h
        refine ⟨⟨_, rfl⟩, ⟨us, vl, hI3, hu, nd3, by omega, fun v => ?_⟩, f3⟩
        rw [take_snoc hm, mem3 v]
        constructor
        · rintro ⟨m', h1, h2⟩
          exact ⟨m', List.mem_append_left _ h1, h2⟩
        · rintro ⟨m', h1, s', h2, h3⟩
          rcases List.mem_append.mp h1 with h1 | h1
          · exact ⟨m', h1, s', h2, h3⟩
          · rw [List.mem_singleton.mp h1, eg] at h2
            cases h2
            have := (mem3 st.old).mp h
            rw [h3] at this
            exact this
    · rintro _ H3 ⟨⟨x4, rfl⟩, ⟨us, vl, hI3, hu, nd3, lv, mem3⟩, f3⟩
      have s03 : Same H H3 := fun c o e => f3 _ _ (s02 _ _ e) (ne_of_none e nI0)
      have hR3 := f3 _ _ hR2 RI
      rw [lx, List.take_length] at mem3
      have lu := hu.length
      rw [List.length_map] at lu
      have ml := L0.ml
      clear f3 hR2 hI2 s02 RI nI0
      refine ⟨_, rfl, ?_⟩
      refine ⟨I, us, vl.map eV, rfl, .inl (SqL.of hI3), hu.dp, ?_, ?_, ?_, fun ps l eps nl => ?_⟩
      · intro d1 m1 d2 m2
        obtain ⟨v1, _, e1⟩ := List.mem_map.mp m1
        obtain ⟨v2, _, e2⟩ := List.mem_map.mp m2
        rw [← e1, ← e2]; rfl
      · refine .inl fun d1 m1 => ?_
        obtain ⟨v1, _, e1⟩ := List.mem_map.mp m1
        rw [← e1]
        exact ⟨_, _, rfl⟩
      · intro d1 m1
        obtain ⟨v1, _, e1⟩ := List.mem_map.mp m1
        rw [← e1, (eV_lay v1).2.1]
        decide
      · obtain ⟨sl2, e1, perm, pw, mem4⟩ := ids_srt lu nd3 eps
        rw [e1]
        have l12 : sl2.length ≤ 12 := by
          rw [perm.length_eq, List.length_zip]
          omega
        have tds : ∀ x ∈ sl2, TD H3 x.1 (eV x.2) := fun x m => by
          obtain ⟨i, hi⟩ := List.getElem?_of_mem (perm.mem_iff.mp m)
          obtain ⟨h1, h2⟩ := List.getElem?_zip_eq_some.mp hi
          obtain ⟨v', e, td⟩ := hu.map_at h1
          rw [h2] at e
          cases e
          exact td
        have s4 := same_new nl (.lst (sl2.map (·.1)))
        have hl4 : (upd H3 l (.lst (sl2.map (·.1)))) l = some (.lst (sl2.map (·.1))) := upd_same
        have tds := fun x m => (tds x m).same s4
        have hR4 := s4 _ _ hR3
        have s04 := s03.trans s4
        have lR : l ≠ R := fun z => by rw [z, hR3] at nl; cases nl
        have ids : a.Ids (sl2.map (·.2)) := ⟨pw, fun v => (mem4 v).trans (mem3 v)⟩
        clear s4 s03 hR3 hI3 hu mem3 mem4 pw nl e1 eps lu
        generalize upd H3 l (.lst (sl2.map (·.1))) = H4 at *
        refine ⟨l, rfl, ⟨_, SqL.of hl4⟩, for_list (K := K) (xs := sl2.map (·.1)) (fun i σ H5 => (∃ x4 x5 x6 x7 x8 x9 x10 x11 : Option V, σ = [some (.ref d), some (.ref b), some (.ref R), some (.ref I), x4, x5, x6, x7, x8, x9, x10, x11, none]) ∧ LstAt H5 R (((sl2.take i).map fun x => x.2).map fun v => eF (v, a.final v)) ∧ ∀ c o, H4 c = some o → c ≠ R → H5 c = some o) ?_ ?_ ?_ ?_⟩
        · exact ⟨⟨_, _, _, _, _, _, _, _, rfl⟩, ⟨[], hR4, .nil⟩, fun _ _ e _ => e⟩
        · rintro i _ H5 _ ⟨_, _, f5⟩
          exact SqL.of (f5 _ _ hl4 lR)
        · rintro i x _ H5 hi ⟨⟨x4, x5, x6, x7, x8, x9, x10, x11, rfl⟩, ⟨rs, hR5, hr5⟩, f5⟩
          rw [List.getElem?_map] at hi
          obtain ⟨y, hy, rfl⟩ := Option.map_eq_some_iff.mp hi
          have k5 : TupK H4 H5 := fun c zs e => f5 _ _ e fun z => by rw [z, hR4] at e; cases e
          have s05 : Same H H5 := fun c o e => f5 _ _ (s04 _ _ e) (ne_of_none e nR)
          have tv5 := (tds y (List.mem_of_getElem? hy)).mono k5
          have L5 := L0.same s05
          have hb5 := s05 _ _ hb
          have hx5 := hx.same s05
          have i12 : i < 12 := by
            have := (List.getElem?_eq_some_iff.mp hy).1
            omega
          have lr5 := hr5.length
          rw [List.length_map, List.length_map, List.length_take] at lr5
          refine ⟨_, rfl, ?_⟩
          refine ⟨_, rfl, ?_⟩
          refine ⟨⟨_, SqT.of hb5⟩, fun D nD => ?_⟩
          have nD0 : H D = none := by
            cases e : H D with
            | none => rfl
            | some o => rw [s05 _ _ e] at nD; cases nD
          have nDR : D ≠ R := fun z => by rw [z, hR5] at nD; cases nD
          refine lc_tup (K := K) (a := b) (xs := xs) (fun j H6 => LstAt H6 D (((a.ms.take j).filterMap (hereO a y.2)).map fun x => eM x.1) ∧ Same H5 H6) ?_ ?_ ?_ ?_
          · exact ⟨⟨[], upd_same, .nil⟩, same_new nD _⟩
          · rintro j H6 _ ⟨_, s6⟩
            exact SqT.of (s6 _ _ hb5)
          · rintro j x H6 hj ⟨⟨ws, hD, hw⟩, s6⟩
            obtain ⟨m, hm, td⟩ := hx5.map_at hj
            have td6 := td.same s6
            obtain ⟨c, rfl, nk⟩ := td6.nk
            have mm := List.mem_of_getElem? hm
            obtain ⟨bs, st, x1, x2, x3, x4', x5', eg, g1, hbs, t1, t3, t4, t5⟩ := (L5.same s6).at mm nk
            have eo := hereO_eq (v := y.2) eg
            have lw := hw.length
            rw [List.length_map] at lw
            have lf := List.length_filterMap_le (hereO a y.2) (a.ms.take j)
            rw [List.length_take] at lf
            refine ⟨rfl, ?_⟩
            refine ⟨_, rfl, ?_⟩
            refine ⟨_, rfl, ?_⟩
            refine ⟨d, c, _, rfl, rfl, g1, ?_⟩
            refine ⟨_, _, _, _, rfl, rfl, SqT.of (by assumption), rfl, ?_⟩
            refine ⟨_, rfl, ?_⟩
            refine rd_eqV t3 (tv5.same s6) ?_
            refine ⟨_, rfl, ?_⟩
            refine iB (fun h => ?_) (fun h => ?_)
            · have h := of_decide_eq_true h
              refine ⟨_, rfl, ?_⟩
              have tk : TupK H6 (upd H6 D (.lst (ws ++ [.ref c]))) := tupK_upd fun zs z => by rw [hD] at z; cases z
              refine ⟨ws, hD, by omega, ⟨ws ++ [.ref c], upd_same, ?_⟩, fun c o e => by rw [upd_ne (ne_of_none e nD)]; exact s6 _ _ e⟩
              rw [take_snoc hm, List.filterMap_append, List.map_append, show [m].filterMap (hereO a y.2) = [(m, st)] by rw [List.filterMap_cons, eo, if_pos h]; rfl]
              exact (hw.mono tk).append (.cons (td6.mono tk) .nil)
            · have h := of_decide_eq_false h
              refine ⟨⟨ws, hD, ?_⟩, s6⟩
              rw [take_snoc hm, List.filterMap_append, show [m].filterMap (hereO a y.2) = [] by rw [List.filterMap_cons, eo, if_neg h]; rfl, List.append_nil]
              exact hw
          · rintro H6 ⟨⟨ws, hD, hw⟩, s6⟩
            rw [lx, List.take_length] at hw
            have hw : TDs H6 ws ((hereP a y.2).map fun x => eM x.1) := hw
            have lw := hw.length
            rw [List.length_map] at lw
            have hpm : ∀ x ∈ hereP a y.2, x.1 ∈ a.ms ∧ a.g x.1 = some x.2 ∧ x.2.old = y.2 := fun x m => hereP_mem m
            have esn := hereP_snd a y.2
            have lh : (hereP a y.2).length ≤ 12 := by
              have := List.length_filterMap_le (hereO a y.2) a.ms
              unfold hereP
              omega
            generalize hereP a y.2 = hp at *
            have s06 := s05.trans s6
            have L6 := L5.same s6
            have hR6 := s6 _ _ hR5
            have tv6 := tv5.same s6
            have f6 : ∀ c o, H4 c = some o → c ≠ R → H6 c = some o := fun c o e n => s6 _ _ (f5 c o e n)
            have hr6 : TDs H6 rs ((((sl2.take i).map fun x => x.2)).map fun v => eF (v, a.final v)) := hr5.same s6
            clear s6 s05 hR5 L5 hb5 hx5 tv5 k5 nD
            have oks : ∀ x ∈ hp, x.2.who = x.1 ∧ x.2.log.length ≤ 1000 ∧ x.2.pend.length ≤ 1000 ∧ Ixd x.2.log ∧ ∀ c ∈ x.2.pend, 1 ≤ c.1 := fun x m => L0.ok _ _ (hpm x m).2.1
            refine ⟨by show 0 ≤ sizeLine; omega, fun e0 ne0 => ?_⟩
            have s7 := same_new ne0 (.tup [])
            have t0 : TD (upd H6 e0 (.tup [])) (.ref e0) (eGs []) := .tup upd_same (Nat.zero_le _) .nil
            have hD7 := s7 _ _ hD
            have hw7 := hw.same s7
            have hr7 := hr6.same s7
            have hR7 := s7 _ _ hR6
            have L7 := L6.same s7
            have s07 := s06.trans s7
            have f7 : ∀ c o, H4 c = some o → c ≠ R → (upd H6 e0 (.tup [])) c = some o := fun c o e n => s7 _ _ (f6 c o e n)
            have tv7 := tv6.same s7
            clear s7 hD hw hr6 hR6 L6 s06 f6 ne0 tv6
            generalize upd H6 e0 (.tup []) = H7 at *
            refine ⟨_, rfl, ?_⟩
            refine ⟨_, rfl, ?_⟩
            refine ⟨⟨_, SqL.of hD7⟩, for_list (K := K) (xs := ws) (fun j σ H8 => (∃ (x4 : Option V) (lv : V), σ = [some (.ref d), some (.ref b), some (.ref R), some (.ref I), x4, some y.1, some (.ref D), some lv, x8, x9, x10, x11, none] ∧ TD H7 lv (eGs (longest ((hp.map Prod.snd).take j)))) ∧ H8 = H7) ?_ ?_ ?_ ?_⟩
            · exact ⟨⟨_, _, rfl, t0⟩, rfl⟩
            · rintro j _ _ _ ⟨_, rfl⟩
              exact SqL.of hD7
            · rintro j x _ _ hj ⟨⟨x4, lv, rfl, tl⟩, rfl⟩
              obtain ⟨x0, hx0, td⟩ := hw7.map_at hj
              obtain ⟨c, rfl, nk⟩ := td.nk
              have mh := List.mem_of_getElem? hx0
              obtain ⟨bs, st, x1, x2, x3, x4', x5', eg, g1, hbs, t1, t3, t4, t5⟩ := L7.at (hpm x0 mh).1 nk
              rw [(hpm x0 mh).2.1] at eg
              cases eg
              obtain ⟨bg, gs, rfl, hbg, _, rg⟩ := (show TD _ x4' (.tuple (x0.2.log.map eG)) from t4).tups
              obtain ⟨bl, ls, rfl, hbl, _, rl⟩ := (show TD _ lv (.tuple ((longest ((hp.map Prod.snd).take j)).map eG)) from tl).tups
              have lgs := rg.length
              have lls := rl.length
              rw [List.length_map] at lgs lls
              have hsn : (hp.map Prod.snd)[j]? = some x0.2 := by rw [List.getElem?_map, hx0]; rfl
              refine ⟨_, rfl, ?_⟩
              refine ⟨_, rfl, ?_⟩
              refine ⟨d, c, _, rfl, rfl, g1, ?_⟩
              refine ⟨_, _, _, _, rfl, rfl, SqT.of (by assumption), rfl, ?_⟩
              refine ⟨_, _, rfl, Or.inr (SqT.of (by assumption)), ?_⟩
              refine ⟨_, rfl, ?_⟩
              refine ⟨_, _, rfl, Or.inr (SqT.of (by assumption)), ?_⟩
              refine ⟨_, _, rfl, rfl, ?_⟩
              refine ⟨_, rfl, ?_⟩
              refine iB (fun h => ?_) (fun h => ?_)
              · have h : ((ls.length : Nat) : Int) < ((gs.length : Nat) : Int) := of_decide_eq_true h
                refine ⟨_, rfl, _, rfl, d, c, _, rfl, rfl, g1, ?_⟩
                refine ⟨_, _, _, _, rfl, rfl, SqT.of (by assumption), rfl, ?_⟩
                refine ⟨⟨_, _, rfl, ?_⟩, rfl⟩
                rw [take_snoc hsn, longest_snoc]
                unfold longS
                rw [if_pos (by omega)]
                exact t4
              · have h : ¬ ((ls.length : Nat) : Int) < ((gs.length : Nat) : Int) := of_decide_eq_false h
                refine ⟨⟨_, _, rfl, ?_⟩, rfl⟩
                rw [take_snoc hsn, longest_snoc]
                unfold longS
                rw [if_neg (by omega)]
                exact tl
            · rintro _ H7 ⟨⟨x4, lv, rfl, tl⟩, rfl⟩
              rw [lw, show hp.length = (hp.map Prod.snd).length from (List.length_map _).symm, List.take_length, esn] at tl
              have ixL : Ixd (longest (a.here y.2)) := by
                rcases longest_mem (a.here y.2) with e | ⟨s, m, e⟩
                · rw [e]; exact ixd_nil
                · rw [e]
                  rw [← esn] at m
                  obtain ⟨x, mx, ex⟩ := List.mem_map.mp m
                  rw [← ex]
                  exact (oks x mx).2.2.2.1
              have lgl : (longest (a.here y.2)).length ≤ 1000 := by
                rcases longest_mem (a.here y.2) with e | ⟨s, m, e⟩
                · rw [e]; exact Nat.zero_le _
                · rw [e]
                  rw [← esn] at m
                  obtain ⟨x, mx, ex⟩ := List.mem_map.mp m
                  rw [← ex]
                  exact (oks x mx).2.1
              have efin : a.final y.2 = longest (a.here y.2) ++ ((hp.map Prod.snd).map (leftOf (longest (a.here y.2)))).flatten := by rw [esn]; rfl
              clear esn t0
              generalize longest (a.here y.2) = LL at *
              obtain ⟨bl, ls, rfl, hbl, _, rl⟩ := (show TD H7 lv (.tuple (LL.map eG)) from tl).tups
              have lls := rl.length
              rw [List.length_map] at lls
              refine ⟨_, rfl, bl, ls, rfl, .inr (SqT.of hbl), fun F nF => ?_⟩
              have s8 := same_new nF (.lst ls)
              have hF8 : (upd H7 F (.lst ls)) F = some (.lst ls) := upd_same
              have FD : F ≠ D := fun z => by rw [z, hD7] at nF; cases nF
              have FR : F ≠ R := fun z => by rw [z, hR7] at nF; cases nF
              have nF0 : H F = none := by
                cases e : H F with
                | none => rfl
                | some o => rw [s07 _ _ e] at nF; cases nF
              have f4F : H4 F = none := by
                cases e : H4 F with
                | none => rfl
                | some o => rw [f7 _ _ e FR] at nF; cases nF
              have hD8 := s8 _ _ hD7
              have hw8 := hw7.same s8
              have hr8 := hr7.same s8
              have hR8 := s8 _ _ hR7
              have L8 := L7.same s8
              have s08 := s07.trans s8
              have f8 : ∀ c o, H4 c = some o → c ≠ R → (upd H7 F (.lst ls)) c = some o := fun c o e n => s8 _ _ (f7 c o e n)
              have tv8 := tv7.same s8
              have rl8 := rl.same s8
              have hbl8 := s8 _ _ hbl
              clear s8 hD7 hw7 hr7 hR7 L7 s07 f7 tv7 rl hbl tl nF
              generalize upd H7 F (.lst ls) = H8 at *
              refine ⟨_, rfl, ?_⟩
              refine ⟨_, rfl, ?_⟩
              refine ⟨⟨_, SqL.of hD8⟩, for_list (K := K) (xs := ws) (fun j σ H9 => (∃ x4 x9 x10 x11 : Option V, σ = [some (.ref d), some (.ref b), some (.ref R), some (.ref I), x4, some y.1, some (.ref D), some (.ref bl), some (.ref F), x9, x10, x11, none]) ∧ LstAt H9 F ((LL ++ (((hp.map Prod.snd).take j).map (leftOf LL)).flatten).map eG) ∧ ∀ c o, H8 c = some o → c ≠ F → H9 c = some o) ?_ ?_ ?_ ?_⟩
              · exact ⟨⟨_, _, _, _, rfl⟩, ⟨ls, hF8, by simpa using rl8⟩, fun _ _ e _ => e⟩
              · rintro j _ H9 _ ⟨_, _, f9⟩
                exact SqL.of (f9 _ _ hD8 FD.symm)
              · rintro j x _ H9 hj ⟨⟨x4, x9, x10, x11, rfl⟩, ⟨fs, hF9, hf9⟩, f9⟩
                have k9 : TupK H8 H9 := fun c zs e => f9 _ _ e fun z => by rw [z, hF8] at e; cases e
                have s09 : Same H H9 := fun c o e => f9 _ _ (s08 _ _ e) (ne_of_none e nF0)
                obtain ⟨x0, hx0, td⟩ := hw8.map_at hj
                have td9 := td.mono k9
                obtain ⟨c, rfl, nk⟩ := td9.nk
                have mh := List.mem_of_getElem? hx0
                have L9 := L0.same s09
                obtain ⟨bs, st, x1, x2, x3, x4', x5', eg, g1, hbs, t1, t3, t4, t5⟩ := L9.at (hpm x0 mh).1 nk
                rw [(hpm x0 mh).2.1] at eg
                cases eg
                obtain ⟨bp, pv, rfl, hbp, _, rp⟩ := (show TD H9 x5' (.tuple (x0.2.pend.map eC)) from t5).tups
                have lpv := rp.length
                rw [List.length_map] at lpv
                obtain ⟨ow, ol, op, oi, o1⟩ := oks x0 mh
                have hsn : (hp.map Prod.snd)[j]? = some x0.2 := by rw [List.getElem?_map, hx0]; rfl
                have hbl9 := k9 _ _ hbl8
                have rl9 := rl8.mono k9
                have j12 : j < 12 := by
                  have := (List.getElem?_eq_some_iff.mp hx0).1
                  omega
                have fl9 := flat_len (L := LL) (B := 1000) (l := (hp.map Prod.snd).take j) fun s m => by
                  obtain ⟨x, mx, ex⟩ := List.mem_map.mp (List.mem_of_mem_take m)
                  rw [← ex]
                  exact (oks x mx).2.2.1
                rw [List.length_take] at fl9
                refine ⟨_, rfl, ?_⟩
                refine ⟨_, rfl, ?_⟩
                refine ⟨⟨_, SqT.of hbl9⟩, fun N nN => ?_⟩
                have FN : F ≠ N := fun z => by rw [← z, hF9] at nN; cases nN
                refine lc_tup (K := K) (a := bl) (xs := ls) (fun t H10 => H10 N = some (.lst ((idxs x0.1 (LL.take t)).map V.int)) ∧ Same H9 H10) ?_ ?_ ?_ ?_
                · exact ⟨upd_same, same_new nN _⟩
                · rintro t H10 _ ⟨_, s10⟩
                  exact SqT.of (s10 _ _ hbl9)
                · rintro t u H10 ht ⟨hN, s10⟩
                  obtain ⟨g0, hg0, tg⟩ := rl9.map_at ht
                  obtain ⟨cg, w0, rfl, hcg, tw⟩ := (tg.same s10).msg
                  have lf := List.length_filter_le (fun g : Msg => decide (g.1 = x0.1)) (LL.take t)
                  rw [List.length_take] at lf
                  have li : (idxs x0.1 (LL.take t)).length ≤ 1000 := by
                    unfold idxs
                    rw [List.length_map]
                    omega
                  refine ⟨rfl, ?_⟩
                  refine ⟨_, rfl, ?_⟩
                  refine ⟨_, _, _, _, rfl, rfl, SqT.of (by assumption), rfl, ?_⟩
                  refine ⟨_, rfl, ?_⟩
                  refine rd_eqM tw (td9.same s10) ?_
                  refine ⟨_, rfl, ?_⟩
                  refine iB (fun h => ?_) (fun h => ?_)
                  · walk_at "rds"
                    refine ⟨_, hN, by rw [List.length_map]; omega, ?_, fun c o e => by rw [upd_ne (ne_of_none e nN)]; exact s10 _ _ e⟩
                    rw [upd_same]
                    have e : idxs x0.1 (LL.take (t + 1)) = idxs x0.1 (LL.take t) ++ [g0.2.1] := by
                      unfold idxs
                      rw [take_snoc hg0, List.filter_append, List.map_append, show [g0].filter (fun g : Msg => decide (g.1 = x0.1)) = [g0] by rw [List.filter_cons, if_pos h]; rfl]
                      rfl
                    rw [e, List.map_append]; rfl
                  · have e : idxs x0.1 (LL.take (t + 1)) = idxs x0.1 (LL.take t) := by
                      unfold idxs
                      rw [take_snoc hg0, List.filter_append, show [g0].filter (fun g : Msg => decide (g.1 = x0.1)) = [] by rw [List.filter_cons, if_neg (by rw [h]; decide)]; rfl, List.append_nil]
                    rw [e]
                    exact ⟨hN, s10⟩
                · rintro H10 ⟨hN, s10⟩
                  rw [lls, List.take_length] at hN
                  have g10 : NGet w H10 d c (some (.ref bs)) := by
                    obtain ⟨ks, k, n1, n2, n3, n4⟩ := g1
                    exact ⟨ks, k, n1.mono (s10 _ _ n1.ob) (TupK.of s10), n2.mono fun b zs z => s10 _ _ z, n3, n4⟩
                  have hbs10 := s10 _ _ hbs
                  have hF10 := s10 _ _ hF9
                  have hf10 := hf9.same s10
                  have rp10 := rp.same s10
                  have td10 := td9.same s10
                  have hbp10 := s10 _ _ hbp
                  have f10 : ∀ c o, H8 c = some o → c ≠ F → H10 c = some o := fun c o e n => s10 _ _ (f9 c o e n)
                  have lff := hf9.length
                  rw [List.length_map, List.length_append] at lff
                  have eleft := left_eq (L := LL) (s := x0.2) ixL o1
                  rw [ow] at eleft
                  clear s10 g1 hbs hF9 hf9 rp td9 hbp f9 nN L9 s09 k9
                  refine ⟨_, rfl, ?_⟩
                  refine ⟨_, rfl, ?_⟩
                  refine ⟨d, c, _, rfl, rfl, g10, ?_⟩
                  refine ⟨_, _, _, _, rfl, rfl, SqT.of (by assumption), rfl, ?_⟩
                  refine ⟨_, rfl, ?_⟩
                  refine ⟨⟨_, SqT.of hbp10⟩, for_tup (K := K) (xs := pv) (fun t σ H11 => (∃ x10 x11 : Option V, σ = [some (.ref d), some (.ref b), some (.ref R), some (.ref I), some (.ref c), some y.1, some (.ref D), some (.ref bl), some (.ref F), some (.ref N), x10, x11, none]) ∧ LstAt H11 F ((LL ++ (((hp.map Prod.snd).take j).map (leftOf LL)).flatten ++ ((x0.2.pend.take t).filter fun c => !decide (c.1 ∈ idxs x0.1 LL)).map fun c => (x0.1, c.1, c.2)).map eG) ∧ ∀ c o, H10 c = some o → c ≠ F → H11 c = some o) ?_ ?_ ?_ ?_⟩
                  · refine ⟨⟨_, _, rfl⟩, ⟨fs, hF10, ?_⟩, fun _ _ e _ => e⟩
                    rw [List.take_zero, List.filter_nil, List.map_nil, List.append_nil]
                    exact hf10
                  · rintro t _ H11 _ ⟨_, _, f11⟩
                    exact SqT.of (f11 _ _ hbp10 (fun z => by rw [z, hF10] at hbp10; cases hbp10))
                  · rintro t u _ H11 ht ⟨⟨x10, x11, rfl⟩, ⟨fs2, hF11, hf11⟩, f11⟩
                    have k11 : TupK H10 H11 := fun c zs e => f11 _ _ e fun z => by rw [z, hF10] at e; cases e
                    obtain ⟨c0, hc0, tc⟩ := rp10.map_at ht
                    obtain ⟨cc, rfl, hcc⟩ := (tc.mono k11).cst
                    have lfl := List.length_filter_le (fun c : Cst => !decide (c.1 ∈ idxs x0.1 LL)) (x0.2.pend.take t)
                    rw [List.length_take] at lfl
                    have l2 := hf11.length
                    rw [List.length_map, List.length_append, List.length_append, List.length_map] at l2
                    have eN : inV (.int c0.1) ((idxs x0.1 LL).map V.int) = decide (c0.1 ∈ idxs x0.1 LL) := by
                      unfold inV
                      rw [List.any_map, Bool.eq_iff_iff, List.any_eq_true, decide_eq_true_eq]
                      constructor
                      · rintro ⟨z, hz, e⟩
                        have e : (z == c0.1) = true := e
                        rw [← beq_iff_eq.mp e]; exact hz
                      · intro hz
                        exact ⟨c0.1, hz, by show (c0.1 == c0.1) = true; exact beq_self_eq_true _⟩
                    refine ⟨cc, _, rfl, SqT.of hcc, rfl, ?_⟩
                    have hN11 := f11 _ _ hN FN.symm
                    have flt : ((idxs x0.1 LL).map V.int).all flatV = true := by rw [List.all_map]; exact List.all_eq_true.mpr fun _ _ => rfl
                    refine ⟨_, _, rfl, _, _, rfl, rfl, _, rfl, _, rfl, ?_⟩
                    refine ⟨N, _, rfl, .inl (SqL.of hN11), rfl, flt, ?_⟩
                    rw [eN]
                    have ht0 := take_snoc hc0
                    refine ⟨_, rfl, ?_⟩
                    refine iB (fun h => ?_) (fun h => ?_)
                    · have h : (!decide (c0.1 ∈ idxs x0.1 LL)) = true := h
                      have td11 := td10.mono k11
                      refine ⟨_, rfl, .inl ⟨rfl, _, SqL.of hF11⟩, ?_⟩
                      refine ⟨_, rfl, _, rfl, _, rfl, by show 3 ≤ sizeLine; omega, fun t2 nt2 => ?_⟩
                      have s12 := same_new nt2 (.tup [.ref c, .int c0.1, .str c0.2])
                      have tg2 : TD (upd H11 t2 (.tup [.ref c, .int c0.1, .str c0.2])) (.ref t2) (eG (x0.1, c0.1, c0.2)) := td_msg (g := (x0.1, c0.1, c0.2)) upd_same (td11.same s12)
                      have hF12 := s12 _ _ hF11
                      have hf12 := hf11.same s12
                      have f12 : ∀ k o, H10 k = some o → k ≠ F → (upd H11 t2 (.tup [.ref c, .int c0.1, .str c0.2])) k = some o := fun k o e n => s12 _ _ (f11 k o e n)
                      refine ⟨F, fs2, .ref t2, rfl, rfl, hF12, by omega, ?_⟩
                      have tk : TupK (upd H11 t2 (.tup [.ref c, .int c0.1, .str c0.2])) (upd (upd H11 t2 (.tup [.ref c, .int c0.1, .str c0.2])) F (.lst (fs2 ++ [.ref t2]))) := tupK_upd fun zs z => by rw [hF12] at z; cases z
                      refine ⟨⟨_, _, rfl⟩, ⟨fs2 ++ [.ref t2], upd_same, ?_⟩, fun k o e n => by rw [upd_ne n]; exact f12 k o e n⟩
                      rw [ht0, List.filter_append, List.map_append (f := fun c : Cst => ((x0.1, c.1, c.2) : Msg)), show [c0].filter (fun c : Cst => !decide (c.1 ∈ idxs x0.1 LL)) = [c0] by rw [List.filter_cons, if_pos h]; rfl, ← List.append_assoc, List.map_append (f := eG)]
                      exact (hf12.mono tk).append (.cons (tg2.mono tk) .nil)
                    · have h : (!decide (c0.1 ∈ idxs x0.1 LL)) = false := h
                      refine ⟨⟨_, _, rfl⟩, ⟨fs2, hF11, ?_⟩, f11⟩
                      rw [ht0, List.filter_append, show [c0].filter (fun c : Cst => !decide (c.1 ∈ idxs x0.1 LL)) = [] by rw [List.filter_cons, if_neg (by rw [h]; decide)]; rfl, List.append_nil]
                      exact hf11
                  · rintro _ H11 ⟨⟨x10, x11, rfl⟩, ⟨fs2, hF11, hf11⟩, f11⟩
                    rw [lpv, List.take_length, ← eleft] at hf11
                    refine ⟨⟨_, _, _, _, rfl⟩, ⟨fs2, hF11, ?_⟩, fun c o e n => f11 _ _ (f10 c o e n) n⟩
                    rw [take_snoc hsn, List.map_append (f := leftOf LL), List.flatten_append]
                    have e1 : ([x0.2].map (leftOf LL)).flatten = leftOf LL x0.2 := by simp
                    rw [e1, ← List.append_assoc]
                    exact hf11
              · rintro _ H9 ⟨⟨x4, x9, x10, x11, rfl⟩, ⟨fs, hF9, hf9⟩, f9⟩
                rw [lw, show hp.length = (hp.map Prod.snd).length from (List.length_map _).symm, List.take_length, ← efin] at hf9
                have k9 : TupK H8 H9 := fun c zs e => f9 _ _ e fun z => by rw [z, hF8] at e; cases e
                have hR9 := f9 _ _ hR8 FR.symm
                have hr9 := hr8.mono k9
                have tv9 := tv8.mono k9
                have lf9 := hf9.length
                rw [List.length_map] at lf9
                have lfin : (a.final y.2).length ≤ 100000 := by
                  have fl := flat_len (L := LL) (B := 1000) (l := hp.map Prod.snd) fun s m => by
                    obtain ⟨x, mx, ex⟩ := List.mem_map.mp m
                    rw [← ex]
                    exact (oks x mx).2.2.1
                  rw [List.length_map] at fl
                  rw [efin, List.length_append]
                  omega
                refine ⟨_, rfl, ?_⟩
                refine ⟨.inl ⟨rfl, _, SqL.of hR9⟩, ?_⟩
                refine ⟨_, rfl, _, rfl, F, fs, rfl, .inl ⟨SqL.of hF9, fun t nt => ?_⟩⟩
                have s10 := same_new nt (.tup fs)
                have tf : TD (upd H9 t (.tup fs)) (.ref t) (eGs (a.final y.2)) := .tup upd_same (by omega) (hf9.same s10)
                refine ⟨by show 2 ≤ sizeLine; omega, fun t2 nt2 => ?_⟩
                have s11 := same_new nt2 (.tup [y.1, .ref t])
                have te : TD (upd (upd H9 t (.tup fs)) t2 (.tup [y.1, .ref t])) (.ref t2) (eF (y.2, a.final y.2)) := .tup upd_same (by show 2 ≤ 100000; decide) (.cons ((tv9.same s10).same s11) (.cons (tf.same s11) .nil))
                have s911 := s10.trans s11
                have hR11 := s911 _ _ hR9
                have hr11 := hr9.same s911
                generalize upd (upd H9 t (.tup fs)) t2 (.tup [y.1, .ref t]) = H11 at *
                refine ⟨R, rs, .ref t2, rfl, rfl, hR11, by omega, ?_⟩
                have tk : TupK H11 (upd H11 R (.lst (rs ++ [.ref t2]))) := tupK_upd fun zs z => by rw [hR11] at z; cases z
                refine ⟨⟨_, _, _, _, _, _, _, _, rfl⟩, ⟨rs ++ [.ref t2], upd_same, ?_⟩, fun c o e n => ?_⟩
                · rw [take_snoc hy, List.map_append, List.map_append]
                  exact (hr11.mono tk).append (.cons (te.mono tk) .nil)
                · rw [upd_ne n]
                  refine s911 _ _ (f9 _ _ (f8 c o e n) fun z => ?_)
                  rw [z, f4F] at e
                  cases e
        · rintro _ H5 ⟨⟨x4, x5, x6, x7, x8, x9, x10, x11, rfl⟩, ⟨rs, hR5, hr5⟩, f5⟩
          have s05 : Same H H5 := fun c o e => f5 _ _ (s04 _ _ e) (ne_of_none e nR)
          rw [List.length_map, List.take_length] at hr5
          have lrs := hr5.length
          rw [List.length_map, List.length_map] at lrs
          refine ⟨_, rfl, ?_⟩
          refine ⟨R, rs, rfl, .inl ⟨SqL.of hR5, fun t nt => ?_⟩⟩
          refine q _ t _ ids (s05.trans (same_new nt _)) (.tup upd_same (by omega) ?_)
          rw [List.map_map]
          exact hr5.same (same_new nt _)
end
end Mus

set_option maxRecDepth 100000
set_option maxHeartbeats 4000000
namespace Mus
open PySem L2
local macro_rules | `(tactic| walk_at "rd") => `(tactic| first
  | refine ⟨_, rfl, ?_⟩ | refine ⟨(True.intro : True), ?_⟩
  | refine ⟨_, _, rfl, rfl, (⟨by decide, by decide, by decide⟩ : CPow _ _), ?_⟩
  | refine ⟨_, _, rfl, rfl, (⟨by decide, by decide⟩ : CDiv _ _), ?_⟩
  | refine ⟨_, _, rfl, rfl, (by show (0 : Int) < _; decide), ?_⟩
  | refine ⟨_, _, rfl, rfl, ?_⟩ | refine ⟨rfl, ?_⟩ | refine iteT ?_ | refine iteF ?_ | refine ⟨_, _, rfl, ?_⟩ | refine .inl ⟨_, rfl, ?_⟩
  | refine ⟨_, _, _, _, _, rfl, (by assumption), (by assumption), (by assumption), rfl, ?_⟩ | refine ⟨_, _, _, _, rfl, rfl, SqT.of (by assumption), rfl, ?_⟩ | refine ⟨_, _, rfl, SqT.of (by assumption), rfl, ?_⟩
  | refine ⟨_, _, _, _, _, rfl, .ty _, Rp.ty (by assumption), kit_int _, ?_⟩ | refine ⟨_, _, _, _, _, rfl, .ty _, Rp.ty (by assumption), kit_bool _, ?_⟩
  | refine ⟨_, _, _, _, _, rfl, .ty _, Rp.ty (by assumption), kit_str _, ?_⟩ | refine ⟨_, _, _, _, _, rfl, .ty _, Rp.ty (by assumption), kit_tup _, ?_⟩)
local macro_rules | `(tactic| walk_at "cal") => `(tactic| first
  | refine ⟨_, _, _, _, _, rfl, (by assumption), ?_⟩ | refine ⟨_, _, _, _, _, rfl, (by assumption), (by assumption), ?_⟩)
local macro_rules | `(tactic| walk_at "sq") => `(tactic| first
  | refine ⟨_, _, rfl, Or.inr (SqT.of (by assumption)), ?_⟩ | refine ⟨_, _, _, _, rfl, rfl, SqT.of (by assumption), rfl, ?_⟩)
local macro_rules | `(tactic| walk_at "rds") => `(tactic| repeat first | walk_at "rd" | walk_at "cal" | walk_at "sq")
local macro_rules | `(tactic| walk_at "ze") => `(tactic| repeat first
  | exact zes_nil | exact ze_bl | exact ze_str | exact ze_non | apply zes_cons | apply ze_tup | apply ze_lst | apply ze_cat | exact di_c | exact di_v rfl | apply di_opC | apply di_op | apply di_neg | apply ze_i | (refine (⟨?_, ?_, ?_⟩ : CPow _ _) <;> decide) | exact Nat.le_of_ble_eq_true rfl | exact ze_varD rfl (by assumption))
local macro_rules | `(tactic| walk_at "rdz") => `(tactic| repeat (fail_if_success (first | show tLst _ _ _ _ | show tAsg (tLst _) _ _ _ _ | show tSeq (tAsg (tLst _) _) _ _ _ _)); first | walk_at "rd" | walk_at "cal" | walk_at "sq")
section
variable {P : Program} {w : World} {K : PySem.W.Frag} {mg : Str → Option Value} {base : Heap} {CA CV : Addr}
def sp_unr (w : World) (CA : Addr) : Sp := fun vs H Q _ => ∃ (p : Addr) (A : AA) (a : AS), vs = [.ref p] ∧ AAt w CA H p A a ∧ a.ready = false ∧ ∀ H', Same H H' → Q (.bl true) H'
abbrev s__law_unready : Stmt := top 14
abbrev N__law_unready : List Str := ["attempt"]
abbrev P__law_unready : List Str := ["attempt"]
theorem sc__law_unready : FnScope N__law_unready P__law_unready (defScope s__law_unready) := ⟨rfl, rfl, rfl, by decide +kernel, rfl, by decide +kernel, by decide +kernel⟩
theorem ok_unr {f : Addr} {fd : FuncData} (T : Tx K mg CA CV) (m_Attempt_finals : MethOk P w K mg base (L2.CX P w) CA "finals" P_Attempt_finals 3 (sp_afins w CA CV)) (F : Fun K "_law_unready" "_law_unready" s__law_unready f fd) : FnOk P w K mg base CX0 4 f fd P__law_unready (sp_unr w CA) := by
  have nd := sc__law_unready.nd
  refine F.ok sc__law_unready (fun vs H Q E h => ?_) (fun cdv A outer s H vs Q E hr h => ?_)
  · obtain ⟨_, _, _, rfl, _⟩ := h
    rfl
  · obtain ⟨p, aa, a, rfl, O, rdy, q⟩ := h
    have hs := sl
    have ob := O.ob
    refine ⟨_, (pss_cons (ps_tryX rfl rfl takes0 (fun W pn xe tk _ => (pss_one (ps_expr (pmethA0 m_Attempt_finals T.cl_Attempt tk (pv 0) hr))))
        (hd_one ⟨rfl, by decide, .inl T.g_BadView⟩ (fun a oe cls d pn hz hf => (pss_one (ps_ret pe_bl))) .nil))
      (pss_one (ps_ret pe_bl))), ?_⟩
    walk_at "rds"
    refine ⟨p, aa.dx, _, rfl, ob, rfl, p, aa, a, rfl, O, fun _ H1 s1 => ?_, fun z => by rw [rdy] at z; cases z⟩
    exact ⟨true, T.m_VV, fun _ n na => q _ s1, fun h => by cases h⟩
def sp_lrest : Sp := fun vs H Q _ => ∃ (v u : V) (log fin : List Msg), vs = [v, u] ∧ TD H v (eGs log) ∧ TD H u (eGs fin) ∧ GsOk log ∧ GsOk fin ∧
  (fin.take log.length ≠ log → ∀ H', Same H H' → Q .non H') ∧ (fin.take log.length = log → ∀ r H', Same H H' → H r = none → LstAt H' r ((fin.drop log.length).map eG) → Q (.ref r) H')
abbrev s__law_rest : Stmt := top 15
abbrev N__law_rest : List Str := ["log", "final"]
abbrev P__law_rest : List Str := ["log", "final"]
theorem sc__law_rest : FnScope N__law_rest P__law_rest (defScope s__law_rest) := ⟨rfl, rfl, rfl, by decide +kernel, rfl, by decide +kernel, by decide +kernel⟩
theorem ok_lrest {f : Addr} {fd : FuncData} (T : Tx K mg CA CV) (c_rest_of : DefOk P w K mg base (L2.CX P w) "rest_of" P_rest_of 1 (sp_rest CV)) (F : Fun K "_law_rest" "_law_rest" s__law_rest f fd) : FnOk P w K mg base CX0 2 f fd P__law_rest sp_lrest := by
  have nd := sc__law_rest.nd
  refine F.ok sc__law_rest (fun vs H Q E h => ?_) (fun cdv A outer s H vs Q E hr h => ?_)
  · obtain ⟨_, _, _, _, rfl, _⟩ := h
    rfl
  · obtain ⟨v, u, log, fin, rfl, hv, hu, k1, k2, q1, q2⟩ := h
    have hs := sl
    refine ⟨_, (pss_one (ps_tryX rfl rfl takes0 (fun W pn xe tk _ => (pss_one (ps_ret (pcallA c_rest_of tk hr (pa_cons (pv 0) (pa_cons (pv 1) pa_nil))))))
        (hd_one ⟨rfl, by decide, .inl T.g_BadView⟩ (fun a oe cls d pn hz hf => (pss_one (ps_ret pe_non))) .nil))), ?_⟩
    walk_at "rds"
    refine ⟨v, u, log, fin, rfl, hv, hu, k1, k2, fun z H1 s1 => ?_, fun z r H1 s1 nr l1 => q2 z r H1 s1 nr l1⟩
    exact ⟨true, T.m_VV, fun _ n na => q1 z _ s1, fun h => by cases h⟩
end
end Mus

set_option maxRecDepth 100000
set_option maxHeartbeats 4000000
/-! What may be laid: lists of members, finals. -/
namespace Mus
open PySem PySem.Spec PyProof.Rows L2
theorem ml_lay (l : List Mem) : (PyData.list (l.map eM)).canLay0 = true ∧ SeqAt.shaped (.list (l.map eM)) = true := by
  have i := lay_mem (f := eM) (n := 1) (l := l) fun m _ => ⟨(eM_lay m).1, by rw [(eM_lay m).2.1]; exact Nat.le_refl _⟩
  have c : (PyData.list (l.map eM)).canLay0 = true := by simp [PyData.canLay0, i.1]
  refine ⟨c, shaped_of c ?_⟩
  simp [PyData.depth]
  have := i.2
  omega
theorem mll_lay (l : List Mem) : (PyData.list [.list (l.map eM)]).canLay0 = true ∧ SeqAt.shaped (.list [.list (l.map eM)]) = true := by
  have i := lay_mem (f := eM) (n := 1) (l := l) fun m _ => ⟨(eM_lay m).1, by rw [(eM_lay m).2.1]; exact Nat.le_refl _⟩
  have c : (PyData.list [.list (l.map eM)]).canLay0 = true := by simp [PyData.canLay0, PyData.canLayAll0, i.1]
  refine ⟨c, shaped_of c ?_⟩
  simp [PyData.depth, PyData.depthAll]
  have := i.2
  omega
theorem fs_lay {fs : List (Vid × List Msg)} (h : ∀ f ∈ fs, GsOk f.2) : (eFs fs).canLay0 = true ∧ SeqAt.shaped (eFs fs) = true := by
  have i := lay_mem (f := eF) (n := 4) (l := fs) fun f m => by
    have a := gs_shape (h f m)
    have b := eV_lay f.1
    refine ⟨by simp [eF, PyData.canLay0, PyData.canLayAll0, a.1, b.1], ?_⟩
    simp [eF, PyData.depth, PyData.depthAll]
    omega
  have c : (eFs fs).canLay0 = true := by simp [eFs, PyData.canLay0, i.1]
  refine ⟨c, shaped_of c ?_⟩
  simp [eFs, PyData.depth]
  have := i.2
  omega
theorem gl_lay {l : List Msg} (h : GsOk l) : (PyData.list (l.map eG)).canLay0 = true ∧ SeqAt.shaped (.list (l.map eG)) = true := by
  have a := gs_shape h
  have c : (PyData.list (l.map eG)).canLay0 = true := by
    have := a.1
    simp [eGs, PyData.canLay0] at this
    simp [PyData.canLay0, this]
  refine ⟨c, shaped_of c ?_⟩
  have := a.2
  simp [eGs, PyData.depth] at this
  simp [PyData.depth]
  omega
/-- the finals of such states may be laid -/
theorem fin_ok {a : AS} {v : Vid} (h : ∀ m s, a.g m = some s → GsOk s.log ∧ ∀ c ∈ s.pend, PyData.strOk c.2 = true) : GsOk (a.final v) := by
  have hh : ∀ s ∈ a.here v, GsOk s.log ∧ ∀ c ∈ s.pend, PyData.strOk c.2 = true := fun s m => by
    obtain ⟨m', _, e, _⟩ := AS.here_mem.mp m
    exact h m' s e
  intro g m
  unfold AS.final finOf at m
  rcases List.mem_append.mp m with m | m
  · rcases longest_mem (a.here v) with e | ⟨s, ms, e⟩
    · rw [e] at m; cases m
    · rw [e] at m
      exact (hh s ms).1 g m
  · obtain ⟨l, ml, mg⟩ := List.mem_flatten.mp m
    obtain ⟨s, ms, e⟩ := List.mem_map.mp ml
    rw [← e] at mg
    unfold leftOf at mg
    obtain ⟨c, mc, ec⟩ := List.mem_map.mp mg
    rw [← ec]
    exact (hh s ms).2 c (List.mem_filter.mp mc).1
/-- a log of a state with the old view v is the beginning of the final -/
theorem fin_pre {a : AS} {v : Vid} {s : Ste} {O : List Msg} (hO : ∀ t ∈ a.here v, ∃ n, t.log = O.take n) (hs : s ∈ a.here v) : (a.final v).take s.log.length = s.log := by
  have pos := List.length_pos_of_mem hs
  obtain ⟨t, h1, h2⟩ := longest_at pos
  have mt := List.mem_of_getElem? h1
  obtain ⟨i, hi⟩ := List.getElem?_of_mem hs
  have spec := (lgst_spec (ln := lnOf (a.here v)) pos).2.1 i (List.getElem?_eq_some_iff.mp hi).1
  rw [lnOf_at hi, lnOf_at h1] at spec
  obtain ⟨n, en⟩ := hO s hs
  obtain ⟨k, ek⟩ := hO t mt
  have l1 : s.log.length ≤ t.log.length := by omega
  unfold AS.final finOf
  rw [h2, List.take_append_of_le_length l1, en, ek, List.length_take, List.take_take]
  rw [en, ek, List.length_take, List.length_take] at l1
  by_cases c : n ≤ O.length
  · by_cases c2 : k ≤ O.length
    · rw [show min (min n O.length) k = n by omega]
    · rw [show min (min n O.length) k = n by omega]
  · rw [show min (min n O.length) k = min n O.length by omega]
    rw [Nat.min_eq_right (by omega), List.take_length, List.take_of_length_le (by omega)]
end Mus

set_option maxRecDepth 100000
set_option maxHeartbeats 40000000
namespace Mus
open PySem L2
local macro_rules | `(tactic| walk_at "rd") => `(tactic| first
  | refine ⟨_, rfl, ?_⟩ | refine ⟨(True.intro : True), ?_⟩
  | refine ⟨_, _, rfl, rfl, (⟨by decide, by decide, by decide⟩ : CPow _ _), ?_⟩
  | refine ⟨_, _, rfl, rfl, (⟨by decide, by decide⟩ : CDiv _ _), ?_⟩
  | refine ⟨_, _, rfl, rfl, (by show (0 : Int) < _; decide), ?_⟩
  | refine ⟨_, _, rfl, rfl, ?_⟩ | refine ⟨rfl, ?_⟩ | refine iteT ?_ | refine iteF ?_ | refine ⟨_, _, rfl, ?_⟩ | refine .inl ⟨_, rfl, ?_⟩
  | refine ⟨_, _, _, _, _, rfl, (by assumption), (by assumption), (by assumption), rfl, ?_⟩ | refine ⟨_, _, _, _, rfl, rfl, SqT.of (by assumption), rfl, ?_⟩ | refine ⟨_, _, rfl, SqT.of (by assumption), rfl, ?_⟩
  | refine ⟨_, _, _, _, _, rfl, .ty _, Rp.ty (by assumption), kit_int _, ?_⟩ | refine ⟨_, _, _, _, _, rfl, .ty _, Rp.ty (by assumption), kit_bool _, ?_⟩
  | refine ⟨_, _, _, _, _, rfl, .ty _, Rp.ty (by assumption), kit_str _, ?_⟩ | refine ⟨_, _, _, _, _, rfl, .ty _, Rp.ty (by assumption), kit_tup _, ?_⟩)
local macro_rules | `(tactic| walk_at "cal") => `(tactic| first
  | refine ⟨_, _, _, _, _, rfl, (by assumption), ?_⟩ | refine ⟨_, _, _, _, _, rfl, (by assumption), (by assumption), ?_⟩)
local macro_rules | `(tactic| walk_at "sq") => `(tactic| first
  | refine ⟨_, _, rfl, Or.inr (SqT.of (by assumption)), ?_⟩ | refine ⟨_, _, _, _, rfl, rfl, SqT.of (by assumption), rfl, ?_⟩)
local macro_rules | `(tactic| walk_at "rds") => `(tactic| repeat first | walk_at "rd" | walk_at "cal" | walk_at "sq")
local macro_rules | `(tactic| walk_at "ze") => `(tactic| repeat first
  | exact zes_nil | exact ze_bl | exact ze_str | exact ze_non | apply zes_cons | apply ze_tup | apply ze_lst | apply ze_cat | exact di_c | exact di_v rfl | apply di_opC | apply di_op | apply di_neg | apply ze_i | (refine (⟨?_, ?_, ?_⟩ : CPow _ _) <;> decide) | exact Nat.le_of_ble_eq_true rfl | exact ze_varD rfl (by assumption))
local macro_rules | `(tactic| walk_at "rdz") => `(tactic| repeat (fail_if_success (first | show tLst _ _ _ _ | show tAsg (tLst _) _ _ _ _ | show tSeq (tAsg (tLst _) _) _ _ _ _)); first | walk_at "rd" | walk_at "cal" | walk_at "sq")
theorem LstAt.sm {H H' : Hp} {l : Addr} {ds : List PyData} (h : LstAt H l ds) (s : Same H H') : LstAt H' l ds := h.mono (s l) (TupK.of s)
theorem LstAt.dpl {K : PySem.W.Frag} {H : Hp} {y : Addr} {ds : List PyData} (h : LstAt H y ds) : Dp K H (.ref y) (.list ds) := by
  obtain ⟨vs, h1, h2⟩ := h
  exact .lst (SqL.of h1) h2.dp
theorem NGet.sm {w : World} {H H' : Hp} {d b : Addr} {o : Option V} (g : NGet w H d b o) (s : Same H H') : NGet w H' d b o := by
  obtain ⟨ks, k, n1, n2, n3, n4⟩ := g
  exact ⟨ks, k, n1.mono (s _ _ n1.ob) (TupK.of s), n2.mono fun b zs z => s _ _ z, n3, n4⟩
/-- what holds between the turns -/
structure LI (w : World) (CA : Addr) (K : PySem.W.Frag) (H : Hp) (p : Addr) (aa : AA) (a : AS) (d bm vw sc : Addr) (us : List V) (ms : List Mem) (vid : Vid) (vvid : V) (vws : List Vid) (nq : List Int) : Prop where
  O : AAt w CA H p aa a
  N : NM w H d a.k kM (fun v s => TD H v (eS s)) a.g
  ok : ∀ m s, a.g m = some s → StOk ms vws s
  em : a.ms = ms
  ei : a.id = vid
  dp : d ≠ p ∧ d ≠ aa.d
  tm : TD H (.ref bm) (eMs ms)
  tv : TD H vvid (eV vid)
  vs : H vw = some (.lst us)
  tu : TDs H us (vws.map eV)
  l3 : vws.length = 3
  nv : vws.Nodup
  sc : H sc = some (.lst (nq.map V.int))
  m9 : ∀ m ∈ ms, m.1 < 9
  mnd : ms.Nodup
section
variable {w : World} {CA : Addr} {K : PySem.W.Frag} {H H' : Hp} {p : Addr} {aa : AA} {a : AS} {d bm vw sc : Addr} {us : List V} {ms : List Mem} {vid : Vid} {vvid : V} {vws : List Vid} {nq : List Int}
theorem LI.same (h : LI w CA K H p aa a d bm vw sc us ms vid vvid vws nq) (s : Same H H') : LI w CA K H' p aa a d bm vw sc us ms vid vvid vws nq := by
  obtain ⟨ks, z⟩ := h.N.ndo
  exact ⟨h.O.same s, h.N.mono (by rw [s _ _ z, z]) (TupK.of s) (fun _ _ x => x.same s) (Nat.le_refl _), h.ok, h.em, h.ei, h.dp, h.tm.same s, h.tv.same s, s _ _ h.vs, h.tu.same s, h.l3, h.nv, s _ _ h.sc, h.m9, h.mnd⟩
theorem LI.fok (h : LI w CA K H p aa a d bm vw sc us ms vid vvid vws nq) : ∀ m s, a.g m = some s → GsOk s.log ∧ ∀ c ∈ s.pend, PyData.strOk c.2 = true := fun m s e => ⟨by
  obtain ⟨j, n, j3, n12, _, el⟩ := (h.ok m s e).lg
  rw [el]
  exact ordM_ok (by omega) (by omega) n (by omega), fun c hc => ((h.ok m s e).pn c hc).2⟩
theorem LI.pre (h : LI w CA K H p aa a d bm vw sc us ms vid vvid vws nq) {m : Mem} {s : Ste} (e : a.g m = some s) : (a.final s.old).take s.log.length = s.log := by
  obtain ⟨j, n, j3, n12, ej, el⟩ := (h.ok m s e).lg
  refine fin_pre (O := ordM ms (j : Int) ((j : Int) * 37 + 5) 12) (fun t ht => ?_) (AS.here_mem.mpr ⟨m, (h.O.bd m s e).1, e, rfl⟩)
  obtain ⟨m', _, e', ho⟩ := AS.here_mem.mp ht
  obtain ⟨j', n', j3', n12', ej', el'⟩ := (h.ok m' t e').lg
  rw [ho] at ej'
  have z : j' = j := by
    refine Decidable.byContradiction fun ne => ?_
    obtain ⟨h1, e1⟩ := List.getElem?_eq_some_iff.mp ej
    obtain ⟨h2, e2⟩ := List.getElem?_eq_some_iff.mp ej'
    rcases Nat.lt_or_gt_of_ne ne with lt | gt
    · exact List.pairwise_iff_getElem.mp h.nv _ _ h2 h1 lt (e2.trans e1.symm)
    · exact List.pairwise_iff_getElem.mp h.nv _ _ h1 h2 gt (e1.trans e2.symm)
  subst z
  exact ⟨n', by rw [el', ordM_take _ _ _ _ _ n12']⟩
theorem LI.lst (h : LI w CA K H p aa a d bm vw sc us ms vid vvid vws nq) (r : a.ready = true) : LSt w H d a := ⟨h.N, h.O.ml, fun m hm => AS.ready_all r hm, fun m s e => by
  obtain ⟨j, n, _, n12, _, el⟩ := (h.ok m s e).lg
  exact ⟨(h.O.bd m s e).2.1, (h.O.bd m s e).2.2.1, (h.O.bd m s e).2.2.2, by rw [el]; exact ordM_ixd _ _ _ _, fun c hc => ((h.ok m s e).pn c hc).1⟩⟩
theorem StOk.gs {ms : List Mem} {vws : List Vid} {s : Ste} (h : StOk ms vws s) : GsOk s.log ∧ s.log.length ≤ 12 := by
  obtain ⟨j, n, j3, n12, _, el⟩ := h.lg
  rw [el]
  exact ⟨ordM_ok (by omega) (by omega) n (by omega), by rw [ordM_len]; exact n12⟩
end
def sp_law (K : PySem.W.Frag) : Sp := fun vs H Q _ => ∃ (a : Addr) (ns : List Int), vs = [.ref a] ∧ SqL K H a (ns.map V.int) ∧ ns.length ≤ 63 ∧ ∀ H', Q (.bl true) H'
section
variable {P : Program} {w : World} {K : PySem.W.Frag} {mg : Str → Option Value} {base : Heap} {CA CV : Addr}
abbrev s_law : Stmt := top 16
abbrev N_law : List Str := ["script", "first", "members", "view_id", "attempt", "views", "states", "cell", "seed", "k", "letter", "kind", "counts", "told", "missing", "finals", "view", "final", "member", "log", "due"]
abbrev P_law : List Str := ["script"]
theorem sc_law : FnScope N_law P_law (defScope s_law) := ⟨rfl, rfl, rfl, by decide +kernel, rfl, by decide +kernel, by decide +kernel⟩
theorem ok_law {f : Addr} {fd : FuncData} (T : Tx K mg CA CV) (c__law_cell : DefOk P w K mg base CX0 "_law_cell" P__law_cell 1 (sp_cell20 K)) (k_Attempt : MkOk P w K mg base CA "Attempt" P_Attempt___init__ 1 (sp_ainit w CA)) (m_Attempt_add : MethOk P w K mg base CX0 CA "add" P_Attempt_add 1 (sp_aadd w CA)) (m_Attempt_missing : MethOk P w K mg base CX0 CA "missing" P_Attempt_missing 1 (sp_amiss w CA)) (m_Attempt_ready : MethOk P w K mg base CX0 CA "ready" P_Attempt_ready 2 (sp_aready w CA)) (m_Attempt_finals : MethOk P w K mg base (L2.CX P w) CA "finals" P_Attempt_finals 3 (sp_afins w CA CV))
    (c__law_views : DefOk P w K mg base CX0 "_law_views" P__law_views 1 (sp_lviews)) (c__law_state : DefOk P w K mg base CX0 "_law_state" P__law_state 2 (sp_lst)) (c__law_unready : DefOk P w K mg base CX0 "_law_unready" P__law_unready 4 (sp_unr w CA)) (c__law_finals : DefOk P w K mg base CX0 "_law_finals" P__law_finals 1 (sp_lfins w)) (c__law_rest : DefOk P w K mg base CX0 "_law_rest" P__law_rest 2 (sp_lrest)) (F : Fun K "law" "law" s_law f fd) : FnOk P w K mg base CX0 5 f fd P_law (sp_law K) := by
  have nd := sc_law.nd
  refine F.ok sc_law (fun vs H Q E h => ?_) (fun cdv A outer s H vs Q E hr h => ?_)
  · obtain ⟨_, _, rfl, _⟩ := h
    rfl
  · obtain ⟨sc0, ns, rfl, hS, hlen, q⟩ := h
    have hs := sl
    refine ⟨_, (pss_cons (ps_set (i := 1) nd rfl (Or.inr rfl) (pe_callB call_abs (by rfl) T.b_abs (by decide +kernel) (pa_cons (pe_callTy call_int1 (by rfl) T.b_int (by decide +kernel) (pa_cons (pcall c__law_cell hr (pa_cons (pv 0) (pa_cons pe_int pa_nil))) pa_nil)) pa_nil)))
      (pss_cons (ps_set (i := 2) nd rfl (Or.inl rfl) (pe_callTy call_tuple_of (by rfl) T.b_tuple (by decide +kernel) (pa_cons (pe_lcX (own := [("k", 9)]) rfl nd (pi_range1 (by rfl) T.b_range (pa_cons (pe_op op_add pe_int (pe_op op_mod (pv 1) pe_int)) pa_nil)) (blkOk_by (own := [("k", 9)]) (N := N_law) (sc := defScope s_law) (by decide +kernel)) (fun _ _ _ _ _ => (pg_name (i := 9) nd rfl (Or.inl rfl))) (fun _ _ _ _ _ => pts_nil) (fun _ _ _ _ _ => (pe_tup (pa_cons (pv 9) (pa_cons (pe_op op_add pe_int (pe_op op_mod (pe_op op_fdivW (pv 1) (pe_op op_add (pv 9) pe_int)) pe_int)) pa_nil))))) pa_nil)))
      (pss_cons (ps_set (i := 3) nd rfl (Or.inl rfl) (pe_tup (pa_cons (pe_op op_add pe_int (pe_op op_mod (pv 1) pe_int)) (pa_cons (pe_ix ix_tup (pv 2) pe_int (fun _ _ => rfl)) pa_nil))))
      (pss_cons (ps_set (i := 4) nd rfl (Or.inl rfl) (pmake k_Attempt hr (pa_cons (pv 3) (pa_cons (pv 2) pa_nil))))
      (pss_cons (ps_set (i := 5) nd rfl (Or.inl rfl) (pcall c__law_views hr (pa_cons (pv 1) pa_nil)))
      (pss_cons (ps_set (i := 6) nd rfl (Or.inr rfl) pe_nnew)
      (pss_cons (ps_for PassesOwn.never rfl (pi_list (pe_slice sl_list (pv 0) (po_some pe_int) po_none)) (pg_name (i := 7) nd rfl (Or.inl rfl))
        (pss_cons (ps_set (i := 8) nd rfl (Or.inl rfl) (pe_callB call_abs (by rfl) T.b_abs (by decide +kernel) (pa_cons (pe_callTy call_int1 (by rfl) T.b_int (by decide +kernel) (pa_cons (pv 7) pa_nil)) pa_nil)))
        (pss_cons (ps_set (i := 9) nd rfl (Or.inl rfl) (pe_op op_mod (pv 8) (pe_callB call_len_seq (by rfl) T.b_len (by decide +kernel) (pa_cons (pv 2) pa_nil))))
        (pss_cons (ps_set (i := 10) nd rfl (Or.inl rfl) (pcall c__law_state hr (pa_cons (pv 2) (pa_cons (pv 3) (pa_cons (pv 5) (pa_cons (pv 9) (pa_cons (pe_op op_fdiv (pv 8) pe_int) pa_nil)))))))
        (pss_cons (ps_set (i := 11) nd rfl (Or.inl rfl) (pe_op op_mod (pe_op op_fdiv (pv 8) pe_int) pe_int))
        (C8.pss_cut (ps_if (pt_cmpR op_eq (pv 11) pe_int (nomark _))
          (pss_one (ps_set (i := 10) nd rfl (Or.inl rfl) (pe_op op_catA (pe_op op_catA (pe_slice sl_tupA (pv 10) po_none (po_some pe_int)) (pe_tup (pa_cons (pe_tup (pa_cons (pe_op op_add (pe_ix ix_tup (pv 3) pe_int (fun _ _ => rfl)) pe_int) (pa_cons (pe_ix ix_tup (pv 3) pe_int (fun _ _ => rfl)) pa_nil))) pa_nil))) (pe_slice sl_tupA (pv 10) (po_some pe_int) po_none))))
          pss_nil)
        (C8.pss_cut (ps_if (pt_cmpR op_eq (pv 11) pe_int (nomark _))
          (pss_one (ps_set (i := 10) nd rfl (Or.inl rfl) (pe_op op_catA (pe_tup (pa_cons (pe_ix ix_tup (pv 10) pe_int (fun _ _ => rfl)) (pa_cons (pe_tup (pa_cons pe_int (pa_cons pe_int pa_nil))) pa_nil))) (pe_slice sl_tupA (pv 10) (po_some pe_int) po_none))))
          pss_nil)
        (C8.pss_cut (ps_set (i := 12) nd rfl (Or.inl rfl) (pe_and (pe_cmpR op_gt (pv 11) pe_int (nomark _)) (pe_one (pe_cmp (pc_nnotin hr.units (pe_ix ix_tup (pv 2) (pv 9) (fun _ _ => rfl)) (pv 6))))))
        (pss_cons (ps_set (i := 13) nd rfl (Or.inl rfl) (pmeth m_Attempt_add T.cl_Attempt (pv 4) hr (pa_cons (pv 10) pa_nil)))
        (pss_cons (ps_if (PW.pt (pw_or (pt_not (pt_val (pe_callB call_isi (by rfl) T.b_isinstance (by decide +kernel) (pa_cons (pv 13) (pa_cons (pe_ty "bool" T.b_bool) pa_nil))))) (pw_or1 (pt_cmpR op_ne (pv 13) (pv 12) (nomark _)))))
          (pss_one (ps_ret pe_bl))
          pss_nil)
        (C8.pss_cut (ps_if (pt_truth (pv 12) (by intro _; rfl))
          (pss_one (ps_nput hr.units (pv 6) (pe_ix ix_tup (pv 2) (pv 9) (fun _ _ => rfl)) (pv 10) rfl))
          pss_nil)
        (pss_cons (ps_setLcX (i := 14) (own := [("member", 18)]) rfl nd rfl rfl (sw_true rfl rfl rfl (by decide +kernel)) (pi_tup (pv 2)) (blkOk_by (own := [("member", 18)]) (N := N_law) (sc := defScope s_law) (by decide +kernel)) (fun _ _ _ _ _ => (pg_name (i := 18) nd rfl (Or.inl rfl))) (fun _ _ _ _ _ => (pts_one (pt_cmp (pc_nnotin hr.units (pv 18) (pv 6))))) (fun _ _ _ _ _ => (pv 18)))
        (pss_cons (ps_if (PW.pt (pw_or (pt_cmpR (op_neD hr.units) (pmeth0 m_Attempt_missing T.cl_Attempt (pv 4) hr) (pv 14) (nomark _)) (pw_or (pt_not (pt_val (pe_callB call_isi (by rfl) T.b_isinstance (by decide +kernel) (pa_cons (pmeth0 m_Attempt_ready T.cl_Attempt (pv 4) hr) (pa_cons (pe_ty "bool" T.b_bool) pa_nil))))) (pw_or1 (pt_cmpR op_ne (pmeth0 m_Attempt_ready T.cl_Attempt (pv 4) hr) (pe_cmpR op_eq (pe_callB call_len_seq (by rfl) T.b_len (by decide +kernel) (pa_cons (pv 14) pa_nil)) pe_int (nomark _)) (nomark _))))))
          (pss_one (ps_ret pe_bl))
          pss_nil)
        (pss_cons (ps_if (PW.pt (pw_and (pt_cmpR op_gt (pe_callB call_len_seq (by rfl) T.b_len (by decide +kernel) (pa_cons (pv 14) pa_nil)) pe_int (nomark _)) (pw_and1 (pt_not (pt_val (pcall c__law_unready hr (pa_cons (pv 4) pa_nil)))))))
          (pss_one (ps_ret pe_bl))
          pss_nil)
        (pss_one (ps_if (pt_cmpR op_eq (pe_callB call_len_seq (by rfl) T.b_len (by decide +kernel) (pa_cons (pv 14) pa_nil)) pe_int (nomark _))
          (pss_cons (ps_set (i := 15) nd rfl (Or.inl rfl) (pmethE0 m_Attempt_finals T.cl_Attempt takes0 (fun _ _ _ _ h => h) (pv 4) hr))
          (pss_one (ps_if (PW.pt (pw_or (pt_not (pt_val (pe_callB call_isi (by rfl) T.b_isinstance (by decide +kernel) (pa_cons (pv 15) (pa_cons (pe_ty "tuple" T.b_tuple) pa_nil))))) (pw_or1 (pt_cmpR (op_neD hr.units) (pv 15) (pcall c__law_finals hr (pa_cons (pv 6) (pa_cons (pv 2) pa_nil))) (nomark _)))))
            (pss_one (ps_ret pe_bl))
            pss_nil)))
          pss_nil))))))))))))))))
      (C8.pss_cut (ps_if (pt_cmpR op_eq (pe_callB call_len_seq (by rfl) T.b_len (by decide +kernel) (pa_cons (pe_lcX (own := [("member", 18)]) rfl nd (pi_tup (pv 2)) (blkOk_by (own := [("member", 18)]) (N := N_law) (sc := defScope s_law) (by decide +kernel)) (fun _ _ _ _ _ => (pg_name (i := 18) nd rfl (Or.inl rfl))) (fun _ _ _ _ _ => (pts_one (pt_cmp (pc_nnotin hr.units (pv 18) (pv 6))))) (fun _ _ _ _ _ => (pv 18))) pa_nil)) pe_int (nomark _))
        (pss_one (ps_for PassesOwn.never rfl (pi_tup (pmethE0 m_Attempt_finals T.cl_Attempt takes0 (fun _ _ _ _ h => h) (pv 4) hr)) (pg_tup (by rfl) (pgs_cons (pg_name (i := 16) nd rfl (Or.inl rfl)) (pgs_cons (pg_name (i := 17) nd rfl (Or.inl rfl)) pgs_nil)))
          (pss_one (ps_for PassesOwn.never rfl (pi_tup (pv 2)) (pg_name (i := 18) nd rfl (Or.inl rfl))
            (pss_cons (ps_set (i := 19) nd rfl (Or.inl rfl) (pe_ix ix_tup (pe_nget hr.units (pv 6) (pv 18) (fun _ _ => rfl)) pe_int (fun _ _ => rfl)))
            (pss_cons (ps_set (i := 20) nd rfl (Or.inl rfl) pe_non)
            (pss_cons (ps_if (pt_cmpR (op_eqD hr.units) (pe_slice sl_tupA (pv 17) po_none (po_some (pe_callB call_len_seq (by rfl) T.b_len (by decide +kernel) (pa_cons (pv 19) pa_nil)))) (pv 19) (nomark _))
              (pss_one (ps_set (i := 20) nd rfl (Or.inl rfl) (pe_callTy call_list_of (by rfl) T.b_list (by decide +kernel) (pa_cons (pe_slice sl_tupA (pv 17) (po_some (pe_callB call_len_seq (by rfl) T.b_len (by decide +kernel) (pa_cons (pv 19) pa_nil))) po_none) pa_nil))))
              pss_nil)
            (pss_one (ps_if (PW.pt (pw_or (pt_cmpR (op_neD hr.units) (pcall c__law_rest hr (pa_cons (pv 19) (pa_cons (pv 17) pa_nil))) (pv 20) (nomark _)) (pw_or1 (PW.pt (pw_and (pt_cmpR (op_eqD hr.units) (pe_ix ix_tup (pe_nget hr.units (pv 6) (pv 18) (fun _ _ => rfl)) pe_int (fun _ _ => rfl)) (pv 16) (nomark _)) (pw_and1 (pt_cmpR op_isN (pv 20) pe_non (nomark _))))))))
              (pss_one (ps_ret pe_bl))
              pss_nil)))))))))
        pss_nil)
      (pss_one (ps_ret (pe_cmpR (op_eqD hr.units) (pe_lst (pa_cons (pmeth0 m_Attempt_missing T.cl_Attempt (pv 4) hr) pa_nil)) (pe_lst (pa_cons (pe_lcX (own := [("member", 18)]) rfl nd (pi_tup (pv 2)) (blkOk_by (own := [("member", 18)]) (N := N_law) (sc := defScope s_law) (by decide +kernel)) (fun _ _ _ _ _ => (pg_name (i := 18) nd rfl (Or.inl rfl))) (fun _ _ _ _ _ => (pts_one (pt_cmp (pc_nnotin hr.units (pv 18) (pv 6))))) (fun _ _ _ _ _ => (pv 18))) pa_nil)) (nomark _)))))))))))), ?_⟩
    refine ⟨_, rfl, sc0, ns, 0, rfl, by decide, hS, fun x0 => ?_⟩
    refine .inl ⟨_, rfl, ?_⟩
    refine ⟨_, rfl, ?_⟩
    obtain ⟨first, ef, f0⟩ : ∃ first : Int, (if x0 < 0 then -x0 else x0) = first ∧ 0 ≤ first := ⟨_, rfl, by split <;> omega⟩
    rw [ef]
    clear ef x0
    refine ⟨_, rfl, ?_⟩
    refine ⟨_, _, rfl, rfl, (by show (0 : Int) < _; decide), ?_⟩
    refine ⟨_, _, rfl, rfl, ?_⟩
    refine ⟨_, rfl, ?_⟩
    refine ⟨by show (-4611686018427387904 : Int) ≤ 1 + first % 5; omega, by show 1 + first % 5 < (4611686018427387904 : Int); omega, fun D nD => ?_⟩
    refine lc_range (lo := 0) (n := (1 + first % 5).toNat) (fun i H1 => (∃ (ws : List V) (msl : List Mem), H1 D = some (.lst ws) ∧ TDs H1 ws (msl.map eM) ∧ msl.length = i ∧ ∀ (j : Nat) m, msl[j]? = some m → m.1 = (j : Int)) ∧ Same H H1) ?_ ?_ ?_
    · exact ⟨⟨[], [], upd_same, .nil, rfl, fun j m e => by simp at e⟩, same_new nD _⟩
    · rintro i H1 hi ⟨⟨ws, msl, hD, hw, lm, im⟩, s1⟩
      rw [Int.zero_add]
      have i5 : i < 5 := by omega
      have lw := hw.length
      rw [List.length_map] at lw
      refine ⟨rfl, ?_⟩
      refine ⟨_, rfl, ?_⟩
      refine ⟨_, rfl, ?_⟩
      refine ⟨_, rfl, ?_⟩
      refine ⟨_, _, rfl, rfl, ?_⟩
      refine ⟨_, _, rfl, rfl, ?_⟩
      refine ⟨⟨by omega, Nat.lt_trans (n_log (by omega) (by omega)) (by decide)⟩, ?_⟩
      refine ⟨_, _, rfl, rfl, (by show (0 : Int) < _; decide), ?_⟩
      refine ⟨_, _, rfl, rfl, ?_⟩
      refine ⟨by show 2 ≤ sizeLine; omega, fun t nt => ?_⟩
      have s2 := same_new nt (.tup [.int (i : Int), .int (1 + first / ((i : Int) + 2) % 3)])
      have tk : TupK (upd H1 t (.tup [.int (i : Int), .int (1 + first / ((i : Int) + 2) % 3)])) (upd (upd H1 t (.tup [.int (i : Int), .int (1 + first / ((i : Int) + 2) % 3)])) D (.lst (ws ++ [.ref t]))) := tupK_upd fun zs z => by rw [s2 _ _ hD] at z; cases z
      refine ⟨ws, s2 _ _ hD, by omega, ⟨ws ++ [.ref t], msl ++ [((i : Int), 1 + first / ((i : Int) + 2) % 3)], upd_same, ?_, by rw [List.length_append, lm]; rfl, fun j m e => ?_⟩, fun c o e => by rw [upd_ne (ne_of_none e nD)]; exact s2 _ _ (s1 _ _ e)⟩
      · rw [List.map_append]
        exact ((hw.same s2).mono tk).append (.cons ((td_mem (m := ((i : Int), 1 + first / ((i : Int) + 2) % 3)) upd_same).mono tk) .nil)
      · rcases Nat.lt_or_ge j msl.length with lt | ge
        · rw [List.getElem?_append_left lt] at e
          exact im j m e
        · rw [List.getElem?_append_right ge] at e
          have k0 : j - msl.length = 0 := by
            have := (List.getElem?_eq_some_iff.mp e).1
            simp at this
            omega
          rw [k0] at e
          cases e
          show (i : Int) = (j : Int)
          omega
    · rintro H1 ⟨⟨ws, msl, hD, hw, lm, im⟩, s1⟩
      refine ⟨D, ws, rfl, .inl ⟨SqL.of hD, fun bm nb => ?_⟩⟩
      have lw := hw.length
      rw [List.length_map] at lw
      have m5 : msl.length ≤ 5 := by omega
      have m1 : 1 ≤ msl.length := by omega
      have s2 := same_new nb (.tup ws)
      have tm : TD (upd H1 bm (.tup ws)) (.ref bm) (eMs msl) := .tup upd_same (by omega) (hw.same s2)
      have hbm : (upd H1 bm (.tup ws)) bm = some (.tup ws) := upd_same
      have hw2 := hw.same s2
      have s02 := s1.trans s2
      have m9 : ∀ m ∈ msl, m.1 < 9 := fun m h => by
        obtain ⟨j, hj⟩ := List.getElem?_of_mem h
        have := im j m hj
        have := (List.getElem?_eq_some_iff.mp hj).1
        omega
      have mnd : msl.Nodup := by
        refine List.pairwise_iff_getElem.mpr fun i j hi hj hij e => ?_
        have a1 := im i _ (List.getElem?_eq_getElem hi)
        have a2 := im j _ (List.getElem?_eq_getElem hj)
        rw [e, a2] at a1
        omega
      clear s1 s2 hD hw lm im nb nD
      generalize upd H1 bm (.tup ws) = H2 at *
      obtain ⟨m0, rest, em⟩ : ∃ m0 rest, msl = m0 :: rest := by
        cases msl with
        | nil => exact absurd m1 (by decide)
        | cons a b => exact ⟨a, b, rfl⟩
      obtain ⟨w0, hw0, tw0⟩ : ∃ w0, ws[(0 : Int).toNat]? = some w0 ∧ TD H2 w0 (eM m0) := by
        obtain ⟨w0, hw0⟩ : ∃ w0, ws[(0 : Int).toNat]? = some w0 := ⟨_, List.getElem?_eq_getElem (by show 0 < ws.length; omega)⟩
        obtain ⟨m, hm, t⟩ := hw2.map_at hw0
        rw [em] at hm
        cases hm
        exact ⟨w0, hw0, t⟩
      refine ⟨_, rfl, ?_⟩
      refine ⟨_, _, rfl, rfl, (by show (0 : Int) < _; decide), ?_⟩
      refine ⟨_, _, rfl, rfl, ?_⟩
      refine ⟨_, rfl, ?_⟩
      refine ⟨bm, ws, _, w0, rfl, rfl, SqT.of hbm, at_int (by decide) hw0, ?_⟩
      refine ⟨by show 2 ≤ sizeLine; omega, fun tv nv => ?_⟩
      have s3 := same_new nv (.tup [.int (5 + first % 4), w0])
      have tvv : TD (upd H2 tv (.tup [.int (5 + first % 4), w0])) (.ref tv) (eV (5 + first % 4, m0)) := .tup upd_same (by show 2 ≤ 100000; decide) (.cons (.int _) (.cons (tw0.same s3) .nil))
      have tm3 := tm.same s3
      have hbm3 := s3 _ _ hbm
      have s03 := s02.trans s3
      clear s3 tm hbm hw2 tw0 s02 nv
      generalize upd H2 tv (.tup [.int (5 + first % 4), w0]) = H3 at *
      generalize hvid : ((5 + first % 4, m0) : Vid) = vid at *
      refine ⟨_, rfl, ?_⟩
      refine ⟨_, rfl, ?_⟩
      intro p dx np ndx ndp
      have s4 := same_new ndx (.own p)
      have np2 : (upd H3 dx (.own p)) p = none := by rw [upd_ne ndp.symm]; exact np
      have s5 := same_new np2 (.ins CA dx [])
      have s45 := s4.trans s5
      refine ⟨p, dx, .ref tv, .ref bm, vid, msl, rfl, upd_same, tvv.same s45, tm3.same s45, by omega, fun aa H4 O4 edx nd4 f4 => ?_⟩
      refine ⟨rfl, ?_⟩
      have f34 : Same H3 H4 := fun c o e => f4 _ _ (s45 _ _ e) (ne_of_none e np)
      have s04 := s03.trans f34
      have tvv4 := tvv.same f34
      have tm4 := tm3.same f34
      have hbm4 := f34 _ _ hbm3
      clear f4 nd4 s4 s5 s45 np np2 ndx ndp f34 s03 tvv tm3 hbm3 hw0 edx
      refine ⟨_, rfl, ?_⟩
      refine ⟨_, rfl, ?_⟩
      refine ⟨f0, fun vw us vws H5 s5 hvw tu l3 nvv => ?_⟩
      have O5 := O4.same s5
      have s05 := s04.trans s5
      have tvv5 := tvv4.same s5
      have tm5 := tm4.same s5
      have hbm5 := s5 _ _ hbm4
      clear O4 s04 tvv4 tm4 hbm4 s5
      refine fun d nd0 ds => ?_
      have s6 := same_new nd0 (ndO w d [])
      have N6 : NM w (upd H5 d (ndO w d [])) d 0 kM (fun v s => TD (upd H5 d (ndO w d [])) v (eS s)) (AS.new vid msl).g := nm_new ds
      have dp : d ≠ p ∧ d ≠ aa.d := by
        refine ⟨fun z => ?_, fun z => ?_⟩
        · rw [z, O5.ob] at nd0; cases nd0
        · obtain ⟨ks, e⟩ := O5.g.ndo
          rw [z, e] at nd0; cases nd0
      have O6 := O5.same s6
      have s06 := s05.trans s6
      have tvv6 := tvv5.same s6
      have tm6 := tm5.same s6
      have hvw6 := s6 _ _ hvw
      have tu6 := tu.same s6
      have hbm6 := s6 _ _ hbm5
      clear O5 s05 tvv5 tm5 hvw tu hbm5 s6 nd0
      generalize e6 : upd H5 d (ndO _ d []) = H6
      have N6 : NM w H6 d 0 kM (fun v s => TD H6 v (eS s)) (AS.new vid msl).g := by rw [← e6]; exact N6
      have O6 : AAt w CA H6 p aa (AS.new vid msl) := by rw [← e6]; exact O6
      have s06 : Same H H6 := by rw [← e6]; exact s06
      have tvv6 : TD H6 (.ref tv) (eV vid) := by rw [← e6]; exact tvv6
      have tm6 : TD H6 (.ref bm) (eMs msl) := by rw [← e6]; exact tm6
      have hvw6 : H6 vw = some (.lst us) := by rw [← e6]; exact hvw6
      have tu6 : TDs H6 us (vws.map eV) := by rw [← e6]; exact tu6
      clear e6 hbm6
      refine ⟨_, rfl, ?_⟩
      refine ⟨_, rfl, ?_⟩
      refine ⟨sc0, _, rfl, s06.seq hS, fun sl nsl => ?_⟩
      have ec : cutV (ns.map V.int) (some 1) none = (ns.map V.int).drop 1 := cut_lo (ns.map V.int) 1
      rw [ec, ← List.map_drop]
      have s7 := same_new nsl (.lst ((ns.drop 1).map V.int))
      have hsl7 : (upd H6 sl (.lst ((ns.drop 1).map V.int))) sl = some (.lst ((ns.drop 1).map V.int)) := upd_same
      have I7 : LI w CA K (upd H6 sl (.lst ((ns.drop 1).map V.int))) p aa (AS.new vid msl) d bm vw sl us msl vid (.ref tv) vws (ns.drop 1) :=
        ⟨O6.same s7, by
          obtain ⟨ks, z⟩ := N6.ndo
          exact N6.mono (by rw [s7 _ _ z, z]) (TupK.of s7) (fun _ _ x => x.same s7) (Nat.le_refl _), fun m s e => (by cases e), rfl, rfl, dp, tm6.same s7, tvv6.same s7, s7 _ _ hvw6, tu6.same s7, l3, nvv, hsl7, m9, mnd⟩
      have lq : (ns.drop 1).length ≤ 63 := by rw [List.length_drop]; omega
      clear O6 N6 dp tm6 tvv6 hvw6 tu6 l3 nvv hsl7 s06 hS ec s7 nsl lw m9 mnd
      generalize ns.drop 1 = nq at *
      generalize upd H6 sl (.lst (nq.map V.int)) = H7 at *
      clear H6
      refine ⟨sl, rfl, ⟨_, SqL.of I7.sc⟩, for_list (K := K) (xs := nq.map V.int) (fun i σ H8 => (∃ x7 x8 x9 x10 x11 x12 x13 x14 x15 : Option V, σ = [some (.ref sc0), some (.int first), some (.ref bm), some (.ref tv), some (.ref p), some (.ref vw), some (.ref d), x7, x8, x9, x10, x11, x12, x13, x14, x15, none, none, none, none, none]) ∧ ∃ a, LI w CA K H8 p aa a d bm vw sl us msl vid (.ref tv) vws nq ∧ a.k ≤ i) ?_ ?_ ?_ ?_⟩
      · exact ⟨⟨_, _, _, _, _, _, _, _, _, rfl⟩, _, I7, Nat.le_refl _⟩
      · rintro i _ H8 _ ⟨_, a, I8, _⟩
        exact SqL.of I8.sc
      · rintro i x _ H8 hi ⟨⟨x7, x8, x9, x10, x11, x12, x13, x14, x15, rfl⟩, a, I8, ka⟩
        have i63 : i < 63 := by
          have := (List.getElem?_eq_some_iff.mp hi).1
          rw [List.length_map] at this
          omega
        obtain ⟨z, rfl⟩ : ∃ z : Int, x = .int z := by
          rw [List.getElem?_map] at hi
          obtain ⟨z, _, e⟩ := Option.map_eq_some_iff.mp hi
          exact ⟨z, e.symm⟩
        obtain ⟨seed, ese, se0⟩ : ∃ seed : Int, (if z < 0 then -z else z) = seed ∧ 0 ≤ seed := ⟨_, rfl, by split <;> omega⟩
        obtain ⟨k, ek, kl⟩ : ∃ k : Nat, seed % (msl.length : Int) = (k : Int) ∧ k < msl.length := by
          have a0 : 0 ≤ seed % (msl.length : Int) := Int.emod_nonneg _ (by omega)
          have a1 : seed % (msl.length : Int) < (msl.length : Int) := Int.emod_lt_of_pos _ (by omega)
          exact ⟨(seed % (msl.length : Int)).toNat, by omega, by omega⟩
        obtain ⟨m, hk⟩ : ∃ m, msl[k]? = some m := ⟨_, List.getElem?_eq_getElem kl⟩
        obtain ⟨bm', xs, ebm, hbm, _, hx⟩ := (show TD H8 (.ref bm) (.tuple (msl.map eM)) from I8.tm).tups
        cases ebm
        have lx := hx.length
        rw [List.length_map] at lx
        refine ⟨_, rfl, .inl ⟨_, rfl, ?_⟩⟩
        refine ⟨_, rfl, ?_⟩
        rw [ese]
        clear ese hi
        refine ⟨_, rfl, _, rfl, bm, xs, rfl, .inr (SqT.of hbm), ?_⟩
        rw [lx]
        refine ⟨_, _, rfl, rfl, (by show (0 : Int) < (msl.length : Int); omega), ?_⟩
        show gName 9 (V.int (seed % (msl.length : Int))) _ H8 _
        rw [ek]
        refine ⟨_, rfl, ?_⟩
        refine ⟨_, rfl, ?_⟩
        refine ⟨_, rfl, ?_⟩
        refine ⟨_, rfl, ?_⟩
        refine ⟨_, rfl, ?_⟩
        refine ⟨_, _, rfl, rfl, (⟨by decide, by decide⟩ : CDiv _ _), ?_⟩
        refine ⟨.ref bm, .ref tv, vw, us, msl, vid, vws, k, seed / 5, m, rfl, I8.tm, I8.tv, I8.vs, I8.tu, I8.l3, hk, by omega, Int.ediv_nonneg se0 (by decide), fun r st H9 s9 t9 ok9 who9 att9 => ?_⟩
        have I9 := I8.same s9
        have hbm9 := s9 _ _ hbm
        have hx9 := hx.same s9
        clear I8 hbm hx s9
        refine ⟨_, rfl, ?_⟩
        refine ⟨_, _, rfl, rfl, (⟨by decide, by decide⟩ : CDiv _ _), ?_⟩
        refine ⟨_, _, rfl, rfl, (by show (0 : Int) < _; decide), ?_⟩
        refine ⟨fun σ' H' => ∃ lv : Addr, σ' = [some (.ref sc0), some (.int first), some (.ref bm), some (.ref tv), some (.ref p), some (.ref vw), some (.ref d), some (.int z), some (.int seed), some (.int (k : Nat)), some (.ref lv), some (.int (seed / 35 % 6)), x12, x13, x14, x15, none, none, none, none, none] ∧ Same H9 H' ∧ TD H' (.ref lv) (eS (if seed / 35 % 6 = 0 then { st with att := (vid.1 + 1, vid.2) } else st)), ?_, ?_⟩
        · walk_at "rds"
          refine iB (fun h => ?_) (fun h => ?_)
          · have h : seed / 35 % 6 = 0 := by simpa using h
            rw [if_pos h]
            refine ⟨_, rfl, ?_⟩
            refine ⟨_, rfl, ?_⟩
            have t9' : TD H9 (.ref r) (.tuple [.str "state", eM st.who, eV st.att, eV st.old, eGs st.log, eCs st.pend]) := t9
            show rSlA _ (.ref r) none (some ((2 : Nat) : Int)) H9 _
            refine sl_take t9' fun p1 H10 s10 t10 => ?_
            obtain ⟨tv', u, etv, htv, tu0⟩ := (I9.tv.same s10).vid
            cases etv
            refine ⟨_, rfl, ?_⟩
            refine ⟨_, _, _, _, rfl, rfl, SqT.of (by assumption), rfl, ?_⟩
            refine ⟨_, _, rfl, rfl, ?_⟩
            refine ⟨_, rfl, ?_⟩
            refine ⟨_, _, _, _, rfl, rfl, SqT.of (by assumption), rfl, ?_⟩
            refine ⟨by show 2 ≤ sizeLine; omega, fun t1 nt1 => ?_⟩
            have s11 := same_new nt1 (.tup [.int (vid.1 + 1), u])
            have d1 : TD (upd H10 t1 (.tup [.int (vid.1 + 1), u])) (.ref t1) (eV (vid.1 + 1, vid.2)) := .tup upd_same (by show 2 ≤ 100000; decide) (.cons (.int _) (.cons (tu0.same s11) .nil))
            refine ⟨by show 1 ≤ sizeLine; omega, fun t2 nt2 => ?_⟩
            have s12 := same_new nt2 (.tup [.ref t1])
            have d2 : TD (upd (upd H10 t1 (.tup [.int (vid.1 + 1), u])) t2 (.tup [.ref t1])) (.ref t2) (.tuple [eV (vid.1 + 1, vid.2)]) := .tup upd_same (by show 1 ≤ 100000; decide) (.cons (d1.same s12) .nil)
            have s1012 := s11.trans s12
            have t12 := t10.same s1012
            have t9b := (t9'.same s10).same s1012
            have s912 := s10.trans s1012
            clear s11 s12 d1 nt1 nt2 htv tu0 t10 s1012 s10
            generalize upd (upd H10 t1 (.tup [.int (vid.1 + 1), u])) t2 (.tup [.ref t1]) = H12 at *
            refine cat_td t12 d2 (by show 2 + 1 ≤ 100000; decide) fun r1 H13 s13 t13 => ?_
            have t9c := t9b.same s13
            have s913 := s912.trans s13
            refine ⟨_, rfl, ?_⟩
            refine ⟨_, rfl, ?_⟩
            dsimp only [tNoPart]
            refine sl_drop (n := 3) t9c fun p2 H14 s14 t14 => ?_
            refine cat_td (t13.same s14) t14 (by show 3 + 3 ≤ 100000; decide) fun r2 H15 s15 t15 => ?_
            exact ⟨r2, rfl, s913.trans (s14.trans s15), t15⟩
          · have h : ¬ seed / 35 % 6 = 0 := by simpa using h
            rw [if_neg h]
            exact ⟨_, rfl, Same.refl _, t9⟩
        · rintro σ' H10 ⟨lv, rfl, s10, t10⟩
          have I10 := I9.same s10
          have hbm10 := s10 _ _ hbm9
          have hx10 := hx9.same s10
          clear I9 hbm9 hx9 t9 s10
          generalize hst1 : (if seed / 35 % 6 = 0 then { st with att := (vid.1 + 1, vid.2) } else st) = st1 at *
          refine ⟨fun σ' H' => ∃ lv : Addr, σ' = [some (.ref sc0), some (.int first), some (.ref bm), some (.ref tv), some (.ref p), some (.ref vw), some (.ref d), some (.int z), some (.int seed), some (.int (k : Nat)), some (.ref lv), some (.int (seed / 35 % 6)), x12, x13, x14, x15, none, none, none, none, none] ∧ Same H10 H' ∧ TD H' (.ref lv) (eS (if seed / 35 % 6 = 1 then { st1 with who := (9, 1) } else st1)), ?_, ?_⟩
          · walk_at "rds"
            refine iB (fun h => ?_) (fun h => ?_)
            · have h : seed / 35 % 6 = 1 := by simpa using h
              rw [if_pos h]
              have t10' : TD H10 (.ref lv) (.tuple [.str "state", eM st1.who, eV st1.att, eV st1.old, eGs st1.log, eCs st1.pend]) := t10
              obtain ⟨b', y1, y2, y3, y4, y5, eb', hb', _⟩ := t10.ste
              cases eb'
              refine ⟨_, rfl, ?_⟩
              refine ⟨_, _, _, _, rfl, rfl, SqT.of (by assumption), rfl, ?_⟩
              refine ⟨by show 2 ≤ sizeLine; omega, fun t1 nt1 => ?_⟩
              have s11 := same_new nt1 (.tup [.int 9, .int 1])
              refine ⟨by show 2 ≤ sizeLine; omega, fun t2 nt2 => ?_⟩
              have s12 := same_new nt2 (.tup [.str "state", .ref t1])
              have d2 : TD (upd (upd H10 t1 (.tup [.int 9, .int 1])) t2 (.tup [.str "state", .ref t1])) (.ref t2) (.tuple [.str "state", eM (9, 1)]) := .tup upd_same (by show 2 ≤ 100000; decide) (.cons (.str _) (.cons ((td_mem (m := (9, 1)) upd_same).same s12) .nil))
              have s1012 := s11.trans s12
              have t12 := t10'.same s1012
              clear s11 s12 nt1 nt2 hb'
              generalize upd (upd H10 t1 (.tup [.int 9, .int 1])) t2 (.tup [.str "state", .ref t1]) = H12 at *
              refine ⟨_, rfl, ?_⟩
              refine ⟨_, rfl, ?_⟩
              dsimp only [tNoPart]
              refine sl_drop (n := 2) t12 fun p2 H13 s13 t13 => ?_
              refine cat_td (d2.same s13) t13 (by show 2 + 4 ≤ 100000; decide) fun r2 H14 s14 t14 => ?_
              exact ⟨r2, rfl, s1012.trans (s13.trans s14), t14⟩
            · have h : ¬ seed / 35 % 6 = 1 := by simpa using h
              rw [if_neg h]
              exact ⟨_, rfl, Same.refl _, t10⟩
          · rintro σ' H11 ⟨lv2, rfl, s11, t11⟩
            have I11 := I10.same s11
            have hbm11 := s11 _ _ hbm10
            have hx11 := hx10.same s11
            clear I10 hbm10 hx10 t10 s11
            generalize hst2 : (if seed / 35 % 6 = 1 then { st1 with who := (9, 1) } else st1) = st2 at *
            have mm : m ∈ msl := List.mem_of_getElem? hk
            have k0 : 0 ≤ seed / 35 % 6 := Int.emod_nonneg _ (by decide)
            -- what is counted
            have cnt : a.counts st2 = (decide (1 < seed / 35 % 6) && (a.g m).isNone) := by
              unfold AS.counts
              rw [I11.em, I11.ei]
              by_cases c0 : seed / 35 % 6 = 0
              · have e2 : st2 = st1 := by rw [← hst2, if_neg (by omega)]
                rw [if_pos c0] at hst1
                rw [e2, ← hst1, decide_eq_false (by omega : ¬ 1 < seed / 35 % 6), Bool.false_and]
                refine decide_eq_false fun z => ?_
                have := congrArg Prod.fst z.1
                have : vid.1 + 1 = vid.1 := this
                omega
              · rw [if_neg c0] at hst1
                by_cases c1 : seed / 35 % 6 = 1
                · rw [if_pos c1] at hst2
                  rw [← hst2, decide_eq_false (by omega : ¬ 1 < seed / 35 % 6), Bool.false_and]
                  refine decide_eq_false fun z => ?_
                  have := I11.m9 (9, 1) z.2.1
                  exact absurd this (by decide)
                · rw [if_neg c1] at hst2
                  rw [← hst2, ← hst1, decide_eq_true (by omega : 1 < seed / 35 % 6), Bool.true_and, att9, who9]
                  cases g : a.g m with
                  | none => exact decide_eq_true ⟨rfl, mm, rfl⟩
                  | some x => exact decide_eq_false fun z => by cases z.2.2
            have okst : a.counts st2 = true → st2 = st := fun z => by
              rw [cnt, Bool.and_eq_true, decide_eq_true_eq] at z
              rw [← hst2, if_neg (by omega), ← hst1, if_neg (by omega)]
            have lns : st2.log.length ≤ 1000 ∧ st2.pend.length ≤ 1000 := by
              have z1 : st1.log = st.log ∧ st1.pend = st.pend := by
                rw [← hst1]
                split <;> exact ⟨rfl, rfl⟩
              have z2 : st2.log = st1.log ∧ st2.pend = st1.pend := by
                rw [← hst2]
                split <;> exact ⟨rfl, rfl⟩
              rw [z2.1, z2.2, z1.1, z1.2]
              have g1 := ok9.gs.2
              have g2 := ok9.pl
              exact ⟨by omega, by omega⟩
            clear hst1 hst2
            obtain ⟨y, hy, ty⟩ : ∃ y, xs[((k : Nat) : Int).toNat]? = some y ∧ TD H11 y (eM m) := by
              obtain ⟨y, hy⟩ : ∃ y, xs[((k : Nat) : Int).toNat]? = some y := ⟨_, List.getElem?_eq_getElem (by omega)⟩
              obtain ⟨m', hm', t⟩ := hx11.map_at hy
              have e : ((k : Nat) : Int).toNat = k := by omega
              rw [e, hk] at hm'
              cases hm'
              exact ⟨y, hy, t⟩
            have ay : atI xs (k : Int) = some y := at_int (by omega) hy
            obtain ⟨cy, rfl, nky⟩ := ty.nk
            refine ⟨fun σ' H' => σ' = [some (.ref sc0), some (.int first), some (.ref bm), some (.ref tv), some (.ref p), some (.ref vw), some (.ref d), some (.int z), some (.int seed), some (.int (k : Nat)), some (.ref lv2), some (.int (seed / 35 % 6)), some (.bl (a.counts st2)), x13, x14, x15, none, none, none, none, none] ∧ H' = H11, ?_, ?_⟩
            · obtain ⟨o, g1, g2⟩ := I11.N.get nky (kM_depth _)
              have iso := g2.iss
              refine ⟨_, rfl, ?_⟩
              refine ⟨_, _, rfl, rfl, ?_⟩
              refine ⟨_, rfl, ?_⟩
              refine iB (fun h => ?_) (fun h => ?_)
              · have h : decide (1 < seed / 35 % 6) = true := h
                refine ⟨_, rfl, ?_⟩
                refine ⟨_, rfl, ?_⟩
                refine ⟨bm, xs, _, .ref cy, rfl, rfl, SqT.of hbm11, ay, ?_⟩
                have e : (!o.isSome) = a.counts st2 := by
                  rw [iso, cnt, h, Bool.true_and]
                  cases a.g m <;> rfl
                refine ⟨_, rfl, ?_⟩
                refine ⟨d, cy, o, rfl, rfl, g1, ?_⟩
                exact ⟨by rw [← e]; rfl, rfl⟩
              · have h : decide (1 < seed / 35 % 6) = false := h
                rw [cnt, h, Bool.false_and]
                exact ⟨rfl, rfl⟩
            · rintro σ' H12 ⟨rfl, rfl⟩
              have ob := I11.O.ob
              refine ⟨_, rfl, ?_⟩
              refine ⟨p, aa.dx, _, rfl, ob, rfl, _, rfl, p, aa, a, .ref lv2, st2, rfl, I11.O, t11, by omega, lns.1, lns.2, fun H13 O13 f13 => ?_⟩
              obtain ⟨ks, ekd⟩ := I11.N.ndo
              have k13 : TupK H12 H13 := f13.t
              have fr : ∀ c o, H12 c = some o → c ≠ aa.d → H13 c = some o := fun c o e n => f13.k _ _ e fun z => n (List.mem_singleton.mp z)
              have naa : ∀ {c : Addr} {zs : List V}, H12 c = some (.lst zs) → c ≠ aa.d := fun {c zs} e z => by
                obtain ⟨ks, e2⟩ := I11.O.g.ndo
                rw [z, e2] at e; cases e
              have N13 : NM w H13 d a.k kM (fun v s => TD H13 v (eS s)) a.g := I11.N.mono (by rw [fr _ _ ekd I11.dp.2, ekd]) k13 (fun _ _ x => x.mono k13) (Nat.le_refl _)
              have tm13 := I11.tm.mono k13
              have tv13 := I11.tv.mono k13
              have vs13 := fr _ _ I11.vs (naa I11.vs)
              have tu13 := I11.tu.mono k13
              have sc13 := fr _ _ I11.sc (naa I11.sc)
              have ty13 := ty.mono k13
              have nk13 := nky.mono k13
              have t13 := t11.mono k13
              have hbm13 := k13 _ _ hbm11
              have hx13 := hx11.mono k13
              obtain ⟨iok, iem, iei, idp, il3, inv, im9, imnd⟩ := (⟨I11.ok, I11.em, I11.ei, I11.dp, I11.l3, I11.nv, I11.m9, I11.mnd⟩ : (∀ m s, a.g m = some s → StOk msl vws s) ∧ a.ms = msl ∧ a.id = vid ∧ (d ≠ p ∧ d ≠ aa.d) ∧ vws.length = 3 ∧ vws.Nodup ∧ (∀ m ∈ msl, m.1 < 9) ∧ msl.Nodup)
              clear I11 t11 ty nky hbm11 hx11 ob f13 k13 fr naa ekd cnt
              refine ⟨_, rfl, ?_⟩
              refine ⟨_, _, _, _, true, rfl, .ty _, .base (.bl _), kit_ty (by decide +kernel), ?_⟩
              refine ⟨_, rfl, ?_⟩
              refine iB (fun h => by cases h) (fun _ => ?_)
              refine ⟨_, rfl, ?_⟩
              refine ⟨_, rfl, ?_⟩
              refine ⟨rfl, ?_⟩
              refine ⟨_, rfl, ?_⟩
              refine iB (fun h => by simp at h) (fun _ => ?_)
              refine ⟨fun σ' H' => σ' = [some (.ref sc0), some (.int first), some (.ref bm), some (.ref tv), some (.ref p), some (.ref vw), some (.ref d), some (.int z), some (.int seed), some (.int (k : Nat)), some (.ref lv2), some (.int (seed / 35 % 6)), some (.bl (a.counts st2)), some (.bl (a.counts st2)), x14, x15, none, none, none, none, none] ∧ LI w CA K H' p aa (a.add st2) d bm vw sl us msl vid (.ref tv) vws nq ∧ (a.add st2).k ≤ i + 1, ?_, ?_⟩
              · walk_at "rds"
                refine iB (fun h => ?_) (fun h => ?_)
                · have h : a.counts st2 = true := h
                  have e2 := okst h
                  have ea : a.add st2 = { a with g := setM a.g m st2, k := a.k + 1 } := by
                    unfold AS.add
                    rw [if_pos h, e2, who9]
                  refine ⟨_, rfl, ?_⟩
                  refine ⟨_, rfl, ?_⟩
                  refine ⟨_, rfl, ?_⟩
                  refine ⟨_, rfl, ?_⟩
                  refine ⟨bm, xs, _, .ref cy, rfl, rfl, SqT.of hbm13, ay, ?_⟩
                  obtain ⟨ks, m1, m2, m3, m4⟩ := N13.ex
                  refine ⟨d, cy, ks, kM m, rfl, rfl, m1, nk13, kM_depth _, ?_⟩
                  have kt : TupK H13 (upd H13 d (ndO w d (putN ks (kM m) cy (.ref lv2)))) := tupK_upd fun xs z => by rw [m1.ob] at z; cases z
                  have nl : ∀ {c : Addr} {zs : List V}, H13 c = some (.lst zs) → c ≠ d := fun {c zs} e z => by rw [z, m1.ob] at e; cases e
                  have OO : AAt w CA (upd H13 d (ndO w d (putN ks (kM m) cy (.ref lv2)))) p aa (a.add st2) := O13.mono (fun b hb o e => by
                    have nb : b ≠ d := by
                      simp only [List.mem_cons, List.not_mem_nil, or_false] at hb
                      rcases hb with rfl | rfl
                      · exact idp.1.symm
                      · exact idp.2.symm
                    rw [upd_ne nb]; exact e) kt
                  rw [ea] at OO ⊢
                  refine ⟨rfl, ⟨OO, NM.put (fun x y => kM_inj) m1 m2 m3 m4 nk13 (kM_depth _) (by omega) (t13.mono kt) fun v x z => z.mono kt, fun m' s' z => ?_, iem, iei, idp, tm13.mono kt, tv13.mono kt, by rw [upd_ne (nl vs13)]; exact vs13, tu13.mono kt, il3, inv, by rw [upd_ne (nl sc13)]; exact sc13, im9, imnd⟩, by show a.k + 1 ≤ i + 1; omega⟩
                  have z : setM a.g m st2 m' = some s' := z
                  unfold setM at z
                  by_cases e : m' = m
                  · rw [if_pos e] at z
                    cases z
                    rw [e2]; exact ok9
                  · rw [if_neg e] at z
                    exact iok m' s' z
                · have h : a.counts st2 = false := h
                  have ea : a.add st2 = a := by
                    unfold AS.add
                    rw [h, if_neg Bool.false_ne_true]
                  rw [ea] at O13 ⊢
                  exact ⟨rfl, ⟨O13, N13, iok, iem, iei, idp, tm13, tv13, vs13, tu13, il3, inv, sc13, im9, imnd⟩, by omega⟩
              · rintro σ' H14 ⟨rfl, I14, ka'⟩
                clear nk13 t13 hbm13 hx13 sc13 tu13 vs13 tv13 tm13 N13 O13 okst lns ok9 who9 att9 ay mm k0 imnd im9 inv il3 idp iei iem iok hk hy
                generalize a.add st2 = a' at *
                generalize a.counts st2 = b1 at *
                generalize seed / 35 % 6 = b2 at *
                clear ty13
                clear ka a st1 st st2 m
                obtain ⟨bm', xs, ebm, hbm, _, hx⟩ := (show TD H14 (.ref bm) (.tuple (msl.map eM)) from I14.tm).tups
                cases ebm
                have lx := hx.length
                rw [List.length_map] at lx
                refine ⟨_, rfl, ?_⟩
                refine ⟨_, rfl, ?_⟩
                refine ⟨⟨_, SqT.of hbm⟩, fun D nD => ?_⟩
                refine lc_tup (K := K) (a := bm) (xs := xs) (fun i H' => LstAt H' D (((msl.take i).filter fun m => (a'.g m).isNone).map eM) ∧ Same H14 H') ?_ ?_ ?_ ?_
                · exact ⟨⟨[], upd_same, .nil⟩, same_new nD _⟩
                · rintro i H' _ ⟨_, s1⟩
                  exact SqT.of (s1 _ _ hbm)
                · rintro i x H' hi ⟨⟨ws, hD, hw⟩, s1⟩
                  obtain ⟨m, hm, rd⟩ := hx.map_at hi
                  have ht := take_snoc hm
                  obtain ⟨c, rfl, nk⟩ := (rd.same s1).nk
                  obtain ⟨o, g1, g2⟩ := (I14.same s1).N.get nk (kM_depth _)
                  refine ⟨rfl, ?_⟩
                  refine ⟨_, rfl, ?_⟩
                  refine ⟨_, rfl, ?_⟩
                  refine ⟨d, c, o, rfl, rfl, g1, ?_⟩
                  rw [g2.iss]
                  refine ⟨_, rfl, ?_⟩
                  have lw := hw.length
                  rw [List.length_map] at lw
                  have := List.length_filter_le (fun m => (a'.g m).isNone) (msl.take i)
                  rw [List.length_take] at this
                  have sD : ∀ o, Same H14 (upd H' D o) := fun o b u e => by rw [upd_ne (ne_of_none e nD)]; exact s1 b u e
                  refine iB (fun h => ?_) (fun h => ?_)
                  · have h : (a'.g m).isNone = true := by cases z : a'.g m <;> rw [z] at h <;> first | rfl | cases h
                    walk_at "rds"
                    refine ⟨ws, hD, by omega, ⟨ws ++ [.ref c], upd_same, ?_⟩, sD _⟩
                    rw [ht, List.filter_append, List.map_append, show [m].filter (fun m => (a'.g m).isNone) = [m] by rw [List.filter_cons, if_pos h]; rfl]
                    exact (hw.mono (tupK_upd fun xs e => by rw [hD] at e; cases e)).append (.cons (rd.mono (TupK.of (sD _))) .nil)
                  · have h : (a'.g m).isNone = false := by cases z : a'.g m <;> rw [z] at h <;> first | rfl | cases h
                    refine ⟨⟨ws, hD, ?_⟩, s1⟩
                    rw [ht, List.filter_append, show [m].filter (fun m => (a'.g m).isNone) = [] by rw [List.filter_cons, if_neg (by rw [h]; decide)]; rfl, List.append_nil]
                    exact hw
                · rintro H15 ⟨hD, s15⟩
                  rw [lx, List.take_length] at hD
                  have I15 := I14.same s15
                  have hD : LstAt H15 D (a'.missing.map eM) := by
                    unfold AS.missing
                    rw [I15.em]
                    exact hD
                  have hbm15 := s15 _ _ hbm
                  clear I14 s15 hbm hx lx nD
                  have ob := I15.O.ob
                  refine ⟨_, rfl, ?_⟩
                  refine ⟨p, aa.dx, _, rfl, ob, rfl, p, aa, a', rfl, I15.O, fun r H16 s16 nr l16 => ?_⟩
                  refine ⟨_, rfl, ?_⟩
                  have lay := (ml_lay a'.missing).2
                  have D16 := hD.sm s16
                  refine ⟨_, _, l16.dpl, D16.dpl, lay, lay, ?_⟩
                  rw [SeqAt.eqv_refl _ (SeqAt.canLay_of_shaped lay)]
                  have I16 := I15.same s16
                  clear l16 nr hbm15 hD I15 s16
                  refine ⟨_, rfl, ?_⟩
                  refine ⟨_, rfl, ?_⟩
                  have ob := I16.O.ob
                  refine ⟨p, aa.dx, _, rfl, ob, rfl, p, aa, a', rfl, I16.O, fun H17 s17 => ?_⟩
                  refine ⟨_, _, _, _, true, rfl, .ty _, .base (.bl _), kit_ty (by decide +kernel), ?_⟩
                  refine ⟨_, rfl, ?_⟩
                  refine iB (fun h => by cases h) (fun _ => ?_)
                  have I17 := I16.same s17
                  have D17 := D16.sm s17
                  clear I16 D16 s17 ob
                  refine ⟨_, rfl, ?_⟩
                  have ob := I17.O.ob
                  refine ⟨p, aa.dx, _, rfl, ob, rfl, p, aa, a', rfl, I17.O, fun H18 s18 => ?_⟩
                  have I18 := I17.same s18
                  obtain ⟨wd, hd, td⟩ := D17.sm s18
                  have lwd := td.length
                  rw [List.length_map] at lwd
                  clear I17 D17 s18 ob
                  refine ⟨_, rfl, ?_⟩
                  refine ⟨D, wd, rfl, .inl (SqL.of hd), ?_⟩
                  refine ⟨rfl, ?_⟩
                  refine ⟨rfl, ?_⟩
                  refine ⟨_, rfl, ?_⟩
                  have rd2 : a'.ready = decide (wd.length = 0) := by
                    unfold AS.ready
                    rw [lwd]
                  have e2 : V.bl a'.ready = V.bl (decide (V.int (wd.length : Int) = V.int 0)) := by
                    rw [rd2]
                    congr 1
                    rw [Bool.eq_iff_iff, decide_eq_true_eq, decide_eq_true_eq]
                    exact ⟨fun h => by rw [h]; rfl, fun h => by have := V.int.inj h; omega⟩
                  refine iB (fun h => by rw [decide_eq_true e2] at h; cases h) (fun _ => ?_)
                  clear e2
                  cases rdy : a'.ready with
                  | false =>
                    have n0 : wd.length ≠ 0 := by
                      rw [rdy] at rd2
                      exact of_decide_eq_false rd2.symm
                    refine ⟨_, rfl, ?_⟩
                    refine ⟨D, wd, rfl, .inl (SqL.of hd), ?_⟩
                    refine ⟨_, _, rfl, rfl, ?_⟩
                    refine ⟨_, rfl, ?_⟩
                    refine iB (fun _ => ?_) (fun h => by exfalso; have := of_decide_eq_false h; omega)
                    refine ⟨_, rfl, ?_⟩
                    refine ⟨p, aa, a', rfl, I18.O, rdy, fun H19 s19 => ?_⟩
                    refine ⟨_, rfl, ?_⟩
                    refine ⟨_, rfl, ?_⟩
                    refine ⟨D, wd, rfl, .inl (SqL.of (s19 _ _ hd)), ?_⟩
                    refine ⟨rfl, ?_⟩
                    refine ⟨_, rfl, ?_⟩
                    refine iB (fun h => by exfalso; have := V.int.inj (of_decide_eq_true h); omega) (fun _ => ?_)
                    exact ⟨⟨_, _, _, _, _, _, _, _, _, rfl⟩, a', I18.same s19, ka'⟩
                  | true =>
                    have n0 : wd.length = 0 := by
                      rw [rdy] at rd2
                      exact of_decide_eq_true rd2.symm
                    refine ⟨_, rfl, ?_⟩
                    refine ⟨D, wd, rfl, .inl (SqL.of hd), ?_⟩
                    refine ⟨_, _, rfl, rfl, ?_⟩
                    refine ⟨_, rfl, ?_⟩
                    refine iB (fun h => by exfalso; have := of_decide_eq_true h; omega) (fun _ => ?_)
                    refine ⟨_, rfl, ?_⟩
                    refine ⟨D, wd, rfl, .inl (SqL.of hd), ?_⟩
                    refine ⟨rfl, ?_⟩
                    refine ⟨_, rfl, ?_⟩
                    refine iB (fun _ => ?_) (fun h => by exfalso; have := of_decide_eq_false h; rw [n0] at this; exact this rfl)
                    have ob := I18.O.ob
                    clear hd td lwd rd2
                    refine ⟨_, rfl, ?_⟩
                    refine ⟨p, aa.dx, _, rfl, ob, rfl, p, aa, a', rfl, I18.O, (fun z => by rw [rdy] at z; cases z), fun _ is r H19 ids s19 t19 => ?_⟩
                    have I19 := I18.same s19
                    obtain ⟨r', fs, er, hr, _, _⟩ := t19.tups
                    cases er
                    clear I18 s19 ob
                    refine ⟨_, rfl, ?_⟩
                    refine ⟨_, _, _, _, true, rfl, .ty _, .base (.tup hr), kit_ty (by decide +kernel), ?_⟩
                    refine ⟨_, rfl, ?_⟩
                    refine iB (fun h => by cases h) (fun _ => ?_)
                    refine ⟨_, rfl, ?_⟩
                    refine ⟨_, rfl, ?_⟩
                    refine ⟨_, rfl, ?_⟩
                    refine ⟨d, .ref bm, a', rfl, I19.lst rdy, (by rw [I19.em]; exact I19.tm), fun is2 r2 H20 ids2 s20 t20 => ?_⟩
                    have lay := (fs_lay (fs := is.map fun v => (v, a'.final v)) (fun f hf => by
                      obtain ⟨v, _, e⟩ := List.mem_map.mp hf
                      rw [← e]
                      exact fin_ok I19.fok)).2
                    rw [← ids.one ids2] at t20
                    refine ⟨_, _, (t19.same s20).dp, t20.dp, lay, lay, ?_⟩
                    rw [SeqAt.eqv_refl _ (SeqAt.canLay_of_shaped lay)]
                    refine ⟨_, rfl, ?_⟩
                    refine iB (fun h => by cases h) (fun _ => ?_)
                    exact ⟨⟨_, _, _, _, _, _, _, _, _, rfl⟩, a', I19.same s20, ka'⟩
      · rintro _ H8 ⟨⟨x7, x8, x9, x10, x11, x12, x13, x14, x15, rfl⟩, a, I8, ka⟩
        clear I7 ds em hvid f0
        obtain ⟨bm', xs, ebm, hbm, _, hx⟩ := (show TD H8 (.ref bm) (.tuple (msl.map eM)) from I8.tm).tups
        cases ebm
        have lx := hx.length
        rw [List.length_map] at lx
        refine ⟨fun σ' H' => (∃ x16 x17 x18 x19 x20 : Option V, σ' = [some (.ref sc0), some (.int first), some (.ref bm), some (.ref tv), some (.ref p), some (.ref vw), some (.ref d), x7, x8, x9, x10, x11, x12, x13, x14, x15, x16, x17, x18, x19, x20]) ∧ Same H8 H', ?_, ?_⟩
        · walk_at "rds"
          refine ⟨⟨_, SqT.of hbm⟩, fun D nD => ?_⟩
          refine lc_tup (K := K) (a := bm) (xs := xs) (fun i H' => LstAt H' D (((msl.take i).filter fun m => (a.g m).isNone).map eM) ∧ Same H8 H') ?_ ?_ ?_ ?_
          · exact ⟨⟨[], upd_same, .nil⟩, same_new nD _⟩
          · rintro i H' _ ⟨_, s1⟩
            exact SqT.of (s1 _ _ hbm)
          · rintro i x H' hi ⟨⟨ws, hD, hw⟩, s1⟩
            obtain ⟨m, hm, rd⟩ := hx.map_at hi
            have ht := take_snoc hm
            obtain ⟨c, rfl, nk⟩ := (rd.same s1).nk
            obtain ⟨o, g1, g2⟩ := (I8.same s1).N.get nk (kM_depth _)
            refine ⟨rfl, ?_⟩
            refine ⟨_, rfl, ?_⟩
            refine ⟨_, rfl, ?_⟩
            refine ⟨d, c, o, rfl, rfl, g1, ?_⟩
            rw [g2.iss]
            refine ⟨_, rfl, ?_⟩
            have lw := hw.length
            rw [List.length_map] at lw
            have := List.length_filter_le (fun m => (a.g m).isNone) (msl.take i)
            rw [List.length_take] at this
            have sD : ∀ o, Same H8 (upd H' D o) := fun o b u e => by rw [upd_ne (ne_of_none e nD)]; exact s1 b u e
            refine iB (fun h => ?_) (fun h => ?_)
            · have h : (a.g m).isNone = true := by cases z : a.g m <;> rw [z] at h <;> first | rfl | cases h
              walk_at "rds"
              refine ⟨ws, hD, by omega, ⟨ws ++ [.ref c], upd_same, ?_⟩, sD _⟩
              rw [ht, List.filter_append, List.map_append, show [m].filter (fun m => (a.g m).isNone) = [m] by rw [List.filter_cons, if_pos h]; rfl]
              exact (hw.mono (tupK_upd fun xs e => by rw [hD] at e; cases e)).append (.cons (rd.mono (TupK.of (sD _))) .nil)
            · have h : (a.g m).isNone = false := by cases z : a.g m <;> rw [z] at h <;> first | rfl | cases h
              refine ⟨⟨ws, hD, ?_⟩, s1⟩
              rw [ht, List.filter_append, show [m].filter (fun m => (a.g m).isNone) = [] by rw [List.filter_cons, if_neg (by rw [h]; decide)]; rfl, List.append_nil]
              exact hw
          · rintro H9 ⟨hD, s9⟩
            rw [lx, List.take_length] at hD
            have I9 := I8.same s9
            obtain ⟨wd, hd, td⟩ := hD
            have lwd := td.length
            rw [List.length_map] at lwd
            have rd2 : a.ready = decide (wd.length = 0) := by
              unfold AS.ready AS.missing
              rw [I8.em, lwd]
            walk_at "rds"
            refine ⟨D, wd, rfl, .inl (SqL.of hd), ?_⟩
            refine ⟨rfl, ?_⟩
            refine ⟨_, rfl, ?_⟩
            refine iB (fun h => ?_) (fun h => ?_)
            · have rdy : a.ready = true := by
                have h := of_decide_eq_true h
                have h := V.int.inj h
                rw [rd2]
                exact decide_eq_true (by omega)
              clear rd2 lwd td hd h nD
              refine ⟨_, rfl, ?_⟩
              have ob := I9.O.ob
              refine ⟨p, aa.dx, _, rfl, ob, rfl, p, aa, a, rfl, I9.O, (fun z => by rw [rdy] at z; cases z), fun _ is r H10 ids s10 t10 => ?_⟩
              obtain ⟨r', fs, er, hr, lf, tf⟩ := t10.tups
              cases er
              have s810 := s9.trans s10
              clear s9 s10 I9 ob t10
              refine ⟨_, rfl, ⟨_, SqT.of hr⟩, for_tup (K := K) (xs := fs) (fun i σ' H' => (∃ x16 x17 x18 x19 x20 : Option V, σ' = [some (.ref sc0), some (.int first), some (.ref bm), some (.ref tv), some (.ref p), some (.ref vw), some (.ref d), x7, x8, x9, x10, x11, x12, x13, x14, x15, x16, x17, x18, x19, x20]) ∧ Same H10 H') ?_ ?_ ?_ ?_⟩
              · exact ⟨⟨_, _, _, _, _, rfl⟩, Same.refl _⟩
              · rintro i _ H' _ ⟨_, s⟩
                exact SqT.of (s _ _ hr)
              · rintro i x _ H11 hi ⟨⟨x16, x17, x18, x19, x20, rfl⟩, s11⟩
                obtain ⟨fv, hf, tfv⟩ := tf.map_at hi
                rw [List.getElem?_map] at hf
                obtain ⟨v, _, rfl⟩ := Option.map_eq_some_iff.mp hf
                obtain ⟨c, ys, rfl, hc, _, ty⟩ := (show TD H11 x (.tuple [eV v, eGs (a.final v)]) from tfv.same s11).tups
                obtain _ | @⟨va, _, _, _, tva, ty⟩ := ty
                obtain _ | @⟨fa, _, _, _, tfa, ty⟩ := ty
                cases ty
                have s811 := s810.trans s11
                clear hf tfv hi tf
                refine ⟨c, _, rfl, SqT.of hc, rfl, ?_⟩
                refine ⟨_, _, rfl, ?_⟩
                refine ⟨_, _, rfl, rfl, ?_⟩
                refine ⟨_, rfl, ?_⟩
                refine ⟨_, rfl, ?_⟩
                have I11 := I8.same s811
                have hbm11 := s811 _ _ hbm
                have hx11 := hx.same s811
                have rdm : ∀ m ∈ msl, ∃ s, a.g m = some s := fun m hm => AS.ready_all rdy (by rw [I11.em]; exact hm)
                have fok : GsOk (a.final v) := fin_ok I11.fok
                clear I8 hbm hx s810 s811 ids hc hr lf
                refine ⟨⟨_, SqT.of hbm11⟩, for_tup (K := K) (xs := xs) (fun j σ' H' => (∃ x18 x19 x20 : Option V, σ' = [some (.ref sc0), some (.int first), some (.ref bm), some (.ref tv), some (.ref p), some (.ref vw), some (.ref d), x7, x8, x9, x10, x11, x12, x13, x14, x15, some va, some fa, x18, x19, x20]) ∧ Same H11 H') ?_ ?_ ?_ ?_⟩
                · exact ⟨⟨_, _, _, rfl⟩, Same.refl _⟩
                · rintro j _ H' _ ⟨_, s⟩
                  exact SqT.of (s _ _ hbm11)
                · rintro j x _ H12 hj ⟨⟨x18, x19, x20, rfl⟩, s12⟩
                  obtain ⟨m, hm, td⟩ := hx11.map_at hj
                  obtain ⟨c2, rfl, nk⟩ := (td.same s12).nk
                  obtain ⟨st, eg⟩ := rdm m (List.mem_of_getElem? hm)
                  have I12 := I11.same s12
                  have tva12 := tva.same s12
                  have tfa12 := tfa.same s12
                  obtain ⟨o, g1, g2⟩ := I12.N.get nk (kM_depth _)
                  rw [eg] at g2
                  obtain ⟨bs, x1, x2, x3, x4, x5, eo, hbs, _, _, t3, t4, _⟩ : ∃ bs x1 x2 x3 x4 x5, o = some (.ref bs) ∧ H12 bs = some (.tup [.str "state", x1, x2, x3, x4, x5]) ∧ TD H12 x1 (eM st.who) ∧ TD H12 x2 (eV st.att) ∧ TD H12 x3 (eV st.old) ∧ TD H12 x4 (eGs st.log) ∧ TD H12 x5 (eCs st.pend) := by
                    cases o with
                    | none => exact g2.elim
                    | some u =>
                      obtain ⟨bs, x1, x2, x3, x4, x5, e, r⟩ := (show TD H12 u (eS st) from g2).ste
                      exact ⟨bs, x1, x2, x3, x4, x5, by rw [e], r⟩
                  subst eo
                  have pre := I12.pre eg
                  have lok := (I12.fok m st eg).1
                  obtain ⟨lb, lv, e4, hlb, _, tlb⟩ := (show TD H12 x4 (.tuple (st.log.map eG)) from t4).tups
                  subst e4
                  have ll := tlb.length
                  rw [List.length_map] at ll
                  clear tlb g2 hm hj td nk tva tfa rdm I11 I12 hbm11 hx11
                  refine ⟨_, rfl, ?_⟩
                  refine ⟨_, rfl, ?_⟩
                  refine ⟨d, c2, _, rfl, rfl, g1, ?_⟩
                  refine ⟨_, _, _, _, rfl, rfl, SqT.of (by assumption), rfl, ?_⟩
                  refine ⟨_, rfl, ?_⟩
                  refine ⟨_, rfl, ?_⟩
                  refine ⟨_, _, rfl, Or.inr (SqT.of (by assumption)), ?_⟩
                  refine ⟨_, rfl, ?_⟩
                  refine sl_take (n := lv.length) (ds := (a.final v).map eG) tfa12 fun p1 H13 s13 t13 => ?_
                  have t13 : TD H13 (.ref p1) (eGs ((a.final v).take st.log.length)) := by
                    have := t13
                    rw [ll, ← List.map_take] at this
                    exact this
                  refine ⟨_, rfl, ?_⟩
                  refine ⟨_, _, t13.dp, (t4.same s13).dp, gs_sh (fok.take _), gs_sh lok, ?_⟩
                  rw [eGs_eqv]
                  refine ⟨_, rfl, ?_⟩
                  refine iB (fun h => ?_) (fun h => ?_)
                  · have h := of_decide_eq_true h
                    have tfa13 := tfa12.same s13
                    have hlb13 := s13 _ _ hlb
                    refine ⟨_, rfl, ?_⟩
                    refine ⟨_, rfl, ?_⟩
                    refine ⟨_, _, rfl, Or.inr (SqT.of (by assumption)), ?_⟩
                    refine ⟨_, rfl, ?_⟩
                    dsimp only [tNoPart]
                    refine sl_drop (n := lv.length) (ds := (a.final v).map eG) tfa13 fun p2 H14 s14 t14 => ?_
                    have t14 : TD H14 (.ref p2) (.tuple (((a.final v).drop st.log.length).map eG)) := by
                      have := t14
                      rw [ll, ← List.map_drop] at this
                      exact this
                    obtain ⟨_, ys, ep, hp2, _, ty2⟩ := t14.tups
                    cases ep
                    refine ⟨_, _, rfl, Or.inr (SqT.of (by assumption)), ?_⟩
                    refine fun L nL => ?_
                    have s15 := same_new nL (.lst ys)
                    have lL : LstAt (upd H14 L (.lst ys)) L (((a.final v).drop st.log.length).map eG) := ⟨ys, upd_same, ty2.same s15⟩
                    have s1215 := (s13.trans s14).trans s15
                    clear s13 s14 s15 t13 t14 ty2 hp2 hlb13 tfa13 nL
                    generalize upd H14 L (.lst ys) = H15 at *
                    have tfa15 := tfa12.same s1215
                    have t4' := t4.same s1215
                    refine ⟨_, rfl, ?_⟩
                    refine ⟨_, rfl, ?_⟩
                    refine ⟨.ref lb, fa, st.log, a.final v, rfl, t4', tfa15, lok, fok, fun z => absurd h z, fun _ r H16 s16 nr l16 => ?_⟩
                    have lL16 := lL.sm s16
                    have s1216 := s1215.trans s16
                    have hbs16 := s1216 _ _ hbs
                    have lay := (gl_lay (l := (a.final v).drop st.log.length) (fok.drop _)).2
                    refine ⟨_, rfl, ?_⟩
                    refine ⟨_, _, l16.dpl, lL16.dpl, lay, lay, ?_⟩
                    rw [SeqAt.eqv_refl _ (SeqAt.canLay_of_shaped lay)]
                    refine ⟨_, rfl, ?_⟩
                    refine iB (fun h => by cases h) (fun _ => ?_)
                    have g1' : NGet w H16 d c2 (some (.ref bs)) := g1.sm s1216
                    have tva16 := tva12.same s1216
                    have t3' := t3.same s1216
                    clear l16 lL lL16 t4' tfa15 s1215 s16 g1
                    refine ⟨_, rfl, ?_⟩
                    refine ⟨_, rfl, ?_⟩
                    refine ⟨d, c2, _, rfl, rfl, g1', ?_⟩
                    refine ⟨_, _, _, _, rfl, rfl, SqT.of (by assumption), rfl, ?_⟩
                    refine ⟨_, rfl, ?_⟩
                    refine ⟨_, _, t3'.dp, tva16.dp, (eV_lay _).2.2, (eV_lay _).2.2, ?_⟩
                    rw [eV_eqv]
                    refine ⟨_, rfl, ?_⟩
                    refine iB (fun _ => ?_) (fun _ => ?_)
                    · walk_at "rds"
                      first
                        | exact ⟨⟨_, _, _, rfl⟩, s12.trans s1216⟩
                        | (refine iB (fun h => absurd (of_decide_eq_true h) (fun z => by cases z)) (fun _ => ?_); exact ⟨⟨_, _, _, rfl⟩, s12.trans s1216⟩)
                        | (refine ⟨rfl, ?_⟩; refine ⟨_, rfl, ?_⟩; refine iB (fun h => absurd (of_decide_eq_true h) (fun z => by cases z)) (fun _ => ?_); exact ⟨⟨_, _, _, rfl⟩, s12.trans s1216⟩)
                        | (refine ⟨_, rfl, ?_⟩; refine iB (fun h => absurd (of_decide_eq_true h) (fun z => by cases z)) (fun _ => ?_); exact ⟨⟨_, _, _, rfl⟩, s12.trans s1216⟩)
                    · exact ⟨⟨_, _, _, rfl⟩, s12.trans s1216⟩
                  · have h := of_decide_eq_false h
                    have nv : st.old ≠ v := fun z => h (z ▸ pre)
                    have tfa13 := tfa12.same s13
                    have t4' := t4.same s13
                    refine ⟨_, rfl, ?_⟩
                    refine ⟨_, rfl, ?_⟩
                    refine ⟨.ref lb, fa, st.log, a.final v, rfl, t4', tfa13, lok, fok, fun _ H16 s16 => ?_, fun z => absurd z h⟩
                    have s1216 := s13.trans s16
                    have hbs16 := s1216 _ _ hbs
                    refine ⟨_, rfl, ?_⟩
                    refine ⟨.none, .none, .non, .non, rfl, rfl, ?_⟩
                    refine ⟨_, rfl, ?_⟩
                    refine iB (fun h => by cases h) (fun _ => ?_)
                    have g1' : NGet w H16 d c2 (some (.ref bs)) := g1.sm s1216
                    have tva16 := tva12.same s1216
                    have t3' := t3.same s1216
                    refine ⟨_, rfl, ?_⟩
                    refine ⟨_, rfl, ?_⟩
                    refine ⟨d, c2, _, rfl, rfl, g1', ?_⟩
                    refine ⟨_, _, _, _, rfl, rfl, SqT.of (by assumption), rfl, ?_⟩
                    refine ⟨_, rfl, ?_⟩
                    refine ⟨_, _, t3'.dp, tva16.dp, (eV_lay _).2.2, (eV_lay _).2.2, ?_⟩
                    rw [eV_eqv]
                    refine ⟨_, rfl, ?_⟩
                    refine iB (fun h => absurd (of_decide_eq_true h) nv) (fun _ => ?_)
                    exact ⟨⟨_, _, _, rfl⟩, s12.trans s1216⟩
                · rintro _ H12 ⟨⟨x18, x19, x20, rfl⟩, s12⟩
                  exact ⟨⟨_, _, _, _, _, rfl⟩, s11.trans s12⟩
              · rintro _ H11 ⟨⟨x16, x17, x18, x19, x20, rfl⟩, s11⟩
                exact ⟨⟨_, _, _, _, _, rfl⟩, s810.trans s11⟩
            · exact ⟨⟨_, _, _, _, _, rfl⟩, s9⟩
        · rintro σ' H9 ⟨⟨x16, x17, x18, x19, x20, rfl⟩, s9⟩
          have I9 := I8.same s9
          have hbm9 := s9 _ _ hbm
          have hx9 := hx.same s9
          refine ⟨_, rfl, ?_⟩
          have ob := I9.O.ob
          refine ⟨p, aa.dx, _, rfl, ob, rfl, p, aa, a, rfl, I9.O, fun r H10 s10 nr l10 => ?_⟩
          have I10 := I9.same s10
          have hbm10 := s10 _ _ hbm9
          have hx10 := hx9.same s10
          clear I8 I9 hbm hbm9 hx hx9 s9 s10 nr ob
          refine ⟨by show 1 ≤ sizeLine; omega, fun L1 nL1 => ?_⟩
          have s11 := same_new nL1 (.lst [.ref r])
          have hL1 : (upd H10 L1 (.lst [.ref r])) L1 = some (.lst [.ref r]) := upd_same
          have I11 := I10.same s11
          have hbm11 := s11 _ _ hbm10
          have hx11 := hx10.same s11
          have l11 := l10.sm s11
          clear I10 hbm10 hx10 s11 l10 nL1
          generalize upd H10 L1 (.lst [.ref r]) = H11 at *
          refine ⟨_, rfl, ?_⟩
          refine ⟨_, rfl, ?_⟩
          refine ⟨⟨_, SqT.of hbm11⟩, fun D nD => ?_⟩
          refine lc_tup (K := K) (a := bm) (xs := xs) (fun i H' => LstAt H' D (((msl.take i).filter fun m => (a.g m).isNone).map eM) ∧ Same H11 H') ?_ ?_ ?_ ?_
          · exact ⟨⟨[], upd_same, .nil⟩, same_new nD _⟩
          · rintro i H' _ ⟨_, s1⟩
            exact SqT.of (s1 _ _ hbm11)
          · rintro i x H' hi ⟨⟨ws, hD, hw⟩, s1⟩
            obtain ⟨m, hm, rd⟩ := hx11.map_at hi
            have ht := take_snoc hm
            obtain ⟨c, rfl, nk⟩ := (rd.same s1).nk
            obtain ⟨o, g1, g2⟩ := (I11.same s1).N.get nk (kM_depth _)
            refine ⟨rfl, ?_⟩
            refine ⟨_, rfl, ?_⟩
            refine ⟨_, rfl, ?_⟩
            refine ⟨d, c, o, rfl, rfl, g1, ?_⟩
            rw [g2.iss]
            refine ⟨_, rfl, ?_⟩
            have lw := hw.length
            rw [List.length_map] at lw
            have := List.length_filter_le (fun m => (a.g m).isNone) (msl.take i)
            rw [List.length_take] at this
            have sD : ∀ o, Same H11 (upd H' D o) := fun o b u e => by rw [upd_ne (ne_of_none e nD)]; exact s1 b u e
            refine iB (fun h => ?_) (fun h => ?_)
            · have h : (a.g m).isNone = true := by cases z : a.g m <;> rw [z] at h <;> first | rfl | cases h
              walk_at "rds"
              refine ⟨ws, hD, by omega, ⟨ws ++ [.ref c], upd_same, ?_⟩, sD _⟩
              rw [ht, List.filter_append, List.map_append, show [m].filter (fun m => (a.g m).isNone) = [m] by rw [List.filter_cons, if_pos h]; rfl]
              exact (hw.mono (tupK_upd fun xs e => by rw [hD] at e; cases e)).append (.cons (rd.mono (TupK.of (sD _))) .nil)
            · have h : (a.g m).isNone = false := by cases z : a.g m <;> rw [z] at h <;> first | rfl | cases h
              refine ⟨⟨ws, hD, ?_⟩, s1⟩
              rw [ht, List.filter_append, show [m].filter (fun m => (a.g m).isNone) = [] by rw [List.filter_cons, if_neg (by rw [h]; decide)]; rfl, List.append_nil]
              exact hw
          · rintro H12 ⟨hD, s12⟩
            rw [lx, List.take_length] at hD
            have hD : LstAt H12 D (a.missing.map eM) := by
              unfold AS.missing
              rw [I11.em]
              exact hD
            have l12 := l11.sm s12
            have hL12 := s12 _ _ hL1
            refine ⟨by show 1 ≤ sizeLine; omega, fun L2 nL2 => ?_⟩
            have s13 := same_new nL2 (.lst [.ref D])
            have d1 : Dp K (upd H12 L2 (.lst [.ref D])) (.ref L1) (.list [.list (a.missing.map eM)]) := .lst (SqL.of (s13 _ _ hL12)) (.cons (l12.sm s13).dpl .nil)
            have d2 : Dp K (upd H12 L2 (.lst [.ref D])) (.ref L2) (.list [.list (a.missing.map eM)]) := .lst (SqL.of upd_same) (.cons (hD.sm s13).dpl .nil)
            have lay := (mll_lay a.missing).2
            refine ⟨_, _, d1, d2, lay, lay, ?_⟩
            rw [SeqAt.eqv_refl _ (SeqAt.canLay_of_shaped lay)]
            exact q _
end
end Mus

set_option maxRecDepth 100000
set_option maxHeartbeats 4000000
namespace Mus
open PySem L2
def at_mk {K : PySem.W.Frag} {h : Heap} {mg : Str → Option Value} {x : Str} {ps : List Str} {st : Stmt} {f : Addr} {oc : Value} {od an : Option Addr} {osl : Array (Option Value)} {kV dc pm cd ct : Value} (X : K.In h) (G : h.Ns mainGlobals mg) (a : PySem.W.nsIn K mainGlobals x = some (some (.ref f)))
    (l : K.lookup f = some ⟨oc, od, .func (PySem.W.fnOf x x (defArgs st) (defBody st) (defScope st) .none kV dc pm an cd ct), osl⟩) (c : PySem.W.codeIn K cd x = true) (k : PySem.W.keepIn K (.ref f) = true)
    (hb : ∀ (kV doc pm : Value) (an : Option Addr) (cdv ct : Value) (us : List Value), us.length = ps.length → bindArgs (PySem.W.fnOf x x (defArgs st) (defBody st) (defScope st) .none kV doc pm an cdv ct) ⟨us, []⟩ = pure (ps.zip us)) : DefAt K mg x ps st :=
  ⟨f, _, fun_mk (st := st) l c k, PySem.W.mg_of X G a, (fun_mk (st := st) l c k).binds hb⟩
def meth_mk {K : PySem.W.Frag} {C : Addr} {x qual : Str} {ps : List Str} {st : Stmt} {f : Addr} {oc : Value} {od an : Option Addr} {osl : Array (Option Value)} {kV dc pm cd ct : Value} (a : PySem.W.findIn K (.ref C) x = some (some (.ref f))) (i : PySem.W.isFn K (.ref f) = true)
    (l : K.lookup f = some ⟨oc, od, .func (PySem.W.fnOf x qual (defArgs st) (defBody st) (defScope st) .none kV dc pm an cd ct), osl⟩) (c : PySem.W.codeIn K cd qual = true) (k : PySem.W.keepIn K (.ref f) = true)
    (hb : ∀ (kV doc pm : Value) (an : Option Addr) (cdv ct : Value) (us : List Value), us.length = ps.length → bindArgs (PySem.W.fnOf x qual (defArgs st) (defBody st) (defScope st) .none kV doc pm an cdv ct) ⟨us, []⟩ = pure (ps.zip us)) : MethAt K C x qual ps st :=
  ⟨f, _, fun_mk (st := st) l c k, ⟨a, i, k⟩, (fun_mk (st := st) l c k).binds hb⟩
theorem walk_ofX {l : PySem.W.OpenLaw} {n k : Nat} {q : Program} {loose : List Str} {XP : (Str → Option Value) → Heap → Prop} {YP : World → Heap → Prop} {d : DefRec} {K : Params → PySem.W.Frag} {sp : World → Sp} {x : Str}
    (most : l.most = some n) (few : n ≤ sizeLine) (nod : d.params.defaults = []) (room : Room k callerA) (kin : ∀ (w : World) (h : Heap), YP w h → (K w.params).In h)
    (F : ∀ (w : World) (mg : Str → Option Value) (at1 : Addr) (h : Heap), (K w.params).In h → h.Ns mainGlobals mg → XP mg h → mg d.name = some (.ref at1) →
      ∃ fd : FuncData, (∀ (s : Shared) (u : Value), BindsTo s fd ⟨[u], []⟩ [(x, u)]) ∧ ∀ base : Heap, (K w.params).In base → base.Ns mainGlobals mg → FnOk l.prog w (K w.params) mg base CX0 k at1 fd [x] (sp w))
    (hsp : ∀ (w : World) (H : Hp) (a : Addr) (ns : List Int), ns.length ≤ n → Only H → SqL (K w.params) H a (ns.map V.int) → sp w [.ref a] H (fun v _ => v = .bl true) fun _ _ _ => False) :
    PySem.W.WalkO q loose XP YP l.row.toRowW d [] (fun f vs => PySem.call f vs) := by
  refine Att.attach_call most nod fun w sb sc mg mB at1 o pm1 cd1 doc1 a vs ns G Y ho1 hd1 hc1 hm1 ob1 in1 ln1 hg1 => ?_
  have inK := kin w _ Y
  obtain ⟨fd, bnd, pr⟩ := F w mg at1 _ inK G.T.g G.X hm1
  exact law_call inK G.T.g G.T.b G.T.builtins G.T.nolimit hg1 ob1 in1 (Nat.le_trans ln1 few) room pr bnd (fun H hO hS => hsp w H a ns ln1 hO hS) fun H e s' z => z
theorem loose_int {n : Str} {i : Int} {mg : Str → Option Value} {h : Heap} (x : PySem.W.LooseAre [(n, PySem.W.WData.int i)] mg h) : ∃ t, mg n = some (.int i t) := by
  obtain ⟨v, h1, h2⟩ := x.val _ (List.mem_singleton.mpr rfl)
  cases h2
  exact ⟨_, h1⟩
theorem all_mk {l : PySem.W.OpenLaw} {w : World} {K : PySem.W.Frag} {h : Heap} {mg : Str → Option Value} {fa : Addr} (X : K.In h) (G : h.Ns mainGlobals mg) (hfa : mg "law" = some (.ref fa))
    {C_Attempt : Addr}
    {C_BadView : Addr}
    {odx_Attempt___init__ anx_Attempt___init__ : Option Addr} {slx_Attempt___init__ : Array (Option Value)} {ocx_Attempt___init__ kVx_Attempt___init__ dcx_Attempt___init__ pmx_Attempt___init__ cdx_Attempt___init__ ctx_Attempt___init__ : Value} {fx_Attempt___init__ : Addr}
    {odx_Attempt_add anx_Attempt_add : Option Addr} {slx_Attempt_add : Array (Option Value)} {ocx_Attempt_add kVx_Attempt_add dcx_Attempt_add pmx_Attempt_add cdx_Attempt_add ctx_Attempt_add : Value} {fx_Attempt_add : Addr}
    {odx_Attempt_missing anx_Attempt_missing : Option Addr} {slx_Attempt_missing : Array (Option Value)} {ocx_Attempt_missing kVx_Attempt_missing dcx_Attempt_missing pmx_Attempt_missing cdx_Attempt_missing ctx_Attempt_missing : Value} {fx_Attempt_missing : Addr}
    {odx_Attempt_ready anx_Attempt_ready : Option Addr} {slx_Attempt_ready : Array (Option Value)} {ocx_Attempt_ready kVx_Attempt_ready dcx_Attempt_ready pmx_Attempt_ready cdx_Attempt_ready ctx_Attempt_ready : Value} {fx_Attempt_ready : Addr}
    {odx_Attempt_finals anx_Attempt_finals : Option Addr} {slx_Attempt_finals : Array (Option Value)} {ocx_Attempt_finals kVx_Attempt_finals dcx_Attempt_finals pmx_Attempt_finals cdx_Attempt_finals ctx_Attempt_finals : Value} {fx_Attempt_finals : Addr}
    {odx_Attempt__final anx_Attempt__final : Option Addr} {slx_Attempt__final : Array (Option Value)} {ocx_Attempt__final kVx_Attempt__final dcx_Attempt__final pmx_Attempt__final cdx_Attempt__final ctx_Attempt__final : Value} {fx_Attempt__final : Addr}
    {odx_last_index anx_last_index : Option Addr} {slx_last_index : Array (Option Value)} {ocx_last_index kVx_last_index dcx_last_index pmx_last_index cdx_last_index ctx_last_index : Value} {fx_last_index : Addr}
    {odx_rest_of anx_rest_of : Option Addr} {slx_rest_of : Array (Option Value)} {ocx_rest_of kVx_rest_of dcx_rest_of pmx_rest_of cdx_rest_of ctx_rest_of : Value} {fx_rest_of : Addr}
    {odx__law_cell anx__law_cell : Option Addr} {slx__law_cell : Array (Option Value)} {ocx__law_cell kVx__law_cell dcx__law_cell pmx__law_cell cdx__law_cell ctx__law_cell : Value} {fx__law_cell : Addr}
    {odx__law_order anx__law_order : Option Addr} {slx__law_order : Array (Option Value)} {ocx__law_order kVx__law_order dcx__law_order pmx__law_order cdx__law_order ctx__law_order : Value} {fx__law_order : Addr}
    {odx__law_views anx__law_views : Option Addr} {slx__law_views : Array (Option Value)} {ocx__law_views kVx__law_views dcx__law_views pmx__law_views cdx__law_views ctx__law_views : Value} {fx__law_views : Addr}
    {odx__law_state anx__law_state : Option Addr} {slx__law_state : Array (Option Value)} {ocx__law_state kVx__law_state dcx__law_state pmx__law_state cdx__law_state ctx__law_state : Value} {fx__law_state : Addr}
    {odx__law_finals anx__law_finals : Option Addr} {slx__law_finals : Array (Option Value)} {ocx__law_finals kVx__law_finals dcx__law_finals pmx__law_finals cdx__law_finals ctx__law_finals : Value} {fx__law_finals : Addr}
    {odx__law_unready anx__law_unready : Option Addr} {slx__law_unready : Array (Option Value)} {ocx__law_unready kVx__law_unready dcx__law_unready pmx__law_unready cdx__law_unready ctx__law_unready : Value} {fx__law_unready : Addr}
    {odx__law_rest anx__law_rest : Option Addr} {slx__law_rest : Array (Option Value)} {ocx__law_rest kVx__law_rest dcx__law_rest pmx__law_rest cdx__law_rest ctx__law_rest : Value} {fx__law_rest : Addr}
    {odx_law anx_law : Option Addr} {slx_law : Array (Option Value)} {ocx_law kVx_law dcx_law pmx_law cdx_law ctx_law : Value} {fx_law : Addr}
    (aC_Attempt : PySem.W.nsIn K mainGlobals "Attempt" = some (some (.ref C_Attempt)))
    (aC_BadView : PySem.W.nsIn K mainGlobals "BadView" = some (some (.ref C_BadView)))
    (pg_Attempt : PySem.W.plainGet K C_Attempt Str.empty = true)
    (hd_Attempt : PySem.W.hasDictIn K C_Attempt = true)
    (po_Attempt : PySem.W.plainOver K C_Attempt = true)
    (sa_Attempt : PySem.W.findIn K (.ref C_Attempt) "__setattr__" = some (some (.builtin "object.__setattr__")))
    (mk_Attempt : PySem.W.makesIn K C_Attempt = true)
    (kc_Attempt : PySem.W.keepIn K (.ref C_Attempt) = true)
    (n_Attempt_id : PySem.W.findIn K (.ref C_Attempt) "id" = some none)
    (n_Attempt_members : PySem.W.findIn K (.ref C_Attempt) "members" = some none)
    (n_Attempt__states : PySem.W.findIn K (.ref C_Attempt) "_states" = some none)
    (ax_Attempt___init__ : PySem.W.findIn K (.ref C_Attempt) "__init__" = some (some (.ref fx_Attempt___init__)))
    (ix_Attempt___init__ : PySem.W.isFn K (.ref fx_Attempt___init__) = true)
    (lx_Attempt___init__ : K.lookup fx_Attempt___init__ = some ⟨ocx_Attempt___init__, odx_Attempt___init__, .func (PySem.W.fnOf "__init__" "Attempt.__init__" (defArgs s_Attempt___init__) (defBody s_Attempt___init__) (defScope s_Attempt___init__) .none kVx_Attempt___init__ dcx_Attempt___init__ pmx_Attempt___init__ anx_Attempt___init__ cdx_Attempt___init__ ctx_Attempt___init__), slx_Attempt___init__⟩)
    (cx_Attempt___init__ : PySem.W.codeIn K cdx_Attempt___init__ "Attempt.__init__" = true)
    (kx_Attempt___init__ : PySem.W.keepIn K (.ref fx_Attempt___init__) = true)
    (ax_Attempt_add : PySem.W.findIn K (.ref C_Attempt) "add" = some (some (.ref fx_Attempt_add)))
    (ix_Attempt_add : PySem.W.isFn K (.ref fx_Attempt_add) = true)
    (lx_Attempt_add : K.lookup fx_Attempt_add = some ⟨ocx_Attempt_add, odx_Attempt_add, .func (PySem.W.fnOf "add" "Attempt.add" (defArgs s_Attempt_add) (defBody s_Attempt_add) (defScope s_Attempt_add) .none kVx_Attempt_add dcx_Attempt_add pmx_Attempt_add anx_Attempt_add cdx_Attempt_add ctx_Attempt_add), slx_Attempt_add⟩)
    (cx_Attempt_add : PySem.W.codeIn K cdx_Attempt_add "Attempt.add" = true)
    (kx_Attempt_add : PySem.W.keepIn K (.ref fx_Attempt_add) = true)
    (ax_Attempt_missing : PySem.W.findIn K (.ref C_Attempt) "missing" = some (some (.ref fx_Attempt_missing)))
    (ix_Attempt_missing : PySem.W.isFn K (.ref fx_Attempt_missing) = true)
    (lx_Attempt_missing : K.lookup fx_Attempt_missing = some ⟨ocx_Attempt_missing, odx_Attempt_missing, .func (PySem.W.fnOf "missing" "Attempt.missing" (defArgs s_Attempt_missing) (defBody s_Attempt_missing) (defScope s_Attempt_missing) .none kVx_Attempt_missing dcx_Attempt_missing pmx_Attempt_missing anx_Attempt_missing cdx_Attempt_missing ctx_Attempt_missing), slx_Attempt_missing⟩)
    (cx_Attempt_missing : PySem.W.codeIn K cdx_Attempt_missing "Attempt.missing" = true)
    (kx_Attempt_missing : PySem.W.keepIn K (.ref fx_Attempt_missing) = true)
    (ax_Attempt_ready : PySem.W.findIn K (.ref C_Attempt) "ready" = some (some (.ref fx_Attempt_ready)))
    (ix_Attempt_ready : PySem.W.isFn K (.ref fx_Attempt_ready) = true)
    (lx_Attempt_ready : K.lookup fx_Attempt_ready = some ⟨ocx_Attempt_ready, odx_Attempt_ready, .func (PySem.W.fnOf "ready" "Attempt.ready" (defArgs s_Attempt_ready) (defBody s_Attempt_ready) (defScope s_Attempt_ready) .none kVx_Attempt_ready dcx_Attempt_ready pmx_Attempt_ready anx_Attempt_ready cdx_Attempt_ready ctx_Attempt_ready), slx_Attempt_ready⟩)
    (cx_Attempt_ready : PySem.W.codeIn K cdx_Attempt_ready "Attempt.ready" = true)
    (kx_Attempt_ready : PySem.W.keepIn K (.ref fx_Attempt_ready) = true)
    (ax_Attempt_finals : PySem.W.findIn K (.ref C_Attempt) "finals" = some (some (.ref fx_Attempt_finals)))
    (ix_Attempt_finals : PySem.W.isFn K (.ref fx_Attempt_finals) = true)
    (lx_Attempt_finals : K.lookup fx_Attempt_finals = some ⟨ocx_Attempt_finals, odx_Attempt_finals, .func (PySem.W.fnOf "finals" "Attempt.finals" (defArgs s_Attempt_finals) (defBody s_Attempt_finals) (defScope s_Attempt_finals) .none kVx_Attempt_finals dcx_Attempt_finals pmx_Attempt_finals anx_Attempt_finals cdx_Attempt_finals ctx_Attempt_finals), slx_Attempt_finals⟩)
    (cx_Attempt_finals : PySem.W.codeIn K cdx_Attempt_finals "Attempt.finals" = true)
    (kx_Attempt_finals : PySem.W.keepIn K (.ref fx_Attempt_finals) = true)
    (ax_Attempt__final : PySem.W.findIn K (.ref C_Attempt) "_final" = some (some (.ref fx_Attempt__final)))
    (ix_Attempt__final : PySem.W.isFn K (.ref fx_Attempt__final) = true)
    (lx_Attempt__final : K.lookup fx_Attempt__final = some ⟨ocx_Attempt__final, odx_Attempt__final, .func (PySem.W.fnOf "_final" "Attempt._final" (defArgs s_Attempt__final) (defBody s_Attempt__final) (defScope s_Attempt__final) .none kVx_Attempt__final dcx_Attempt__final pmx_Attempt__final anx_Attempt__final cdx_Attempt__final ctx_Attempt__final), slx_Attempt__final⟩)
    (cx_Attempt__final : PySem.W.codeIn K cdx_Attempt__final "Attempt._final" = true)
    (kx_Attempt__final : PySem.W.keepIn K (.ref fx_Attempt__final) = true)
    (x_BadView : PySem.W.excIn K C_BadView [.type "ValueError", .type "Exception", .type "BaseException", .type "object"] "ValueError.__new__" = true)
    (k_BadView : PySem.W.keepIn K (.ref C_BadView) = true)
    (b_BadView : PySem.W.subIn K (.ref C_BadView) (.type "BaseException") = some true)
    (t_BadView : PySem.W.typeIn K (.ref C_BadView) = some (.type "type"))
    (m_VV : PySem.W.exmOne K (.ref C_BadView) (.ref C_BadView) = some true)
    (ax_last_index : PySem.W.nsIn K mainGlobals "last_index" = some (some (.ref fx_last_index)))
    (lx_last_index : K.lookup fx_last_index = some ⟨ocx_last_index, odx_last_index, .func (PySem.W.fnOf "last_index" "last_index" (defArgs s_last_index) (defBody s_last_index) (defScope s_last_index) .none kVx_last_index dcx_last_index pmx_last_index anx_last_index cdx_last_index ctx_last_index), slx_last_index⟩)
    (cx_last_index : PySem.W.codeIn K cdx_last_index "last_index" = true)
    (kx_last_index : PySem.W.keepIn K (.ref fx_last_index) = true)
    (ax_rest_of : PySem.W.nsIn K mainGlobals "rest_of" = some (some (.ref fx_rest_of)))
    (lx_rest_of : K.lookup fx_rest_of = some ⟨ocx_rest_of, odx_rest_of, .func (PySem.W.fnOf "rest_of" "rest_of" (defArgs s_rest_of) (defBody s_rest_of) (defScope s_rest_of) .none kVx_rest_of dcx_rest_of pmx_rest_of anx_rest_of cdx_rest_of ctx_rest_of), slx_rest_of⟩)
    (cx_rest_of : PySem.W.codeIn K cdx_rest_of "rest_of" = true)
    (kx_rest_of : PySem.W.keepIn K (.ref fx_rest_of) = true)
    (ax__law_cell : PySem.W.nsIn K mainGlobals "_law_cell" = some (some (.ref fx__law_cell)))
    (lx__law_cell : K.lookup fx__law_cell = some ⟨ocx__law_cell, odx__law_cell, .func (PySem.W.fnOf "_law_cell" "_law_cell" (defArgs s__law_cell) (defBody s__law_cell) (defScope s__law_cell) .none kVx__law_cell dcx__law_cell pmx__law_cell anx__law_cell cdx__law_cell ctx__law_cell), slx__law_cell⟩)
    (cx__law_cell : PySem.W.codeIn K cdx__law_cell "_law_cell" = true)
    (kx__law_cell : PySem.W.keepIn K (.ref fx__law_cell) = true)
    (ax__law_order : PySem.W.nsIn K mainGlobals "_law_order" = some (some (.ref fx__law_order)))
    (lx__law_order : K.lookup fx__law_order = some ⟨ocx__law_order, odx__law_order, .func (PySem.W.fnOf "_law_order" "_law_order" (defArgs s__law_order) (defBody s__law_order) (defScope s__law_order) .none kVx__law_order dcx__law_order pmx__law_order anx__law_order cdx__law_order ctx__law_order), slx__law_order⟩)
    (cx__law_order : PySem.W.codeIn K cdx__law_order "_law_order" = true)
    (kx__law_order : PySem.W.keepIn K (.ref fx__law_order) = true)
    (ax__law_views : PySem.W.nsIn K mainGlobals "_law_views" = some (some (.ref fx__law_views)))
    (lx__law_views : K.lookup fx__law_views = some ⟨ocx__law_views, odx__law_views, .func (PySem.W.fnOf "_law_views" "_law_views" (defArgs s__law_views) (defBody s__law_views) (defScope s__law_views) .none kVx__law_views dcx__law_views pmx__law_views anx__law_views cdx__law_views ctx__law_views), slx__law_views⟩)
    (cx__law_views : PySem.W.codeIn K cdx__law_views "_law_views" = true)
    (kx__law_views : PySem.W.keepIn K (.ref fx__law_views) = true)
    (ax__law_state : PySem.W.nsIn K mainGlobals "_law_state" = some (some (.ref fx__law_state)))
    (lx__law_state : K.lookup fx__law_state = some ⟨ocx__law_state, odx__law_state, .func (PySem.W.fnOf "_law_state" "_law_state" (defArgs s__law_state) (defBody s__law_state) (defScope s__law_state) .none kVx__law_state dcx__law_state pmx__law_state anx__law_state cdx__law_state ctx__law_state), slx__law_state⟩)
    (cx__law_state : PySem.W.codeIn K cdx__law_state "_law_state" = true)
    (kx__law_state : PySem.W.keepIn K (.ref fx__law_state) = true)
    (ax__law_finals : PySem.W.nsIn K mainGlobals "_law_finals" = some (some (.ref fx__law_finals)))
    (lx__law_finals : K.lookup fx__law_finals = some ⟨ocx__law_finals, odx__law_finals, .func (PySem.W.fnOf "_law_finals" "_law_finals" (defArgs s__law_finals) (defBody s__law_finals) (defScope s__law_finals) .none kVx__law_finals dcx__law_finals pmx__law_finals anx__law_finals cdx__law_finals ctx__law_finals), slx__law_finals⟩)
    (cx__law_finals : PySem.W.codeIn K cdx__law_finals "_law_finals" = true)
    (kx__law_finals : PySem.W.keepIn K (.ref fx__law_finals) = true)
    (ax__law_unready : PySem.W.nsIn K mainGlobals "_law_unready" = some (some (.ref fx__law_unready)))
    (lx__law_unready : K.lookup fx__law_unready = some ⟨ocx__law_unready, odx__law_unready, .func (PySem.W.fnOf "_law_unready" "_law_unready" (defArgs s__law_unready) (defBody s__law_unready) (defScope s__law_unready) .none kVx__law_unready dcx__law_unready pmx__law_unready anx__law_unready cdx__law_unready ctx__law_unready), slx__law_unready⟩)
    (cx__law_unready : PySem.W.codeIn K cdx__law_unready "_law_unready" = true)
    (kx__law_unready : PySem.W.keepIn K (.ref fx__law_unready) = true)
    (ax__law_rest : PySem.W.nsIn K mainGlobals "_law_rest" = some (some (.ref fx__law_rest)))
    (lx__law_rest : K.lookup fx__law_rest = some ⟨ocx__law_rest, odx__law_rest, .func (PySem.W.fnOf "_law_rest" "_law_rest" (defArgs s__law_rest) (defBody s__law_rest) (defScope s__law_rest) .none kVx__law_rest dcx__law_rest pmx__law_rest anx__law_rest cdx__law_rest ctx__law_rest), slx__law_rest⟩)
    (cx__law_rest : PySem.W.codeIn K cdx__law_rest "_law_rest" = true)
    (kx__law_rest : PySem.W.keepIn K (.ref fx__law_rest) = true)
    (ax_law : PySem.W.nsIn K mainGlobals "law" = some (some (.ref fx_law)))
    (lx_law : K.lookup fx_law = some ⟨ocx_law, odx_law, .func (PySem.W.fnOf "law" "law" (defArgs s_law) (defBody s_law) (defScope s_law) .none kVx_law dcx_law pmx_law anx_law cdx_law ctx_law), slx_law⟩)
    (cx_law : PySem.W.codeIn K cdx_law "law" = true)
    (kx_law : PySem.W.keepIn K (.ref fx_law) = true)
    (zlen : PySem.W.nsIn K mainGlobals "len" = some none)
    (zisinstance : PySem.W.nsIn K mainGlobals "isinstance" = some none)
    (zint : PySem.W.nsIn K mainGlobals "int" = some none)
    (zbool : PySem.W.nsIn K mainGlobals "bool" = some none)
    (zstr : PySem.W.nsIn K mainGlobals "str" = some none)
    (zlist : PySem.W.nsIn K mainGlobals "list" = some none)
    (ztuple : PySem.W.nsIn K mainGlobals "tuple" = some none)
    (zrange : PySem.W.nsIn K mainGlobals "range" = some none)
    (zmax : PySem.W.nsIn K mainGlobals "max" = some none)
    (zabs : PySem.W.nsIn K mainGlobals "abs" = some none)
    (zsorted : PySem.W.nsIn K mainGlobals "sorted" = some none) :
    ∃ fd : FuncData, (∀ (s : Shared) (v : Value), BindsTo s fd ⟨[v], []⟩ [("script", v)]) ∧ ∀ base : Heap, K.In base → base.Ns mainGlobals mg → FnOk l.prog w K mg base CX0 5 fa fd ["script"] (sp_law K) := by
  have e := hfa.symm.trans (PySem.W.mg_of X G ax_law)
  cases e
  have T : Tx K mg C_Attempt C_BadView := {
    b_len := PySem.W.mg_none_of X G zlen
    b_isinstance := PySem.W.mg_none_of X G zisinstance
    b_int := PySem.W.mg_none_of X G zint
    b_bool := PySem.W.mg_none_of X G zbool
    b_str := PySem.W.mg_none_of X G zstr
    b_list := PySem.W.mg_none_of X G zlist
    b_tuple := PySem.W.mg_none_of X G ztuple
    b_range := PySem.W.mg_none_of X G zrange
    b_max := PySem.W.mg_none_of X G zmax
    b_abs := PySem.W.mg_none_of X G zabs
    b_sorted := PySem.W.mg_none_of X G zsorted
    g_Attempt := PySem.W.mg_of X G aC_Attempt
    cl_Attempt := ⟨pg_Attempt, hd_Attempt, po_Attempt, sa_Attempt⟩
    n_Attempt_id := n_Attempt_id
    n_Attempt_members := n_Attempt_members
    n_Attempt__states := n_Attempt__states
    g_BadView := PySem.W.mg_of X G aC_BadView
    x_BadView := x_BadView
    k_BadView := k_BadView
    b_BadView := b_BadView
    t_BadView := t_BadView
    m_VV := m_VV }
  let a_Attempt___init__ : MethAt K C_Attempt "__init__" "Attempt.__init__" P_Attempt___init__ s_Attempt___init__ := meth_mk ax_Attempt___init__ ix_Attempt___init__ lx_Attempt___init__ cx_Attempt___init__ kx_Attempt___init__ fun _ _ _ _ _ _ us hl => match us, hl with | [_, _, _], _ => rfl
  let a_Attempt_add : MethAt K C_Attempt "add" "Attempt.add" P_Attempt_add s_Attempt_add := meth_mk ax_Attempt_add ix_Attempt_add lx_Attempt_add cx_Attempt_add kx_Attempt_add fun _ _ _ _ _ _ us hl => match us, hl with | [_, _], _ => rfl
  let a_Attempt_missing : MethAt K C_Attempt "missing" "Attempt.missing" P_Attempt_missing s_Attempt_missing := meth_mk ax_Attempt_missing ix_Attempt_missing lx_Attempt_missing cx_Attempt_missing kx_Attempt_missing fun _ _ _ _ _ _ us hl => match us, hl with | [_], _ => rfl
  let a_Attempt_ready : MethAt K C_Attempt "ready" "Attempt.ready" P_Attempt_ready s_Attempt_ready := meth_mk ax_Attempt_ready ix_Attempt_ready lx_Attempt_ready cx_Attempt_ready kx_Attempt_ready fun _ _ _ _ _ _ us hl => match us, hl with | [_], _ => rfl
  let a_Attempt_finals : MethAt K C_Attempt "finals" "Attempt.finals" P_Attempt_finals s_Attempt_finals := meth_mk ax_Attempt_finals ix_Attempt_finals lx_Attempt_finals cx_Attempt_finals kx_Attempt_finals fun _ _ _ _ _ _ us hl => match us, hl with | [_], _ => rfl
  let a_Attempt__final : MethAt K C_Attempt "_final" "Attempt._final" P_Attempt__final s_Attempt__final := meth_mk ax_Attempt__final ix_Attempt__final lx_Attempt__final cx_Attempt__final kx_Attempt__final fun _ _ _ _ _ _ us hl => match us, hl with | [_, _], _ => rfl
  let a_last_index : DefAt K mg "last_index" P_last_index s_last_index := at_mk X G ax_last_index lx_last_index cx_last_index kx_last_index fun _ _ _ _ _ _ us hl => match us, hl with | [_, _], _ => rfl
  let a_rest_of : DefAt K mg "rest_of" P_rest_of s_rest_of := at_mk X G ax_rest_of lx_rest_of cx_rest_of kx_rest_of fun _ _ _ _ _ _ us hl => match us, hl with | [_, _], _ => rfl
  let a__law_cell : DefAt K mg "_law_cell" P__law_cell s__law_cell := at_mk X G ax__law_cell lx__law_cell cx__law_cell kx__law_cell fun _ _ _ _ _ _ us hl => match us, hl with | [_, _], _ => rfl
  let a__law_order : DefAt K mg "_law_order" P__law_order s__law_order := at_mk X G ax__law_order lx__law_order cx__law_order kx__law_order fun _ _ _ _ _ _ us hl => match us, hl with | [_, _, _], _ => rfl
  let a__law_views : DefAt K mg "_law_views" P__law_views s__law_views := at_mk X G ax__law_views lx__law_views cx__law_views kx__law_views fun _ _ _ _ _ _ us hl => match us, hl with | [_], _ => rfl
  let a__law_state : DefAt K mg "_law_state" P__law_state s__law_state := at_mk X G ax__law_state lx__law_state cx__law_state kx__law_state fun _ _ _ _ _ _ us hl => match us, hl with | [_, _, _, _, _], _ => rfl
  let a__law_finals : DefAt K mg "_law_finals" P__law_finals s__law_finals := at_mk X G ax__law_finals lx__law_finals cx__law_finals kx__law_finals fun _ _ _ _ _ _ us hl => match us, hl with | [_, _], _ => rfl
  let a__law_unready : DefAt K mg "_law_unready" P__law_unready s__law_unready := at_mk X G ax__law_unready lx__law_unready cx__law_unready kx__law_unready fun _ _ _ _ _ _ us hl => match us, hl with | [_], _ => rfl
  let a__law_rest : DefAt K mg "_law_rest" P__law_rest s__law_rest := at_mk X G ax__law_rest lx__law_rest cx__law_rest kx__law_rest fun _ _ _ _ _ _ us hl => match us, hl with | [_, _], _ => rfl
  have F_law := fun_mk (st := s_law) lx_law cx_law kx_law
  refine ⟨PySem.W.fnOf "law" "law" (defArgs s_law) (defBody s_law) (defScope s_law) .none kVx_law dcx_law pmx_law anx_law cdx_law ctx_law, fun s v => .of_eq rfl, fun base _ _ => ?_⟩
  let k_Attempt : MkOk l.prog w K mg base C_Attempt "Attempt" P_Attempt___init__ 1 (sp_ainit w C_Attempt) := a_Attempt___init__.mk' mk_Attempt kc_Attempt T.g_Attempt fun F => ok_ainit T F
  let c__law_cell : DefOk l.prog w K mg base CX0 "_law_cell" P__law_cell (1) ((sp_cell20 K)) := a__law_cell.ok fun F => ok__law_cell T F
  let m_Attempt_add : MethOk l.prog w K mg base CX0 C_Attempt "add" P_Attempt_add 1 ((sp_aadd w C_Attempt)) := a_Attempt_add.ok fun F => ok_aadd T F
  let m_Attempt_missing : MethOk l.prog w K mg base CX0 C_Attempt "missing" P_Attempt_missing 1 ((sp_amiss w C_Attempt)) := a_Attempt_missing.ok fun F => ok_amiss T F
  let m_Attempt_ready : MethOk l.prog w K mg base CX0 C_Attempt "ready" P_Attempt_ready 2 ((sp_aready w C_Attempt)) := a_Attempt_ready.ok fun F => ok_aready T m_Attempt_missing F
  let c_last_index : DefOk l.prog w K mg base CX0 "last_index" P_last_index 1 (sp_lastx) := a_last_index.ok fun F => ok_lastx T F
  let m_Attempt__final : MethOk l.prog w K mg base CX0 C_Attempt "_final" P_Attempt__final 2 ((sp_afin w C_Attempt)) := a_Attempt__final.ok fun F => ok_afin T c_last_index F
  let m_Attempt_finals : MethOk l.prog w K mg base (L2.CX l.prog w) C_Attempt "finals" P_Attempt_finals 3 ((sp_afins w C_Attempt C_BadView)) := a_Attempt_finals.ok fun F => ok_afins T m_Attempt_ready m_Attempt__final F
  let c__law_views : DefOk l.prog w K mg base CX0 "_law_views" P__law_views (1) ((sp_lviews)) := a__law_views.ok fun F => ok__law_views T F
  let c__law_order : DefOk l.prog w K mg base CX0 "_law_order" P__law_order (1) ((sp_lord)) := a__law_order.ok fun F => ok__law_order T F
  let c__law_state : DefOk l.prog w K mg base CX0 "_law_state" P__law_state (2) ((sp_lst)) := a__law_state.ok fun F => ok__law_state T c__law_order F
  let c__law_unready : DefOk l.prog w K mg base CX0 "_law_unready" P__law_unready 4 ((sp_unr w C_Attempt)) := a__law_unready.ok fun F => ok_unr T m_Attempt_finals F
  let c__law_finals : DefOk l.prog w K mg base CX0 "_law_finals" P__law_finals (1) ((sp_lfins w)) := a__law_finals.ok fun F => ok__law_finals T F
  let c_rest_of : DefOk l.prog w K mg base (L2.CX l.prog w) "rest_of" P_rest_of 1 ((sp_rest C_BadView)) := a_rest_of.ok fun F => ok_rest T F
  let c__law_rest : DefOk l.prog w K mg base CX0 "_law_rest" P__law_rest 2 (sp_lrest) := a__law_rest.ok fun F => ok_lrest T c_rest_of F
  exact ok_law T c__law_cell k_Attempt m_Attempt_add m_Attempt_missing m_Attempt_ready m_Attempt_finals c__law_views c__law_state c__law_unready c__law_finals c__law_rest F_law
end Mus
open PySem PySem.W PyProof.Rows
set_option maxRecDepth 100000 in
set_option maxHeartbeats 0 in
theorem PySem.Challenge.cw_mustercall_k30_attempts_holds : PySem.Challenge.rw_mustercall_k30_attempts.Holds := by
  w_on; o_law; k_head; (case hw => w_witness2)
  k_fill
  refine Mus.walk_ofX (l := PySem.Challenge.rw_mustercall_k30_attempts) (n := 63) (k := 5) (x := "script") (sp := fun w => Mus.sp_law (_ : PySem.W.Frag)) rfl (by decide) rfl ⟨rfl, by decide, by decide⟩ (fun w h Y => PySem.W.kIn_of Y) ?F (fun _ _ a ns hl _ hS => ⟨a, ns, rfl, hS, hl, fun _ => rfl⟩)
  case F =>
    intro w mg fa h KX G XX hmg
    refine' Mus.all_mk KX G hmg ?aC_Attempt ?aC_BadView ?pg_Attempt ?hd_Attempt ?po_Attempt ?sa_Attempt ?mk_Attempt ?kc_Attempt ?n_Attempt_id ?n_Attempt_members ?n_Attempt__states ?ax_Attempt___init__ ?ix_Attempt___init__ ?lx_Attempt___init__ ?cx_Attempt___init__ ?kx_Attempt___init__ ?ax_Attempt_add ?ix_Attempt_add ?lx_Attempt_add ?cx_Attempt_add ?kx_Attempt_add ?ax_Attempt_missing ?ix_Attempt_missing ?lx_Attempt_missing ?cx_Attempt_missing ?kx_Attempt_missing ?ax_Attempt_ready ?ix_Attempt_ready ?lx_Attempt_ready ?cx_Attempt_ready ?kx_Attempt_ready ?ax_Attempt_finals ?ix_Attempt_finals ?lx_Attempt_finals ?cx_Attempt_finals ?kx_Attempt_finals ?ax_Attempt__final ?ix_Attempt__final ?lx_Attempt__final ?cx_Attempt__final ?kx_Attempt__final ?x_BadView ?k_BadView ?b_BadView ?t_BadView ?m_VV ?ax_last_index ?lx_last_index ?cx_last_index ?kx_last_index ?ax_rest_of ?lx_rest_of ?cx_rest_of ?kx_rest_of ?ax__law_cell ?lx__law_cell ?cx__law_cell ?kx__law_cell ?ax__law_order ?lx__law_order ?cx__law_order ?kx__law_order ?ax__law_views ?lx__law_views ?cx__law_views ?kx__law_views ?ax__law_state ?lx__law_state ?cx__law_state ?kx__law_state ?ax__law_finals ?lx__law_finals ?cx__law_finals ?kx__law_finals ?ax__law_unready ?lx__law_unready ?cx__law_unready ?kx__law_unready ?ax__law_rest ?lx__law_rest ?cx__law_rest ?kx__law_rest ?ax_law ?lx_law ?cx_law ?kx_law ?zlen ?zisinstance ?zint ?zbool ?zstr ?zlist ?ztuple ?zrange ?zmax ?zabs ?zsorted
    (case aC_Attempt => first | k_is | rfl)
    (case aC_BadView => first | k_is | rfl)
    (case pg_Attempt => first | k_is | rfl)
    (case hd_Attempt => first | k_is | rfl)
    (case po_Attempt => first | k_is | rfl)
    (case sa_Attempt => first | k_is | rfl)
    (case mk_Attempt => first | k_is | rfl)
    (case kc_Attempt => first | k_is | rfl)
    (case n_Attempt_id => first | k_is | rfl)
    (case n_Attempt_members => first | k_is | rfl)
    (case n_Attempt__states => first | k_is | rfl)
    (case ax_Attempt___init__ => first | k_is | rfl)
    (case ix_Attempt___init__ => first | k_is | rfl)
    (case lx_Attempt___init__ => first | k_is | rfl)
    (case cx_Attempt___init__ => first | k_is | rfl)
    (case kx_Attempt___init__ => first | k_is | rfl)
    (case ax_Attempt_add => first | k_is | rfl)
    (case ix_Attempt_add => first | k_is | rfl)
    (case lx_Attempt_add => first | k_is | rfl)
    (case cx_Attempt_add => first | k_is | rfl)
    (case kx_Attempt_add => first | k_is | rfl)
    (case ax_Attempt_missing => first | k_is | rfl)
    (case ix_Attempt_missing => first | k_is | rfl)
    (case lx_Attempt_missing => first | k_is | rfl)
    (case cx_Attempt_missing => first | k_is | rfl)
    (case kx_Attempt_missing => first | k_is | rfl)
    (case ax_Attempt_ready => first | k_is | rfl)
    (case ix_Attempt_ready => first | k_is | rfl)
    (case lx_Attempt_ready => first | k_is | rfl)
    (case cx_Attempt_ready => first | k_is | rfl)
    (case kx_Attempt_ready => first | k_is | rfl)
    (case ax_Attempt_finals => first | k_is | rfl)
    (case ix_Attempt_finals => first | k_is | rfl)
    (case lx_Attempt_finals => first | k_is | rfl)
    (case cx_Attempt_finals => first | k_is | rfl)
    (case kx_Attempt_finals => first | k_is | rfl)
    (case ax_Attempt__final => first | k_is | rfl)
    (case ix_Attempt__final => first | k_is | rfl)
    (case lx_Attempt__final => first | k_is | rfl)
    (case cx_Attempt__final => first | k_is | rfl)
    (case kx_Attempt__final => first | k_is | rfl)
    (case x_BadView => k_exc)
    (case k_BadView => first | k_is | rfl)
    (case b_BadView => first | k_is | rfl)
    (case t_BadView => first | k_is | rfl)
    (case m_VV => first | k_is | rfl)
    (case ax_last_index => first | k_is | rfl)
    (case lx_last_index => first | k_is | rfl)
    (case cx_last_index => first | k_is | rfl)
    (case kx_last_index => first | k_is | rfl)
    (case ax_rest_of => first | k_is | rfl)
    (case lx_rest_of => first | k_is | rfl)
    (case cx_rest_of => first | k_is | rfl)
    (case kx_rest_of => first | k_is | rfl)
    (case ax__law_cell => first | k_is | rfl)
    (case lx__law_cell => first | k_is | rfl)
    (case cx__law_cell => first | k_is | rfl)
    (case kx__law_cell => first | k_is | rfl)
    (case ax__law_order => first | k_is | rfl)
    (case lx__law_order => first | k_is | rfl)
    (case cx__law_order => first | k_is | rfl)
    (case kx__law_order => first | k_is | rfl)
    (case ax__law_views => first | k_is | rfl)
    (case lx__law_views => first | k_is | rfl)
    (case cx__law_views => first | k_is | rfl)
    (case kx__law_views => first | k_is | rfl)
    (case ax__law_state => first | k_is | rfl)
    (case lx__law_state => first | k_is | rfl)
    (case cx__law_state => first | k_is | rfl)
    (case kx__law_state => first | k_is | rfl)
    (case ax__law_finals => first | k_is | rfl)
    (case lx__law_finals => first | k_is | rfl)
    (case cx__law_finals => first | k_is | rfl)
    (case kx__law_finals => first | k_is | rfl)
    (case ax__law_unready => first | k_is | rfl)
    (case lx__law_unready => first | k_is | rfl)
    (case cx__law_unready => first | k_is | rfl)
    (case kx__law_unready => first | k_is | rfl)
    (case ax__law_rest => first | k_is | rfl)
    (case lx__law_rest => first | k_is | rfl)
    (case cx__law_rest => first | k_is | rfl)
    (case kx__law_rest => first | k_is | rfl)
    (case ax_law => first | k_is | rfl)
    (case lx_law => first | k_is | rfl)
    (case cx_law => first | k_is | rfl)
    (case kx_law => first | k_is | rfl)
    (case zlen => first | k_is | rfl)
    (case zisinstance => first | k_is | rfl)
    (case zint => first | k_is | rfl)
    (case zbool => first | k_is | rfl)
    (case zstr => first | k_is | rfl)
    (case zlist => first | k_is | rfl)
    (case ztuple => first | k_is | rfl)
    (case zrange => first | k_is | rfl)
    (case zmax => first | k_is | rfl)
    (case zabs => first | k_is | rfl)
    (case zsorted => first | k_is | rfl)

