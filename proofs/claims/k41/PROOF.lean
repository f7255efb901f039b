import PyProof.Rows.All
import Wide.All
import OpenK.AllK
import Wide.FinOn
import HandS.Base
import HandS.Call
import HandS.List
import HandS.Comp
import HandS.Ends
import HandS.Iter
import HandS.Text
import HandS.Words
import HandS.WordsList
import HandS.Wide
import HandS.IsInst
import HandS.TupAny
import HandS.Dict
import HandS.WordsDict
import HandS.Conv
import HandS.More
import HandS.Codes
import HandS.SortRule
import HandS.Walk
import HandS.FStr
import HandS.StrMore
import KE.GoesEnum
import KE.DataCmp
import KE.DataMinMax
import HandS.CallLocal
import HandS.Exc
import HandS.ExcOwn
import HandS.TryOnly
import HandS.WordsExc
import HandS.TryMany
import HandS.ExcIs
import KE.KeyNested
import KE.KDictKeyed
import KE.SortData
import KE.SortUse
import HandS.SortOrd
import HandS.Deep
import KE.GoesEnumKw
import HandS.SortKw
import HandS.TupLe
import HandS.Defaults
import HandS.Head0
import HandS.Head1
import HandS.Head2
import HandS.HeadEnd
import HandS.HeadHook1
import HandS.HeadHook2
import HandS.HeadHook3
import HandS.HeadHook4
import PySem.Challenge.RW_mustercall_k41_members_that_are_none
set_option Elab.async false
set_option linter.all false
set_option maxRecDepth 100000
set_option maxHeartbeats 4000000
/-! What my proofs share: a def with its promise as one thing, small rules, heaps. -/
namespace Mus
open PySem L2
/-- a def of the text that keeps a promise, and all that a call of it asks -/
structure DefOk (P : Program) (w : World) (K : PySem.W.Frag) (mg : Str → Option Value) (base : Heap) (CX : CXT) (x : Str) (ps : List Str) (k : Nat) (sp : Sp) where
  f : Addr
  fd : FuncData
  G : FnOk P w K mg base CX k f fd ps sp
  m : mg x = some (.ref f)
  kp : PySem.W.keepIn K (.ref f) = true
  b : Binds K fd ps []
def DefOk.mono {P : Program} {w : World} {K : PySem.W.Frag} {mg : Str → Option Value} {base : Heap} {CX : CXT} {x : Str} {ps : List Str} {j k : Nat} {sp : Sp} (c : DefOk P w K mg base CX x ps j sp) (h : j ≤ k) : DefOk P w K mg base CX x ps k sp :=
  ⟨c.f, c.fd, c.G.mono h, c.m, c.kp, c.b⟩
/-- a def of the text as the top left it: no promise yet -/
structure DefAt (K : PySem.W.Frag) (mg : Str → Option Value) (x : Str) (ps : List Str) (st : Stmt) where
  f : Addr
  fd : FuncData
  F : Fun K x x st f fd
  m : mg x = some (.ref f)
  b : Binds K fd ps []
def DefAt.ok {P : Program} {w : World} {K : PySem.W.Frag} {mg : Str → Option Value} {base : Heap} {CX : CXT} {x : Str} {ps : List Str} {st : Stmt} {k : Nat} {sp : Sp} (d : DefAt K mg x ps st) (h : ∀ {f : Addr} {fd : FuncData}, Fun K x x st f fd → FnOk P w K mg base CX k f fd ps sp) : DefOk P w K mg base CX x ps k sp :=
  ⟨d.f, d.fd, h d.F, d.m, d.F.kp, d.b⟩
section
variable {X : Cx}
theorem pcall {x : Str} {ps : List Str} {j k : Nat} {sp : Sp} {e : Expr} {es : List Expr} {t : TA} {p pos : Pos} (c : DefOk X.prog X.w X.K X.mg X.base CX0 x ps j sp) (hr : Room k X.A) (ha : PA X (e :: es) t) (hj : j ≤ k := by first | decide | omega) (hg : Gl X x := by rfl)
    (db0 : (x == ("__debug__" : Str)) = false := by decide) (st0 : starEach (e :: es) X.env = (false, eval e X.env) :: starEach es X.env := by rfl) (pl0 : (backTo pos (starEach es X.env)).any (·.1) = false := by rfl) :
    PE X (.Call (.Name x p) (e :: es) [] pos) (tCall sp [] E0 t) := pe_call c.G (hr.mono hj) hg c.m c.kp c.b .nil pass0 ha db0 st0 pl0
/-- a text n times -/
theorem op_mul_str : OpR X (binaryOp .Mult) (fun x y H Q => ∃ (z : Str) (n : Int), x = .str z ∧ y = .int n ∧ 2 ≤ n ∧ n ≤ 1000 ∧ 1 ≤ z.length ∧ z.length ≤ 1000 ∧ ∀ r : Str, TL.tl r = (List.replicate n.toNat (TL.tl z)).flatten → Q (.str r) H) := by
  intro pins s σ H x y v u Q I rx ry h
  obtain ⟨z, n, rfl, rfl, h2, h3, h4, h5, q⟩ := h
  obtain ⟨t, rfl⟩ := rx
  obtain ⟨t', rfl⟩ := ry
  have n1 : ¬ n < 1 := by omega
  have n2 : ¬ (n == 1 || z.length == 0) = true := by
    rw [Bool.or_eq_true, beq_iff_eq, beq_iff_eq]; omega
  have hr : (decide (n < -(2 ^ 63 : Int)) || decide (n ≥ 2 ^ 63)) = false := by
    rw [decide_eq_false (by omega), decide_eq_false (by omega)]; rfl
  have hm : z.length * n.toNat ≤ 1000 * 1000 := Nat.mul_le_mul h5 (by omega)
  have hl : Builtin.Str.tooLong (z.length * n.toNat) = false := by
    unfold Builtin.Str.tooLong
    have e : sizeLine = 16777216 := sizeLine_eq
    rw [decide_eq_false (by omega)]
  have hb : ¬ ((z.length : Int) > (2 ^ 63 - 1) / n) := by
    have : (1000 : Int) ≤ (2 ^ 63 - 1) / n := by
      rw [Int.le_ediv_iff_mul_le (by omega)]
      omega
    omega
  refine PySem.P.mul_str hr (fun _ _ => hb) (fun _ _ => hl) ?_
  rw [if_neg n1, if_neg n2]
  have hf : ∀ (k : Nat) (acc : Array Nat), ((List.replicate k z.cps).foldl (· ++ ·) acc).toList = acc.toList ++ (List.replicate k z.cps.toList).flatten := by
    intro k
    induction k with
    | zero => intro acc; simp
    | succ k ih =>
      intro acc
      rw [List.replicate_succ, List.foldl_cons, ih, List.replicate_succ, List.flatten_cons, Array.toList_append, List.append_assoc]
  have hr : TL.tl (⟨(List.replicate n.toNat z.cps).foldl (· ++ ·) #[]⟩ : Str) = (List.replicate n.toNat (TL.tl z)).flatten := by
    show ((List.replicate n.toNat z.cps).foldl (· ++ ·) #[]).toList = _
    rw [hf]; rfl
  have hlen : (⟨(List.replicate n.toNat z.cps).foldl (· ++ ·) #[]⟩ : Str).length ≤ sizeLine := by
    rw [TL.len_tl, hr]
    have e : sizeLine = 16777216 := sizeLine_eq
    have z2 : ((List.replicate n.toNat (TL.tl z)).flatten).length = z.length * n.toNat := by
      rw [TL.len_tl]
      generalize n.toNat = k
      induction k with
      | zero => rfl
      | succ k ih => rw [List.replicate_succ, List.flatten_cons, List.length_append, ih, Nat.mul_succ, Nat.add_comm]
    omega
  exact ⟨hlen, .str _, H, I.tok _, ⟨_, rfl⟩, q _ hr⟩
/-- for c in a text -/
theorem for_str {z : Str} {g : TG} {tb : TS} {D : Ends} {σ : St} {H : Hp} (Pv : Nat → St → Hp → Prop) (h0 : Pv 0 σ H)
    (hs : ∀ i c σ H, (TL.tl z)[i]? = some c → Pv i σ H → g (.str ⟨#[c]⟩) σ H fun σ2 H2 => tb { D with nx := Pv (i + 1), ct := Pv (i + 1), bk := D.nx } σ2 H2) (hd : ∀ σ H, Pv (TL.tl z).length σ H → D.nx σ H) :
    ∃ W : Nat → Nat → St → Hp → Prop, (∃ m, W 0 m σ H) ∧ ∀ i m σ H, W i m σ H →
      ((Its z).stop i H ∧ D.nx σ H) ∨ ((Its z).go i H ∧ ∃ N : St → Hp → Prop, (∀ σ' H', N σ' H' → ∃ m', m' < m ∧ W (i + 1) m' σ' H') ∧ ∀ x H', (Its z).yld i H x H' → g x σ H' fun σ2 H2 => tb { D with nx := N, ct := N, bk := D.nx } σ2 H2) := by
  have hl : (TL.tl z).length = z.cps.size := Array.length_toList
  refine ⟨fun i m σ H => m = (TL.tl z).length - i ∧ i ≤ (TL.tl z).length ∧ Pv i σ H, ⟨(TL.tl z).length, rfl, Nat.zero_le _, h0⟩, ?_⟩
  rintro i m σ H ⟨rfl, le1, pv1⟩
  by_cases lt1 : i < (TL.tl z).length
  · refine .inr ⟨(by show i < z.cps.size; omega), Pv (i + 1), fun σ' H' p' => ⟨(TL.tl z).length - (i + 1), by omega, rfl, lt1, p'⟩, fun x H' y => ?_⟩
    obtain ⟨e, c, hc, ex⟩ := y
    subst e
    subst ex
    exact hs i c σ H' (by rw [Array.getElem?_toList]; exact hc) pv1
  · have e : i = (TL.tl z).length := by omega
    subst e
    exact .inl ⟨(by show z.cps.size ≤ _; omega), hd σ H pv1⟩
end
/-! ### heaps -/
/-- all but what stands at p is as it was -/
def But (p : Addr) (H H' : Hp) : Prop := ∀ b o, H b = some o → b ≠ p → H' b = some o
theorem But.refl (p : Addr) (H : Hp) : But p H H := fun _ _ h _ => h
theorem But.trans {p : Addr} {H H1 H2 : Hp} (a : But p H H1) (b : But p H1 H2) : But p H H2 := fun c o h n => b c o (a c o h n) n
theorem But.of {p : Addr} {H H' : Hp} (a : Same H H') : But p H H' := fun c o h _ => a c o h
theorem same_new {H : Hp} {p : Addr} (h : H p = none) (o : HO) : Same H (upd H p o) := fun b u q => by rw [upd_ne (ne_of_none q h)]; exact q
theorem but_upd {H : Hp} {p : Addr} (o : HO) : But p H (upd H p o) := fun b u q n => by rw [upd_ne n]; exact q
theorem same_seqT {K : PySem.W.Frag} {H H' : Hp} {a : Addr} {xs : List V} (e : Same H H') (h : SqT K H a xs) : SqT K H' a xs := by
  rcases h with (h | ⟨o, h⟩) | h
  · exact .inl (.inl (e _ _ h))
  · exact .inl (.inr ⟨o, e _ _ h⟩)
  · exact .inr h
/-- tuples stay where only a list may change -/
theorem But.seqT {K : PySem.W.Frag} {H H' : Hp} {p a : Addr} {xs ys : List V} (e : But p H H') (hp : H p = some (.lst ys)) (h : SqT K H a xs) : SqT K H' a xs := by
  rcases h with (h | ⟨o, h⟩) | h
  · exact .inl (.inl (e _ _ h (ne_of h hp (by intro z; cases z))))
  · exact .inl (.inr ⟨o, e _ _ h (ne_of h hp (by intro z; cases z))⟩)
  · exact .inr h
theorem But.seqL {K : PySem.W.Frag} {H H' : Hp} {p a : Addr} {xs : List V} (e : But p H H') (hp : a ≠ p) (h : SqL K H a xs) : SqL K H' a xs := by
  rcases h with (h | ⟨o, h⟩) | h
  · exact .inl (.inl (e _ _ h hp))
  · exact .inl (.inr ⟨o, e _ _ h hp⟩)
  · exact .inr h
end Mus

set_option maxRecDepth 100000
set_option maxHeartbeats 4000000
/-! Plain data of any kind in the heap, beside one list (the bag, at p) that changes. -/
namespace Mus
open PySem L2
theorem sl : sizeLine = 16777216 := sizeLine_eq
theorem dT {p : Prop} [Decidable p] {A B : Prop} (h : p) (a : A) : if decide p = true then A else B := by
  rw [decide_eq_true h]; exact iteT a
theorem dF {p : Prop} [Decidable p] {A B : Prop} (h : ¬ p) (b : B) : if decide p = true then A else B := by
  rw [decide_eq_false h]; exact iteF b
theorem nT {p : Prop} [Decidable p] {A B : Prop} (h : ¬ p) (a : A) : if (!decide p) = true then A else B := by
  rw [decide_eq_false h]; exact iteT a
theorem nF {p : Prop} [Decidable p] {A B : Prop} (h : p) (b : B) : if (!decide p) = true then A else B := by
  rw [decide_eq_true h]; exact iteF b
theorem at_int {α : Type} {xs : List α} {i : Int} {v : α} (h0 : 0 ≤ i) (h : xs[i.toNat]? = some v) : atI xs i = some v := by
  have e : i = ((i.toNat : Nat) : Int) := by omega
  rw [e]
  exact atI_nat h
theorem pe_const {X : Cx} {x : Str} {i : Int} {pos : Pos} (hm : ∃ t, X.mg x = some (.int i t)) (hg : Gl X x := by rfl) (hd : (x == ("__debug__" : Str)) = false := by decide) : PE X (.Name x pos) (tC (.int i)) := by
  obtain ⟨t, h⟩ := hm
  exact pe_glob hg h ⟨t, rfl⟩ hd
theorem pe_ty {X : Cx} {x : Str} {pos : Pos} (n : String) (hm : X.mg x = none) (hv : bootBuiltins x = some (.type n) := by decide +kernel) (hg : Gl X x := by rfl) (hn : x ≠ "__name__" := by decide) (hd : (x == ("__debug__" : Str)) = false := by decide) : PE X (.Name x pos) (tC (.ty n)) := pe_bltn hg hm hv rfl hn hd
theorem pe_cls {X : Cx} {x : Str} {C : Addr} {pos : Pos} (hm : X.mg x = some (.ref C)) (hg : Gl X x := by rfl) (hd : (x == ("__debug__" : Str)) = false := by decide) : PE X (.Name x pos) (tC (.ref C)) := pe_glob (v := .ref C) hg hm rfl hd
mutual
/-- the value v stands for the data d, all of it tracked and none of it at p -/
inductive Rp (p : Addr) (H : Hp) : V → PyData → Prop
  | non : Rp p H .non .none
  | bl (b : Bool) : Rp p H (.bl b) (.bool b)
  | int (i : Int) : Rp p H (.int i) (.int i)
  | str (x : Str) : Rp p H (.str x) (.str x)
  | lst {a : Addr} {xs : List V} {ds : List PyData} : H a = some (.lst xs) → a ≠ p → Rps p H xs ds → Rp p H (.ref a) (.list ds)
  | tup {a : Addr} {xs : List V} {ds : List PyData} : H a = some (.tup xs) → a ≠ p → xs.length ≤ 100000 → Rps p H xs ds → Rp p H (.ref a) (.tuple ds)
inductive Rps (p : Addr) (H : Hp) : List V → List PyData → Prop
  | nil : Rps p H [] []
  | cons {v : V} {vs : List V} {d : PyData} {ds : List PyData} : Rp p H v d → Rps p H vs ds → Rps p H (v :: vs) (d :: ds)
end
mutual
theorem Rp.mono {p : Addr} {H H' : Hp} (k : But p H H') : ∀ {v : V} {d : PyData}, Rp p H v d → Rp p H' v d
  | _, _, .non => .non
  | _, _, .bl b => .bl b
  | _, _, .int i => .int i
  | _, _, .str x => .str x
  | _, _, .lst h n r => .lst (k _ _ h n) n (Rps.mono k r)
  | _, _, .tup h n l r => .tup (k _ _ h n) n l (Rps.mono k r)
theorem Rps.mono {p : Addr} {H H' : Hp} (k : But p H H') : ∀ {vs : List V} {ds : List PyData}, Rps p H vs ds → Rps p H' vs ds
  | _, _, .nil => .nil
  | _, _, .cons a b => .cons (Rp.mono k a) (Rps.mono k b)
end
mutual
theorem Rp.dp {p : Addr} {K : PySem.W.Frag} {H : Hp} : ∀ {v : V} {d : PyData}, Rp p H v d → Dp K H v d
  | _, _, .non => .non
  | _, _, .bl b => .bl b
  | _, _, .int i => .int i
  | _, _, .str x => .str x
  | _, _, .lst h n r => .lst (SqL.of h) (Rps.dp r)
  | _, _, .tup h n _ r => .tup (SqT.of h) (Rps.dp r)
theorem Rps.dp {p : Addr} {K : PySem.W.Frag} {H : Hp} : ∀ {vs : List V} {ds : List PyData}, Rps p H vs ds → DpAll K H vs ds
  | _, _, .nil => .nil
  | _, _, .cons a b => .cons (Rp.dp a) (Rps.dp b)
end
theorem Rp.same {p : Addr} {H H' : Hp} {v : V} {d : PyData} (k : Same H H') (h : Rp p H v d) : Rp p H' v d := h.mono (But.of k)
theorem Rps.same {p : Addr} {H H' : Hp} {vs : List V} {ds : List PyData} (k : Same H H') (h : Rps p H vs ds) : Rps p H' vs ds := h.mono (But.of k)
theorem Rps.length {p : Addr} {H : Hp} : ∀ {vs : List V} {ds : List PyData}, Rps p H vs ds → vs.length = ds.length
  | _, _, .nil => rfl
  | _, _, .cons _ r => by rw [List.length_cons, List.length_cons, Rps.length r]
theorem Rps.at {p : Addr} {H : Hp} : ∀ {vs : List V} {ds : List PyData} {i : Nat} {v : V}, Rps p H vs ds → vs[i]? = some v → ∃ d, ds[i]? = some d ∧ Rp p H v d
  | _, _, i, v, .nil, h => by simp at h
  | _, _, 0, v, .cons a _, h => by cases h; exact ⟨_, rfl, a⟩
  | _, _, i + 1, v, .cons _ r, h => Rps.at (i := i) r (by simpa using h)
theorem Rps.get {p : Addr} {H : Hp} : ∀ {vs : List V} {ds : List PyData} {i : Nat} {d : PyData}, Rps p H vs ds → ds[i]? = some d → ∃ v, vs[i]? = some v ∧ Rp p H v d
  | _, _, i, v, .nil, h => by simp at h
  | _, _, 0, v, .cons a _, h => by cases h; exact ⟨_, rfl, a⟩
  | _, _, i + 1, v, .cons _ r, h => Rps.get (i := i) r (by simpa using h)
theorem Rps.append {p : Addr} {H : Hp} : ∀ {vs ws : List V} {ds es : List PyData}, Rps p H vs ds → Rps p H ws es → Rps p H (vs ++ ws) (ds ++ es)
  | _, _, _, _, .nil, r => r
  | _, _, _, _, .cons a q, r => .cons a (Rps.append q r)
theorem Rps.take {p : Addr} {H : Hp} : ∀ {vs : List V} {ds : List PyData} (n : Nat), Rps p H vs ds → Rps p H (vs.take n) (ds.take n)
  | _, _, 0, _ => .nil
  | _, _, n + 1, .nil => .nil
  | _, _, n + 1, .cons a q => .cons a (Rps.take n q)
theorem Rps.drop {p : Addr} {H : Hp} : ∀ {vs : List V} {ds : List PyData} (n : Nat), Rps p H vs ds → Rps p H (vs.drop n) (ds.drop n)
  | _, _, 0, r => r
  | _, _, n + 1, .nil => .nil
  | _, _, n + 1, .cons a q => Rps.drop n q
/-! ### classes of data -/
def tyD : PyData → Value
  | .none => .type "NoneType" | .bool _ => .type "bool" | .int _ => .type "int" | .str _ => .type "str" | .list _ => .type "list" | .tuple _ => .type "tuple" | .dict _ => .type "dict"
theorem Rp.ty {p : Addr} {K : PySem.W.Frag} {H : Hp} {v : V} {d : PyData} (h : Rp p H v d) : TyX K H v (tyD d) := by
  cases h with
  | non => exact .base .non
  | bl b => exact .base (.bl b)
  | int i => exact .base (.int i)
  | str x => exact .base (.str x)
  | lst h _ _ => exact .base (.lst h)
  | tup h _ _ _ => exact .base (.tup h)
def dInt : PyData → Bool
  | .int _ => true | .bool _ => true | _ => false
def dBool : PyData → Bool
  | .bool _ => true | _ => false
def dStr : PyData → Bool
  | .str _ => true | _ => false
def dTup : PyData → Bool
  | .tuple _ => true | _ => false
theorem kit_int {K : PySem.W.Frag} : ∀ d : PyData, PySem.W.kitOne K (tyD d) (.type "int") = some (dInt d)
  | .none => kit_ty (r := false) (by decide +kernel)
  | .bool _ => kit_ty (r := true) (by decide +kernel)
  | .int _ => kit_ty (r := true) (by decide +kernel)
  | .str _ => kit_ty (r := false) (by decide +kernel)
  | .list _ => kit_ty (r := false) (by decide +kernel)
  | .tuple _ => kit_ty (r := false) (by decide +kernel)
  | .dict _ => kit_ty (r := false) (by decide +kernel)
theorem kit_bool {K : PySem.W.Frag} : ∀ d : PyData, PySem.W.kitOne K (tyD d) (.type "bool") = some (dBool d)
  | .none => kit_ty (r := false) (by decide +kernel)
  | .bool _ => kit_ty (r := true) (by decide +kernel)
  | .int _ => kit_ty (r := false) (by decide +kernel)
  | .str _ => kit_ty (r := false) (by decide +kernel)
  | .list _ => kit_ty (r := false) (by decide +kernel)
  | .tuple _ => kit_ty (r := false) (by decide +kernel)
  | .dict _ => kit_ty (r := false) (by decide +kernel)
theorem kit_str {K : PySem.W.Frag} : ∀ d : PyData, PySem.W.kitOne K (tyD d) (.type "str") = some (dStr d)
  | .none => kit_ty (r := false) (by decide +kernel)
  | .bool _ => kit_ty (r := false) (by decide +kernel)
  | .int _ => kit_ty (r := false) (by decide +kernel)
  | .str _ => kit_ty (r := true) (by decide +kernel)
  | .list _ => kit_ty (r := false) (by decide +kernel)
  | .tuple _ => kit_ty (r := false) (by decide +kernel)
  | .dict _ => kit_ty (r := false) (by decide +kernel)
theorem kit_tup {K : PySem.W.Frag} : ∀ d : PyData, PySem.W.kitOne K (tyD d) (.type "tuple") = some (dTup d)
  | .none => kit_ty (r := false) (by decide +kernel)
  | .bool _ => kit_ty (r := false) (by decide +kernel)
  | .int _ => kit_ty (r := false) (by decide +kernel)
  | .str _ => kit_ty (r := false) (by decide +kernel)
  | .list _ => kit_ty (r := false) (by decide +kernel)
  | .tuple _ => kit_ty (r := true) (by decide +kernel)
  | .dict _ => kit_ty (r := false) (by decide +kernel)
end Mus
namespace Mus
open PySem L2
/-! ### members and view ids, as functions of data -/
def isInt (d : PyData) (a b : Int) : Bool := match d with | .int i => decide (a ≤ i) && decide (i ≤ b) | _ => false
def isProc (c d : PyData) : Bool := match c with | .int n => (decide (1 ≤ n) && decide (n ≤ 12)) && isInt d 0 (n - 1) | _ => false
def isMem (c : PyData) : PyData → Bool
  | .tuple [x, y] => isProc c x && isInt y 1 1000000000000
  | _ => false
def isVid (c : PyData) : PyData → Bool
  | .tuple [x, y] => isInt x 0 1000000000000 && isMem c y
  | _ => false
def procOf : PyData → Int
  | .tuple (.int i :: _) => i
  | _ => 0
def memsFrom (c : PyData) : Int → List PyData → Bool
  | _, [] => true
  | l, d :: ds => isMem c d && decide (l < procOf d) && memsFrom c (procOf d) ds
def isMems (c : PyData) : PyData → Bool
  | .tuple ds => !ds.isEmpty && memsFrom c (-1) ds
  | _ => false
theorem isProc_int {c d : PyData} (h : isProc c d = true) : ∃ n i, c = .int n ∧ d = .int i ∧ 1 ≤ n ∧ n ≤ 12 ∧ 0 ≤ i ∧ i < n := by
  cases c <;> try (simp [isProc] at h; done)
  rename_i n
  cases d <;> try (simp [isProc, isInt] at h; done)
  rename_i i
  simp [isProc, isInt] at h
  exact ⟨n, i, rfl, rfl, by omega, by omega, by omega, by omega⟩
theorem isInt_int {d : PyData} {a b : Int} (h : isInt d a b = true) : ∃ i, d = .int i ∧ a ≤ i ∧ i ≤ b := by
  cases d <;> try (simp [isInt] at h; done)
  rename_i i
  simp [isInt] at h
  exact ⟨i, rfl, h.1, h.2⟩
theorem isMem_int {c d : PyData} (h : isMem c d = true) : ∃ n i l, c = .int n ∧ d = .tuple [.int i, .int l] ∧ 1 ≤ n ∧ n ≤ 12 ∧ 0 ≤ i ∧ i < n ∧ 1 ≤ l ∧ l ≤ 1000000000000 := by
  unfold isMem at h
  split at h
  · rename_i x y
    rw [Bool.and_eq_true] at h
    obtain ⟨n, i, rfl, rfl, h1, h2, h3, h4⟩ := isProc_int h.1
    obtain ⟨l, rfl, h5, h6⟩ := isInt_int h.2
    exact ⟨n, i, l, rfl, rfl, h1, h2, h3, h4, h5, h6⟩
  · cases h
/-! ### promises: a truth told of data, nothing changed -/
def spI : Sp := fun vs H Q _ => ∃ (p : Addr) (v : V) (d : PyData) (a b : Int), vs = [v, .int a, .int b] ∧ Rp p H v d ∧ Q (.bl (isInt d a b)) H
def spB1 (f : PyData → Bool) : Sp := fun vs H Q _ => ∃ (p : Addr) (v : V) (d : PyData), vs = [v] ∧ Rp p H v d ∧ Q (.bl (f d)) H
def spB2 (f : PyData → PyData → Bool) : Sp := fun vs H Q _ => ∃ (p : Addr) (u v : V) (c d : PyData), vs = [u, v] ∧ Rp p H u c ∧ Rp p H v d ∧ Q (.bl (f c d)) H
/-- the same where new things may have come -/
def spS1 (f : PyData → Bool) : Sp := fun vs H Q _ => ∃ (p : Addr) (v : V) (d : PyData), vs = [v] ∧ Rp p H v d ∧ ∀ H', Same H H' → Q (.bl (f d)) H'
def spS2 (f : PyData → PyData → Bool) : Sp := fun vs H Q _ => ∃ (p : Addr) (u v : V) (c d : PyData), vs = [u, v] ∧ Rp p H u c ∧ Rp p H v d ∧ ∀ H', Same H H' → Q (.bl (f c d)) H'
theorem ansB {Q : VK} {H : Hp} {b c : Bool} (q : Q (.bl b) H) (e : b = c) : Q (.bl c) H := e ▸ q
theorem iB {A B : Prop} {b : Bool} (h1 : b = true → A) (h2 : b = false → B) : if b = true then A else B := by
  cases b
  · exact iteF (h2 rfl)
  · exact iteT (h1 rfl)
theorem vint_ne {a b : Int} (h : a ≠ b) : ¬ V.int a = V.int b := fun e => h (V.int.inj e)
theorem drop_cons {α : Type} {xs : List α} {i : Nat} {x : α} (h : xs[i]? = some x) : xs.drop i = x :: xs.drop (i + 1) := by
  obtain ⟨hi, e⟩ := List.getElem?_eq_some_iff.mp h
  rw [List.drop_eq_getElem_cons hi, e]
section
variable {P : Program} {w : World} {K : PySem.W.Frag} {mg : Str → Option Value} {base : Heap}
theorem no_call {CX : CXT} {k : Nat} {f : Addr} {fd : FuncData} {ps : List Str} {sp : Sp} (no : ∀ vs H Q E, ¬ sp vs H Q E) : FnOk P w K mg base CX k f fd ps sp :=
  ⟨fun vs H Q E h => absurd h (no vs H Q E), fun A outer s H args us vs Q E _ _ _ _ h => absurd h (no vs H Q E)⟩
end
end Mus

set_option maxRecDepth 100000
set_option maxHeartbeats 4000000
/-! The bag of a law's draws, new things beside it, displays of data, tuples cut and joined. -/
namespace Mus
open PySem L2
def Bag (p : Addr) (c : Int) (H : Hp) : Prop := ∃ x y : Int, H p = some (.lst [.int x, .int y, .int c])
theorem Bag.seqT {K : PySem.W.Frag} {p : Addr} {c : Int} {H H' : Hp} (g : Bag p c H) (b : But p H H') {a : Addr} {xs : List V} (h : SqT K H a xs) : SqT K H' a xs := by
  obtain ⟨x, y, hp⟩ := g
  exact b.seqT hp h
theorem Bag.ne {p D : Addr} {c : Int} {H : Hp} (g : Bag p c H) (h : H D = none) : p ≠ D := by
  obtain ⟨x, y, hp⟩ := g
  exact ne_of_none hp h
theorem Bag.upd {p D : Addr} {c : Int} {H : Hp} {o : HO} (g : Bag p c H) (h : p ≠ D) : Bag p c (upd H D o) := by
  obtain ⟨x, y, hp⟩ := g
  exact ⟨x, y, by rw [upd_ne h]; exact hp⟩
theorem Bag.new {p D : Addr} {c : Int} {H : Hp} {o : HO} (g : Bag p c H) (h : H D = none) : Bag p c (L2.upd H D o) := g.upd (g.ne h)
theorem Bag.same {p : Addr} {c : Int} {H H' : Hp} (g : Bag p c H) (s : Same H H') : Bag p c H' := by
  obtain ⟨x, y, hp⟩ := g
  exact ⟨x, y, s _ _ hp⟩
/-- a new thing -/
theorem But.new {p D : Addr} {H H' : Hp} {o : HO} (b : But p H H') (h : H' D = none) : But p H (L2.upd H' D o) := fun a u e n => by
  have z := b a u e n
  rw [upd_ne (ne_of_none z h)]; exact z
/-- a change at what was not there at first -/
theorem But.later {p D : Addr} {H H' : Hp} {o : HO} (b : But p H H') (h : H D = none) : But p H (L2.upd H' D o) := fun a u e n => by
  rw [upd_ne (ne_of_none e h)]; exact b a u e n
theorem But.free {p D : Addr} {H H' : Hp} (b : But p H H') (h : H' D = none) (n : D ≠ p) : H D = none := by
  cases e : H D with
  | none => rfl
  | some o =>
    have z := b D o e n
    rw [h] at z; cases z
/-! ### displays -/
/-- the expression gives the int i, and that is all -/
def DI (te : TE) (σ : St) (i : Int) : Prop := ∀ (H : Hp) (Q : VK), Q (.int i) H → te σ H Q
/-- the expression gives the data d, new things beside what was -/
def DE (p : Addr) (te : TE) (σ : St) (d : PyData) : Prop := ∀ (c : Int) (H : Hp) (Q : VK), Bag p c H → (∀ v H', Same H H' → Bag p c H' → Rp p H' v d → Q v H') → te σ H Q
def DEs (p : Addr) (ta : TA) (σ : St) (ds : List PyData) : Prop := ∀ (c : Int) (H : Hp) (Q : List V → Hp → Prop), Bag p c H → (∀ vs H', Same H H' → Bag p c H' → Rps p H' vs ds → Q vs H') → ta σ H Q
section
variable {p : Addr} {σ : St} {te ta1 tb1 : TE} {ta : TA} {i j : Int} {d : PyData} {ds : List PyData}
theorem Same.rfl' (H : Hp) : Same H H := fun _ _ h => h
theorem di_c : DI (tC (.int i)) σ i := fun _ _ q => q
theorem di_v {n : Nat} (h : σ[n]? = some (some (.int i))) : DI (tVar n) σ i := fun _ _ q => ⟨_, h, q⟩
theorem di_op {f : Int → Int → Int} (h1 : DI ta1 σ i) (h2 : DI tb1 σ j) : DI (tOp (rI0 fun i j => .int (f i j)) ta1 tb1) σ (f i j) := fun H Q q => h1 H _ (h2 H _ ⟨i, j, rfl, rfl, q⟩)
theorem di_opC {C : Int → Int → Prop} {f : Int → Int → Int} (h1 : DI ta1 σ i) (h2 : DI tb1 σ j) (hc : C i j) : DI (tOp (rI C fun i j => .int (f i j)) ta1 tb1) σ (f i j) := fun H Q q => h1 H _ (h2 H _ ⟨i, j, rfl, rfl, hc, q⟩)
theorem di_neg (h1 : DI te σ i) : DI (tUn (rU fun i => .int (-i)) te) σ (-i) := fun H Q q => h1 H _ ⟨i, rfl, q⟩
theorem de_i (h : DI te σ i) : DE p te σ (.int i) := fun c H Q g q => h H Q (q _ H (Same.rfl' H) g (.int i))
theorem de_bl {b : Bool} : DE p (tC (.bl b)) σ (.bool b) := fun c H Q g q => q _ H (Same.rfl' H) g (.bl b)
theorem de_str {z : Str} : DE p (tC (.str z)) σ (.str z) := fun c H Q g q => q _ H (Same.rfl' H) g (.str z)
theorem de_non : DE p (tC .non) σ .none := fun c H Q g q => q _ H (Same.rfl' H) g .non
theorem des_nil : DEs p tNil σ [] := fun c H Q g q => q [] H (Same.rfl' H) g .nil
theorem des_cons (h1 : DE p te σ d) (h2 : DEs p ta σ ds) : DEs p (tCons te ta) σ (d :: ds) := fun c H Q g q =>
  h1 c H _ g fun v H1 s1 g1 r1 => h2 c H1 _ g1 fun vs H2 s2 g2 r2 => q _ H2 (s1.trans s2) g2 (.cons (r1.same s2) r2)
theorem de_tup (h : DEs p ta σ ds) (hl : ds.length ≤ 1000) : DE p (tTup ta) σ (.tuple ds) := fun c H Q g q =>
  h c H _ g fun vs H1 s1 g1 r1 => ⟨by have := r1.length; have := sl; omega, fun a na => q _ _ (s1.trans (same_new na _)) (g1.new na) (.tup upd_same (g1.ne na).symm (by have := r1.length; omega) (r1.same (same_new na _)))⟩
theorem de_lst (h : DEs p ta σ ds) (hl : ds.length ≤ 1000) : DE p (tLst ta) σ (.list ds) := fun c H Q g q =>
  h c H _ g fun vs H1 s1 g1 r1 => ⟨by have := r1.length; have := sl; omega, fun a na => q _ _ (s1.trans (same_new na _)) (g1.new na) (.lst upd_same (g1.ne na).symm (r1.same (same_new na _)))⟩
theorem de_lstN (n : Nat) (R : PyData → Prop) {c : Int} {H : Hp} {Q : VK} (h : ∃ ds, DEs p ta σ ds ∧ ds.length = n ∧ ∀ d ∈ ds, R d) (hn : n ≤ 1000) (g : Bag p c H)
    (q : ∀ ds v H', ds.length = n → (∀ d ∈ ds, R d) → Same H H' → Bag p c H' → Rp p H' v (.list ds) → Q v H') : tLst ta σ H Q := by
  obtain ⟨ds, h1, h2, h3⟩ := h
  exact de_lst h1 (by omega) c H Q g fun v H' => q ds v H' h2 h3
theorem de_cat {es : List PyData} (h1 : DE p ta1 σ (.list ds)) (h2 : DE p tb1 σ (.list es)) (hl : ds.length + es.length ≤ 1000) : DE p (tOp rCat ta1 tb1) σ (.list (ds ++ es)) := fun c H Q g q =>
  h1 c H _ g fun v H1 s1 g1 r1 => h2 c H1 _ g1 fun u H2 s2 g2 r2 => by
    obtain _ | _ | _ | _ | @⟨a, xs, _, ha, na, hr⟩ | _ := r1.same s2
    obtain _ | _ | _ | _ | @⟨b, ys, _, hb, nb, hr2⟩ | _ := r2
    refine ⟨a, b, xs, ys, rfl, rfl, ha, hb, ?_, fun t nt => q _ _ (s1.trans (s2.trans (same_new nt _))) (g2.new nt) (.lst upd_same (g2.ne nt).symm ((hr.append hr2).same (same_new nt _)))⟩
    have := hr.length; have := hr2.length; have := sl; omega
theorem de_varD {n : Nat} {v : V} (h : σ[n]? = some (some v)) (hd : ∀ H, Rp p H v d) : DE p (tVar n) σ d := fun c H Q g q => ⟨_, h, q _ H (Same.rfl' H) g (hd H)⟩
end
/-! ### tuples cut and joined -/
def cutD (ds : List PyData) (lo hi : Option Int) : List PyData := (ds.drop (HT.sIx ds.length 0 lo)).take (HT.sIx ds.length ds.length hi - HT.sIx ds.length 0 lo)
theorem Rps.cut {p : Addr} {H : Hp} {vs : List V} {ds : List PyData} (r : Rps p H vs ds) (lo hi : Option Int) : Rps p H (cutV vs lo hi) (cutD ds lo hi) := by
  unfold cutV cutD
  rw [r.length]
  exact (r.drop _).take _
theorem cutD_len (ds : List PyData) (lo hi : Option Int) : (cutD ds lo hi).length ≤ ds.length := by
  unfold cutD
  rw [List.length_take, List.length_drop]; omega
theorem cutD_mem {ds : List PyData} {lo hi : Option Int} {d : PyData} (h : d ∈ cutD ds lo hi) : d ∈ ds := List.mem_of_mem_drop (List.mem_of_mem_take h)
theorem cut_whole {xs : List V} {lo hi : Option Int} (h : HT.sIx xs.length 0 lo = 0 ∧ HT.sIx xs.length xs.length hi = xs.length) : cutV xs lo hi = xs := by
  unfold cutV
  rw [h.1, h.2, List.drop_zero, Nat.sub_zero, List.take_length]
section
variable {K : PySem.W.Frag} {p : Addr} {c : Int} {H : Hp} {Q : VK}
theorem rd_cut {a : Addr} {ds : List PyData} {lo hi : Option Int} (r : Rp p H (.ref a) (.tuple ds)) (g : Bag p c H)
    (q : ∀ b H', Same H H' → Bag p c H' → Rp p H' (.ref b) (.tuple (cutD ds lo hi)) → Q (.ref b) H') : rSlA K (.ref a) lo hi H Q := by
  obtain _ | _ | _ | _ | _ | @⟨_, xs, _, ha, na, hw, hr⟩ := r
  refine ⟨a, xs, rfl, SqT.of ha, fun w => ?_, fun w b nb => ?_⟩
  · refine q _ _ (Same.rfl' H) g (.tup ha na hw ?_)
    have z := hr.cut lo hi
    rw [cut_whole w] at z
    exact z
  · exact q _ _ (same_new nb _) (g.new nb) (.tup upd_same (g.ne nb).symm (Nat.le_trans (cutV_length _ _ _) hw) ((hr.cut lo hi).same (same_new nb _)))
theorem rd_cat {a b : Addr} {ds es : List PyData} (r1 : Rp p H (.ref a) (.tuple ds)) (r2 : Rp p H (.ref b) (.tuple es)) (g : Bag p c H) (hl : ds.length + es.length ≤ 100000)
    (q : ∀ t H', Same H H' → Bag p c H' → Rp p H' (.ref t) (.tuple (ds ++ es)) → Q (.ref t) H') : rCatA K (.ref a) (.ref b) H Q := by
  have k2 := r2
  have k1 := r1
  obtain _ | _ | _ | _ | _ | @⟨_, xs, _, ha, na, hw, hr⟩ := r1
  obtain _ | _ | _ | _ | _ | @⟨_, ys, _, hb, nb, hw2, hr2⟩ := r2
  have l1 := hr.length
  have l2 := hr2.length
  have hs := sl
  refine ⟨a, b, xs, ys, rfl, rfl, SqT.of ha, SqT.of hb, by omega, fun e => ?_, fun _ e => ?_, fun _ _ t nt => ?_⟩
  · subst e
    cases ds with
    | nil => exact q _ _ (Same.rfl' H) g k2
    | cons _ _ => cases l1
  · subst e
    cases es with
    | nil => rw [List.append_nil] at q; exact q _ _ (Same.rfl' H) g k1
    | cons _ _ => cases l2
  · exact q _ _ (same_new nt _) (g.new nt) (.tup upd_same (g.ne nt).symm (by rw [List.length_append]; omega) ((hr.append hr2).same (same_new nt _)))
end
/-! ### how deep and wide, what its texts are -/
def fit : Nat → PyData → Prop
  | 0, .tuple _ => False
  | n + 1, .tuple ds => ds.length ≤ 3000 ∧ ∀ d ∈ ds, fit n d
  | _, _ => True
inductive Her (P : Str → Prop) : PyData → Prop
  | tup {ds : List PyData} : (∀ d ∈ ds, Her P d) → Her P (.tuple ds)
  | str {z : Str} : P z → Her P (.str z)
  | non : Her P .none
  | bl (b : Bool) : Her P (.bool b)
  | int (i : Int) : Her P (.int i)
  | lst (ds : List PyData) : Her P (.list ds)
theorem Her.mem {P : Str → Prop} {ds : List PyData} (h : Her P (.tuple ds)) : ∀ d ∈ ds, Her P d := by
  cases h with
  | tup h => exact h
theorem Her.cut {P : Str → Prop} {ds : List PyData} (h : Her P (.tuple ds)) (lo hi : Option Int) : Her P (.tuple (cutD ds lo hi)) := .tup fun d m => h.mem d (cutD_mem m)
theorem Her.app {P : Str → Prop} {ds es : List PyData} (h : Her P (.tuple ds)) (k : Her P (.tuple es)) : Her P (.tuple (ds ++ es)) := .tup fun d m => by
  rcases List.mem_append.mp m with m | m
  · exact h.mem d m
  · exact k.mem d m
theorem Her.one {P : Str → Prop} {d : PyData} (h : Her P d) : Her P (.tuple [d]) := .tup fun e m => by rw [List.mem_singleton.mp m]; exact h
/-- one level less, if there is one -/
def spv (sp : Nat → Sp) (n : Nat) : Sp := fun vs H Q E => ∃ m, n = m + 1 ∧ sp m vs H Q E
/-- a thing spoilt: some data, its texts from the two -/
def sp_spoilt (n : Nat) : Sp := fun vs H Q _ => ∃ (p : Addr) (c : Int) (v o : V) (d e : PyData), vs = [.ref p, v, o] ∧ Bag p c H ∧ Rp p H v d ∧ Rp p H o e ∧ fit n d ∧
  ∀ v' d' H', Rp p H' v' d' → (∀ P, Her P d → Her P e → Her P d') → But p H H' → Bag p c H' → Q v' H'
def sp_bag (K : PySem.W.Frag) : Sp := fun vs H Q _ => ∃ (a : Addr) (ns : List Int) (k : Nat), vs = [.ref a, .int k] ∧ SqL K H a (ns.map V.int) ∧ ∀ p H', H p = none → Same H H' → Bag p k H' → Q (.ref p) H'
def sp_draw : Sp := fun vs H Q _ => ∃ (p : Addr) (c m : Int), vs = [.ref p, .int m] ∧ Bag p c H ∧ 0 < m ∧ m.natAbs < 2 ^ 100 ∧ ∀ r H', 0 ≤ r → r < m → But p H H' → Bag p c H' → Q (.int r) H'
/-- an int at least 1 and at most 10 ** 12 -/
def sp_pos : Sp := fun vs H Q _ => ∃ (p : Addr) (c : Int), vs = [.ref p] ∧ Bag p c H ∧ ∀ r H', 1 ≤ r → r ≤ 1000000000000 → But p H H' → Bag p c H' → Q (.int r) H'
end Mus
namespace Mus
open PySem L2
/-- no list in it -/
inductive NoL : PyData → Prop
  | tup {ds : List PyData} : (∀ d ∈ ds, NoL d) → NoL (.tuple ds)
  | str (z : Str) : NoL (.str z)
  | non : NoL .none
  | bl (b : Bool) : NoL (.bool b)
  | int (i : Int) : NoL (.int i)
theorem NoL.mem {ds : List PyData} (h : NoL (.tuple ds)) : ∀ d ∈ ds, NoL d := by
  cases h with
  | tup h => exact h
theorem NoL.two {a b : PyData} (h : NoL a) (k : NoL b) : NoL (.tuple [a, b]) := .tup fun d m => by
  rcases List.mem_cons.mp m with rfl | m
  · exact h
  · rw [List.mem_singleton.mp m]; exact k
theorem NoL.three {a b c : PyData} (h : NoL a) (k : NoL b) (l : NoL c) : NoL (.tuple [a, b, c]) := .tup fun d m => by
  rcases List.mem_cons.mp m with rfl | m
  · exact h
  · rcases List.mem_cons.mp m with rfl | m
    · exact k
    · rw [List.mem_singleton.mp m]; exact l
mutual
theorem Rp.upL {p D : Addr} {H H' : Hp} {ys : List V} (hD : H D = some (.lst ys)) (k : ∀ b o, H b = some o → b ≠ p → b ≠ D → H' b = some o) : ∀ {v : V} {d : PyData}, Rp p H v d → NoL d → Rp p H' v d
  | _, _, .non, _ => .non
  | _, _, .bl b, _ => .bl b
  | _, _, .int i, _ => .int i
  | _, _, .str x, _ => .str x
  | _, _, .lst h n r, z => nomatch z
  | _, _, .tup h n l r, z => .tup (k _ _ h n (ne_of h hD (by intro z; cases z))) n l (Rps.upL hD k r z.mem)
theorem Rps.upL {p D : Addr} {H H' : Hp} {ys : List V} (hD : H D = some (.lst ys)) (k : ∀ b o, H b = some o → b ≠ p → b ≠ D → H' b = some o) : ∀ {vs : List V} {ds : List PyData}, Rps p H vs ds → (∀ d ∈ ds, NoL d) → Rps p H' vs ds
  | _, _, .nil, _ => .nil
  | _, _, .cons a b, z => .cons (Rp.upL hD k a (z _ List.mem_cons_self)) (Rps.upL hD k b fun d m => z d (List.mem_cons_of_mem _ m))
end
/-- a change at the list at D -/
theorem Rps.updL {p D : Addr} {H : Hp} {ys : List V} {o : HO} (hD : H D = some (.lst ys)) {vs : List V} {ds : List PyData} (r : Rps p H vs ds) (z : ∀ d ∈ ds, NoL d) : Rps p (upd H D o) vs ds :=
  r.upL hD (fun b o h _ n => by rw [upd_ne n]; exact h) z
theorem Rp.updL {p D : Addr} {H : Hp} {ys : List V} {o : HO} (hD : H D = some (.lst ys)) {v : V} {d : PyData} (r : Rp p H v d) (z : NoL d) : Rp p (upd H D o) v d :=
  r.upL hD (fun b o h _ n => by rw [upd_ne n]; exact h) z
end Mus

set_option maxRecDepth 100000
set_option maxHeartbeats 4000000
/-! Methods and makers of own classes, as DefOk is for defs. -/
namespace Mus
open PySem L2
structure MethOk (P : Program) (w : World) (K : PySem.W.Frag) (mg : Str → Option Value) (base : Heap) (CX : CXT) (C : Addr) (x : Str) (ps : List Str) (k : Nat) (sp : Sp) where
  f : Addr
  fd : FuncData
  G : FnOk P w K mg base CX k f fd ps sp
  m : Meth K C x f
  b : Binds K fd ps []
structure MethAt (K : PySem.W.Frag) (C : Addr) (x qual : Str) (ps : List Str) (st : Stmt) where
  f : Addr
  fd : FuncData
  F : Fun K x qual st f fd
  m : Meth K C x f
  b : Binds K fd ps []
def MethAt.ok {P : Program} {w : World} {K : PySem.W.Frag} {mg : Str → Option Value} {base : Heap} {CX : CXT} {C : Addr} {x qual : Str} {ps : List Str} {st : Stmt} {k : Nat} {sp : Sp} (d : MethAt K C x qual ps st) (h : ∀ {f : Addr} {fd : FuncData}, Fun K x qual st f fd → FnOk P w K mg base CX k f fd ps sp) : MethOk P w K mg base CX C x ps k sp :=
  ⟨d.f, d.fd, h d.F, d.m, d.b⟩
/-- a class whose __init__ keeps the promise -/
structure MkOk (P : Program) (w : World) (K : PySem.W.Frag) (mg : Str → Option Value) (base : Heap) (C : Addr) (x : Str) (ps : List Str) (k : Nat) (sp : Sp) where
  f : Addr
  fd : FuncData
  G : FnOk P w K mg base CX0 k f fd ps sp
  M : Mk K C f
  g : mg x = some (.ref C)
  b : Binds K fd ps []
def MethAt.mk' {P : Program} {w : World} {K : PySem.W.Frag} {mg : Str → Option Value} {base : Heap} {C : Addr} {x : Str} {qual : Str} {ps : List Str} {st : Stmt} {k : Nat} {sp : Sp} (d : MethAt K C "__init__" qual ps st) (hm : PySem.W.makesIn K C = true) (hk : PySem.W.keepIn K (.ref C) = true) (g : mg x = some (.ref C))
    (h : ∀ {f : Addr} {fd : FuncData}, Fun K "__init__" qual st f fd → FnOk P w K mg base CX0 k f fd ps sp) : MkOk P w K mg base C x ps k sp :=
  ⟨d.f, d.fd, h d.F, ⟨hm, d.m.at_, d.m.fn, hk⟩, g, d.b⟩
section
variable {X : Cx} {C : Addr} {x m : Str} {ps : List Str} {j k : Nat} {sp : Sp} {o e : Expr} {es : List Expr} {to : TE} {t : TA} {p pos apos : Pos}
theorem pmeth {pl : Sem Bool} (c : MethOk X.prog X.w X.K X.mg X.base CX0 C m ps j sp) (cl : Cls X.K C) (ho : PE X o to) (hr : Room k X.A) (ha : PA X (e :: es) t) (hj : j ≤ k := by first | decide | omega)
    (st0 : starEach (e :: es) X.env = (false, eval e X.env) :: starEach es X.env := by rfl) (pl0 : (backTo pos (starEach es X.env)).any (·.1) = false := by rfl)
    (ht : eval (.Call (.Attribute o m apos) (e :: es) [] pos) X.env = (do
      let v ← eval o X.env; standAt apos.atName; let (f, one) ← holding [v] (getMethod v m pl)
      callWith pos f one (backTo pos (starEach (e :: es) X.env)) (backToKw pos (keywordEach [] X.env))) := by rfl) :
    PE X (.Call (.Attribute o m apos) (e :: es) [] pos) (tMeth C m sp [] E0 to t) := pe_meth ho cl c.m c.G (hr.mono hj) c.b .nil pass0 ha st0 pl0 ht
theorem pmeth0 {pl : Sem Bool} (c : MethOk X.prog X.w X.K X.mg X.base CX0 C m ps j sp) (cl : Cls X.K C) (ho : PE X o to) (hr : Room k X.A) (hj : j ≤ k := by first | decide | omega)
    (ht : eval (.Call (.Attribute o m apos) [] [] pos) X.env = (do
      let v ← eval o X.env; standAt apos.atName; let (f, one) ← holding [v] (getMethod v m pl)
      callWith pos f one (backTo pos (starEach [] X.env)) (backToKw pos (keywordEach [] X.env))) := by rfl) :
    PE X (.Call (.Attribute o m apos) [] [] pos) (tMeth C m sp [] E0 to tNil) := pe_meth0 ho cl c.m c.G (hr.mono hj) c.b .nil pass0 ht
theorem pmake (c : MkOk X.prog X.w X.K X.mg X.base C x ps j sp) (hr : Room k X.A) (ha : PA X (e :: es) t) (hj : j + 1 ≤ k := by first | decide | omega) (hg : Gl X x := by rfl)
    (d0 : (x == ("__debug__" : Str)) = false := by decide) (st0 : starEach (e :: es) X.env = (false, eval e X.env) :: starEach es X.env := by rfl) (pl0 : (backTo pos (starEach es X.env)).any (·.1) = false := by rfl) :
    PE X (.Call (.Name x p) (e :: es) [] pos) (tMake C sp [] E0 t) := pe_make c.M c.G (hr.mono hj) hg c.g c.b .nil pass0 ha d0 st0 pl0
theorem pmake0 (c : MkOk X.prog X.w X.K X.mg X.base C x ps j sp) (hr : Room k X.A) (hj : j + 1 ≤ k := by first | decide | omega) (hg : Gl X x := by rfl) (d0 : (x == ("__debug__" : Str)) = false := by decide) :
    PE X (.Call (.Name x p) [] [] pos) (tMake C sp [] E0 tNil) := pe_make0 c.M c.G (hr.mono hj) hg c.g c.b .nil pass0 d0
end
end Mus

set_option maxRecDepth 100000
set_option maxHeartbeats 4000000
namespace Mus
open PySem L2
/-! ### a dict of ints by ints -/
def KvI (n m : Int) (kvs : List (Key × V)) : Prop := ∀ kv ∈ kvs, ∃ i l : Int, kv = (Sum.inl i, V.int l) ∧ 0 ≤ i ∧ i < n ∧ 1 ≤ l ∧ l ≤ m
theorem mem_putK {κ : Type} [DecidableEq κ] {kvs : List (κ × V)} {k : κ} {v : V} {kv : κ × V} (h : kv ∈ putK kvs k v) : kv = (k, v) ∨ kv ∈ kvs := by
  unfold putK at h
  split at h
  · obtain ⟨q, hq, e⟩ := List.mem_map.mp h
    by_cases hk : q.1 = k
    · rw [if_pos hk] at e
      exact .inl (by rw [← e, hk])
    · rw [if_neg hk] at e
      exact .inr (e ▸ hq)
  · rcases List.mem_append.mp h with h | h
    · exact .inr h
    · exact .inl (List.mem_singleton.mp h)
theorem putK_ne {κ : Type} [DecidableEq κ] (kvs : List (κ × V)) (k : κ) (v : V) : putK kvs k v ≠ [] := by
  unfold putK
  split
  · intro e
    cases kvs with
    | nil => rename_i h; simp at h
    | cons a r => simp at e
  · simp
theorem putK_le {κ : Type} [DecidableEq κ] (c : List (κ × V)) (k : κ) (x : V) : (putK c k x).length ≤ c.length + 1 := by
  unfold putK
  split
  · rw [List.length_map]; omega
  · rw [List.length_append, List.length_singleton]; omega
theorem KvI.put {n m i l : Int} {kvs : List (Key × V)} (h : KvI n m kvs) (h0 : 0 ≤ i) (h1 : i < n) (h2 : 1 ≤ l) (h3 : l ≤ m) : KvI n m (putK kvs (Sum.inl i) (.int l)) := fun kv hk => by
  rcases mem_putK hk with e | e
  · exact ⟨i, l, e, h0, h1, h2, h3⟩
  · exact h kv e
def keyI : Key → Int
  | .inl i => i
  | .inr _ => 0
theorem KvI.keys {n m : Int} {kvs : List (Key × V)} (h : KvI n m kvs) : kvs.map (·.1) = (kvs.map fun kv => keyI kv.1).map Sum.inl := by
  rw [List.map_map]
  refine List.map_congr_left fun kv hk => ?_
  obtain ⟨i, l, rfl, _⟩ := h kv hk
  rfl
theorem valV_mem {κ : Type} [DecidableEq κ] : ∀ {kvs : List (κ × V)} {k : κ}, k ∈ kvs.map (·.1) → ∃ v, valV kvs k = some v ∧ (k, v) ∈ kvs
  | [], k, h => by simp at h
  | (a, b) :: r, k, h => by
    by_cases e : a = k
    · subst e
      exact ⟨b, valV_pos rfl, List.mem_cons_self⟩
    · rw [valV_neg e]
      have h2 : k ∈ r.map (·.1) := by
        rcases List.mem_cons.mp h with h | h
        · exact absurd h.symm e
        · exact h
      obtain ⟨v, h3, h4⟩ := valV_mem h2
      exact ⟨v, h3, List.mem_cons_of_mem _ h4⟩
/-- members of a group of n processes, lives at most m, as data -/
def Mems (n : Int) (ds : List PyData) : Prop := ∀ d ∈ ds, ∃ i l : Int, d = .tuple [.int i, .int l] ∧ 0 ≤ i ∧ i < n ∧ 1 ≤ l ∧ l ≤ 1000000000000
theorem Mems.noL {n : Int} {ds : List PyData} (h : Mems n ds) : ∀ d ∈ ds, NoL d := fun d hd => by
  obtain ⟨i, l, rfl, _⟩ := h d hd
  exact .two (.int _) (.int _)
/-- _law_members -/
def sp_mems : Sp := fun vs H Q _ => ∃ (p : Addr) (c n : Int), vs = [.ref p, .int n] ∧ Bag p c H ∧ 0 < n ∧ n ≤ 12 ∧ ∀ a H' ds, Rp p H' (.ref a) (.tuple ds) → Mems n ds → 0 < ds.length → ds.length ≤ 5 → But p H H' → Bag p c H' → Q (.ref a) H'
end Mus

set_option maxRecDepth 100000
set_option maxHeartbeats 4000000
/-! The texts of lives, as lists of signs. -/
namespace Mus
open PySem L2 TL PySem.NumText
def allD (l : List Nat) : Bool := l.all fun c => decide (48 ≤ c) && decide (c ≤ 57)
theorem allD_iff {l : List Nat} : allD l = true ↔ AllDigits l := by
  unfold allD AllDigits
  rw [List.all_eq_true]
  constructor
  · intro h c hc
    have := h c hc
    rw [Bool.and_eq_true, decide_eq_true_eq, decide_eq_true_eq] at this
    exact this
  · intro h c hc
    rw [Bool.and_eq_true, decide_eq_true_eq, decide_eq_true_eq]
    exact h c hc
/-- the text of a life -/
def lifeT (n : Nat) : List Nat := numL n ++ 61 :: numL n
/-- the life of a text, or 0 -/
def lifeF (l : List Nat) : Nat :=
  if (l.takeWhile fun c => decide (c ≠ 61)).length ≤ 13 ∧ allD (l.takeWhile fun c => decide (c ≠ 61)) = true ∧ (l.takeWhile fun c => decide (c ≠ 61)) ≠ [] then
    (if 1 ≤ digitsVal (l.takeWhile fun c => decide (c ≠ 61)) ∧ digitsVal (l.takeWhile fun c => decide (c ≠ 61)) ≤ 1000000000000 ∧ lifeT (digitsVal (l.takeWhile fun c => decide (c ≠ 61))) = l then digitsVal (l.takeWhile fun c => decide (c ≠ 61)) else 0)
  else 0
theorem lifeF_ne {l : List Nat} (h : lifeF l ≠ 0) : ∃ n, l = lifeT n ∧ 1 ≤ n ∧ n ≤ 1000000000000 ∧ lifeF l = n := by
  unfold lifeF at h ⊢
  by_cases h1 : (l.takeWhile fun c => decide (c ≠ 61)).length ≤ 13 ∧ allD (l.takeWhile fun c => decide (c ≠ 61)) = true ∧ (l.takeWhile fun c => decide (c ≠ 61)) ≠ []
  · rw [if_pos h1] at h ⊢
    by_cases h2 : 1 ≤ digitsVal (l.takeWhile fun c => decide (c ≠ 61)) ∧ digitsVal (l.takeWhile fun c => decide (c ≠ 61)) ≤ 1000000000000 ∧ lifeT (digitsVal (l.takeWhile fun c => decide (c ≠ 61))) = l
    · rw [if_pos h2] at h ⊢
      exact ⟨_, h2.2.2.symm, h2.1, h2.2.1, rfl⟩
    · rw [if_neg h2] at h; exact absurd rfl h
  · rw [if_neg h1] at h; exact absurd rfl h
theorem take_free {d r : List Nat} (h : 61 ∉ d) : (d ++ 61 :: r).takeWhile (fun c => decide (c ≠ 61)) = d := by
  induction d with
  | nil => simp [List.takeWhile]
  | cons c d ih =>
    have hc : c ≠ 61 := fun e => h (by rw [e]; exact List.mem_cons_self)
    rw [List.cons_append, List.takeWhile_cons, decide_eq_true hc, if_pos rfl, ih fun m => h (List.mem_cons_of_mem _ m)]
theorem dig_free {d : List Nat} (h : AllDigits d) : 61 ∉ d := fun m => by have := h 61 m; omega
theorem numL_head0 : ∀ n : Nat, 1 ≤ n → ∃ c r, numL n = c :: r ∧ 49 ≤ c := by
  intro n
  induction n using Nat.strongRecOn with
  | _ n ih =>
    intro h
    by_cases h10 : n < 10
    · exact ⟨48 + n, [], numL_lt h10, by omega⟩
    · obtain ⟨c, r, e, hc⟩ := ih (n / 10) (by omega) (by omega)
      exact ⟨c, r ++ [48 + n % 10], by rw [numL_step (by omega), e, List.cons_append], hc⟩
theorem map_chars : ∀ {l : List Nat}, AllDigits l → (l.map Char.ofNat).map Char.toNat = l
  | [], _ => rfl
  | c :: l, h => by
    have hc := h.head
    have e : (Char.ofNat c).toNat = c := by
      have : c = 48 ∨ c = 49 ∨ c = 50 ∨ c = 51 ∨ c = 52 ∨ c = 53 ∨ c = 54 ∨ c = 55 ∨ c = 56 ∨ c = 57 := by omega
      rcases this with rfl | rfl | rfl | rfl | rfl | rfl | rfl | rfl | rfl | rfl <;> decide
    rw [List.map_cons, List.map_cons, e, map_chars h.tail]
theorem numL_back {d : List Nat} (h : AllDigits d) {c : Nat} {r : List Nat} (e : d = c :: r) (hc : 49 ≤ c) : numL (digitsVal d) = d := by
  unfold numL
  rw [toDigits_digitsVal r.length d (by rw [e]; rfl) h (.inr ⟨c, r, e, hc⟩), map_chars h]
theorem lifeF_T {n : Nat} (h1 : 1 ≤ n) (h2 : n ≤ 1000000000000) : lifeF (lifeT n) = n := by
  unfold lifeF lifeT
  rw [take_free (dig_free (numL_digits n)), numL_val]
  have hl : (numL n).length ≤ 13 := numL_len (k := 13) (by decide) (by omega)
  rw [if_pos ⟨hl, allD_iff.mpr (numL_digits n), numL_ne n⟩, if_pos ⟨h1, h2, rfl⟩]
theorem lifeF_big {n : Nat} (h : n = 0 ∨ 1000000000000 < n) : lifeF (lifeT n) = 0 := by
  cases e : lifeF (lifeT n) with
  | zero => rfl
  | succ k =>
    exfalso
    obtain ⟨m, e1, e2, e3, _⟩ := lifeF_ne (l := lifeT n) (by rw [e]; simp)
    have hl := congrArg List.length e1
    unfold lifeT at e1 hl
    rw [List.length_append, List.length_append, List.length_cons, List.length_cons] at hl
    have := (List.append_inj e1 (by omega)).1
    have := numL_inj this
    omega
/-- the law's way -/
def chk (d : List Nat) : Nat := if allD d = true then (if d.length > 13 ∨ d.head? = some 48 ∨ digitsVal d > 1000000000000 then 0 else digitsVal d) else 0
def Half (l : List Nat) (k : Nat) : Prop := l[k]? = some 61 ∧ l.take k = l.drop (k + 1)
theorem half_eq {l : List Nat} {k : Nat} (h : Half l k) : l = l.take k ++ 61 :: l.take k := by
  obtain ⟨h1, h2⟩ := h
  obtain ⟨hk, e⟩ := List.getElem?_eq_some_iff.mp h1
  have e2 := List.take_append_drop k l
  rw [List.drop_eq_getElem_cons hk, e, ← h2] at e2
  exact e2.symm
theorem halves {d e : List Nat} (h : d ++ 61 :: d = e ++ 61 :: e) : d = e := by
  have hl := congrArg List.length h
  rw [List.length_append, List.length_append, List.length_cons, List.length_cons] at hl
  exact (List.append_inj h (by omega)).1
theorem due_yes {l : List Nat} {k : Nat} (h1 : 1 ≤ k) (hk : k < l.length) (h : Half l k) : chk (l.take k) = lifeF l := by
  have e := half_eq h
  have hlen : (l.take k).length = k := by rw [List.length_take]; omega
  generalize l.take k = d at e hlen
  subst e
  cases hd : allD d with
  | false =>
    have e1 : chk d = 0 := by unfold chk; rw [hd]; rfl
    rw [e1]
    cases e2 : lifeF (d ++ 61 :: d) with
    | zero => rfl
    | succ m =>
      exfalso
      obtain ⟨n, e3, _⟩ := lifeF_ne (l := d ++ 61 :: d) (by rw [e2]; simp)
      have := halves e3
      rw [this, allD_iff.mpr (numL_digits n)] at hd
      cases hd
  | true =>
    have ad := allD_iff.mp hd
    have tw := take_free (r := d) (dig_free ad)
    have dne : d ≠ [] := fun z => by rw [z] at hlen; simp at hlen; omega
    unfold chk lifeF
    rw [tw, hd, if_pos rfl]
    by_cases h13 : d.length ≤ 13
    · rw [if_pos (show d.length ≤ 13 ∧ true = true ∧ d ≠ [] from ⟨h13, rfl, dne⟩)]
      obtain ⟨c, r, ec⟩ : ∃ c r, d = c :: r := by
        cases d with
        | nil => exact absurd rfl dne
        | cons c r => exact ⟨c, r, rfl⟩
      have hc := ad c (by rw [ec]; exact List.mem_cons_self)
      by_cases h48 : c = 48
      · rw [if_pos (.inr (.inl (by rw [ec, h48]; rfl)))]
        rw [if_neg]
        rintro ⟨q1, _, q3⟩
        have e5 := halves q3
        obtain ⟨c', r', e6, e7⟩ := numL_head0 _ q1
        rw [e5, ec] at e6
        cases e6
        omega
      · by_cases hv : digitsVal d > 1000000000000
        · rw [if_pos (.inr (.inr hv)), if_neg (by rintro ⟨_, q2, _⟩; omega)]
        · have e8 := numL_back ad ec (by omega)
          have n1 : ¬ (d.length > 13 ∨ d.head? = some 48 ∨ digitsVal d > 1000000000000) := by
            rintro (q | q | q)
            · omega
            · rw [ec] at q; simp at q; exact h48 q
            · exact hv q
          have n2 : 1 ≤ digitsVal d ∧ digitsVal d ≤ 1000000000000 ∧ lifeT (digitsVal d) = d ++ 61 :: d := by
            refine ⟨?_, by omega, ?_⟩
            · rw [ec]; exact digitsVal_pos (by omega)
            · unfold lifeT; rw [e8]
          rw [if_neg n1, if_pos n2]
    · rw [if_pos (.inl (by omega)), if_neg (by rintro ⟨q, _⟩; exact h13 q)]
theorem due_no {l : List Nat} (h : ∀ k, 1 ≤ k → k < l.length → ¬ Half l k) : lifeF l = 0 := by
  cases e2 : lifeF l with
  | zero => rfl
  | succ m =>
    exfalso
    obtain ⟨n, e3, _⟩ := lifeF_ne (l := l) (by rw [e2]; simp)
    have hp : 1 ≤ (numL n).length := List.length_pos_iff.mpr (numL_ne n)
    refine h (numL n).length hp ?_ ⟨?_, ?_⟩
    · rw [e3]; unfold lifeT; rw [List.length_append, List.length_cons]; omega
    · rw [e3]; unfold lifeT; rw [List.getElem?_append_right (Nat.le_refl _), Nat.sub_self]; rfl
    · rw [e3]; unfold lifeT
      rw [List.take_left, ← List.drop_drop, List.drop_left]; rfl
end Mus

set_option maxRecDepth 100000
set_option maxHeartbeats 4000000
namespace Mus
open PySem L2 TL PySem.NumText
/-- a text n times, n from 0 -/
theorem op_mul_strN {X : Cx} : OpR X (binaryOp .Mult) (fun x y H Q => ∃ (z : Str) (n : Int), x = .str z ∧ y = .int n ∧ 0 ≤ n ∧ n ≤ 1000 ∧ 1 ≤ z.length ∧ z.length ≤ 1000 ∧ ∀ r : Str, TL.tl r = (List.replicate n.toNat (TL.tl z)).flatten → Q (.str r) H) := by
  intro pins s σ H x y v u Q I rx ry h
  obtain ⟨z, n, rfl, rfl, h2, h3, h4, h5, q⟩ := h
  by_cases n2 : 2 ≤ n
  · exact op_mul_str pins s σ H _ _ v u Q I rx ry ⟨z, n, rfl, rfl, n2, h3, h4, h5, q⟩
  obtain ⟨t, rfl⟩ := rx
  obtain ⟨t', rfl⟩ := ry
  have hr : (decide (n < -(2 ^ 63 : Int)) || decide (n ≥ 2 ^ 63)) = false := by
    rw [decide_eq_false (by omega), decide_eq_false (by omega)]; rfl
  have hl : Builtin.Str.tooLong (z.length * n.toNat) = false := by
    unfold Builtin.Str.tooLong
    have e : sizeLine = 16777216 := sizeLine_eq
    have : z.length * n.toNat ≤ 1000 * 1 := Nat.mul_le_mul h5 (by omega)
    rw [decide_eq_false (by omega)]
  have hz : z.length ≤ sizeLine := by rw [sizeLine_eq]; omega
  by_cases n0 : n = 0
  · subst n0
    refine PySem.P.mul_str hr (fun a _ => absurd (by decide) a) (fun a _ => absurd (by decide) a) ?_
    rw [if_pos (by decide)]
    exact ⟨by decide, .str _, H, I.tok _, ⟨_, rfl⟩, q _ (by simp; rfl)⟩
  · have e : n = 1 := by omega
    subst e
    refine PySem.P.mul_str hr (fun _ a => by simp at a) (fun _ a => by simp at a) ?_
    rw [if_neg (by decide), if_pos (by simp)]
    exact ⟨.str _, H, I, ⟨_, rfl⟩, q _ (by simp)⟩
end Mus

set_option maxRecDepth 100000
set_option maxHeartbeats 4000000
namespace Mus
open PySem L2 TL PySem.NumText
local macro_rules | `(tactic| walk_at "rd") => `(tactic| first
  | refine ⟨_, rfl, ?_⟩ | refine ⟨(True.intro : True), ?_⟩
  | refine ⟨_, _, rfl, rfl, (⟨by decide, by decide, by decide⟩ : CPow _ _), ?_⟩
  | refine ⟨_, _, rfl, rfl, (⟨by decide, by decide⟩ : CDiv _ _), ?_⟩
  | refine ⟨_, _, rfl, rfl, (by show (0 : Int) < _; decide), ?_⟩
  | refine ⟨_, _, rfl, rfl, ?_⟩ | refine ⟨rfl, ?_⟩ | refine iteT ?_ | refine iteF ?_ | refine ⟨_, _, rfl, ?_⟩ | refine .inl ⟨_, rfl, ?_⟩
  | refine ⟨_, _, _, _, _, rfl, (by assumption), (by assumption), (by assumption), rfl, ?_⟩ | refine ⟨_, _, _, _, rfl, rfl, SqT.of (by assumption), rfl, ?_⟩ | refine ⟨_, _, rfl, SqT.of (by assumption), rfl, ?_⟩
  | refine ⟨_, _, _, _, _, rfl, .ty _, Rp.ty (by assumption), kit_int _, ?_⟩ | refine ⟨_, _, _, _, _, rfl, .ty _, Rp.ty (by assumption), kit_bool _, ?_⟩
  | refine ⟨_, _, _, _, _, rfl, .ty _, Rp.ty (by assumption), kit_str _, ?_⟩ | refine ⟨_, _, _, _, _, rfl, .ty _, Rp.ty (by assumption), kit_tup _, ?_⟩)
local macro_rules | `(tactic| walk_at "cal") => `(tactic| first
  | refine ⟨_, _, _, _, _, rfl, (by assumption), ?_⟩ | refine ⟨_, _, _, _, _, rfl, (by assumption), (by assumption), ?_⟩)
local macro_rules | `(tactic| walk_at "sq") => `(tactic| first
  | refine ⟨_, _, rfl, Or.inr (SqT.of (by assumption)), ?_⟩ | refine ⟨_, _, _, _, rfl, rfl, SqT.of (by assumption), rfl, ?_⟩)
local macro_rules | `(tactic| walk_at "rds") => `(tactic| repeat first | walk_at "rd" | walk_at "cal" | walk_at "sq")
local macro_rules | `(tactic| walk_at "ze") => `(tactic| repeat first
  | exact zes_nil | exact ze_bl | exact ze_str | exact ze_non | apply zes_cons | apply ze_tup | apply ze_lst | apply ze_cat | exact di_c | exact di_v rfl | apply di_opC | apply di_op | apply di_neg | apply ze_i | (refine (⟨?_, ?_, ?_⟩ : CPow _ _) <;> decide) | exact Nat.le_of_ble_eq_true rfl | exact ze_varD rfl (by assumption))
local macro_rules | `(tactic| walk_at "rdz") => `(tactic| repeat (fail_if_success (first | show tLst _ _ _ _ | show tAsg (tLst _) _ _ _ _ | show tSeq (tAsg (tLst _) _) _ _ _ _)); first | walk_at "rd" | walk_at "cal" | walk_at "sq")
def top (i : Nat) : Stmt := PySem.Challenge.pw_mustercall_k41_members_that_are_none.main.body.getD i (.Pass ⟨0, 0, 0, 0⟩)
structure Tx (mg : Str → Option Value) : Prop where
  b_len : mg "len" = none
  b_isinstance : mg "isinstance" = none
  b_int : mg "int" = none
  b_bool : mg "bool" = none
  b_str : mg "str" = none
  b_tuple : mg "tuple" = none
  b_range : mg "range" = none
  b_min : mg "min" = none
  b_max : mg "max" = none
  b_sorted : mg "sorted" = none
  b_ord : mg "ord" = none
  b_enumerate : mg "enumerate" = none
  c__REFUSED_CODE : ∃ t, mg "_REFUSED_CODE" = some (.int 37 t)
  c_MOST_PROCESSES : ∃ t, mg "MOST_PROCESSES" = some (.int 12 t)
  c_MOST_PAYLOAD : ∃ t, mg "MOST_PAYLOAD" = some (.int 30 t)
  c_MOST_NUMBER : ∃ t, mg "MOST_NUMBER" = some (.int 1000000000000 t)
section
variable {P : Program} {w : World} {K : PySem.W.Frag} {mg : Str → Option Value} {base : Heap}
def prB (c : Nat) : Bool := decide (32 ≤ c) && decide (c ≤ 126) && decide (c ≠ 37)
theorem one_lt (a b : Nat) : (decide ([a] < [b])) = decide (a < b) := by
  by_cases h : a < b
  · rw [decide_eq_true h]; exact decide_eq_true (by simp [List.cons_lt_cons_iff, h])
  · rw [decide_eq_false h]; exact decide_eq_false (by simp [List.cons_lt_cons_iff, h])
theorem one_ge {y : Str} {b : Nat} (c : Nat) (e0 : tl y = [b]) : (!decide (tl ⟨#[c]⟩ < tl y)) = decide (b ≤ c) := by
  rw [e0, show tl ⟨#[c]⟩ = [c] from rfl, one_lt]
  by_cases h : c < b
  · rw [decide_eq_true h, decide_eq_false (by omega)]; rfl
  · rw [decide_eq_false h, decide_eq_true (by omega)]; rfl
theorem one_le {y : Str} {b : Nat} (c : Nat) (e0 : tl y = [b]) : (!decide (tl y < tl ⟨#[c]⟩)) = decide (c ≤ b) := by
  rw [e0, show tl ⟨#[c]⟩ = [c] from rfl, one_lt]
  by_cases h : b < c
  · rw [decide_eq_true h, decide_eq_false (by omega)]; rfl
  · rw [decide_eq_false h, decide_eq_true (by omega)]; rfl
abbrev s__is_printable_character : Stmt := top 14
abbrev N__is_printable_character : List Str := ["character"]
abbrev P__is_printable_character : List Str := ["character"]
theorem sc__is_printable_character : FnScope N__is_printable_character P__is_printable_character (defScope s__is_printable_character) := ⟨rfl, rfl, rfl, by decide +kernel, rfl, by decide +kernel, by decide +kernel⟩
def sp__is_printable_character : Sp := fun vs H Q _ => ∃ c : Nat, vs = [.str ⟨#[c]⟩] ∧ Q (.bl (prB c)) H
theorem ok__is_printable_character {f : Addr} {fd : FuncData} (T : Tx mg) (F : Fun K "_is_printable_character" "_is_printable_character" s__is_printable_character f fd) : FnOk P w K mg base CX0 (1) f fd P__is_printable_character (sp__is_printable_character) := by
  have nd := sc__is_printable_character.nd
  refine F.ok sc__is_printable_character (fun vs H Q E h => ?_) (fun cdv A outer s H vs Q E hr h => ?_)
  · obtain ⟨c, rfl, _⟩ := h
    rfl
  · obtain ⟨c, rfl, q⟩ := h
    refine ⟨_, (pss_one (ps_ret (pe_and (pe_chain op_le_str op_le_str pe_str (pv 0) pe_str) (pe_one (pe_cmpR op_ne (pe_callB call_ord (by rfl) T.b_ord (by decide +kernel) (pa_cons (pv 0) pa_nil)) (pe_const T.c__REFUSED_CODE) (nomark _)))))), ?_⟩
    refine ⟨_, rfl, _, _, rfl, rfl, _, rfl, ?_⟩
    have e1 := one_ge (y := Str.ofString " ") (b := 32) c (by decide)
    have e2 := one_le (y := Str.ofString "~") (b := 126) c (by decide)
    rw [e1]
    unfold prB at q
    by_cases h1 : 32 ≤ c
    · rw [decide_eq_true h1] at q ⊢
      refine iteT ?_
      refine ⟨_, _, rfl, rfl, _, rfl, ?_⟩
      rw [e2]
      by_cases h2 : c ≤ 126
      · rw [decide_eq_true h2] at q ⊢
        refine iteT ?_
        refine ⟨_, rfl, _, rfl, rfl, rfl, ?_⟩
        have e3 : (!decide (V.int ((((⟨#[c]⟩ : Str).cps.getD 0 0 : Nat)) : Int) = V.int 37)) = decide (c ≠ 37) := by
          show (!decide (V.int (c : Int) = V.int 37)) = decide (c ≠ 37)
          by_cases h3 : c = 37
          · subst h3; rfl
          · rw [decide_eq_true h3, decide_eq_false (by intro z; cases z; exact h3 rfl)]; rfl
        rw [e3]
        exact q
      · rw [decide_eq_false h2] at q ⊢
        exact iteF q
    · rw [decide_eq_false h1] at q ⊢
      refine iteF ?_
      exact ⟨_, rfl, iteF q⟩
abbrev s_is_printable : Stmt := top 13
abbrev N_is_printable : List Str := ["value", "character"]
abbrev P_is_printable : List Str := ["value"]
theorem sc_is_printable : FnScope N_is_printable P_is_printable (defScope s_is_printable) := ⟨rfl, rfl, rfl, by decide +kernel, rfl, by decide +kernel, by decide +kernel⟩
def sp_is_printable : Sp := fun vs H Q _ => ∃ z : Str, vs = [.str z] ∧ Q (.bl ((tl z).all prB)) H
theorem all_take {l : List Nat} {i c : Nat} (h : l[i]? = some c) (hp : (l.take i).all prB = true) : prB c = true → (l.take (i + 1)).all prB = true := by
  intro hc
  have hi : i < l.length := (List.getElem?_eq_some_iff.mp h).1
  have e : l[i] = c := (List.getElem?_eq_some_iff.mp h).2
  rw [List.take_succ_eq_append_getElem hi, List.all_append, hp, e]
  simp [hc]
theorem all_not {l : List Nat} {i c : Nat} (h : l[i]? = some c) (hc : prB c = false) : l.all prB = false := by
  rw [List.all_eq_false]
  exact ⟨c, List.mem_of_getElem? h, by rw [hc]; simp⟩
theorem ok_is_printable {f : Addr} {fd : FuncData} (T : Tx mg) (c__is_printable_character : DefOk P w K mg base CX0 "_is_printable_character" P__is_printable_character 1 (sp__is_printable_character))(F : Fun K "is_printable" "is_printable" s_is_printable f fd) : FnOk P w K mg base CX0 (2) f fd P_is_printable (sp_is_printable) := by
  have nd := sc_is_printable.nd
  refine F.ok sc_is_printable (fun vs H Q E h => ?_) (fun cdv A outer s H vs Q E hr h => ?_)
  · obtain ⟨c, rfl, _⟩ := h
    rfl
  · obtain ⟨z, rfl, q⟩ := h
    refine ⟨_, (pss_cons (ps_if (pt_not (pt_val (pe_callB call_isi (by rfl) T.b_isinstance (by decide +kernel) (pa_cons (pv 0) (pa_cons (pe_ty "str" T.b_str) pa_nil)))))
        (pss_one (ps_ret pe_bl))
        pss_nil)
      (pss_cons (ps_for PassesOwn.never rfl (pi_str (pv 0)) (pg_name (i := 1) nd rfl (Or.inl rfl))
        (pss_one (ps_if (pt_not (pt_val (pcall c__is_printable_character hr (pa_cons (pv 1) pa_nil))))
          (pss_one (ps_ret pe_bl))
          pss_nil)))
      (pss_one (ps_ret pe_bl)))), ?_⟩
    refine ⟨_, rfl, _, _, _, _, true, rfl, .ty _, .base (.str z), kit_ty (by decide +kernel), _, rfl, ?_⟩
    refine iteF ?_
    refine ⟨_, rfl, z, rfl, for_str (z := z) (fun i σ H' => H' = H ∧ (∃ v, σ = [some (.str z), v]) ∧ ((tl z).take i).all prB = true) ⟨rfl, ⟨none, rfl⟩, rfl⟩ ?_ ?_⟩
    · rintro i c σ H' hc ⟨rfl, ⟨v, rfl⟩, hp⟩
      refine ⟨_, rfl, c, rfl, _, rfl, ?_⟩
      cases hb : prB c with
      | true => exact iteF ⟨rfl, ⟨_, rfl⟩, all_take hc hp hb⟩
      | false =>
        refine iteT ?_
        have e := all_not hc hb
        rw [e] at q
        exact q
    · rintro σ H' ⟨rfl, ⟨v, rfl⟩, hp⟩
      rw [List.take_length] at hp
      rw [hp] at q
      exact q
abbrev s_is_integer : Stmt := top 15
abbrev N_is_integer : List Str := ["value", "least", "greatest"]
abbrev P_is_integer : List Str := ["value", "least", "greatest"]
theorem sc_is_integer : FnScope N_is_integer P_is_integer (defScope s_is_integer) := ⟨rfl, rfl, rfl, by decide +kernel, rfl, by decide +kernel, by decide +kernel⟩
theorem ok_is_integer {f : Addr} {fd : FuncData} (T : Tx mg) (F : Fun K "is_integer" "is_integer" s_is_integer f fd) : FnOk P w K mg base CX0 (1) f fd P_is_integer (spI) := by
  have nd := sc_is_integer.nd
  refine F.ok sc_is_integer (fun vs H Q E h => ?_) (fun cdv A outer s H vs Q E hr h => ?_)
  · obtain ⟨_, _, _, _, _, rfl, _⟩ := h
    rfl
  · obtain ⟨p, v, d, a, b, rfl, hd, q⟩ := h
    refine ⟨_, (pss_cons (ps_if (PW.pt (pw_or (pt_not (pt_val (pe_callB call_isi (by rfl) T.b_isinstance (by decide +kernel) (pa_cons (pv 0) (pa_cons (pe_ty "int" T.b_int) pa_nil))))) (pw_or1 (pt_val (pe_callB call_isi (by rfl) T.b_isinstance (by decide +kernel) (pa_cons (pv 0) (pa_cons (pe_ty "bool" T.b_bool) pa_nil)))))))
        (pss_one (ps_ret pe_bl))
        pss_nil)
      (pss_one (ps_ret (pe_chain op_le op_le (pv 1) (pv 0) (pv 2))))), ?_⟩
    have hd' := hd
    cases hd <;> walk_at "rds"
    case int =>
      refine iB (fun h => ?_) (fun h => ?_)
      · walk_at "rds"
        exact ansB q (by simp [isInt, h])
      · exact ansB q (by simp [isInt, h])
    all_goals exact q
abbrev s_is_process : Stmt := top 17
abbrev N_is_process : List Str := ["count", "value"]
abbrev P_is_process : List Str := ["count", "value"]
theorem sc_is_process : FnScope N_is_process P_is_process (defScope s_is_process) := ⟨rfl, rfl, rfl, by decide +kernel, rfl, by decide +kernel, by decide +kernel⟩
theorem ok_is_process {f : Addr} {fd : FuncData} (T : Tx mg) (c_is_integer : DefOk P w K mg base CX0 "is_integer" P_is_integer 1 (spI))(F : Fun K "is_process" "is_process" s_is_process f fd) : FnOk P w K mg base CX0 (2) f fd P_is_process (spB2 isProc) := by
  have nd := sc_is_process.nd
  refine F.ok sc_is_process (fun vs H Q E h => ?_) (fun cdv A outer s H vs Q E hr h => ?_)
  · obtain ⟨_, _, _, _, _, rfl, _⟩ := h
    rfl
  · obtain ⟨p, u, v, c, d, rfl, hc, hd, q⟩ := h
    refine ⟨_, (pss_one (ps_ret (pe_and (pcall c_is_integer hr (pa_cons (pv 0) (pa_cons pe_int (pa_cons (pe_const T.c_MOST_PROCESSES) pa_nil)))) (pe_one (pcall c_is_integer hr (pa_cons (pv 1) (pa_cons pe_int (pa_cons (pe_op op_sub (pv 0) pe_int) pa_nil)))))))), ?_⟩
    walk_at "rds"
    refine iB (fun h => ?_) (fun h => ?_)
    · obtain ⟨n, rfl, h1, h2⟩ := isInt_int h
      cases hc
      walk_at "rds"
      exact ansB q (by simp [isProc, h1, h2])
    · refine ansB q ?_
      cases c <;> first | rfl | (rename_i n; have h0 : (decide (1 ≤ n) && decide (n ≤ 12)) = false := h; simp only [isProc, h0, Bool.false_and])
/-- a tuple of two | of another length, or something else -/
theorem pairs (d : PyData) : (∃ x y, d = .tuple [x, y]) ∨ ((∃ ds, d = .tuple ds ∧ ds.length ≠ 2) ∨ dTup d = false) := by
  match d with
  | .none | .bool _ | .int _ | .str _ | .list _ | .dict _ => exact .inr (.inr rfl)
  | .tuple [] | .tuple [_] | .tuple (_ :: _ :: _ :: _) => exact .inr (.inl ⟨_, rfl, by simp⟩)
  | .tuple [x, y] => exact .inl ⟨x, y, rfl⟩
theorem isMem_no {c d : PyData} (h : (∃ ds, d = .tuple ds ∧ ds.length ≠ 2) ∨ dTup d = false) : isMem c d = false := by
  unfold isMem
  split
  · simp [dTup] at h
  · rfl
abbrev s_is_member : Stmt := top 18
abbrev N_is_member : List Str := ["count", "value"]
abbrev P_is_member : List Str := ["count", "value"]
theorem sc_is_member : FnScope N_is_member P_is_member (defScope s_is_member) := ⟨rfl, rfl, rfl, by decide +kernel, rfl, by decide +kernel, by decide +kernel⟩
theorem ok_is_member {f : Addr} {fd : FuncData} (T : Tx mg) (c_is_integer : DefOk P w K mg base CX0 "is_integer" P_is_integer 1 (spI)) (c_is_process : DefOk P w K mg base CX0 "is_process" P_is_process 2 (spB2 isProc))(F : Fun K "is_member" "is_member" s_is_member f fd) : FnOk P w K mg base CX0 (3) f fd P_is_member (spB2 isMem) := by
  have nd := sc_is_member.nd
  refine F.ok sc_is_member (fun vs H Q E h => ?_) (fun cdv A outer s H vs Q E hr h => ?_)
  · obtain ⟨_, _, _, _, _, rfl, _⟩ := h
    rfl
  · obtain ⟨p, u, v, c, d, rfl, hc, hd, q⟩ := h
    refine ⟨_, (pss_cons (ps_if (PW.pt (pw_or (pt_not (pt_val (pe_callB call_isi (by rfl) T.b_isinstance (by decide +kernel) (pa_cons (pv 1) (pa_cons (pe_ty "tuple" T.b_tuple) pa_nil))))) (pw_or1 (pt_cmpR op_ne (pe_callB call_len_seq (by rfl) T.b_len (by decide +kernel) (pa_cons (pv 1) pa_nil)) pe_int (nomark _)))))
        (pss_one (ps_ret pe_bl))
        pss_nil)
      (pss_one (ps_ret (pe_and (pcall c_is_process hr (pa_cons (pv 0) (pa_cons (pe_ix ix_tup (pv 1) pe_int (fun _ _ => rfl)) pa_nil))) (pe_one (pcall c_is_integer hr (pa_cons (pe_ix ix_tup (pv 1) pe_int (fun _ _ => rfl)) (pa_cons pe_int (pa_cons (pe_const T.c_MOST_NUMBER) pa_nil))))))))), ?_⟩
    have hd' := hd
    rcases pairs d with ⟨x, y, rfl⟩ | hno
    · obtain _ | _ | _ | _ | _ | @⟨a, xs, _, ha, np, hw, hr⟩ := hd
      obtain _ | ⟨hx, _ | ⟨hy, _⟩⟩ := hr
      cases ‹Rps p H _ []›
      walk_at "rds"
      refine iB (fun h => ?_) (fun h => ?_)
      · walk_at "rds"
        exact ansB q (by simp [isMem, h])
      · exact ansB q (by simp [isMem, h])
    · have e := isMem_no (c := c) hno
      rw [e] at q
      rcases hno with ⟨ds, rfl, hl⟩ | hno
      · obtain _ | _ | _ | _ | _ | @⟨a, xs, _, ha, np, hw, hr⟩ := hd
        have hl2 := hr.length
        walk_at "rds"
        refine nT (vint_ne (by omega)) ?_
        walk_at "rds"
        exact q
      · cases hd <;> simp [dTup] at hno <;> walk_at "rds" <;> exact q
end
/-! ### payloads and messages -/
/-- the texts that come: short, and printable but for those with a newline -/
def Ok (z : Str) : Prop := z.length ≤ 1000 ∧ (tl z).all prB = decide (10 ∉ tl z)
def spH1 (f : PyData → Bool) : Sp := fun vs H Q _ => ∃ (p : Addr) (v : V) (d : PyData), vs = [v] ∧ Rp p H v d ∧ Her Ok d ∧ Q (.bl (f d)) H
def spH2 (f : PyData → PyData → Bool) : Sp := fun vs H Q _ => ∃ (p : Addr) (u v : V) (c d : PyData), vs = [u, v] ∧ Rp p H u c ∧ Rp p H v d ∧ Her Ok d ∧ Q (.bl (f c d)) H
theorem Her.of3 {P : Str → Prop} {x y z : PyData} (h : Her P (.tuple [x, y, z])) : Her P x ∧ Her P y ∧ Her P z := ⟨h.mem _ (by simp), h.mem _ (by simp), h.mem _ (by simp)⟩
theorem Her.of2 {P : Str → Prop} {x y : PyData} (h : Her P (.tuple [x, y])) : Her P x ∧ Her P y := ⟨h.mem _ (by simp), h.mem _ (by simp)⟩
def isPay : PyData → Bool
  | .str z => decide (z.length ≤ 30) && (tl z).all prB
  | _ => false
def isMsg (c : PyData) : PyData → Bool
  | .tuple [a, b, z] => isMem c a && isInt b 1 1000000000000 && isPay z
  | _ => false
theorem threes (d : PyData) : (∃ x y z, d = .tuple [x, y, z]) ∨ ((∃ ds, d = .tuple ds ∧ ds.length ≠ 3) ∨ dTup d = false) := by
  match d with
  | .none | .bool _ | .int _ | .str _ | .list _ | .dict _ => exact .inr (.inr rfl)
  | .tuple [] | .tuple [_] | .tuple [_, _] | .tuple (_ :: _ :: _ :: _ :: _) => exact .inr (.inl ⟨_, rfl, by simp⟩)
  | .tuple [x, y, z] => exact .inl ⟨x, y, z, rfl⟩
theorem isMsg_no {c d : PyData} (h : (∃ ds, d = .tuple ds ∧ ds.length ≠ 3) ∨ dTup d = false) : isMsg c d = false := by
  unfold isMsg
  split
  · simp [dTup] at h
  · rfl
section
variable {P : Program} {w : World} {K : PySem.W.Frag} {mg : Str → Option Value} {base : Heap}
abbrev s_is_payload : Stmt := top 21
abbrev N_is_payload : List Str := ["value"]
abbrev P_is_payload : List Str := ["value"]
theorem sc_is_payload : FnScope N_is_payload P_is_payload (defScope s_is_payload) := ⟨rfl, rfl, rfl, by decide +kernel, rfl, by decide +kernel, by decide +kernel⟩
theorem ok_is_payload {f : Addr} {fd : FuncData} (T : Tx mg) (c_is_printable : DefOk P w K mg base CX0 "is_printable" P_is_printable 2 (sp_is_printable))(F : Fun K "is_payload" "is_payload" s_is_payload f fd) : FnOk P w K mg base CX0 (3) f fd P_is_payload (spH1 isPay) := by
  have nd := sc_is_payload.nd
  refine F.ok sc_is_payload (fun vs H Q E h => ?_) (fun cdv A outer s H vs Q E hr h => ?_)
  · obtain ⟨_, _, _, rfl, _⟩ := h
    rfl
  · obtain ⟨p, v, d, rfl, hd, hh, q⟩ := h
    have hs := sl
    refine ⟨_, (pss_one (ps_ret (pe_and (pe_callB call_isi (by rfl) T.b_isinstance (by decide +kernel) (pa_cons (pv 0) (pa_cons (pe_ty "str" T.b_str) pa_nil))) (pe_and (pe_cmpR op_le (pe_callB call_len_str (by rfl) T.b_len (by decide +kernel) (pa_cons (pv 0) pa_nil)) (pe_const T.c_MOST_PAYLOAD) (nomark _)) (pe_one (pcall c_is_printable hr (pa_cons (pv 0) pa_nil))))))), ?_⟩
    have hd' := hd
    cases hd <;> walk_at "rds"
    case str z =>
      cases hh with
      | str hz =>
        refine ⟨by have := hz.1; omega, ?_⟩
        walk_at "rds"
        refine iB (fun h => ?_) (fun h => ?_)
        · have h := of_decide_eq_true h
          walk_at "rds"
          exact ansB q (by simp only [isPay]; rw [decide_eq_true (show z.length ≤ 30 by omega), Bool.true_and])
        · have h := of_decide_eq_false h
          exact ansB q (by simp only [isPay]; rw [decide_eq_false (show ¬ z.length ≤ 30 by omega), Bool.false_and])
    all_goals exact q
abbrev s_is_message : Stmt := top 22
abbrev N_is_message : List Str := ["count", "value"]
abbrev P_is_message : List Str := ["count", "value"]
theorem sc_is_message : FnScope N_is_message P_is_message (defScope s_is_message) := ⟨rfl, rfl, rfl, by decide +kernel, rfl, by decide +kernel, by decide +kernel⟩
theorem ok_is_message {f : Addr} {fd : FuncData} (T : Tx mg) (c_is_integer : DefOk P w K mg base CX0 "is_integer" P_is_integer 1 (spI)) (c_is_member : DefOk P w K mg base CX0 "is_member" P_is_member 3 (spB2 isMem)) (c_is_payload : DefOk P w K mg base CX0 "is_payload" P_is_payload 3 (spH1 isPay))(F : Fun K "is_message" "is_message" s_is_message f fd) : FnOk P w K mg base CX0 (4) f fd P_is_message (spH2 isMsg) := by
  have nd := sc_is_message.nd
  refine F.ok sc_is_message (fun vs H Q E h => ?_) (fun cdv A outer s H vs Q E hr h => ?_)
  · obtain ⟨_, _, _, _, _, rfl, _⟩ := h
    rfl
  · obtain ⟨p, u, v, c, d, rfl, hc, hd, hh, q⟩ := h
    refine ⟨_, (pss_cons (ps_if (PW.pt (pw_or (pt_not (pt_val (pe_callB call_isi (by rfl) T.b_isinstance (by decide +kernel) (pa_cons (pv 1) (pa_cons (pe_ty "tuple" T.b_tuple) pa_nil))))) (pw_or1 (pt_cmpR op_ne (pe_callB call_len_seq (by rfl) T.b_len (by decide +kernel) (pa_cons (pv 1) pa_nil)) pe_int (nomark _)))))
        (pss_one (ps_ret pe_bl))
        pss_nil)
      (pss_one (ps_ret (pe_and (pcall c_is_member hr (pa_cons (pv 0) (pa_cons (pe_ix ix_tup (pv 1) pe_int (fun _ _ => rfl)) pa_nil))) (pe_and (pcall c_is_integer hr (pa_cons (pe_ix ix_tup (pv 1) pe_int (fun _ _ => rfl)) (pa_cons pe_int (pa_cons (pe_const T.c_MOST_NUMBER) pa_nil)))) (pe_one (pcall c_is_payload hr (pa_cons (pe_ix ix_tup (pv 1) pe_int (fun _ _ => rfl)) pa_nil)))))))), ?_⟩
    have hd' := hd
    rcases threes d with ⟨x, y, z, rfl⟩ | hno
    · obtain ⟨k1, k2, k3⟩ := hh.of3
      obtain _ | _ | _ | _ | _ | @⟨a, xs, _, ha, np, hw, hr⟩ := hd
      obtain _ | ⟨hx, _ | ⟨hy, _ | ⟨hz, hn⟩⟩⟩ := hr
      cases hn
      walk_at "rds"
      refine iB (fun h => ?_) (fun h => ?_)
      · walk_at "rds"
        refine iB (fun h2 => ?_) (fun h2 => ?_)
        · walk_at "rds"
          exact ⟨p, _, z, rfl, hz, k3, ansB q (by simp [isMsg, h, h2])⟩
        · exact ansB q (by simp [isMsg, h, h2])
      · exact ansB q (by simp [isMsg, h])
    · have e := isMsg_no (c := c) hno
      rw [e] at q
      rcases hno with ⟨ds, rfl, hl⟩ | hno
      · obtain _ | _ | _ | _ | _ | @⟨a, xs, _, ha, np, hw, hr⟩ := hd
        have hl2 := hr.length
        walk_at "rds"
        refine nT (vint_ne (by omega)) ?_
        walk_at "rds"
        exact q
      · cases hd <;> simp [dTup] at hno <;> walk_at "rds" <;> exact q
end
end Mus

set_option maxRecDepth 100000
set_option maxHeartbeats 4000000
namespace Mus
open PySem L2 TL PySem.NumText
local macro_rules | `(tactic| walk_at "rd") => `(tactic| first
  | refine ⟨_, rfl, ?_⟩ | refine ⟨(True.intro : True), ?_⟩
  | refine ⟨_, _, rfl, rfl, (⟨by decide, by decide, by decide⟩ : CPow _ _), ?_⟩
  | refine ⟨_, _, rfl, rfl, (⟨by decide, by decide⟩ : CDiv _ _), ?_⟩
  | refine ⟨_, _, rfl, rfl, (by show (0 : Int) < _; decide), ?_⟩
  | refine ⟨_, _, rfl, rfl, ?_⟩ | refine ⟨rfl, ?_⟩ | refine iteT ?_ | refine iteF ?_ | refine ⟨_, _, rfl, ?_⟩ | refine .inl ⟨_, rfl, ?_⟩
  | refine ⟨_, _, _, _, _, rfl, (by assumption), (by assumption), (by assumption), rfl, ?_⟩ | refine ⟨_, _, _, _, rfl, rfl, SqT.of (by assumption), rfl, ?_⟩ | refine ⟨_, _, rfl, SqT.of (by assumption), rfl, ?_⟩
  | refine ⟨_, _, _, _, _, rfl, .ty _, Rp.ty (by assumption), kit_int _, ?_⟩ | refine ⟨_, _, _, _, _, rfl, .ty _, Rp.ty (by assumption), kit_bool _, ?_⟩
  | refine ⟨_, _, _, _, _, rfl, .ty _, Rp.ty (by assumption), kit_str _, ?_⟩ | refine ⟨_, _, _, _, _, rfl, .ty _, Rp.ty (by assumption), kit_tup _, ?_⟩)
local macro_rules | `(tactic| walk_at "cal") => `(tactic| first
  | refine ⟨_, _, _, _, _, rfl, (by assumption), ?_⟩ | refine ⟨_, _, _, _, _, rfl, (by assumption), (by assumption), ?_⟩)
local macro_rules | `(tactic| walk_at "sq") => `(tactic| first
  | refine ⟨_, _, rfl, Or.inr (SqT.of (by assumption)), ?_⟩ | refine ⟨_, _, _, _, rfl, rfl, SqT.of (by assumption), rfl, ?_⟩)
local macro_rules | `(tactic| walk_at "rds") => `(tactic| repeat first | walk_at "rd" | walk_at "cal" | walk_at "sq")
local macro_rules | `(tactic| walk_at "ze") => `(tactic| repeat first
  | exact zes_nil | exact ze_bl | exact ze_str | exact ze_non | apply zes_cons | apply ze_tup | apply ze_lst | apply ze_cat | exact di_c | exact di_v rfl | apply di_opC | apply di_op | apply di_neg | apply ze_i | (refine (⟨?_, ?_, ?_⟩ : CPow _ _) <;> decide) | exact Nat.le_of_ble_eq_true rfl | exact ze_varD rfl (by assumption))
local macro_rules | `(tactic| walk_at "rdz") => `(tactic| repeat (fail_if_success (first | show tLst _ _ _ _ | show tAsg (tLst _) _ _ _ _ | show tSeq (tAsg (tLst _) _) _ _ _ _)); first | walk_at "rd" | walk_at "cal" | walk_at "sq")
def sndK : PyData → Int × Int
  | .tuple (.tuple [.int i, .int l] :: _) => (i, l)
  | _ => (0, 0)
def idxK : PyData → Int
  | .tuple (_ :: .int i :: _) => i
  | _ => 0
def cnt (ds : List PyData) (k : Int × Int) : Nat := (ds.filter fun m => decide (sndK m = k)).length
def logFrom (c : PyData) : List PyData → List PyData → Bool
  | _, [] => true
  | pre, m :: ms => isMsg c m && decide (idxK m = cnt pre (sndK m) + 1) && logFrom c (pre ++ [m]) ms
def isLog (c : PyData) : PyData → Bool
  | .tuple ds => logFrom c [] ds
  | _ => false
theorem isMsg_int {c d : PyData} (h : isMsg c d = true) : ∃ i l k z, d = .tuple [.tuple [.int i, .int l], .int k, .str z] ∧ isMem c (.tuple [.int i, .int l]) = true ∧ 1 ≤ k ∧ k ≤ 1000000000000 ∧ z.length ≤ 30 := by
  unfold isMsg at h
  split at h
  · rename_i a b z
    rw [Bool.and_eq_true, Bool.and_eq_true] at h
    obtain ⟨⟨h1, h2⟩, h3⟩ := h
    obtain ⟨n, i, l, _, rfl, _⟩ := isMem_int h1
    obtain ⟨k, rfl, h4, h5⟩ := isInt_int h2
    cases z <;> try (cases h3; done)
    rename_i z
    simp [isPay] at h3
    exact ⟨i, l, k, z, rfl, h1, h4, h5, h3.1⟩
  · cases h
theorem cnt_snoc (ds : List PyData) (m : PyData) (k : Int × Int) : cnt (ds ++ [m]) k = cnt ds k + if sndK m = k then 1 else 0 := by
  unfold cnt
  rw [List.filter_append, List.length_append]
  by_cases h : sndK m = k
  · rw [if_pos h]; simp [h]
  · rw [if_neg h]; simp [h]
def spHS1 (f : PyData → Bool) : Sp := fun vs H Q _ => ∃ (p : Addr) (v : V) (d : PyData), vs = [v] ∧ Rp p H v d ∧ Her Ok d ∧ ∀ H', Same H H' → Q (.bl (f d)) H'
def spHS2 (f : PyData → PyData → Bool) : Sp := fun vs H Q _ => ∃ (p : Addr) (u v : V) (c d : PyData), vs = [u, v] ∧ Rp p H u c ∧ Rp p H v d ∧ Her Ok d ∧ ∀ H', Same H H' → Q (.bl (f c d)) H'
theorem isLog_no {c d : PyData} (h : dTup d = false) : isLog c d = false := by cases d <;> first | rfl | cases h
/-- the last indexes as a dict -/
def Last (kvs : List (List Key × V)) (pre : List PyData) : Prop := kvs.length ≤ pre.length ∧ ∀ i l : Int, (valV kvs [Sum.inl i, Sum.inl l]).getD (.int 0) = .int (cnt pre (i, l) : Nat)
section
variable {P : Program} {w : World} {K : PySem.W.Frag} {mg : Str → Option Value} {base : Heap}
abbrev s_is_log : Stmt := top 24
abbrev N_is_log : List Str := ["count", "value", "last_indexes", "message", "sender", "index", "_"]
abbrev P_is_log : List Str := ["count", "value"]
theorem sc_is_log : FnScope N_is_log P_is_log (defScope s_is_log) := ⟨rfl, rfl, rfl, by decide +kernel, rfl, by decide +kernel, by decide +kernel⟩
theorem ok_is_log {f : Addr} {fd : FuncData} (T : Tx mg) (c_is_message : DefOk P w K mg base CX0 "is_message" P_is_message 4 (spH2 isMsg))(F : Fun K "is_log" "is_log" s_is_log f fd) : FnOk P w K mg base CX0 (5) f fd P_is_log (spHS2 isLog) := by
  have nd := sc_is_log.nd
  refine F.ok sc_is_log (fun vs H Q E h => ?_) (fun cdv A outer s H vs Q E hr h => ?_)
  · obtain ⟨_, _, _, _, _, rfl, _⟩ := h
    rfl
  · obtain ⟨p, u, v, c, d, rfl, hc, hd, hh, q⟩ := h
    have hu := hu_of hr
    have hs := sl
    refine ⟨_, (pss_cons (ps_if (pt_not (pt_val (pe_callB call_isi (by rfl) T.b_isinstance (by decide +kernel) (pa_cons (pv 1) (pa_cons (pe_ty "tuple" T.b_tuple) pa_nil)))))
        (pss_one (ps_ret pe_bl))
        pss_nil)
      (pss_cons (ps_set (i := 2) nd rfl (Or.inl rfl) pe_dnewT)
      (pss_cons (ps_for PassesOwn.never rfl (pi_tup (pv 1)) (pg_name (i := 3) nd rfl (Or.inl rfl))
        (pss_cons (ps_if (pt_not (pt_val (pcall c_is_message hr (pa_cons (pv 0) (pa_cons (pv 3) pa_nil)))))
          (pss_one (ps_ret pe_bl))
          pss_nil)
        (pss_cons (ps_asg (pv 3) (pg_tup (by rfl) (pgs_cons (pg_name (i := 4) nd rfl (Or.inl rfl)) (pgs_cons (pg_name (i := 5) nd rfl (Or.inl rfl)) (pgs_cons (pg_name (i := 6) nd rfl (Or.inl rfl)) pgs_nil)))))
        (pss_cons (ps_if (pt_cmpR op_ne (pv 5) (pe_op op_add (pe_dget2 hu (pv 2) (pv 4) pe_int ⟨rfl, rfl, rfl, rfl⟩) pe_int) (nomark _))
          (pss_one (ps_ret pe_bl))
          pss_nil)
        (pss_one (ps_dput hu (pv 2) (pv 4) (pv 5) rfl))))))
      (pss_one (ps_ret pe_bl))))), ?_⟩
    have hd' := hd
    cases hd
    case tup a xs ds ha np hw hr =>
      walk_at "rds"
      intro e ne
      have se := same_new ne (.dT [])
      walk_at "rds"
      refine ⟨⟨_, SqT.of (se _ _ ha)⟩, for_tup (K := K) (a := a) (xs := xs) (fun i σ H' => ∃ (kvs : List (List Key × V)) (x3 x4 x5 x6 : Option V), σ = [some u, some (.ref a), some (.ref e), x3, x4, x5, x6] ∧ Same H H' ∧ H' e = some (.dT kvs) ∧ Last kvs (ds.take i) ∧ logFrom c [] ds = logFrom c (ds.take i) (ds.drop i)) ?_ ?_ ?_ ?_⟩
      · exact ⟨[], _, _, _, _, rfl, se, upd_same, ⟨Nat.zero_le _, fun _ _ => rfl⟩, rfl⟩
      · rintro i σ H' _ ⟨kvs, _, _, _, _, rfl, s', _⟩
        exact SqT.of (s' _ _ ha)
      · rintro i x σ H' hx ⟨kvs, x3, x4, x5, x6, rfl, s', he, hL, hm⟩
        obtain ⟨m, hm2, rm⟩ := hr.at hx
        rw [drop_cons hm2] at hm
        have hmh := hh.mem m (List.mem_of_getElem? hm2)
        walk_at "rds"
        refine ⟨p, u, x, c, m, rfl, hc.same s', rm.same s', hmh, ?_⟩
        walk_at "rds"
        refine iB (fun h => ?_) (fun h => ?_)
        · have h' : isMsg c m = false := by simpa using h
          walk_at "rds"
          exact ansB (q _ s') (hm.trans (by simp [logFrom, h']))
        · have h' : isMsg c m = true := by simpa using h
          obtain ⟨i0, l0, k0, z0, rfl, hmem, _, _, _⟩ := isMsg_int h'
          obtain _ | _ | _ | _ | _ | @⟨b, ys, _, hb, nb, hwb, hrb⟩ := rm
          obtain _ | ⟨hx1, _ | ⟨hx2, _ | ⟨hx3, hn⟩⟩⟩ := hrb
          cases hn
          cases hx2
          cases hx3
          obtain _ | _ | _ | _ | _ | @⟨b2, ys2, _, hb2, nb2, hwb2, hrb2⟩ := hx1
          obtain _ | ⟨hy1, _ | ⟨hy2, hn⟩⟩ := hrb2
          cases hn
          cases hy1
          cases hy2
          have hbt : H' b2 = some (.tup (([Sum.inl i0, Sum.inl l0] : List Key).map kV)) := s' _ _ hb2
          walk_at "rds"
          refine ⟨b, _, rfl, SqT.of (s' _ _ hb), rfl, ?_⟩
          walk_at "rds"
          refine ⟨.inr ⟨kvs, .inl he⟩, ?_⟩
          walk_at "rds"
          refine ⟨_, DGet.t he hbt, ?_⟩
          rw [hL.2]
          walk_at "rds"
          refine iB (fun h2 => ?_) (fun h2 => ?_)
          · have h3 : ¬ k0 = (cnt (ds.take i) (i0, l0) : Nat) + 1 := fun e => by rw [e] at h2; simp at h2
            walk_at "rds"
            exact ansB (q _ s') (hm.trans (by simp [logFrom, idxK, sndK, h3]))
          · have h3 : k0 = (cnt (ds.take i) (i0, l0) : Nat) + 1 := by simpa using h2
            have hll : kvs.length < sizeLine := by
              have := hL.1
              rw [List.length_take] at this
              have := hr.length
              omega
            walk_at "rds"
            refine ⟨e, _, rfl, DPut.t he hbt hll, ?_⟩
            have ht : ds.take (i + 1) = ds.take i ++ [.tuple [.tuple [.int i0, .int l0], .int k0, .str z0]] := by rw [List.take_succ, hm2]; rfl
            refine ⟨_, _, _, _, _, rfl, fun b' o h => (by rw [upd_ne (ne_of_none h ne)]; exact s' b' o h), upd_same, ⟨?_, ?_⟩, ?_⟩
            · have := putK_le kvs ([Sum.inl i0, Sum.inl l0] : List Key) (V.int k0)
              rw [ht, List.length_append]
              have := hL.1
              show _ ≤ _ + 1
              omega
            · intro i1 l1
              have es : sndK (.tuple [.tuple [.int i0, .int l0], .int k0, .str z0]) = (i0, l0) := rfl
              rw [valV_put, ht, cnt_snoc, es]
              by_cases he1 : i1 = i0 ∧ l1 = l0
              · obtain ⟨rfl, rfl⟩ := he1
                rw [if_pos rfl, if_pos rfl]
                show V.int k0 = _
                rw [h3]; rfl
              · rw [if_neg (by intro z; injection z with z1 z2; injection z1 with z1; injection z2 with z2; injection z2 with z2; exact he1 ⟨z1, z2⟩), if_neg (by intro z; injection z with z1 z2; exact he1 ⟨z1.symm, z2.symm⟩)]
                exact hL.2 i1 l1
            · rw [hm, ht]
              show (isMsg c _ && decide (k0 = ((cnt (ds.take i) (i0, l0) : Nat) : Int) + 1) && logFrom c (ds.take i ++ [_]) _) = _
              rw [h', decide_eq_true h3]; rfl
      · rintro σ H' ⟨kvs, x3, x4, x5, x6, rfl, s', he, hL, hm⟩
        have hl := hr.length
        rw [hl, List.drop_length] at hm
        walk_at "rds"
        exact ansB (q _ s') hm
    all_goals
      walk_at "rds"
      exact q _ (Same.rfl' H)
end
end Mus

set_option maxRecDepth 100000
set_option maxHeartbeats 4000000
namespace Mus
open PySem L2 TL PySem.NumText
local macro_rules | `(tactic| walk_at "rd") => `(tactic| first
  | refine ⟨_, rfl, ?_⟩ | refine ⟨(True.intro : True), ?_⟩
  | refine ⟨_, _, rfl, rfl, (⟨by decide, by decide, by decide⟩ : CPow _ _), ?_⟩
  | refine ⟨_, _, rfl, rfl, (⟨by decide, by decide⟩ : CDiv _ _), ?_⟩
  | refine ⟨_, _, rfl, rfl, (by show (0 : Int) < _; decide), ?_⟩
  | refine ⟨_, _, rfl, rfl, ?_⟩ | refine ⟨rfl, ?_⟩ | refine iteT ?_ | refine iteF ?_ | refine ⟨_, _, rfl, ?_⟩ | refine .inl ⟨_, rfl, ?_⟩
  | refine ⟨_, _, _, _, _, rfl, (by assumption), (by assumption), (by assumption), rfl, ?_⟩ | refine ⟨_, _, _, _, rfl, rfl, SqT.of (by assumption), rfl, ?_⟩ | refine ⟨_, _, rfl, SqT.of (by assumption), rfl, ?_⟩
  | refine ⟨_, _, _, _, _, rfl, .ty _, Rp.ty (by assumption), kit_int _, ?_⟩ | refine ⟨_, _, _, _, _, rfl, .ty _, Rp.ty (by assumption), kit_bool _, ?_⟩
  | refine ⟨_, _, _, _, _, rfl, .ty _, Rp.ty (by assumption), kit_str _, ?_⟩ | refine ⟨_, _, _, _, _, rfl, .ty _, Rp.ty (by assumption), kit_tup _, ?_⟩)
local macro_rules | `(tactic| walk_at "cal") => `(tactic| first
  | refine ⟨_, _, _, _, _, rfl, (by assumption), ?_⟩ | refine ⟨_, _, _, _, _, rfl, (by assumption), (by assumption), ?_⟩)
local macro_rules | `(tactic| walk_at "sq") => `(tactic| first
  | refine ⟨_, _, rfl, Or.inr (SqT.of (by assumption)), ?_⟩ | refine ⟨_, _, _, _, rfl, rfl, SqT.of (by assumption), rfl, ?_⟩)
local macro_rules | `(tactic| walk_at "rds") => `(tactic| repeat first | walk_at "rd" | walk_at "cal" | walk_at "sq")
local macro_rules | `(tactic| walk_at "ze") => `(tactic| repeat first
  | exact zes_nil | exact ze_bl | exact ze_str | exact ze_non | apply zes_cons | apply ze_tup | apply ze_lst | apply ze_cat | exact di_c | exact di_v rfl | apply di_opC | apply di_op | apply di_neg | apply ze_i | (refine (⟨?_, ?_, ?_⟩ : CPow _ _) <;> decide) | exact Nat.le_of_ble_eq_true rfl | exact ze_varD rfl (by assumption))
local macro_rules | `(tactic| walk_at "rdz") => `(tactic| repeat (fail_if_success (first | show tLst _ _ _ _ | show tAsg (tLst _) _ _ _ _ | show tSeq (tAsg (tLst _) _) _ _ _ _)); first | walk_at "rd" | walk_at "cal" | walk_at "sq")
/-- a cast that waits -/
def isCast : PyData → Bool
  | .tuple [x, y] => isInt x 1 1000000000000 && isPay y
  | _ => false
def pendFrom : Int → List PyData → Bool
  | _, [] => true
  | n, m :: ms => isCast m && decide (procOf m = n) && pendFrom (n + 1) ms
def isPend : PyData → Bool
  | .tuple [] => true
  | .tuple (m :: ms) => isCast m && pendFrom (procOf m + 1) ms
  | _ => false
theorem isCast_no {d : PyData} (h : (∃ ds, d = .tuple ds ∧ ds.length ≠ 2) ∨ dTup d = false) : isCast d = false := by
  unfold isCast
  split
  · simp [dTup] at h
  · rfl
section
variable {P : Program} {w : World} {K : PySem.W.Frag} {mg : Str → Option Value} {base : Heap}
abbrev s__is_pending_cast : Stmt := top 27
abbrev N__is_pending_cast : List Str := ["value"]
abbrev P__is_pending_cast : List Str := ["value"]
theorem sc__is_pending_cast : FnScope N__is_pending_cast P__is_pending_cast (defScope s__is_pending_cast) := ⟨rfl, rfl, rfl, by decide +kernel, rfl, by decide +kernel, by decide +kernel⟩
theorem ok__is_pending_cast {f : Addr} {fd : FuncData} (T : Tx mg) (c_is_integer : DefOk P w K mg base CX0 "is_integer" P_is_integer 1 (spI)) (c_is_payload : DefOk P w K mg base CX0 "is_payload" P_is_payload 3 (spH1 isPay))(F : Fun K "_is_pending_cast" "_is_pending_cast" s__is_pending_cast f fd) : FnOk P w K mg base CX0 (4) f fd P__is_pending_cast (spH1 isCast) := by
  have nd := sc__is_pending_cast.nd
  refine F.ok sc__is_pending_cast (fun vs H Q E h => ?_) (fun cdv A outer s H vs Q E hr h => ?_)
  · obtain ⟨_, _, _, rfl, _⟩ := h
    rfl
  · obtain ⟨p, v, d, rfl, hd, hh, q⟩ := h
    refine ⟨_, (pss_cons (ps_if (PW.pt (pw_or (pt_not (pt_val (pe_callB call_isi (by rfl) T.b_isinstance (by decide +kernel) (pa_cons (pv 0) (pa_cons (pe_ty "tuple" T.b_tuple) pa_nil))))) (pw_or1 (pt_cmpR op_ne (pe_callB call_len_seq (by rfl) T.b_len (by decide +kernel) (pa_cons (pv 0) pa_nil)) pe_int (nomark _)))))
        (pss_one (ps_ret pe_bl))
        pss_nil)
      (pss_one (ps_ret (pe_and (pcall c_is_integer hr (pa_cons (pe_ix ix_tup (pv 0) pe_int (fun _ _ => rfl)) (pa_cons pe_int (pa_cons (pe_const T.c_MOST_NUMBER) pa_nil)))) (pe_one (pcall c_is_payload hr (pa_cons (pe_ix ix_tup (pv 0) pe_int (fun _ _ => rfl)) pa_nil))))))), ?_⟩
    have hd' := hd
    rcases pairs d with ⟨x, y, rfl⟩ | hno
    · obtain ⟨k1, k2⟩ := hh.of2
      obtain _ | _ | _ | _ | _ | @⟨a, xs, _, ha, np, hw, hr⟩ := hd
      obtain _ | ⟨hx, _ | ⟨hy, _⟩⟩ := hr
      cases ‹Rps p H _ []›
      walk_at "rds"
      refine iB (fun h => ?_) (fun h => ?_)
      · walk_at "rds"
        exact ⟨p, _, y, rfl, hy, k2, ansB q (by simp [isCast, h])⟩
      · exact ansB q (by simp [isCast, h])
    · have e := isCast_no hno
      rw [e] at q
      rcases hno with ⟨ds, rfl, hl⟩ | hno
      · obtain _ | _ | _ | _ | _ | @⟨a, xs, _, ha, np, hw, hr⟩ := hd
        have hl2 := hr.length
        walk_at "rds"
        refine nT (vint_ne (by omega)) ?_
        walk_at "rds"
        exact q
      · cases hd <;> simp [dTup] at hno <;> walk_at "rds" <;> exact q
theorem logFrom_at {c : PyData} : ∀ {ds pre : List PyData}, logFrom c pre ds = true → ∀ {j : Nat} {m : PyData}, ds[j]? = some m → isMsg c m = true ∧ idxK m = (cnt (pre ++ ds.take j) (sndK m) : Nat) + 1
  | [], pre, _, j, m, h => by simp at h
  | d :: ds, pre, h, j, m, hm => by
    have h : (isMsg c d && decide (idxK d = (cnt pre (sndK d) : Nat) + 1) && logFrom c (pre ++ [d]) ds) = true := h
    rw [Bool.and_eq_true, Bool.and_eq_true, decide_eq_true_eq] at h
    cases j with
    | zero =>
      cases hm
      rw [List.take_zero, List.append_nil]
      exact h.1
    | succ j =>
      have := logFrom_at h.2 (j := j) (m := m) (by simpa using hm)
      rwa [List.append_assoc] at this
theorem shaped2 (i l : Int) : SeqAt.shaped (.tuple [.int i, .int l]) = true := by simp [SeqAt.shaped, PyData.canLay0, PyData.canLayAll0, PyData.depth, PyData.depthAll]
theorem eqv2 (i l j k : Int) : PyData.eqv (.tuple [.int i, .int l]) (.tuple [.int j, .int k]) = decide ((i, l) = (j, k)) := by
  simp only [PyData.eqv, PyData.eqvAll, Prod.mk.injEq, Bool.and_true, Bool.decide_and]
  rfl
def sp_last : Sp := fun vs H Q _ => ∃ (p : Addr) (u v : V) (ds : List PyData) (i l : Int) (c : PyData), vs = [u, v] ∧ Rp p H u (.tuple ds) ∧ Rp p H v (.tuple [.int i, .int l]) ∧ logFrom c [] ds = true ∧ Q (.int (cnt ds (i, l) : Nat)) H
abbrev s_last_index : Stmt := top 25
abbrev N_last_index : List Str := ["log", "member", "last", "sender", "index", "_"]
abbrev P_last_index : List Str := ["log", "member"]
theorem sc_last_index : FnScope N_last_index P_last_index (defScope s_last_index) := ⟨rfl, rfl, rfl, by decide +kernel, rfl, by decide +kernel, by decide +kernel⟩
theorem ok_last_index {f : Addr} {fd : FuncData} (T : Tx mg) (F : Fun K "last_index" "last_index" s_last_index f fd) : FnOk P w K mg base CX0 (1) f fd P_last_index (sp_last) := by
  have nd := sc_last_index.nd
  refine F.ok sc_last_index (fun vs H Q E h => ?_) (fun cdv A outer s H vs Q E hr h => ?_)
  · obtain ⟨_, _, _, _, _, _, _, rfl, _⟩ := h
    rfl
  · obtain ⟨p, u, v, ds, i, l, c, rfl, hu, hv, hlog, q⟩ := h
    have hs := sl
    refine ⟨_, (pss_cons (ps_set (i := 2) nd rfl (Or.inl rfl) pe_int)
      (pss_cons (ps_for PassesOwn.never rfl (pi_tup (pv 0)) (pg_tup (by rfl) (pgs_cons (pg_name (i := 3) nd rfl (Or.inl rfl)) (pgs_cons (pg_name (i := 4) nd rfl (Or.inl rfl)) (pgs_cons (pg_name (i := 5) nd rfl (Or.inl rfl)) pgs_nil))))
        (pss_one (ps_if (pt_cmpR (op_eqD hr.units) (pv 3) (pv 1) (nomark _))
          (pss_one (ps_set (i := 2) nd rfl (Or.inl rfl) (pv 4)))
          pss_nil)))
      (pss_one (ps_ret (pv 2))))), ?_⟩
    walk_at "rds"
    obtain _ | _ | _ | _ | _ | @⟨a, xs, _, ha, np, hw, hr1⟩ := hu
    refine ⟨a, rfl, ⟨_, SqT.of ha⟩, for_tup (K := K) (a := a) (xs := xs) (fun j σ H' => H' = H ∧ ∃ (x3 x4 x5 : Option V), σ = [some (.ref a), some v, some (.int (cnt (ds.take j) (i, l) : Nat)), x3, x4, x5]) ?_ ?_ ?_ ?_⟩
    · exact ⟨rfl, _, _, _, rfl⟩
    · rintro j σ H' _ ⟨rfl, _⟩
      exact SqT.of ha
    · rintro j x σ H' hx ⟨rfl, x3, x4, x5, rfl⟩
      obtain ⟨m, hm2, rm⟩ := hr1.at hx
      obtain ⟨hmsg, hidx⟩ := logFrom_at hlog hm2
      obtain ⟨i0, l0, k0, z0, rfl, hmem, _, _, _⟩ := isMsg_int hmsg
      have hidx : k0 = (cnt ([] ++ ds.take j) (i0, l0) : Nat) + 1 := hidx
      rw [List.nil_append] at hidx
      have ht : ds.take (j + 1) = ds.take j ++ [.tuple [.tuple [.int i0, .int l0], .int k0, .str z0]] := by rw [List.take_succ, hm2]; rfl
      have es : sndK (.tuple [.tuple [.int i0, .int l0], .int k0, .str z0]) = (i0, l0) := rfl
      obtain _ | _ | _ | _ | _ | @⟨b, ys, _, hb, nb, hwb, hrb⟩ := rm
      obtain _ | ⟨hx1, _ | ⟨hx2, _ | ⟨hx3, hn⟩⟩⟩ := hrb
      cases hn
      cases hx2
      cases hx3
      refine ⟨b, _, rfl, SqT.of hb, rfl, ?_⟩
      walk_at "rds"
      refine ⟨_, _, hx1.dp, hv.dp, shaped2 _ _, shaped2 _ _, ?_⟩
      rw [eqv2]
      walk_at "rds"
      refine iB (fun h => ?_) (fun h => ?_)
      · have h := of_decide_eq_true h
        walk_at "rds"
        rw [ht, cnt_snoc, es, if_pos h, hidx, h]
        exact ⟨_, _, _, rfl⟩
      · have h := of_decide_eq_false h
        have ec : cnt (ds.take (j + 1)) (i, l) = cnt (ds.take j) (i, l) := by rw [ht, cnt_snoc, es, if_neg h]; rfl
        rw [ec]
        exact ⟨rfl, _, _, _, rfl⟩
    · rintro σ H' ⟨rfl, x3, x4, x5, rfl⟩
      have hl := hr1.length
      rw [hl, List.take_length]
      walk_at "rds"
      exact q
end
end Mus

set_option maxRecDepth 100000
set_option maxHeartbeats 4000000
/-! enumerate of a tuple. -/
namespace PySem
open Sem (wp)
def enumO (a : Addr) : Obj := { cls := .type "enumerate", data := .fields #[.none, .bool false, .ref a, rawInt 0, .none, .none] }
theorem meets_enum1 {v : Value} {o : Obj} {H : Heap → Prop} (B : Begins v o H) :
    Meets (Builtin.«enumerate.__new__» ⟨[.type "enumerate", v], []⟩) (fun _ R s => H s.heap ∧ R (.ok (.ret (.ref (s.heap.push o).objs.size))) { s with heap := (s.heap.push o).push (enumO s.heap.objs.size) }) :=
  .of_wp fun prog w A R s h => by
    obtain ⟨hp, g, d, tk, os⟩ := s
    obtain ⟨h1, h⟩ := h
    have sub := sub_enumerate
    have it : ∀ {A' : Around} {E : Value → Shared → Prop} {Q : Value → Shared → Prop}, Q (.ref hp.objs.size) ⟨hp.push o, g, d, tk, os⟩ → wpAny (model prog w) A' (pyIter v) Q E ⟨hp, g, d, tk, os⟩ := fun q => B.iter _ _ _ _ _ _ h1 q
    wp_walk using it
    refine wpAny_stack_any fun st => wpAny_pure ?_
    split
    · rename_i c _ _ _ _ _
      cases (c == Value.type "enumerate") <;> (wp_walk using it; exact ⟨_, rfl, h⟩)
    · wp_walk using it
      exact ⟨_, rfl, h⟩
section
variable {prog : Program} {w : World} {A : Around} {E : Value → Shared → Prop} {s : Shared}
theorem call_enum1 {v : Value} {o : Obj} {H : Heap → Prop} {Q : Value → Shared → Prop} (B : Begins v o H) (h1 : H s.heap)
    (h : ∀ h', IsEnum h' (s.heap.objs.size + 1) s.heap.objs.size 0 .none → h'.get? s.heap.objs.size = some o → (∀ b u, s.heap.get? b = some u → h'.get? b = some u) → Q (.ref (s.heap.objs.size + 1)) { s with heap := h' }) :
    wpAny (model prog w) A (call (.type "enumerate") [v]) Q E s := by
  refine callType_new F.called_enumerate (by decide) (F.typeCall_enumerate_1 _) (F.newCall_enumerate_1 _) (fun obj => F.args_object_init_2 obj _) F.entry_enumerate_new (meets_enum1 B) ⟨h1, ?_⟩
  have z := Heap.size_push s.heap o
  have he : IsEnum ((s.heap.push o).push (enumO s.heap.objs.size)) (s.heap.objs.size + 1) s.heap.objs.size 0 .none := by
    have y := Heap.get?_push_size (s.heap.push o) (o := enumO s.heap.objs.size) rfl
    rw [z] at y; exact y
  show _ ∧ _
  rw [z]
  exact ⟨⟨_, he, rfl⟩, h _ he (Heap.get?_push_of_some _ (Heap.get?_push_size _ B.free)) fun b u x => Heap.get?_push_of_some _ (Heap.get?_push_of_some _ x)⟩
end
end PySem

set_option maxRecDepth 100000
set_option maxHeartbeats 4000000
namespace Mus
open PySem PySem.Spec PyProof.Rows L2
/-- the pairs (i, the tuple's item i) -/
def ItE (K : PySem.W.Frag) (a : Addr) : It where
  go := fun i H => ∃ (xs : List V) (x : V), SqT K H a xs ∧ xs[i]? = some x
  yld := fun i H v H' => ∃ T x, v = .ref T ∧ H T = none ∧ H' = upd H T (.tup [.int (i : Nat), x]) ∧ ∀ xs, SqT K H a xs → xs[i]? = some x
  stop := fun i H => ∃ xs : List V, SqT K H a xs ∧ xs.length = i
theorem turn_enT {P : Program} {w : World} {K : PySem.W.Frag} {elts : List Expr} {kk : Nat} {tpos : Pos} (a e it : Addr) :
    Turn P w K (.Tuple elts kk tpos) (ItE K a) [e, it] e (fun i h => (∃ old, IsEnum h e it ((i : Nat) : Int) old) ∧ h.IsTupleIter it a i ∧ e ≠ it ∧ a ≠ it ∧ a ≠ e) where
  mem := by simp
  obj := fun i h st b hb => by
    obtain ⟨⟨old, he⟩, ⟨o, ho, hc, hd⟩, _⟩ := st
    rcases List.mem_cons.mp hb with z | z
    · rw [z]; exact ⟨_, he, fun v q => nomatch q⟩
    · exact ⟨o, List.mem_singleton.mp z ▸ ho, fun v q => by rw [hd] at q; cases q⟩
  keep := fun i h h' st k => by
    obtain ⟨⟨old, he⟩, hi, r⟩ := st
    exact ⟨⟨old, k e List.mem_cons_self _ he⟩, hi.at fun o q => k it (by simp) o q, r⟩
  item := by
    intro X hP hw hK hc i pins s σ H E I hf st hg
    subst hP hw hK
    obtain ⟨⟨old, he⟩, hit, hne, hai, hae⟩ := st
    obtain ⟨xs, x, hq, hx⟩ := hg
    obtain ⟨its, rv, p, hz⟩ := I.tuple hq
    obtain ⟨u, hu, ru⟩ := rv.get hx
    have lt : i < its.toArray.size := by simpa using (List.getElem?_eq_some_iff.mp hu).1
    refine wpAny_pyNext_enum_itemD (Draws.tuple (A := X.A.in1) (I.ok.hd hc) it a hai its.toArray) he ⟨hit, p⟩ lt hne (by simp [hne, Ne.symm hae]) fun y h1 tk hy ho st1 hT hsz hk => ?_
    have ey : y = u := by
      have hy : its.toArray[i]? = some y := hy
      rw [List.getElem?_toArray, hu] at hy
      exact (Option.some.inj hy).symm
    subst ey
    refine ⟨_, rfl, wpAny_letOwnedTupleGo_enum (s := { s with heap := h1, toks := tk + 1 }) ho fun h2 he2 sb => ?_⟩
    have hel := Heap.lt_size he
    have hT2 := (sb.2 s.heap.objs.size (Nat.ne_of_gt hel)).trans hT
    have new : ObjOk X.prog X.w (upd H s.heap.objs.size (.tup [.int (i : Nat), x])) h2 s.heap.objs.size (.tup [.int (i : Nat), x]) := ⟨by show 2 ≤ sizeLine; decide, [.int i tk, y], .cons ⟨_, rfl⟩ (.cons ru .nil), ⟨_, hT2, rfl, _, rfl⟩⟩
    have I1 : Inv X pins σ (upd H s.heap.objs.size (.tup [.int (i : Nat), x])) { s with heap := h2, toks := tk + 1 } :=
      I.turnedNew (ch := [e, it]) (fun b ob hb q => by
        have n1 : b ≠ e := fun z => hb (by simp [z])
        have n2 : b ≠ it := fun z => hb (by simp [z])
        exact (sb.2 b n1).trans (hk b ob n1 n2 q)) hf (Nat.le_refl _) new
    have hfr : H s.heap.objs.size = none := I.hok.fresh (Nat.le_refl _)
    have ei : ((i : Nat) : Int) + 1 = ((i + 1 : Nat) : Int) := by omega
    rw [ei] at he2
    refine ⟨.ref s.heap.objs.size, _, I1, rfl, ⟨_, x, rfl, hfr, rfl, fun ys hy => by rw [I.tuple_inj hy hq]; exact hx⟩, ⟨⟨y, he2⟩, st1.1.at fun o q => (sb.2 it (Ne.symm hne)).trans q, hne, hai, hae⟩, fun b hb => ?_⟩
    have hb0 := (hf b hb).1
    rw [upd_ne]
    · exact hb0
    · intro z
      have hl : b < s.heap.objs.size := by
        rcases List.mem_cons.mp hb with z | z
        · rw [z]; exact hel
        · obtain ⟨o, q, _⟩ := hit
          rw [List.mem_singleton.mp z]; exact Heap.lt_size q
      exact Nat.ne_of_lt hl z
  done := by
    intro X hP hw hK hc i pins s σ H E I hf st hg
    subst hP hw hK
    obtain ⟨⟨old, he⟩, hit, hne, hai, hae⟩ := st
    obtain ⟨xs, hq, hx⟩ := hg
    obtain ⟨its, rv, p, hz⟩ := I.tuple hq
    have hl := rv.length
    have ei : i = its.toArray.size := by rw [← hx, hl]; rfl
    subst ei
    obtain ⟨f0, f1, f2, f3, f4, f5⟩ := hf it (by simp)
    exact wpAny_pyNext_enum_endD (Draws.tuple (A := X.A.in1) (I.ok.hd hc) it a hai its.toArray) he ⟨hit, p⟩ fun h1 eb => ⟨rfl, I.turned (t' := s.toks) (fun b o hb q => eb b o hb q) f0 f1 f3 f4 f5⟩
  self := fun A i s Q E st h => by
    obtain ⟨⟨_, he⟩, _⟩ := st
    exact wpAny_pyIter_enum he h
def iEnT (K : PySem.W.Frag) (ta : TA) : TI := fun σ H R => ta σ H fun vs H1 => ∃ a xs, vs = [.ref a] ∧ SqT K H1 a xs ∧ R (ItE K a) H1
theorem pi_enT {X : Cx} {e : Expr} {ta : TA} {p pos tpos : Pos} {elts : List Expr} {kk : Nat} (hg : Gl X "enumerate") (hm : X.mg "enumerate" = none) (ha : PA X [e] ta) (hs : starEach [e] X.env = [(false, eval e X.env)] := by rfl) :
    PI X (.Tuple elts kk tpos) (.Call (.Name "enumerate" p) [e] [] pos) (iEnT X.K ta) := by
  refine ⟨fun pins s σ H R I h => ?_⟩
  refine Call_ (ld_blt I hg hm boot_enumerate (callWith_type1 (thn (ha.run pos pins s σ H _ I h) fun us s1 y => ?_) hs rfl))
  obtain ⟨vs, H1, I1, r1, a, xs, rfl, hq, q⟩ := y
  obtain _ | ⟨r, _ | _⟩ := r1
  cases r
  obtain ⟨its, rv, p', hz⟩ := I1.tuple hq
  have p'' : s1.heap.IsTuple a its.toArray := p'
  have la : a < s1.heap.objs.size := by
    obtain ⟨o, y, _⟩ := p''
    exact Heap.lt_size y
  refine call_enum1 (begins_tuple a its.toArray) p'' fun h1 he ho hk => wpAny_pyIter_enum he ?_
  have I2 : Inv X pins σ H1 { s1 with heap := h1 } := I1.kept (t' := s1.toks) hk
  refine ⟨s1.heap.objs.size + 1, [s1.heap.objs.size + 1, s1.heap.objs.size], _, _, H1, rfl, I2, turn_enT a (s1.heap.objs.size + 1) s1.heap.objs.size, ⟨⟨.none, he⟩, ⟨_, ho, rfl, rfl⟩, Nat.succ_ne_self _, Nat.ne_of_lt la, Nat.ne_of_lt (Nat.lt_succ_of_lt la)⟩, fun b hb => ?_, q⟩
  have hle : s1.heap.objs.size ≤ b := by
    rcases List.mem_cons.mp hb with z | z
    · rw [z]; exact Nat.le_succ _
    · rw [List.mem_singleton.mp z]; exact Nat.le_refl _
  exact I1.fpOk hle (I1.hok.fresh hle)
theorem walk_enT {K : PySem.W.Frag} {a : Addr} {xs : List V} : Walk (ItE K a) xs.length (fun H => SqT K H a xs) (YPair (fun i => some (.int (i : Nat))) (fun i => xs[i]?)) where
  goes := fun i H hi h => ⟨xs, _, h, List.getElem?_eq_getElem hi⟩
  stops := fun H h => ⟨xs, h, rfl⟩
  yields := fun i H v H' hi h y => by
    obtain ⟨T, x, e1, e2, e3, e4⟩ := y
    exact ⟨T, _, x, e1, e2, e3, rfl, e4 xs h⟩
end Mus

set_option maxRecDepth 100000
set_option maxHeartbeats 4000000
namespace Mus
open PySem L2 TL PySem.NumText
local macro_rules | `(tactic| walk_at "rd") => `(tactic| first
  | refine ⟨_, rfl, ?_⟩ | refine ⟨(True.intro : True), ?_⟩
  | refine ⟨_, _, rfl, rfl, (⟨by decide, by decide, by decide⟩ : CPow _ _), ?_⟩
  | refine ⟨_, _, rfl, rfl, (⟨by decide, by decide⟩ : CDiv _ _), ?_⟩
  | refine ⟨_, _, rfl, rfl, (by show (0 : Int) < _; decide), ?_⟩
  | refine ⟨_, _, rfl, rfl, ?_⟩ | refine ⟨rfl, ?_⟩ | refine iteT ?_ | refine iteF ?_ | refine ⟨_, _, rfl, ?_⟩ | refine .inl ⟨_, rfl, ?_⟩
  | refine ⟨_, _, _, _, _, rfl, (by assumption), (by assumption), (by assumption), rfl, ?_⟩ | refine ⟨_, _, _, _, rfl, rfl, SqT.of (by assumption), rfl, ?_⟩ | refine ⟨_, _, rfl, SqT.of (by assumption), rfl, ?_⟩
  | refine ⟨_, _, _, _, _, rfl, .ty _, Rp.ty (by assumption), kit_int _, ?_⟩ | refine ⟨_, _, _, _, _, rfl, .ty _, Rp.ty (by assumption), kit_bool _, ?_⟩
  | refine ⟨_, _, _, _, _, rfl, .ty _, Rp.ty (by assumption), kit_str _, ?_⟩ | refine ⟨_, _, _, _, _, rfl, .ty _, Rp.ty (by assumption), kit_tup _, ?_⟩)
local macro_rules | `(tactic| walk_at "cal") => `(tactic| first
  | refine ⟨_, _, _, _, _, rfl, (by assumption), ?_⟩ | refine ⟨_, _, _, _, _, rfl, (by assumption), (by assumption), ?_⟩)
local macro_rules | `(tactic| walk_at "sq") => `(tactic| first
  | refine ⟨_, _, rfl, Or.inr (SqT.of (by assumption)), ?_⟩ | refine ⟨_, _, _, _, rfl, rfl, SqT.of (by assumption), rfl, ?_⟩)
local macro_rules | `(tactic| walk_at "rds") => `(tactic| repeat first | walk_at "rd" | walk_at "cal" | walk_at "sq")
local macro_rules | `(tactic| walk_at "ze") => `(tactic| repeat first
  | exact zes_nil | exact ze_bl | exact ze_str | exact ze_non | apply zes_cons | apply ze_tup | apply ze_lst | apply ze_cat | exact di_c | exact di_v rfl | apply di_opC | apply di_op | apply di_neg | apply ze_i | (refine (⟨?_, ?_, ?_⟩ : CPow _ _) <;> decide) | exact Nat.le_of_ble_eq_true rfl | exact ze_varD rfl (by assumption))
local macro_rules | `(tactic| walk_at "rdz") => `(tactic| repeat (fail_if_success (first | show tLst _ _ _ _ | show tAsg (tLst _) _ _ _ _ | show tSeq (tAsg (tLst _) _) _ _ _ _)); first | walk_at "rd" | walk_at "cal" | walk_at "sq")
theorem isCast_int {d : PyData} (h : isCast d = true) : ∃ k z, d = .tuple [.int k, .str z] ∧ 1 ≤ k ∧ k ≤ 1000000000000 ∧ z.length ≤ 30 := by
  unfold isCast at h
  split at h
  · rename_i x y
    rw [Bool.and_eq_true] at h
    obtain ⟨k, rfl, h1, h2⟩ := isInt_int h.1
    have h3 := h.2
    cases y <;> try (cases h3; done)
    rename_i z
    simp [isPay] at h3
    exact ⟨k, z, rfl, h1, h2, h3.1⟩
  · cases h
/-- all casts so far, one index behind the other -/
def PendTo (ds : List PyData) (i : Nat) : Prop := (∀ j m, j < i → ds[j]? = some m → isCast m = true) ∧ ∀ m, ds[0]? = some m → 0 < i → isPend (.tuple ds) = pendFrom (procOf m + (i : Nat)) (ds.drop i)
theorem pend_step {ds : List PyData} {i : Nat} {m0 m : PyData} (h : PendTo ds i) (h0 : ds[0]? = some m0) (hm : ds[i]? = some m) : isPend (.tuple ds) = if i = 0 then isCast m && pendFrom (procOf m + 1) (ds.drop 1) else isCast m && decide (procOf m = procOf m0 + (i : Nat)) && pendFrom (procOf m0 + (i : Nat) + 1) (ds.drop (i + 1)) := by
  by_cases hi : i = 0
  · subst hi
    rw [if_pos rfl]
    cases ds with
    | nil => cases h0
    | cons d ds => cases hm; rfl
  · rw [if_neg hi, h.2 _ h0 (by omega), drop_cons hm]; rfl
theorem shift_snd {ds : List PyData} {i : Nat} {m : PyData} (hm : ds[i]? = some m) {n : Int} : pendFrom n (ds.drop i) = (isCast m && decide (procOf m = n) && pendFrom (n + 1) (ds.drop (i + 1))) := by
  rw [drop_cons hm]; rfl
section
variable {P : Program} {w : World} {K : PySem.W.Frag} {mg : Str → Option Value} {base : Heap}
abbrev s_is_pending : Stmt := top 26
abbrev N_is_pending : List Str := ["value", "at", "pair"]
abbrev P_is_pending : List Str := ["value"]
theorem sc_is_pending : FnScope N_is_pending P_is_pending (defScope s_is_pending) := ⟨rfl, rfl, rfl, by decide +kernel, rfl, by decide +kernel, by decide +kernel⟩
theorem ok_is_pending {f : Addr} {fd : FuncData} (T : Tx mg) (c__is_pending_cast : DefOk P w K mg base CX0 "_is_pending_cast" P__is_pending_cast 4 (spH1 isCast))(F : Fun K "is_pending" "is_pending" s_is_pending f fd) : FnOk P w K mg base CX0 (5) f fd P_is_pending (spHS1 isPend) := by
  have nd := sc_is_pending.nd
  refine F.ok sc_is_pending (fun vs H Q E h => ?_) (fun cdv A outer s H vs Q E hr h => ?_)
  · obtain ⟨_, _, _, rfl, _⟩ := h
    rfl
  · obtain ⟨p, v, d, rfl, hd, hh, q⟩ := h
    have hs := sl
    refine ⟨_, (pss_cons (ps_if (pt_not (pt_val (pe_callB call_isi (by rfl) T.b_isinstance (by decide +kernel) (pa_cons (pv 0) (pa_cons (pe_ty "tuple" T.b_tuple) pa_nil)))))
        (pss_one (ps_ret pe_bl))
        pss_nil)
      (pss_cons (ps_for PassesOwn.never rfl (pi_enT (by rfl) T.b_enumerate (pa_cons (pv 0) pa_nil)) (pg_tup (by rfl) (pgs_cons (pg_name (i := 1) nd rfl (Or.inl rfl)) (pgs_cons (pg_name (i := 2) nd rfl (Or.inl rfl)) pgs_nil)))
        (pss_cons (ps_if (pt_not (pt_val (pcall c__is_pending_cast hr (pa_cons (pv 2) pa_nil))))
          (pss_one (ps_ret pe_bl))
          pss_nil)
        (pss_one (ps_if (PW.pt (pw_and (pt_cmpR op_gt (pv 1) pe_int (nomark _)) (pw_and1 (pt_cmpR op_ne (pe_ix ix_tup (pv 2) pe_int (fun _ _ => rfl)) (pe_op op_add (pe_ix ix_tup (pe_ix ix_tup (pv 0) (pe_op op_sub (pv 1) pe_int) (fun _ _ => rfl)) pe_int (fun _ _ => rfl)) pe_int) (nomark _)))))
          (pss_one (ps_ret pe_bl))
          pss_nil))))
      (pss_one (ps_ret pe_bl)))), ?_⟩
    have hd' := hd
    cases hd
    case tup a xs ds ha np hw hr1 =>
      have hl := hr1.length
      walk_at "rds"
      refine ⟨a, xs, rfl, SqT.of ha, for_it (walk_enT (K := K) (a := a) (xs := xs)) (fun i σ H' => Same H H' ∧ ∃ (x1 x2 : Option V) (n : Int), σ = [some (.ref a), x1, x2] ∧ isPend (.tuple ds) = (if i = 0 then isPend (.tuple ds) else pendFrom n (ds.drop i)) ∧ (∀ j m, j + 1 = i → ds[j]? = some m → isCast m = true ∧ n = procOf m + 1)) ?_ ?_ ?_ ?_⟩
      · exact ⟨Same.rfl' H, _, _, 0, rfl, rfl, fun j m e => by omega⟩
      · rintro i σ H' _ ⟨s1, _⟩
        exact SqT.of (s1 _ _ ha)
      · rintro i x σ H1 H2 hi ⟨s1, x1, x2, n, rfl, hp, hprev⟩ ⟨t, y0, y, rfl, nt, rfl, e0, ey⟩
        cases e0
        obtain ⟨m, hm, rm⟩ := hr1.at ey
        have st := same_new nt (.tup [.int (i : Nat), y])
        have s2 := s1.trans st
        have hmh := hh.mem m (List.mem_of_getElem? hm)
        refine ⟨t, _, rfl, SqT.of upd_same, rfl, ?_⟩
        walk_at "rds"
        refine ⟨p, y, m, rfl, rm.same s2, hmh, ?_⟩
        walk_at "rds"
        have hz : i = 0 → ds = m :: ds.drop 1 := fun e => by
          rw [e] at hm
          cases ds with
          | nil => cases hm
          | cons d ds => cases hm; rfl
        refine iB (fun h => ?_) (fun h => ?_)
        · have h' : isCast m = false := by simpa using h
          walk_at "rds"
          refine ansB (q _ s2) ?_
          by_cases e : i = 0
          · rw [hz e]; simp [isPend, h']
          · rw [hp, if_neg e, shift_snd hm, h']; rfl
        · have h' : isCast m = true := by simpa using h
          obtain ⟨k, z, rfl, k0, k1, lz⟩ := isCast_int h'
          have rm2 := rm.same s2
          obtain _ | _ | _ | _ | _ | @⟨b, ys, _, hb, nb, hwb, hrb⟩ := rm2
          obtain _ | ⟨hx1, _ | ⟨hx2, hn⟩⟩ := hrb
          cases hn
          cases hx1
          cases hx2
          walk_at "rds"
          refine iB (fun h2 => ?_) (fun h2 => ?_)
          · have i0 : 0 < i := by have := of_decide_eq_true h2; omega
            obtain ⟨j, rfl⟩ : ∃ j, i = j + 1 := ⟨i - 1, by omega⟩
            have hj : j < xs.length := by omega
            obtain ⟨m', hm', rm'⟩ := (hr1.same s2).at (List.getElem?_eq_getElem hj)
            obtain ⟨hc', en⟩ := hprev j m' rfl hm'
            obtain ⟨k', z', rfl, k0', k1', lz'⟩ := isCast_int hc'
            generalize ex : xs[j] = x' at rm'
            obtain _ | _ | _ | _ | _ | @⟨b', ys', _, hb', nb', hwb', hrb'⟩ := rm'
            obtain _ | ⟨hy1, _ | ⟨hy2, hn⟩⟩ := hrb'
            cases hn
            cases hy1
            cases hy2
            walk_at "rds"
            refine ⟨a, _, _, _, rfl, rfl, SqT.of (s2 _ _ ha), at_int (by omega) (by rw [show (((j + 1 : Nat) : Int) - 1).toNat = j by omega, List.getElem?_eq_getElem hj, ex]), ?_⟩
            walk_at "rds"
            have en : n = k' + 1 := en
            rw [if_neg (by omega), shift_snd hm, h', Bool.true_and] at hp
            have hp : isPend (.tuple ds) = (decide (k = n) && pendFrom (n + 1) (ds.drop (j + 1 + 1))) := hp
            refine iB (fun h3 => ?_) (fun h3 => ?_)
            · have h4 : ¬ k = n := fun e => by rw [en] at e; rw [e] at h3; simp at h3
              walk_at "rds"
              exact ansB (q _ s2) (by rw [hp, decide_eq_false h4, Bool.false_and])
            · have h4 : k = n := by rw [en]; simpa using h3
              rw [decide_eq_true h4, Bool.true_and] at hp
              exact ⟨s2, _, _, n + 1, rfl, by rw [if_neg (by omega)]; exact hp, fun j2 m2 e2 hm2 => by
                obtain rfl : j2 = j + 1 := by omega
                rw [hm] at hm2; cases hm2
                exact ⟨h', by rw [← h4]; rfl⟩⟩
          · have i0 : i = 0 := by have := of_decide_eq_false h2; omega
            subst i0
            have e1 := hz rfl
            walk_at "rds"
            refine ⟨s2, _, _, k + 1, rfl, ?_, fun j2 m2 e2 hm2 => ?_⟩
            · rw [if_neg (by omega), e1]
              show (isCast _ && pendFrom (k + 1) (ds.drop 1)) = pendFrom (k + 1) (ds.drop 1)
              rw [h', Bool.true_and]
            · obtain rfl : j2 = 0 := by omega
              rw [hm] at hm2; cases hm2
              exact ⟨h', rfl⟩
      · rintro σ H1 ⟨s1, x1, x2, n, rfl, hp, _⟩
        walk_at "rds"
        refine ansB (q _ s1) ?_
        rw [hl, List.drop_length] at hp
        rw [hp]
        split
        · rename_i e
          cases ds with
          | nil => rfl
          | cons _ _ => cases e
        · rfl
    all_goals
      walk_at "rds"
      exact q _ (Same.rfl' H)
end
end Mus

set_option maxRecDepth 100000
set_option maxHeartbeats 4000000
/-! < <= > >= of data of one shape; max of two such. -/
namespace PySem.W
open PySem PySem.Calls PyProof.Rows
theorem mus_max_two {prog : Program} {w : World} {A : Around} {E : Value → Shared → Prop} {s : Shared} {a b : Value} {da db : PyData} {as bs : List Addr} {Q : Value → Shared → Prop} (hh : A.handled = none) (ra : Reads s.heap a da as) (rb : Reads s.heap b db bs) (ha : AlikeAll [da, db])
    (hu : A.units + 1 + PyData.depthAll [da, db] < cLine) (h : ∀ h' tk, (∀ c o, s.heap.get? c = some o → h'.get? c = some o) → Q (if dataLt da db = true then b else a) { s with heap := h', toks := tk }) :
    wpAny (model prog w) A (call (.builtin "max") [a, b]) Q E s := by
  have hname : (toString "max" ++ toString ".loop" : String) = "max.loop" := by decide
  refine call_function_tree F.kind_max F.plain_max F.entry_max (F.args_max2 _ _) ?_
  show wpAny _ A.in1 (Builtin.Builtins.bindParams "max" ["key", "default"] 0 ⟨[], []⟩ >>= _) _ _ s
  refine wpAny_bind (wpAny_of_eq (show Builtin.Builtins.bindParams "max" ["key", "default"] 0 ⟨[], []⟩ = pure [none, none] from rfl) ?_)
  show wpAny _ A.in1 (newTuple [a, b] >>= _) _ _ s
  refine wpAny_bind (wpAny_newObj_type ?_)
  have hT : (s.heap.push { cls := .type "tuple", data := .seq #[a, b] }).IsTuple s.heap.objs.size #[a, b] := ⟨_, Heap.get?_push_size _ rfl, rfl, 0, rfl⟩
  have old : ∀ c o, s.heap.get? c = some o → (s.heap.push { cls := .type "tuple", data := .seq #[a, b] }).get? c = some o := fun c o e => Heap.get?_push_of_some _ e
  have hr : ReadsAll (s.heap.push { cls := .type "tuple", data := .seq #[a, b] }) (#[a, b] : Array Value).toList [da, db] (as ++ (bs ++ [])) := .cons (PyProof.Rows.Reads.keeps old ra) (.cons (PyProof.Rows.Reads.keeps old rb) .nil)
  refine wpAny_bind (iter_tupleW (A := A.in1) (s := { s with heap := s.heap.push { cls := .type "tuple", data := .seq #[a, b] } }) hh hT fun s₂ e W st hfp hw hk => ?_)
  refine wpAny_bind (wpAny_newObj_type ?_)
  have hSf : s₂.heap.objs.size ∉ _ := fun hm => Nat.lt_irrefl _ (hfp _ hm)
  rw [hname]
  refine wpAny_pure ⟨plainId_quiet F.plain_max_loop _, codeAny_max_loop_firstH W (s.heap.push { cls := .type "tuple", data := .seq #[a, b] }) hw _ (cmpIn_gt (prog := prog) (w := w) (A := A.in1) (s := { s with heap := s.heap.push { cls := .type "tuple", data := .seq #[a, b] } }) hr ha hu) s₂.heap.objs.size hSf (fresh_in hk) _ (by show 0 < 2; omega) (fun b o e => Heap.get?_push_of_some _ (hk b o e)) (W.frame 0 s₂ _ s₂.toks st (Nat.le_refl _) fun b _ o e => Heap.get?_push_of_some _ e) (Heap.get?_push_size _ rfl) fun v s' hP hm => ?_⟩
  obtain ⟨h', tk, rfl, hk'⟩ := moved_old e rfl (Moved.drop_new (tk := s₂.toks) hm (Nat.le_refl _))
  have q := h h' tk fun c o ec => hk' c o (old c o ec)
  have e2 : v = if dataLt da db = true then b else a := by
    have hP : (#[a, b] : Array Value)[if dataLt da db = true then 1 else 0]? = some v := hP
    by_cases x : dataLt da db = true
    · rw [if_pos x] at hP ⊢; cases hP; rfl
    · rw [if_neg x] at hP ⊢; cases hP; rfl
  rw [e2]
  exact q
end PySem.W
namespace Mus
open PySem PySem.Spec PyProof.Rows L2
def rCmpD (K : PySem.W.Frag) (f : PyData → PyData → Bool) : R2 := fun x y H Q => ∃ d e, Dp K H x d ∧ Dp K H y e ∧ PySem.W.alike d e = true ∧ d ≠ .none ∧ d.depth ≤ 20 ∧ Q (.bl (f d e)) H
section
variable {X : Cx}
theorem op_ltD (hu : X.A.units + 64 < cLine) : OpR X (compareOp .Lt) (rCmpD X.K PySem.W.dataLt) := by
  intro pins s σ H x y v u Q I rx ry h
  obtain ⟨d, e, hd, he, hal, hn, dp, q⟩ := h
  obtain ⟨as, r1⟩ := Dp.reads I d x v hd rx
  obtain ⟨bs, r2⟩ := Dp.reads I e y u he ry
  exact PySem.W.lt_data r1 r2 hal hn (by omega) ⟨.bl _, H, I, rfl, q⟩
theorem op_gtD (hu : X.A.units + 64 < cLine) : OpR X (compareOp .Gt) (rCmpD X.K fun d e => PySem.W.dataLt e d) := by
  intro pins s σ H x y v u Q I rx ry h
  obtain ⟨d, e, hd, he, hal, hn, dp, q⟩ := h
  obtain ⟨as, r1⟩ := Dp.reads I d x v hd rx
  obtain ⟨bs, r2⟩ := Dp.reads I e y u he ry
  exact PySem.W.gt_data r1 r2 hal hn (by omega) ⟨.bl _, H, I, rfl, q⟩
theorem op_leD (hu : X.A.units + 64 < cLine) : OpR X (compareOp .LtE) (rCmpD X.K fun d e => !PySem.W.dataLt e d) := by
  intro pins s σ H x y v u Q I rx ry h
  obtain ⟨d, e, hd, he, hal, hn, dp, q⟩ := h
  obtain ⟨as, r1⟩ := Dp.reads I d x v hd rx
  obtain ⟨bs, r2⟩ := Dp.reads I e y u he ry
  exact PySem.W.le_data r1 r2 hal hn (by omega) ⟨.bl _, H, I, rfl, q⟩
theorem op_geD (hu : X.A.units + 64 < cLine) : OpR X (compareOp .GtE) (rCmpD X.K fun d e => !PySem.W.dataLt d e) := by
  intro pins s σ H x y v u Q I rx ry h
  obtain ⟨d, e, hd, he, hal, hn, dp, q⟩ := h
  obtain ⟨as, r1⟩ := Dp.reads I d x v hd rx
  obtain ⟨bs, r2⟩ := Dp.reads I e y u he ry
  exact PySem.W.ge_data r1 r2 hal hn (by omega) ⟨.bl _, H, I, rfl, q⟩
theorem call_maxD (hc : X.calm = true) (hu : X.A.units + 64 < cLine) : CallR X (.builtin "max") (fun xs H Q => ∃ x y d e, xs = [x, y] ∧ Dp X.K H x d ∧ Dp X.K H y e ∧ PySem.W.AlikeAll [d, e] ∧ d.depth ≤ 20 ∧ e.depth ≤ 20 ∧ Q (if PySem.W.dataLt d e = true then y else x) H) := by
  intro pins s σ H xs us Q I r h
  obtain ⟨x, y, d, e, rfl, hd, he, ha, d1, d2, q⟩ := h
  obtain ⟨u, w', rfl, r1, r2⟩ := vals2 r
  obtain ⟨as, ra⟩ := Dp.reads I d x u hd r1
  obtain ⟨bs, rb⟩ := Dp.reads I e y w' he r2
  refine PySem.W.mus_max_two (I.ok.hd hc) ra rb ha (by simp [PyData.depthAll]; omega) fun h' tk k => ⟨_, H, I.kept k, ?_, q⟩
  by_cases z : PySem.W.dataLt d e = true
  · rw [if_pos z, if_pos z]; exact r2
  · rw [if_neg z, if_neg z]; exact r1
end
end Mus

set_option maxRecDepth 100000
set_option maxHeartbeats 4000000
namespace Mus
open PySem L2 TL PySem.NumText
local macro_rules | `(tactic| walk_at "rd") => `(tactic| first
  | refine ⟨_, rfl, ?_⟩ | refine ⟨(True.intro : True), ?_⟩
  | refine ⟨_, _, rfl, rfl, (⟨by decide, by decide, by decide⟩ : CPow _ _), ?_⟩
  | refine ⟨_, _, rfl, rfl, (⟨by decide, by decide⟩ : CDiv _ _), ?_⟩
  | refine ⟨_, _, rfl, rfl, (by show (0 : Int) < _; decide), ?_⟩
  | refine ⟨_, _, rfl, rfl, ?_⟩ | refine ⟨rfl, ?_⟩ | refine iteT ?_ | refine iteF ?_ | refine ⟨_, _, rfl, ?_⟩ | refine .inl ⟨_, rfl, ?_⟩
  | refine ⟨_, _, _, _, _, rfl, (by assumption), (by assumption), (by assumption), rfl, ?_⟩ | refine ⟨_, _, _, _, rfl, rfl, SqT.of (by assumption), rfl, ?_⟩ | refine ⟨_, _, rfl, SqT.of (by assumption), rfl, ?_⟩
  | refine ⟨_, _, _, _, _, rfl, .ty _, Rp.ty (by assumption), kit_int _, ?_⟩ | refine ⟨_, _, _, _, _, rfl, .ty _, Rp.ty (by assumption), kit_bool _, ?_⟩
  | refine ⟨_, _, _, _, _, rfl, .ty _, Rp.ty (by assumption), kit_str _, ?_⟩ | refine ⟨_, _, _, _, _, rfl, .ty _, Rp.ty (by assumption), kit_tup _, ?_⟩)
local macro_rules | `(tactic| walk_at "cal") => `(tactic| first
  | refine ⟨_, _, _, _, _, rfl, (by assumption), ?_⟩ | refine ⟨_, _, _, _, _, rfl, (by assumption), (by assumption), ?_⟩)
local macro_rules | `(tactic| walk_at "sq") => `(tactic| first
  | refine ⟨_, _, rfl, Or.inr (SqT.of (by assumption)), ?_⟩ | refine ⟨_, _, _, _, rfl, rfl, SqT.of (by assumption), rfl, ?_⟩)
local macro_rules | `(tactic| walk_at "rds") => `(tactic| repeat first | walk_at "rd" | walk_at "cal" | walk_at "sq")
local macro_rules | `(tactic| walk_at "ze") => `(tactic| repeat first
  | exact zes_nil | exact ze_bl | exact ze_str | exact ze_non | apply zes_cons | apply ze_tup | apply ze_lst | apply ze_cat | exact di_c | exact di_v rfl | apply di_opC | apply di_op | apply di_neg | apply ze_i | (refine (⟨?_, ?_, ?_⟩ : CPow _ _) <;> decide) | exact Nat.le_of_ble_eq_true rfl | exact ze_varD rfl (by assumption))
local macro_rules | `(tactic| walk_at "rdz") => `(tactic| repeat (fail_if_success (first | show tLst _ _ _ _ | show tAsg (tLst _) _ _ _ _ | show tSeq (tAsg (tLst _) _) _ _ _ _)); first | walk_at "rd" | walk_at "cal" | walk_at "sq")
/-! ### letters -/
/-- what is told of a letter before its rest is looked at -/
def Hd (c : PyData) (ds : List PyData) : Prop := ∃ k m i r, ds = k :: m :: i :: r ∧ isMem c m = true ∧ isVid c i = true
def isFin (c : PyData) : PyData → Bool
  | .tuple [i, l] => isVid c i && isLog c l
  | _ => false
def idOf : PyData → PyData
  | .tuple (i :: _) => i
  | _ => .none
def finsFrom (c : PyData) : Option PyData → List PyData → Bool
  | _, [] => true
  | o, m :: ms => isFin c m && (match o with | none => true | some i => !(!PySem.W.dataLt i (idOf m))) && finsFrom c (some (idOf m)) ms
def isFins (c : PyData) : PyData → Bool
  | .tuple ds => finsFrom c none ds
  | _ => false
def isPlc (d : PyData) : Bool := isInt d 1 1000000000000
def rHere (c : PyData) : List PyData → Bool
  | [_, _, i, n, pr] => isInt n 0 1000000000000 && isVid c pr && !PySem.W.dataLt pr i
  | _ => false
def rCast : List PyData → Bool
  | [_, _, _, n, z] => isPlc n && isPay z
  | _ => false
def rOrder (c : PyData) : List PyData → Bool
  | [_, _, _, n, m] => isPlc n && isMsg c m
  | _ => false
def rPropose (c : PyData) : List PyData → Bool
  | [_, _, _, ms] => isMems c ms
  | _ => false
def itemsD : PyData → List PyData
  | .tuple ds => ds
  | _ => []
def firstIs (n : Int) : List PyData → Bool
  | [] => true
  | x :: _ => decide (procOf x = n)
def rState (c : PyData) : List PyData → Bool
  | [_, m, _, i, l, p] => isVid c i && isLog c l && isPend p && firstIs (cnt (itemsD l) (procOf m, idxK m) + 1) (itemsD p)
  | _ => false
def rInstall (c : PyData) : List PyData → Bool
  | [_, _, _, ms, fs] => isMems c ms && isFins c fs
  | _ => false
def rHigher (c : PyData) : List PyData → Bool
  | [_, _, _, i] => isVid c i
  | _ => false
def spRest (f : PyData → List PyData → Bool) : Sp := fun vs H Q _ => ∃ (p : Addr) (u v : V) (c : PyData) (ds : List PyData), vs = [u, v] ∧ Rp p H u c ∧ Rp p H v (.tuple ds) ∧ Her Ok (.tuple ds) ∧ Hd c ds ∧ ∀ H', Same H H' → Q (.bl (f c ds)) H'
theorem isVid_ids {c d : PyData} (h : isVid c d = true) : ∃ n i l, d = .tuple [.int n, .tuple [.int i, .int l]] ∧ 0 ≤ n := by
  unfold isVid at h
  split at h
  · rename_i x y
    rw [Bool.and_eq_true] at h
    obtain ⟨n, rfl, h1, _⟩ := isInt_int h.1
    obtain ⟨_, i, l, _, rfl, _⟩ := isMem_int h.2
    exact ⟨n, i, l, rfl, h1⟩
  · cases h
theorem ids_alike (n i l n' i' l' : Int) : PySem.W.alike (.tuple [.int n, .tuple [.int i, .int l]]) (.tuple [.int n', .tuple [.int i', .int l']]) = true := rfl
theorem ids_depth (n i l : Int) : (PyData.tuple [.int n, .tuple [.int i, .int l]]).depth ≤ 20 := by simp [PyData.depth, PyData.depthAll]
theorem isVid_no {c d : PyData} (h : (∃ ds, d = .tuple ds ∧ ds.length ≠ 2) ∨ dTup d = false) : isVid c d = false := by
  unfold isVid
  split
  · simp [dTup] at h
  · rfl
section
variable {P : Program} {w : World} {K : PySem.W.Frag} {mg : Str → Option Value} {base : Heap}
abbrev s_is_view_id : Stmt := top 20
abbrev N_is_view_id : List Str := ["count", "value"]
abbrev P_is_view_id : List Str := ["count", "value"]
theorem sc_is_view_id : FnScope N_is_view_id P_is_view_id (defScope s_is_view_id) := ⟨rfl, rfl, rfl, by decide +kernel, rfl, by decide +kernel, by decide +kernel⟩
theorem ok_is_view_id {f : Addr} {fd : FuncData} (T : Tx mg) (c_is_integer : DefOk P w K mg base CX0 "is_integer" P_is_integer 1 (spI)) (c_is_member : DefOk P w K mg base CX0 "is_member" P_is_member 3 (spB2 isMem))(F : Fun K "is_view_id" "is_view_id" s_is_view_id f fd) : FnOk P w K mg base CX0 (4) f fd P_is_view_id (spB2 isVid) := by
  have nd := sc_is_view_id.nd
  refine F.ok sc_is_view_id (fun vs H Q E h => ?_) (fun cdv A outer s H vs Q E hr h => ?_)
  · obtain ⟨_, _, _, _, _, rfl, _⟩ := h
    rfl
  · obtain ⟨p, u, v, c, d, rfl, hc, hd, q⟩ := h
    refine ⟨_, (pss_cons (ps_if (PW.pt (pw_or (pt_not (pt_val (pe_callB call_isi (by rfl) T.b_isinstance (by decide +kernel) (pa_cons (pv 1) (pa_cons (pe_ty "tuple" T.b_tuple) pa_nil))))) (pw_or1 (pt_cmpR op_ne (pe_callB call_len_seq (by rfl) T.b_len (by decide +kernel) (pa_cons (pv 1) pa_nil)) pe_int (nomark _)))))
        (pss_one (ps_ret pe_bl))
        pss_nil)
      (pss_one (ps_ret (pe_and (pcall c_is_integer hr (pa_cons (pe_ix ix_tup (pv 1) pe_int (fun _ _ => rfl)) (pa_cons pe_int (pa_cons (pe_const T.c_MOST_NUMBER) pa_nil)))) (pe_one (pcall c_is_member hr (pa_cons (pv 0) (pa_cons (pe_ix ix_tup (pv 1) pe_int (fun _ _ => rfl)) pa_nil)))))))), ?_⟩
    have hd' := hd
    rcases pairs d with ⟨x, y, rfl⟩ | hno
    · obtain _ | _ | _ | _ | _ | @⟨a, xs, _, ha, np, hw, hr⟩ := hd
      obtain _ | ⟨hx, _ | ⟨hy, _⟩⟩ := hr
      cases ‹Rps p H _ []›
      walk_at "rds"
      refine iB (fun h => ?_) (fun h => ?_)
      · walk_at "rds"
        exact ansB q (by simp [isVid, h])
      · exact ansB q (by simp [isVid, h])
    · have e := isVid_no (c := c) hno
      rw [e] at q
      rcases hno with ⟨ds, rfl, hl⟩ | hno
      · obtain _ | _ | _ | _ | _ | @⟨a, xs, _, ha, np, hw, hr⟩ := hd
        have hl2 := hr.length
        walk_at "rds"
        refine nT (vint_ne (by omega)) ?_
        walk_at "rds"
        exact q
      · cases hd <;> simp [dTup] at hno <;> walk_at "rds" <;> exact q
theorem isMems_no {c d : PyData} (h : dTup d = false) : isMems c d = false := by cases d <;> first | rfl | cases h
abbrev s_is_members : Stmt := top 19
abbrev N_is_members : List Str := ["count", "value", "last_process", "member"]
abbrev P_is_members : List Str := ["count", "value"]
theorem sc_is_members : FnScope N_is_members P_is_members (defScope s_is_members) := ⟨rfl, rfl, rfl, by decide +kernel, rfl, by decide +kernel, by decide +kernel⟩
theorem ok_is_members {f : Addr} {fd : FuncData} (T : Tx mg) (c_is_member : DefOk P w K mg base CX0 "is_member" P_is_member 3 (spB2 isMem))(F : Fun K "is_members" "is_members" s_is_members f fd) : FnOk P w K mg base CX0 (4) f fd P_is_members (spB2 isMems) := by
  have nd := sc_is_members.nd
  refine F.ok sc_is_members (fun vs H Q E h => ?_) (fun cdv A outer s H vs Q E hr h => ?_)
  · obtain ⟨_, _, _, _, _, rfl, _⟩ := h
    rfl
  · obtain ⟨p, u, v, c, d, rfl, hc, hd, q⟩ := h
    refine ⟨_, (pss_cons (ps_if (PW.pt (pw_or (pt_not (pt_val (pe_callB call_isi (by rfl) T.b_isinstance (by decide +kernel) (pa_cons (pv 1) (pa_cons (pe_ty "tuple" T.b_tuple) pa_nil))))) (pw_or1 (pt_cmpR op_eq (pe_callB call_len_seq (by rfl) T.b_len (by decide +kernel) (pa_cons (pv 1) pa_nil)) pe_int (nomark _)))))
        (pss_one (ps_ret pe_bl))
        pss_nil)
      (pss_cons (ps_set (i := 2) nd rfl (Or.inl rfl) (pe_un un_neg pe_int))
      (pss_cons (ps_for PassesOwn.never rfl (pi_tup (pv 1)) (pg_name (i := 3) nd rfl (Or.inl rfl))
        (pss_cons (ps_if (PW.pt (pw_or (pt_not (pt_val (pcall c_is_member hr (pa_cons (pv 0) (pa_cons (pv 3) pa_nil))))) (pw_or1 (pt_cmpR op_le (pe_ix ix_tup (pv 3) pe_int (fun _ _ => rfl)) (pv 2) (nomark _)))))
          (pss_one (ps_ret pe_bl))
          pss_nil)
        (pss_one (ps_set (i := 2) nd rfl (Or.inl rfl) (pe_ix ix_tup (pv 3) pe_int (fun _ _ => rfl))))))
      (pss_one (ps_ret pe_bl))))), ?_⟩
    have hd' := hd
    cases hd
    case tup a xs ds ha np hw hr =>
      cases hr with
      | nil =>
        walk_at "rds"
        exact q
      | @cons v vs d ds h1 h2 =>
        have hr : Rps p H (v :: vs) (d :: ds) := .cons h1 h2
        walk_at "rds"
        refine ⟨⟨_, SqT.of ha⟩, for_tup (K := K) (a := a) (xs := v :: vs) (fun i σ H' => H' = H ∧ ∃ (l : Int) (x : Option V), σ = [some u, some (.ref a), some (.int l), x] ∧ memsFrom c (-1) (d :: ds) = memsFrom c l ((d :: ds).drop i)) ⟨rfl, -1, none, rfl, rfl⟩ ?_ ?_ ?_⟩
        · rintro i σ H' _ ⟨rfl, _⟩
          exact SqT.of ha
        · rintro i x σ H' hx ⟨rfl, l, y, rfl, hm⟩
          obtain ⟨e, he, re⟩ := hr.at hx
          rw [drop_cons he] at hm
          walk_at "rds"
          refine iB (fun h => ?_) (fun h => ?_)
          · have h' : isMem c e = false := by simpa using h
            exact ansB q (hm.trans (by simp [memsFrom, h']))
          · have h' : isMem c e = true := by simpa using h
            obtain ⟨n, i0, l0, rfl, rfl, _⟩ := isMem_int h'
            have re' := re
            obtain _ | _ | _ | _ | _ | @⟨a2, xs2, _, ha2, np2, hw2, hr2⟩ := re
            obtain _ | ⟨hx2, _ | ⟨hy2, hz2⟩⟩ := hr2
            cases hz2
            cases hx2
            walk_at "rds"
            refine iB (fun h2 => ?_) (fun h2 => ?_)
            · have h3 : i0 ≤ l := by simpa using h2
              exact ansB q (hm.trans (by show (isMem _ _ && decide (l < i0) && _) = false; rw [decide_eq_false (show ¬ l < i0 by omega), Bool.and_false, Bool.false_and]))
            · have h3 : l < i0 := by simpa using h2
              walk_at "rds"
              exact hm.trans (by simp [memsFrom, procOf, h', h3])
        · rintro σ H' ⟨rfl, l, y, rfl, hm⟩
          have hl := hr.length
          rw [hl, List.drop_length] at hm
          exact ansB q hm
    all_goals
      walk_at "rds"
      exact q
abbrev s__is_place : Stmt := top 35
abbrev N__is_place : List Str := ["value"]
abbrev P__is_place : List Str := ["value"]
theorem sc__is_place : FnScope N__is_place P__is_place (defScope s__is_place) := ⟨rfl, rfl, rfl, by decide +kernel, rfl, by decide +kernel, by decide +kernel⟩
theorem ok__is_place {f : Addr} {fd : FuncData} (T : Tx mg) (c_is_integer : DefOk P w K mg base CX0 "is_integer" P_is_integer 1 (spI))(F : Fun K "_is_place" "_is_place" s__is_place f fd) : FnOk P w K mg base CX0 (2) f fd P__is_place (spB1 isPlc) := by
  have nd := sc__is_place.nd
  refine F.ok sc__is_place (fun vs H Q E h => ?_) (fun cdv A outer s H vs Q E hr h => ?_)
  · obtain ⟨_, _, _, rfl, _⟩ := h
    rfl
  · obtain ⟨p, v, d, rfl, hd, q⟩ := h
    refine ⟨_, (pss_one (ps_ret (pcall c_is_integer hr (pa_cons (pv 0) (pa_cons pe_int (pa_cons (pe_const T.c_MOST_NUMBER) pa_nil)))))), ?_⟩
    walk_at "rds"
    exact q
abbrev s__is_cast : Stmt := top 29
abbrev N__is_cast : List Str := ["_", "letter"]
abbrev P__is_cast : List Str := ["_", "letter"]
theorem sc__is_cast : FnScope N__is_cast P__is_cast (defScope s__is_cast) := ⟨rfl, rfl, rfl, by decide +kernel, rfl, by decide +kernel, by decide +kernel⟩
theorem ok__is_cast {f : Addr} {fd : FuncData} (T : Tx mg) (c__is_place : DefOk P w K mg base CX0 "_is_place" P__is_place 2 (spB1 isPlc)) (c_is_payload : DefOk P w K mg base CX0 "is_payload" P_is_payload 3 (spH1 isPay))(F : Fun K "_is_cast" "_is_cast" s__is_cast f fd) : FnOk P w K mg base CX0 (8) f fd P__is_cast (spRest fun _ => rCast) := by
  have nd := sc__is_cast.nd
  refine F.ok sc__is_cast (fun vs H Q E h => ?_) (fun cdv A outer s H vs Q E hr h => ?_)
  · obtain ⟨_, _, _, _, _, rfl, _⟩ := h
    rfl
  · obtain ⟨p, u, v, c, ds, rfl, hc, hd, hh, ⟨k, m, i, r, rfl, hm, hi⟩, q⟩ := h
    refine ⟨_, (pss_one (ps_ret (pe_and (pe_cmpR op_eq (pe_callB call_len_seq (by rfl) T.b_len (by decide +kernel) (pa_cons (pv 1) pa_nil)) pe_int (nomark _)) (pe_and (pcall c__is_place hr (pa_cons (pe_ix ix_tup (pv 1) pe_int (fun _ _ => rfl)) pa_nil)) (pe_one (pcall c_is_payload hr (pa_cons (pe_ix ix_tup (pv 1) pe_int (fun _ _ => rfl)) pa_nil))))))), ?_⟩
    obtain _ | _ | _ | _ | _ | @⟨a, xs, _, ha, np, hw, hr⟩ := hd
    have hl := hr.length
    have dt : decide (V.int xs.length = V.int 5) = decide (r.length = 2) := by
      rw [hl]; exact decide_eq_decide.mpr ⟨fun h => by have := V.int.inj h; simp at this; omega, fun h => by simp [h]⟩
    walk_at "rds"
    rw [dt]
    refine iB (fun h => ?_) (fun h => ?_)
    · have h := of_decide_eq_true h
      obtain ⟨x, y, rfl⟩ : ∃ x y, r = [x, y] := by
        match r, h with
        | [x, y], _ => exact ⟨x, y, rfl⟩
      obtain _ | ⟨h1, _ | ⟨h2, _ | ⟨h3, _ | ⟨h4, _ | ⟨h5, hn⟩⟩⟩⟩⟩ := hr
      cases hn
      walk_at "rds"
      refine ⟨p, _, x, rfl, h4, ?_⟩
      walk_at "rds"
      refine iB (fun h6 => ?_) (fun h6 => ?_)
      · walk_at "rds"
        exact ⟨p, _, y, rfl, h5, (hh.mem _ (by simp)), ansB (q H (Same.rfl' H)) (by simp only [rCast]; rw [h6, Bool.true_and])⟩
      · exact ansB (q H (Same.rfl' H)) (by simp only [rCast]; rw [h6, Bool.false_and])
    · have h := of_decide_eq_false h
      exact ansB (q H (Same.rfl' H)) (by match r, h with | [], _ => rfl | [_], _ => rfl | _ :: _ :: _ :: _, _ => rfl)
abbrev s__is_order : Stmt := top 30
abbrev N__is_order : List Str := ["count", "letter"]
abbrev P__is_order : List Str := ["count", "letter"]
theorem sc__is_order : FnScope N__is_order P__is_order (defScope s__is_order) := ⟨rfl, rfl, rfl, by decide +kernel, rfl, by decide +kernel, by decide +kernel⟩
theorem ok__is_order {f : Addr} {fd : FuncData} (T : Tx mg) (c__is_place : DefOk P w K mg base CX0 "_is_place" P__is_place 2 (spB1 isPlc)) (c_is_message : DefOk P w K mg base CX0 "is_message" P_is_message 4 (spH2 isMsg))(F : Fun K "_is_order" "_is_order" s__is_order f fd) : FnOk P w K mg base CX0 (8) f fd P__is_order (spRest rOrder) := by
  have nd := sc__is_order.nd
  refine F.ok sc__is_order (fun vs H Q E h => ?_) (fun cdv A outer s H vs Q E hr h => ?_)
  · obtain ⟨_, _, _, _, _, rfl, _⟩ := h
    rfl
  · obtain ⟨p, u, v, c, ds, rfl, hc, hd, hh, ⟨k, m, i, r, rfl, hm, hi⟩, q⟩ := h
    refine ⟨_, (pss_one (ps_ret (pe_and (pe_cmpR op_eq (pe_callB call_len_seq (by rfl) T.b_len (by decide +kernel) (pa_cons (pv 1) pa_nil)) pe_int (nomark _)) (pe_and (pcall c__is_place hr (pa_cons (pe_ix ix_tup (pv 1) pe_int (fun _ _ => rfl)) pa_nil)) (pe_one (pcall c_is_message hr (pa_cons (pv 0) (pa_cons (pe_ix ix_tup (pv 1) pe_int (fun _ _ => rfl)) pa_nil)))))))), ?_⟩
    obtain _ | _ | _ | _ | _ | @⟨a, xs, _, ha, np, hw, hr⟩ := hd
    have hl := hr.length
    have dt : decide (V.int xs.length = V.int 5) = decide (r.length = 2) := by
      rw [hl]; exact decide_eq_decide.mpr ⟨fun h => by have := V.int.inj h; simp at this; omega, fun h => by simp [h]⟩
    walk_at "rds"
    rw [dt]
    refine iB (fun h => ?_) (fun h => ?_)
    · have h := of_decide_eq_true h
      obtain ⟨x, y, rfl⟩ : ∃ x y, r = [x, y] := by
        match r, h with
        | [x, y], _ => exact ⟨x, y, rfl⟩
      obtain _ | ⟨h1, _ | ⟨h2, _ | ⟨h3, _ | ⟨h4, _ | ⟨h5, hn⟩⟩⟩⟩⟩ := hr
      cases hn
      walk_at "rds"
      refine ⟨p, _, x, rfl, h4, ?_⟩
      walk_at "rds"
      refine iB (fun h6 => ?_) (fun h6 => ?_)
      · walk_at "rds"
        exact ⟨hh.mem _ (by simp), ansB (q H (Same.rfl' H)) (by simp only [rOrder]; rw [h6, Bool.true_and])⟩
      · exact ansB (q H (Same.rfl' H)) (by simp only [rOrder]; rw [h6, Bool.false_and])
    · have h := of_decide_eq_false h
      exact ansB (q H (Same.rfl' H)) (by match r, h with | [], _ => rfl | [_], _ => rfl | _ :: _ :: _ :: _, _ => rfl)
abbrev s__is_propose : Stmt := top 31
abbrev N__is_propose : List Str := ["count", "letter"]
abbrev P__is_propose : List Str := ["count", "letter"]
theorem sc__is_propose : FnScope N__is_propose P__is_propose (defScope s__is_propose) := ⟨rfl, rfl, rfl, by decide +kernel, rfl, by decide +kernel, by decide +kernel⟩
theorem ok__is_propose {f : Addr} {fd : FuncData} (T : Tx mg) (c_is_members : DefOk P w K mg base CX0 "is_members" P_is_members 4 (spB2 isMems))(F : Fun K "_is_propose" "_is_propose" s__is_propose f fd) : FnOk P w K mg base CX0 (8) f fd P__is_propose (spRest rPropose) := by
  have nd := sc__is_propose.nd
  refine F.ok sc__is_propose (fun vs H Q E h => ?_) (fun cdv A outer s H vs Q E hr h => ?_)
  · obtain ⟨_, _, _, _, _, rfl, _⟩ := h
    rfl
  · obtain ⟨p, u, v, c, ds, rfl, hc, hd, hh, ⟨k, m, i, r, rfl, hm, hi⟩, q⟩ := h
    refine ⟨_, (pss_one (ps_ret (pe_and (pe_cmpR op_eq (pe_callB call_len_seq (by rfl) T.b_len (by decide +kernel) (pa_cons (pv 1) pa_nil)) pe_int (nomark _)) (pe_one (pcall c_is_members hr (pa_cons (pv 0) (pa_cons (pe_ix ix_tup (pv 1) pe_int (fun _ _ => rfl)) pa_nil))))))), ?_⟩
    obtain _ | _ | _ | _ | _ | @⟨a, xs, _, ha, np, hw, hr⟩ := hd
    have hl := hr.length
    have dt : decide (V.int xs.length = V.int 4) = decide (r.length = 1) := by
      rw [hl]; exact decide_eq_decide.mpr ⟨fun h => by have := V.int.inj h; simp at this; omega, fun h => by simp [h]⟩
    walk_at "rds"
    rw [dt]
    refine iB (fun h => ?_) (fun h => ?_)
    · have h := of_decide_eq_true h
      obtain ⟨x, rfl⟩ : ∃ x, r = [x] := by
        match r, h with
        | [x], _ => exact ⟨x, rfl⟩
      obtain _ | ⟨h1, _ | ⟨h2, _ | ⟨h3, _ | ⟨h4, hn⟩⟩⟩⟩ := hr
      cases hn
      walk_at "rds"
      exact q H (Same.rfl' H)
    · have h := of_decide_eq_false h
      exact ansB (q H (Same.rfl' H)) (by match r, h with | [], _ => rfl | _ :: _ :: _, _ => rfl)
abbrev s__is_higher : Stmt := top 34
abbrev N__is_higher : List Str := ["count", "letter"]
abbrev P__is_higher : List Str := ["count", "letter"]
theorem sc__is_higher : FnScope N__is_higher P__is_higher (defScope s__is_higher) := ⟨rfl, rfl, rfl, by decide +kernel, rfl, by decide +kernel, by decide +kernel⟩
theorem ok__is_higher {f : Addr} {fd : FuncData} (T : Tx mg) (c_is_view_id : DefOk P w K mg base CX0 "is_view_id" P_is_view_id 4 (spB2 isVid))(F : Fun K "_is_higher" "_is_higher" s__is_higher f fd) : FnOk P w K mg base CX0 (8) f fd P__is_higher (spRest rHigher) := by
  have nd := sc__is_higher.nd
  refine F.ok sc__is_higher (fun vs H Q E h => ?_) (fun cdv A outer s H vs Q E hr h => ?_)
  · obtain ⟨_, _, _, _, _, rfl, _⟩ := h
    rfl
  · obtain ⟨p, u, v, c, ds, rfl, hc, hd, hh, ⟨k, m, i, r, rfl, hm, hi⟩, q⟩ := h
    refine ⟨_, (pss_one (ps_ret (pe_and (pe_cmpR op_eq (pe_callB call_len_seq (by rfl) T.b_len (by decide +kernel) (pa_cons (pv 1) pa_nil)) pe_int (nomark _)) (pe_one (pcall c_is_view_id hr (pa_cons (pv 0) (pa_cons (pe_ix ix_tup (pv 1) pe_int (fun _ _ => rfl)) pa_nil))))))), ?_⟩
    obtain _ | _ | _ | _ | _ | @⟨a, xs, _, ha, np, hw, hr⟩ := hd
    have hl := hr.length
    have dt : decide (V.int xs.length = V.int 4) = decide (r.length = 1) := by
      rw [hl]; exact decide_eq_decide.mpr ⟨fun h => by have := V.int.inj h; simp at this; omega, fun h => by simp [h]⟩
    walk_at "rds"
    rw [dt]
    refine iB (fun h => ?_) (fun h => ?_)
    · have h := of_decide_eq_true h
      obtain ⟨x, rfl⟩ : ∃ x, r = [x] := by
        match r, h with
        | [x], _ => exact ⟨x, rfl⟩
      obtain _ | ⟨h1, _ | ⟨h2, _ | ⟨h3, _ | ⟨h4, hn⟩⟩⟩⟩ := hr
      cases hn
      walk_at "rds"
      exact q H (Same.rfl' H)
    · have h := of_decide_eq_false h
      exact ansB (q H (Same.rfl' H)) (by match r, h with | [], _ => rfl | _ :: _ :: _, _ => rfl)
end
end Mus

set_option maxRecDepth 100000
set_option maxHeartbeats 4000000
namespace Mus
open PySem L2 TL PySem.NumText
local macro_rules | `(tactic| walk_at "rd") => `(tactic| first
  | refine ⟨_, rfl, ?_⟩ | refine ⟨(True.intro : True), ?_⟩
  | refine ⟨_, _, rfl, rfl, (⟨by decide, by decide, by decide⟩ : CPow _ _), ?_⟩
  | refine ⟨_, _, rfl, rfl, (⟨by decide, by decide⟩ : CDiv _ _), ?_⟩
  | refine ⟨_, _, rfl, rfl, (by show (0 : Int) < _; decide), ?_⟩
  | refine ⟨_, _, rfl, rfl, ?_⟩ | refine ⟨rfl, ?_⟩ | refine iteT ?_ | refine iteF ?_ | refine ⟨_, _, rfl, ?_⟩ | refine .inl ⟨_, rfl, ?_⟩
  | refine ⟨_, _, _, _, _, rfl, (by assumption), (by assumption), (by assumption), rfl, ?_⟩ | refine ⟨_, _, _, _, rfl, rfl, SqT.of (by assumption), rfl, ?_⟩ | refine ⟨_, _, rfl, SqT.of (by assumption), rfl, ?_⟩
  | refine ⟨_, _, _, _, _, rfl, .ty _, Rp.ty (by assumption), kit_int _, ?_⟩ | refine ⟨_, _, _, _, _, rfl, .ty _, Rp.ty (by assumption), kit_bool _, ?_⟩
  | refine ⟨_, _, _, _, _, rfl, .ty _, Rp.ty (by assumption), kit_str _, ?_⟩ | refine ⟨_, _, _, _, _, rfl, .ty _, Rp.ty (by assumption), kit_tup _, ?_⟩)
local macro_rules | `(tactic| walk_at "cal") => `(tactic| first
  | refine ⟨_, _, _, _, _, rfl, (by assumption), ?_⟩ | refine ⟨_, _, _, _, _, rfl, (by assumption), (by assumption), ?_⟩)
local macro_rules | `(tactic| walk_at "sq") => `(tactic| first
  | refine ⟨_, _, rfl, Or.inr (SqT.of (by assumption)), ?_⟩ | refine ⟨_, _, _, _, rfl, rfl, SqT.of (by assumption), rfl, ?_⟩)
local macro_rules | `(tactic| walk_at "rds") => `(tactic| repeat first | walk_at "rd" | walk_at "cal" | walk_at "sq")
local macro_rules | `(tactic| walk_at "ze") => `(tactic| repeat first
  | exact zes_nil | exact ze_bl | exact ze_str | exact ze_non | apply zes_cons | apply ze_tup | apply ze_lst | apply ze_cat | exact di_c | exact di_v rfl | apply di_opC | apply di_op | apply di_neg | apply ze_i | (refine (⟨?_, ?_, ?_⟩ : CPow _ _) <;> decide) | exact Nat.le_of_ble_eq_true rfl | exact ze_varD rfl (by assumption))
local macro_rules | `(tactic| walk_at "rdz") => `(tactic| repeat (fail_if_success (first | show tLst _ _ _ _ | show tAsg (tLst _) _ _ _ _ | show tSeq (tAsg (tLst _) _) _ _ _ _)); first | walk_at "rd" | walk_at "cal" | walk_at "sq")
section
variable {P : Program} {w : World} {K : PySem.W.Frag} {mg : Str → Option Value} {base : Heap}
theorem isFin_no {c d : PyData} (h : (∃ ds, d = .tuple ds ∧ ds.length ≠ 2) ∨ dTup d = false) : isFin c d = false := by
  unfold isFin
  split
  · simp [dTup] at h
  · rfl
abbrev s__is_final : Stmt := top 37
abbrev N__is_final : List Str := ["count", "value"]
abbrev P__is_final : List Str := ["count", "value"]
theorem sc__is_final : FnScope N__is_final P__is_final (defScope s__is_final) := ⟨rfl, rfl, rfl, by decide +kernel, rfl, by decide +kernel, by decide +kernel⟩
theorem ok__is_final {f : Addr} {fd : FuncData} (T : Tx mg) (c_is_view_id : DefOk P w K mg base CX0 "is_view_id" P_is_view_id 4 (spB2 isVid)) (c_is_log : DefOk P w K mg base CX0 "is_log" P_is_log 5 (spHS2 isLog))(F : Fun K "_is_final" "_is_final" s__is_final f fd) : FnOk P w K mg base CX0 (6) f fd P__is_final (spHS2 isFin) := by
  have nd := sc__is_final.nd
  refine F.ok sc__is_final (fun vs H Q E h => ?_) (fun cdv A outer s H vs Q E hr h => ?_)
  · obtain ⟨_, _, _, _, _, rfl, _⟩ := h
    rfl
  · obtain ⟨p, u, v, c, d, rfl, hc, hd, hh, q⟩ := h
    refine ⟨_, (pss_cons (ps_if (PW.pt (pw_or (pt_not (pt_val (pe_callB call_isi (by rfl) T.b_isinstance (by decide +kernel) (pa_cons (pv 1) (pa_cons (pe_ty "tuple" T.b_tuple) pa_nil))))) (pw_or1 (pt_cmpR op_ne (pe_callB call_len_seq (by rfl) T.b_len (by decide +kernel) (pa_cons (pv 1) pa_nil)) pe_int (nomark _)))))
        (pss_one (ps_ret pe_bl))
        pss_nil)
      (pss_one (ps_ret (pe_and (pcall c_is_view_id hr (pa_cons (pv 0) (pa_cons (pe_ix ix_tup (pv 1) pe_int (fun _ _ => rfl)) pa_nil))) (pe_one (pcall c_is_log hr (pa_cons (pv 0) (pa_cons (pe_ix ix_tup (pv 1) pe_int (fun _ _ => rfl)) pa_nil)))))))), ?_⟩
    have hd' := hd
    rcases pairs d with ⟨x, y, rfl⟩ | hno
    · obtain ⟨k1, k2⟩ := hh.of2
      obtain _ | _ | _ | _ | _ | @⟨a, xs, _, ha, np, hw, hr⟩ := hd
      obtain _ | ⟨hx, _ | ⟨hy, _⟩⟩ := hr
      cases ‹Rps p H _ []›
      walk_at "rds"
      refine iB (fun h => ?_) (fun h => ?_)
      · walk_at "rds"
        exact ⟨k2, fun H' s' => ansB (q H' s') (by simp [isFin, h])⟩
      · exact ansB (q H (Same.rfl' H)) (by simp [isFin, h])
    · have e := isFin_no (c := c) hno
      rw [e] at q
      rcases hno with ⟨ds, rfl, hl⟩ | hno
      · obtain _ | _ | _ | _ | _ | @⟨a, xs, _, ha, np, hw, hr⟩ := hd
        have hl2 := hr.length
        walk_at "rds"
        refine nT (vint_ne (by omega)) ?_
        walk_at "rds"
        exact q H (Same.rfl' H)
      · cases hd <;> simp [dTup] at hno <;> walk_at "rds" <;> exact q H (Same.rfl' H)
theorem isFin_ids {c d : PyData} (h : isFin c d = true) : ∃ i l, d = .tuple [i, l] ∧ isVid c i = true := by
  unfold isFin at h
  split at h
  · rename_i i l
    rw [Bool.and_eq_true] at h
    exact ⟨i, l, rfl, h.1⟩
  · cases h
/-- so far all are right; the last one's id -/
def FinTo (c : PyData) (ds : List PyData) (i : Nat) (o : Option PyData) : Prop := finsFrom c none ds = finsFrom c o (ds.drop i) ∧ (i = 0 → o = none) ∧ ∀ j m, j + 1 = i → ds[j]? = some m → isFin c m = true ∧ o = some (idOf m)
abbrev s__is_finals : Stmt := top 36
abbrev N__is_finals : List Str := ["count", "value", "at", "pair"]
abbrev P__is_finals : List Str := ["count", "value"]
theorem sc__is_finals : FnScope N__is_finals P__is_finals (defScope s__is_finals) := ⟨rfl, rfl, rfl, by decide +kernel, rfl, by decide +kernel, by decide +kernel⟩
theorem ok__is_finals {f : Addr} {fd : FuncData} (T : Tx mg) (c__is_final : DefOk P w K mg base CX0 "_is_final" P__is_final 6 (spHS2 isFin))(F : Fun K "_is_finals" "_is_finals" s__is_finals f fd) : FnOk P w K mg base CX0 (7) f fd P__is_finals (spHS2 isFins) := by
  have nd := sc__is_finals.nd
  refine F.ok sc__is_finals (fun vs H Q E h => ?_) (fun cdv A outer s H vs Q E hr h => ?_)
  · obtain ⟨_, _, _, _, _, rfl, _⟩ := h
    rfl
  · obtain ⟨p, u, v, c, d, rfl, hc, hd, hh, q⟩ := h
    have hs := sl
    refine ⟨_, (pss_cons (ps_if (pt_not (pt_val (pe_callB call_isi (by rfl) T.b_isinstance (by decide +kernel) (pa_cons (pv 1) (pa_cons (pe_ty "tuple" T.b_tuple) pa_nil)))))
        (pss_one (ps_ret pe_bl))
        pss_nil)
      (pss_cons (ps_for PassesOwn.never rfl (pi_enT (by rfl) T.b_enumerate (pa_cons (pv 1) pa_nil)) (pg_tup (by rfl) (pgs_cons (pg_name (i := 2) nd rfl (Or.inl rfl)) (pgs_cons (pg_name (i := 3) nd rfl (Or.inl rfl)) pgs_nil)))
        (pss_cons (ps_if (pt_not (pt_val (pcall c__is_final hr (pa_cons (pv 0) (pa_cons (pv 3) pa_nil)))))
          (pss_one (ps_ret pe_bl))
          pss_nil)
        (pss_one (ps_if (PW.pt (pw_and (pt_cmpR op_gt (pv 2) pe_int (nomark _)) (pw_and1 (pt_cmpR (op_leD hr.units) (pe_ix ix_tup (pv 3) pe_int (fun _ _ => rfl)) (pe_ix ix_tup (pe_ix ix_tup (pv 1) (pe_op op_sub (pv 2) pe_int) (fun _ _ => rfl)) pe_int (fun _ _ => rfl)) (nomark _)))))
          (pss_one (ps_ret pe_bl))
          pss_nil))))
      (pss_one (ps_ret pe_bl)))), ?_⟩
    have hd' := hd
    cases hd
    case tup a xs ds ha np hw hr1 =>
      have hl := hr1.length
      walk_at "rds"
      refine ⟨a, xs, rfl, SqT.of ha, for_it (walk_enT (K := K) (a := a) (xs := xs)) (fun i σ H' => Same H H' ∧ ∃ (x1 x2 : Option V) (o : Option PyData), σ = [some u, some (.ref a), x1, x2] ∧ FinTo c ds i o) ?_ ?_ ?_ ?_⟩
      · exact ⟨Same.rfl' H, _, _, none, rfl, rfl, fun _ => rfl, fun j m e => by omega⟩
      · rintro i σ H' _ ⟨s1, _⟩
        exact SqT.of (s1 _ _ ha)
      · rintro i x σ H1 H2 hi ⟨s1, x1, x2, o, rfl, hp, ho, hprev⟩ ⟨t, y0, y, rfl, nt, rfl, e0, ey⟩
        cases e0
        obtain ⟨m, hm, rm⟩ := hr1.at ey
        have st := same_new nt (.tup [.int (i : Nat), y])
        have s2 := s1.trans st
        have hmh := hh.mem m (List.mem_of_getElem? hm)
        rw [drop_cons hm] at hp
        refine ⟨t, _, rfl, SqT.of upd_same, rfl, ?_⟩
        walk_at "rds"
        refine ⟨p, u, y, c, m, rfl, hc.same s2, rm.same s2, hmh, fun H3 s3 => ?_⟩
        have s4 := s2.trans s3
        walk_at "rds"
        refine iB (fun h => ?_) (fun h => ?_)
        · have h' : isFin c m = false := by simpa using h
          walk_at "rds"
          exact ansB (q _ s4) (hp.trans (by simp [finsFrom, h']))
        · have h' : isFin c m = true := by simpa using h
          obtain ⟨di, dl, rfl, hid⟩ := isFin_ids h'
          obtain ⟨n1, i1, l1, rfl, _⟩ := isVid_ids hid
          have rm2 := rm.same s4
          obtain _ | _ | _ | _ | _ | @⟨b, ys, _, hb, nb, hwb, hrb⟩ := rm2
          obtain _ | ⟨hx1, _ | ⟨hx2, hn⟩⟩ := hrb
          cases hn
          walk_at "rds"
          refine iB (fun h2 => ?_) (fun h2 => ?_)
          · have i0 : 0 < i := by have := of_decide_eq_true h2; omega
            obtain ⟨j, rfl⟩ : ∃ j, i = j + 1 := ⟨i - 1, by omega⟩
            have hj : j < xs.length := by omega
            obtain ⟨m', hm', rm'⟩ := (hr1.same s4).at (List.getElem?_eq_getElem hj)
            obtain ⟨hc', en⟩ := hprev j m' rfl hm'
            obtain ⟨di', dl', rfl, hid'⟩ := isFin_ids hc'
            obtain ⟨n2, i2, l2, rfl, _⟩ := isVid_ids hid'
            subst en
            generalize ex : xs[j] = x' at rm'
            obtain _ | _ | _ | _ | _ | @⟨b', ys', _, hb', nb', hwb', hrb'⟩ := rm'
            obtain _ | ⟨hy1, _ | ⟨hy2, hn⟩⟩ := hrb'
            cases hn
            walk_at "rds"
            refine ⟨a, _, _, _, rfl, rfl, SqT.of (s4 _ _ ha), at_int (by omega) (by rw [show (((j + 1 : Nat) : Int) - 1).toNat = j by omega, List.getElem?_eq_getElem hj, ex]), ?_⟩
            walk_at "rds"
            refine ⟨_, _, hx1.dp, hy1.dp, ids_alike _ _ _ _ _ _, (by intro z; cases z), ids_depth _ _ _, ?_⟩
            have hp : finsFrom c none ds = (isFin c _ && !(!PySem.W.dataLt (.tuple [.int n2, .tuple [.int i2, .int l2]]) (.tuple [.int n1, .tuple [.int i1, .int l1]])) && finsFrom c (some (.tuple [.int n1, .tuple [.int i1, .int l1]])) (ds.drop (j + 1 + 1))) := hp
            rw [h', Bool.true_and] at hp
            walk_at "rds"
            refine iB (fun h3 => ?_) (fun h3 => ?_)
            · replace h3 : (!PySem.W.dataLt (.tuple [.int n2, .tuple [.int i2, .int l2]]) (.tuple [.int n1, .tuple [.int i1, .int l1]])) = true := h3
              rw [h3] at hp
              walk_at "rds"
              exact ansB (q _ s4) hp
            · replace h3 : (!PySem.W.dataLt (.tuple [.int n2, .tuple [.int i2, .int l2]]) (.tuple [.int n1, .tuple [.int i1, .int l1]])) = false := h3
              rw [h3] at hp
              refine ⟨s4, _, _, some (.tuple [.int n1, .tuple [.int i1, .int l1]]), rfl, hp, (fun e => by omega), fun j2 m2 e2 hm2 => ?_⟩
              obtain rfl : j2 = j + 1 := by omega
              rw [hm] at hm2; cases hm2
              exact ⟨h', rfl⟩
          · have i0 : i = 0 := by have := of_decide_eq_false h2; omega
            subst i0
            have eo := ho rfl
            subst eo
            walk_at "rds"
            refine ⟨s4, _, _, some (.tuple [.int n1, .tuple [.int i1, .int l1]]), rfl, hp.trans (by simp [finsFrom, h', idOf]), (fun e => by omega), fun j2 m2 e2 hm2 => ?_⟩
            obtain rfl : j2 = 0 := by omega
            rw [hm] at hm2; cases hm2
            exact ⟨h', rfl⟩
      · rintro σ H1 ⟨s1, x1, x2, o, rfl, hp, _⟩
        walk_at "rds"
        refine ansB (q _ s1) ?_
        rw [hl, List.drop_length] at hp
        exact hp
    all_goals
      walk_at "rds"
      exact q H (Same.rfl' H)
end
end Mus

set_option maxRecDepth 100000
set_option maxHeartbeats 4000000
namespace Mus
open PySem L2 TL PySem.NumText
local macro_rules | `(tactic| walk_at "rd") => `(tactic| first
  | refine ⟨_, rfl, ?_⟩ | refine ⟨(True.intro : True), ?_⟩
  | refine ⟨_, _, rfl, rfl, (⟨by decide, by decide, by decide⟩ : CPow _ _), ?_⟩
  | refine ⟨_, _, rfl, rfl, (⟨by decide, by decide⟩ : CDiv _ _), ?_⟩
  | refine ⟨_, _, rfl, rfl, (by show (0 : Int) < _; decide), ?_⟩
  | refine ⟨_, _, rfl, rfl, ?_⟩ | refine ⟨rfl, ?_⟩ | refine iteT ?_ | refine iteF ?_ | refine ⟨_, _, rfl, ?_⟩ | refine .inl ⟨_, rfl, ?_⟩
  | refine ⟨_, _, _, _, _, rfl, (by assumption), (by assumption), (by assumption), rfl, ?_⟩ | refine ⟨_, _, _, _, rfl, rfl, SqT.of (by assumption), rfl, ?_⟩ | refine ⟨_, _, rfl, SqT.of (by assumption), rfl, ?_⟩
  | refine ⟨_, _, _, _, _, rfl, .ty _, Rp.ty (by assumption), kit_int _, ?_⟩ | refine ⟨_, _, _, _, _, rfl, .ty _, Rp.ty (by assumption), kit_bool _, ?_⟩
  | refine ⟨_, _, _, _, _, rfl, .ty _, Rp.ty (by assumption), kit_str _, ?_⟩ | refine ⟨_, _, _, _, _, rfl, .ty _, Rp.ty (by assumption), kit_tup _, ?_⟩)
local macro_rules | `(tactic| walk_at "cal") => `(tactic| first
  | refine ⟨_, _, _, _, _, rfl, (by assumption), ?_⟩ | refine ⟨_, _, _, _, _, rfl, (by assumption), (by assumption), ?_⟩)
local macro_rules | `(tactic| walk_at "sq") => `(tactic| first
  | refine ⟨_, _, rfl, Or.inr (SqT.of (by assumption)), ?_⟩ | refine ⟨_, _, _, _, rfl, rfl, SqT.of (by assumption), rfl, ?_⟩)
local macro_rules | `(tactic| walk_at "rds") => `(tactic| repeat first | walk_at "rd" | walk_at "cal" | walk_at "sq")
local macro_rules | `(tactic| walk_at "ze") => `(tactic| repeat first
  | exact zes_nil | exact ze_bl | exact ze_str | exact ze_non | apply zes_cons | apply ze_tup | apply ze_lst | apply ze_cat | exact di_c | exact di_v rfl | apply di_opC | apply di_op | apply di_neg | apply ze_i | (refine (⟨?_, ?_, ?_⟩ : CPow _ _) <;> decide) | exact Nat.le_of_ble_eq_true rfl | exact ze_varD rfl (by assumption))
local macro_rules | `(tactic| walk_at "rdz") => `(tactic| repeat (fail_if_success (first | show tLst _ _ _ _ | show tAsg (tLst _) _ _ _ _ | show tSeq (tAsg (tLst _) _) _ _ _ _)); first | walk_at "rd" | walk_at "cal" | walk_at "sq")
section
variable {P : Program} {w : World} {K : PySem.W.Frag} {mg : Str → Option Value} {base : Heap}
abbrev s__is_install : Stmt := top 33
abbrev N__is_install : List Str := ["count", "letter"]
abbrev P__is_install : List Str := ["count", "letter"]
theorem sc__is_install : FnScope N__is_install P__is_install (defScope s__is_install) := ⟨rfl, rfl, rfl, by decide +kernel, rfl, by decide +kernel, by decide +kernel⟩
theorem ok__is_install {f : Addr} {fd : FuncData} (T : Tx mg) (c_is_members : DefOk P w K mg base CX0 "is_members" P_is_members 4 (spB2 isMems)) (c__is_finals : DefOk P w K mg base CX0 "_is_finals" P__is_finals 7 (spHS2 isFins))(F : Fun K "_is_install" "_is_install" s__is_install f fd) : FnOk P w K mg base CX0 (8) f fd P__is_install (spRest rInstall) := by
  have nd := sc__is_install.nd
  refine F.ok sc__is_install (fun vs H Q E h => ?_) (fun cdv A outer s H vs Q E hr h => ?_)
  · obtain ⟨_, _, _, _, _, rfl, _⟩ := h
    rfl
  · obtain ⟨p, u, v, c, ds, rfl, hc, hd, hh, ⟨k, m, i, r, rfl, hm, hi⟩, q⟩ := h
    refine ⟨_, (pss_one (ps_ret (pe_and (pe_cmpR op_eq (pe_callB call_len_seq (by rfl) T.b_len (by decide +kernel) (pa_cons (pv 1) pa_nil)) pe_int (nomark _)) (pe_and (pcall c_is_members hr (pa_cons (pv 0) (pa_cons (pe_ix ix_tup (pv 1) pe_int (fun _ _ => rfl)) pa_nil))) (pe_one (pcall c__is_finals hr (pa_cons (pv 0) (pa_cons (pe_ix ix_tup (pv 1) pe_int (fun _ _ => rfl)) pa_nil)))))))), ?_⟩
    obtain _ | _ | _ | _ | _ | @⟨a, xs, _, ha, np, hw, hr⟩ := hd
    have hl := hr.length
    have dt : decide (V.int xs.length = V.int 5) = decide (r.length = 2) := by
      rw [hl]; exact decide_eq_decide.mpr ⟨fun h => by have := V.int.inj h; simp at this; omega, fun h => by simp [h]⟩
    walk_at "rds"
    rw [dt]
    refine iB (fun h => ?_) (fun h => ?_)
    · have h := of_decide_eq_true h
      obtain ⟨x, y, rfl⟩ : ∃ x y, r = [x, y] := by
        match r, h with
        | [x, y], _ => exact ⟨x, y, rfl⟩
      obtain _ | ⟨h1, _ | ⟨h2, _ | ⟨h3, _ | ⟨h4, _ | ⟨h5, hn⟩⟩⟩⟩⟩ := hr
      cases hn
      walk_at "rds"
      refine iB (fun h6 => ?_) (fun h6 => ?_)
      · walk_at "rds"
        exact ⟨hh.mem _ (by simp), fun H' s' => ansB (q H' s') (by simp only [rInstall]; rw [h6, Bool.true_and])⟩
      · exact ansB (q H (Same.rfl' H)) (by simp only [rInstall]; rw [h6, Bool.false_and])
    · have h := of_decide_eq_false h
      exact ansB (q H (Same.rfl' H)) (by match r, h with | [], _ => rfl | [_], _ => rfl | _ :: _ :: _ :: _, _ => rfl)
abbrev s__is_here : Stmt := top 28
abbrev N__is_here : List Str := ["count", "letter", "view_id", "delivered", "promised"]
abbrev P__is_here : List Str := ["count", "letter"]
theorem sc__is_here : FnScope N__is_here P__is_here (defScope s__is_here) := ⟨rfl, rfl, rfl, by decide +kernel, rfl, by decide +kernel, by decide +kernel⟩
theorem ok__is_here {f : Addr} {fd : FuncData} (T : Tx mg) (c_is_integer : DefOk P w K mg base CX0 "is_integer" P_is_integer 1 (spI)) (c_is_view_id : DefOk P w K mg base CX0 "is_view_id" P_is_view_id 4 (spB2 isVid))(F : Fun K "_is_here" "_is_here" s__is_here f fd) : FnOk P w K mg base CX0 (8) f fd P__is_here (spRest rHere) := by
  have nd := sc__is_here.nd
  refine F.ok sc__is_here (fun vs H Q E h => ?_) (fun cdv A outer s H vs Q E hr h => ?_)
  · obtain ⟨_, _, _, _, _, rfl, _⟩ := h
    rfl
  · obtain ⟨p, u, v, c, ds, rfl, hc, hd, hh, ⟨k, m, i, r, rfl, hm, hi⟩, q⟩ := h
    have hs := sl
    refine ⟨_, (pss_cons (ps_if (pt_cmpR op_ne (pe_callB call_len_seq (by rfl) T.b_len (by decide +kernel) (pa_cons (pv 1) pa_nil)) pe_int (nomark _))
        (pss_one (ps_ret pe_bl))
        pss_nil)
      (pss_cons (ps_asg (pe_slice sl_tupA (pv 1) (po_some pe_int) po_none) (pg_tup (by rfl) (pgs_cons (pg_name (i := 2) nd rfl (Or.inl rfl)) (pgs_cons (pg_name (i := 3) nd rfl (Or.inl rfl)) (pgs_cons (pg_name (i := 4) nd rfl (Or.inl rfl)) pgs_nil)))))
      (pss_cons (ps_if (PW.pt (pw_or (pt_not (pt_val (pcall c_is_integer hr (pa_cons (pv 3) (pa_cons pe_int (pa_cons (pe_const T.c_MOST_NUMBER) pa_nil)))))) (pw_or1 (pt_not (pt_val (pcall c_is_view_id hr (pa_cons (pv 0) (pa_cons (pv 4) pa_nil))))))))
        (pss_one (ps_ret pe_bl))
        pss_nil)
      (pss_one (ps_ret (pe_cmpR (op_geD hr.units) (pv 4) (pv 2) (nomark _))))))), ?_⟩
    obtain _ | _ | _ | _ | _ | @⟨a, xs, _, ha, np, hw, hr⟩ := hd
    have hl := hr.length
    have dt : decide (V.int xs.length = V.int 5) = decide (r.length = 2) := by
      rw [hl]; exact decide_eq_decide.mpr ⟨fun h => by have := V.int.inj h; simp at this; omega, fun h => by simp [h]⟩
    walk_at "rds"
    rw [dt]
    refine iB (fun h => ?_) (fun h => ?_)
    · have h : ¬ r.length = 2 := by simpa using h
      exact ansB (q H (Same.rfl' H)) (by match r, h with | [], _ => rfl | [_], _ => rfl | _ :: _ :: _ :: _, _ => rfl)
    · have h : r.length = 2 := by simpa using h
      obtain ⟨x, y, rfl⟩ : ∃ x y, r = [x, y] := by
        match r, h with
        | [x, y], _ => exact ⟨x, y, rfl⟩
      obtain _ | @⟨v1, _, _, _, h1, _ | @⟨v2, _, _, _, h2, _ | @⟨v3, _, _, _, h3, _ | @⟨v4, _, _, _, h4, _ | @⟨v5, _, _, _, h5, hn⟩⟩⟩⟩⟩ := hr
      cases hn
      walk_at "rds"
      refine ⟨a, _, rfl, SqT.of ha, fun z => absurd z.1 (by show ¬ (HT.sIx 5 0 (some 2) = 0); decide), fun _ t nt => ?_⟩
      have st := same_new nt (.tup [v3, v4, v5])
      refine ⟨t, [v3, v4, v5], rfl, SqT.of upd_same, rfl, ?_⟩
      walk_at "rds"
      refine ⟨p, _, x, _, _, rfl, h4.same st, ?_⟩
      have Q' : ∀ b : Bool, rHere c [k, m, i, x, y] = b → Q (.bl b) (upd H t (.tup [v3, v4, v5])) := fun b e => ansB (q _ st) e
      walk_at "rds"
      refine iB (fun h6 => ?_) (fun h6 => ?_)
      · have h6 : isInt x 0 1000000000000 = false := by simpa using h6
        walk_at "rds"
        exact Q' _ (by simp [rHere, h6])
      · have h6 : isInt x 0 1000000000000 = true := by simpa using h6
        walk_at "rds"
        refine ⟨p, _, _, c, y, rfl, hc.same st, h5.same st, ?_⟩
        walk_at "rds"
        refine iB (fun h7 => ?_) (fun h7 => ?_)
        · have h7 : isVid c y = false := by simpa using h7
          walk_at "rds"
          exact Q' _ (by simp [rHere, h7])
        · have h7 : isVid c y = true := by simpa using h7
          obtain ⟨n1, i1, l1, rfl, _⟩ := isVid_ids h7
          obtain ⟨n2, i2, l2, rfl, _⟩ := isVid_ids hi
          walk_at "rds"
          refine ⟨_, _, (h5.same st).dp, (h3.same st).dp, ids_alike _ _ _ _ _ _, (by intro z; cases z), ids_depth _ _ _, ?_⟩
          exact Q' _ (by simp only [rHere]; rw [h6, h7]; rfl)
abbrev s__is_state : Stmt := top 32
abbrev N__is_state : List Str := ["count", "letter", "view_id", "log", "pending"]
abbrev P__is_state : List Str := ["count", "letter"]
theorem sc__is_state : FnScope N__is_state P__is_state (defScope s__is_state) := ⟨rfl, rfl, rfl, by decide +kernel, rfl, by decide +kernel, by decide +kernel⟩
theorem ok__is_state {f : Addr} {fd : FuncData} (T : Tx mg) (c_is_view_id : DefOk P w K mg base CX0 "is_view_id" P_is_view_id 4 (spB2 isVid)) (c_is_log : DefOk P w K mg base CX0 "is_log" P_is_log 5 (spHS2 isLog)) (c_is_pending : DefOk P w K mg base CX0 "is_pending" P_is_pending 5 (spHS1 isPend)) (c_last_index : DefOk P w K mg base CX0 "last_index" P_last_index 1 (sp_last))(F : Fun K "_is_state" "_is_state" s__is_state f fd) : FnOk P w K mg base CX0 (8) f fd P__is_state (spRest rState) := by
  have nd := sc__is_state.nd
  refine F.ok sc__is_state (fun vs H Q E h => ?_) (fun cdv A outer s H vs Q E hr h => ?_)
  · obtain ⟨_, _, _, _, _, rfl, _⟩ := h
    rfl
  · obtain ⟨p, u, v, c, ds, rfl, hc, hd, hh, ⟨k, m, i, r, rfl, hm, hi⟩, q⟩ := h
    have hs := sl
    refine ⟨_, (pss_cons (ps_if (pt_cmpR op_ne (pe_callB call_len_seq (by rfl) T.b_len (by decide +kernel) (pa_cons (pv 1) pa_nil)) pe_int (nomark _))
        (pss_one (ps_ret pe_bl))
        pss_nil)
      (pss_cons (ps_asg (pe_slice sl_tupA (pv 1) (po_some pe_int) po_none) (pg_tup (by rfl) (pgs_cons (pg_name (i := 2) nd rfl (Or.inl rfl)) (pgs_cons (pg_name (i := 3) nd rfl (Or.inl rfl)) (pgs_cons (pg_name (i := 4) nd rfl (Or.inl rfl)) pgs_nil)))))
      (pss_cons (ps_if (PW.pt (pw_or (pt_not (pt_val (pcall c_is_view_id hr (pa_cons (pv 0) (pa_cons (pv 2) pa_nil))))) (pw_or (pt_not (pt_val (pcall c_is_log hr (pa_cons (pv 0) (pa_cons (pv 3) pa_nil))))) (pw_or1 (pt_not (pt_val (pcall c_is_pending hr (pa_cons (pv 4) pa_nil))))))))
        (pss_one (ps_ret pe_bl))
        pss_nil)
      (pss_one (ps_ret (pe_or (pe_cmpR op_eq (pe_callB call_len_seq (by rfl) T.b_len (by decide +kernel) (pa_cons (pv 4) pa_nil)) pe_int (nomark _)) (pe_one (pe_cmpR op_eq (pe_ix ix_tup (pe_ix ix_tup (pv 4) pe_int (fun _ _ => rfl)) pe_int (fun _ _ => rfl)) (pe_op op_add (pcall c_last_index hr (pa_cons (pv 3) (pa_cons (pe_ix ix_tup (pv 1) pe_int (fun _ _ => rfl)) pa_nil))) pe_int) (nomark _))))))))), ?_⟩
    obtain _ | _ | _ | _ | _ | @⟨a, xs, _, ha, np, hw, hr⟩ := hd
    have hl := hr.length
    have dt : decide (V.int xs.length = V.int 6) = decide (r.length = 3) := by
      rw [hl]; exact decide_eq_decide.mpr ⟨fun h => by have := V.int.inj h; simp at this; omega, fun h => by simp [h]⟩
    walk_at "rds"
    rw [dt]
    refine iB (fun h => ?_) (fun h => ?_)
    · have h : ¬ r.length = 3 := by simpa using h
      exact ansB (q H (Same.rfl' H)) (by match r, h with | [], _ => rfl | [_], _ => rfl | [_, _], _ => rfl | _ :: _ :: _ :: _ :: _, _ => rfl)
    · have h : r.length = 3 := by simpa using h
      obtain ⟨x, y, z, rfl⟩ : ∃ x y z, r = [x, y, z] := by
        match r, h with
        | [x, y, z], _ => exact ⟨x, y, z, rfl⟩
      obtain _ | @⟨v1, _, _, _, h1, _ | @⟨v2, _, _, _, h2, _ | @⟨v3, _, _, _, h3, _ | @⟨v4, _, _, _, h4, _ | @⟨v5, _, _, _, h5, _ | @⟨v6, _, _, _, h6, hn⟩⟩⟩⟩⟩⟩ := hr
      cases hn
      have hy := hh.mem y (by simp)
      have hz := hh.mem z (by simp)
      walk_at "rds"
      refine ⟨a, _, rfl, SqT.of ha, fun z => absurd z.1 (by show ¬ (HT.sIx 6 0 (some 3) = 0); decide), fun _ t nt => ?_⟩
      have st := same_new nt (.tup [v4, v5, v6])
      refine ⟨t, [v4, v5, v6], rfl, SqT.of upd_same, rfl, ?_⟩
      walk_at "rds"
      have Q' : ∀ (b : Bool) (H' : Hp), Same (upd H t (.tup [v4, v5, v6])) H' → rState c [k, m, i, x, y, z] = b → Q (.bl b) H' := fun b H' s' e => ansB (q _ (st.trans s')) e
      refine ⟨p, _, _, c, x, rfl, hc.same st, h4.same st, ?_⟩
      walk_at "rds"
      refine iB (fun e1 => ?_) (fun e1 => ?_)
      · have e1 : isVid c x = false := by simpa using e1
        walk_at "rds"
        exact Q' _ _ (Same.rfl' _) (by simp [rState, e1])
      · have e1 : isVid c x = true := by simpa using e1
        walk_at "rds"
        refine ⟨p, _, _, c, y, rfl, hc.same st, h5.same st, hy, fun H2 s2 => ?_⟩
        walk_at "rds"
        refine iB (fun e2 => ?_) (fun e2 => ?_)
        · have e2 : isLog c y = false := by simpa using e2
          walk_at "rds"
          exact Q' _ _ s2 (by simp [rState, e2])
        · have e2 : isLog c y = true := by simpa using e2
          walk_at "rds"
          refine ⟨p, _, z, rfl, h6.same (st.trans s2), hz, fun H3 s3 => ?_⟩
          walk_at "rds"
          have s23 := s2.trans s3
          have s03 := st.trans s23
          refine iB (fun e3 => ?_) (fun e3 => ?_)
          · have e3 : isPend z = false := by simpa using e3
            walk_at "rds"
            exact Q' _ _ s23 (by simp [rState, e3])
          · have e3 : isPend z = true := by simpa using e3
            obtain ⟨ms, rfl⟩ : ∃ ms, z = .tuple ms := by cases z <;> first | exact ⟨_, rfl⟩ | cases e3
            obtain ⟨ls, rfl⟩ : ∃ ls, y = .tuple ls := by cases y <;> first | exact ⟨_, rfl⟩ | cases e2
            obtain ⟨n0, i0, l0, rfl, rfl, _⟩ := isMem_int hm
            have fin : rState (.int n0) [k, .tuple [.int i0, .int l0], i, x, .tuple ls, .tuple ms] = firstIs (cnt ls (i0, l0) + 1) ms := by
              simp only [rState]; rw [e1, e2, e3]; rfl
            have h63 := h6.same s03
            obtain _ | _ | _ | _ | _ | @⟨b, ws, _, hb, nb, hwb, hrb⟩ := h63
            walk_at "rds"
            cases hrb with
            | nil => exact Q' _ _ s23 fin
            | @cons w1 ws m1 ms hw1 hrs =>
              have hw1' := hw1
              have e4 : (isCast m1 && pendFrom (procOf m1 + 1) ms) = true := e3
              rw [Bool.and_eq_true] at e4
              obtain ⟨kk, zz, rfl, _⟩ := isCast_int e4.1
              obtain _ | _ | _ | _ | _ | @⟨b2, ws2, _, hb2, nb2, hwb2, hrb2⟩ := hw1
              obtain _ | ⟨hx1, _ | ⟨hx2, hn⟩⟩ := hrb2
              cases hn
              cases hx1
              refine iteF ?_
              have a0 : ∀ (x : V) (l : List V), atI (x :: l) 0 = some x := fun x l => at_int (by decide) rfl
              walk_at "rds"
              refine ⟨b, _, _, _, rfl, rfl, SqT.of hb, a0 _ _, ?_⟩
              walk_at "rds"
              have a1 : ∀ (x y : V) (l : List V), atI (x :: y :: l) 1 = some y := fun x y l => at_int (by decide) rfl
              refine ⟨a, _, _, _, rfl, rfl, SqT.of (s03 _ _ ha), a1 _ _ _, ?_⟩
              walk_at "rds"
              refine ⟨p, _, _, ls, i0, l0, .int n0, rfl, h5.same s03, h2.same s03, e2, ?_⟩
              walk_at "rds"
              refine Q' _ _ s23 (fin.trans ?_)
              show decide (kk = (cnt ls (i0, l0) : Nat) + 1) = _
              exact decide_eq_decide.mpr ⟨fun h => congrArg V.int h, fun h => V.int.inj h⟩
end
end Mus

set_option maxRecDepth 100000
set_option maxHeartbeats 4000000
/-! A written dict: a text that is none of its keys is not in it. -/
namespace Mus
open PySem PySem.Spec PyProof.Rows L2
def keyT (e : DictEntry) : Option Str := match e.key with | .str x _ => some x | _ => none
theorem kd_none {K : PySem.W.Frag} {D : Addr} {es : Array DictEntry} {n : Nat} {ks : List Str} {z : Str} (h : K.lookup D = some ⟨.type "dict", none, .dict es n, #[]⟩) (hk : es.toList.map keyT = ks.map some) (hz : z ∉ ks) : PySem.W.nsIn K D z = some none := by
  have all : ∀ e ∈ es.toList, ∃ x t, e.key = .str x t ∧ x ∈ ks := fun e he => by
    have m : keyT e ∈ ks.map some := by rw [← hk]; exact List.mem_map.mpr ⟨e, he, rfl⟩
    obtain ⟨x, hx, ex⟩ := List.mem_map.mp m
    unfold keyT at ex
    split at ex
    · rename_i x' t ek
      cases ex
      exact ⟨_, _, ek, hx⟩
    · cases ex
  unfold PySem.W.nsIn
  rw [h]
  have f : es.toList.find? (·.key.isStr z) = none := by
    rw [List.find?_eq_none]
    intro e he
    obtain ⟨x, t, ek, hx⟩ := all e he
    rw [ek]
    intro w
    have w : x = z := by simpa [Value.isStr] using w
    exact hz (w ▸ hx)
  have g : es.toList.any (·.refKey) = false := by
    rw [List.any_eq_false]
    intro e he
    obtain ⟨x, t, ek, hx⟩ := all e he
    unfold DictEntry.refKey
    rw [ek]
    exact Bool.false_ne_true
  simp only [f, g]
  rfl
end Mus

set_option maxRecDepth 100000
set_option maxHeartbeats 4000000
namespace Mus
open PySem L2 TL PySem.NumText
local macro_rules | `(tactic| walk_at "rd") => `(tactic| first
  | refine ⟨_, rfl, ?_⟩ | refine ⟨(True.intro : True), ?_⟩
  | refine ⟨_, _, rfl, rfl, (⟨by decide, by decide, by decide⟩ : CPow _ _), ?_⟩
  | refine ⟨_, _, rfl, rfl, (⟨by decide, by decide⟩ : CDiv _ _), ?_⟩
  | refine ⟨_, _, rfl, rfl, (by show (0 : Int) < _; decide), ?_⟩
  | refine ⟨_, _, rfl, rfl, ?_⟩ | refine ⟨rfl, ?_⟩ | refine iteT ?_ | refine iteF ?_ | refine ⟨_, _, rfl, ?_⟩ | refine .inl ⟨_, rfl, ?_⟩
  | refine ⟨_, _, _, _, _, rfl, (by assumption), (by assumption), (by assumption), rfl, ?_⟩ | refine ⟨_, _, _, _, rfl, rfl, SqT.of (by assumption), rfl, ?_⟩ | refine ⟨_, _, rfl, SqT.of (by assumption), rfl, ?_⟩
  | refine ⟨_, _, _, _, _, rfl, .ty _, Rp.ty (by assumption), kit_int _, ?_⟩ | refine ⟨_, _, _, _, _, rfl, .ty _, Rp.ty (by assumption), kit_bool _, ?_⟩
  | refine ⟨_, _, _, _, _, rfl, .ty _, Rp.ty (by assumption), kit_str _, ?_⟩ | refine ⟨_, _, _, _, _, rfl, .ty _, Rp.ty (by assumption), kit_tup _, ?_⟩)
local macro_rules | `(tactic| walk_at "cal") => `(tactic| first
  | refine ⟨_, _, _, _, _, rfl, (by assumption), ?_⟩ | refine ⟨_, _, _, _, _, rfl, (by assumption), (by assumption), ?_⟩)
local macro_rules | `(tactic| walk_at "sq") => `(tactic| first
  | refine ⟨_, _, rfl, Or.inr (SqT.of (by assumption)), ?_⟩ | refine ⟨_, _, _, _, rfl, rfl, SqT.of (by assumption), rfl, ?_⟩)
local macro_rules | `(tactic| walk_at "rds") => `(tactic| repeat first | walk_at "rd" | walk_at "cal" | walk_at "sq")
local macro_rules | `(tactic| walk_at "ze") => `(tactic| repeat first
  | exact zes_nil | exact ze_bl | exact ze_str | exact ze_non | apply zes_cons | apply ze_tup | apply ze_lst | apply ze_cat | exact di_c | exact di_v rfl | apply di_opC | apply di_op | apply di_neg | apply ze_i | (refine (⟨?_, ?_, ?_⟩ : CPow _ _) <;> decide) | exact Nat.le_of_ble_eq_true rfl | exact ze_varD rfl (by assumption))
local macro_rules | `(tactic| walk_at "rdz") => `(tactic| repeat (fail_if_success (first | show tLst _ _ _ _ | show tAsg (tLst _) _ _ _ _ | show tSeq (tAsg (tLst _) _) _ _ _ _)); first | walk_at "rd" | walk_at "cal" | walk_at "sq")
def Seven (z : Str) : Prop := z = "here" ∨ z = "cast" ∨ z = "order" ∨ z = "propose" ∨ z = "state" ∨ z = "install" ∨ z = "higher"
def sevens : List Str := ["here", "cast", "order", "propose", "state", "install", "higher"]
theorem seven_iff (z : Str) : Seven z ↔ z ∈ sevens := by simp [Seven, sevens]
def restOf (z : Str) (c : PyData) (ds : List PyData) : Bool :=
  if z = "here" then rHere c ds else if z = "cast" then rCast ds else if z = "order" then rOrder c ds else if z = "propose" then rPropose c ds else if z = "state" then rState c ds else if z = "install" then rInstall c ds else rHigher c ds
def isLet (c : PyData) : PyData → Bool
  | .tuple (.str z :: m :: i :: r) => sevens.contains z && isMem c m && isVid c i && restOf z c (.str z :: m :: i :: r)
  | _ => false
/-- the dict of the checks -/
structure Ch (w : World) (K : PySem.W.Frag) (mg : Str → Option Value) (DC fh fc fo fp fs fi fg : Addr) : Prop where
  g__CHECKS : mg "_CHECKS" = some (.ref DC)
  D : ∃ es n, KDict K w DC es n
  no : ∀ z, z ∉ sevens → PySem.W.nsIn K DC z = some none
  eh : PySem.W.nsIn K DC "here" = some (some (.ref fh))
  ec : PySem.W.nsIn K DC "cast" = some (some (.ref fc))
  eo : PySem.W.nsIn K DC "order" = some (some (.ref fo))
  ep : PySem.W.nsIn K DC "propose" = some (some (.ref fp))
  es : PySem.W.nsIn K DC "state" = some (some (.ref fs))
  ei : PySem.W.nsIn K DC "install" = some (some (.ref fi))
  eg : PySem.W.nsIn K DC "higher" = some (some (.ref fg))
theorem rest_h (c : PyData) (ds : List PyData) : restOf "here" c ds = rHere c ds := rfl
section
variable {P : Program} {w : World} {K : PySem.W.Frag} {mg : Str → Option Value} {base : Heap} {DC fh fc fo fp fs fi fg : Addr}
abbrev s_is_letter : Stmt := top 39
abbrev N_is_letter : List Str := ["count", "value", "kind", "is_rest"]
abbrev P_is_letter : List Str := ["count", "value"]
theorem sc_is_letter : FnScope N_is_letter P_is_letter (defScope s_is_letter) := ⟨rfl, rfl, rfl, by decide +kernel, rfl, by decide +kernel, by decide +kernel⟩
theorem ok_is_letter {f : Addr} {fd : FuncData} (T : Tx mg) (C : Ch w K mg DC fh fc fo fp fs fi fg) (c_is_member : DefOk P w K mg base CX0 "is_member" P_is_member 3 (spB2 isMem)) (c_is_view_id : DefOk P w K mg base CX0 "is_view_id" P_is_view_id 4 (spB2 isVid))
    (Hh : Held P w K mg base 8 fh (spRest rHere)) (Hc : Held P w K mg base 8 fc (spRest fun _ => rCast)) (Ho : Held P w K mg base 8 fo (spRest rOrder)) (Hp : Held P w K mg base 8 fp (spRest rPropose)) (Hs : Held P w K mg base 8 fs (spRest rState)) (Hi : Held P w K mg base 8 fi (spRest rInstall)) (Hg : Held P w K mg base 8 fg (spRest rHigher))
    (F : Fun K "is_letter" "is_letter" s_is_letter f fd) : FnOk P w K mg base CX0 9 f fd P_is_letter (spHS2 isLet) := by
  have nd := sc_is_letter.nd
  refine F.ok sc_is_letter (fun vs H Q E h => ?_) (fun cdv A outer s H vs Q E hr h => ?_)
  · obtain ⟨_, _, _, _, _, rfl, _⟩ := h
    rfl
  · obtain ⟨p, u, v, c, d, rfl, hc, hd, hh, q⟩ := h
    have hs := sl
    obtain ⟨es, nE, D⟩ := C.D
    have D : KDict K w DC es nE := D
    have all : ∀ z, z ∈ sevens → ∃ (fz : Addr) (g : PyData → List PyData → Bool), PySem.W.nsIn K DC z = some (some (.ref fz)) ∧ Held P w K mg base 8 fz (spRest g) ∧ ∀ c ds, restOf z c ds = g c ds := fun z hz => by
      simp only [sevens, List.mem_cons, List.not_mem_nil, or_false] at hz
      rcases hz with rfl | rfl | rfl | rfl | rfl | rfl | rfl
      · exact ⟨fh, _, C.eh, Hh, fun _ _ => rfl⟩
      · exact ⟨fc, _, C.ec, Hc, fun _ _ => rfl⟩
      · exact ⟨fo, _, C.eo, Ho, fun _ _ => rfl⟩
      · exact ⟨fp, _, C.ep, Hp, fun _ _ => rfl⟩
      · exact ⟨fs, _, C.es, Hs, fun _ _ => rfl⟩
      · exact ⟨fi, _, C.ei, Hi, fun _ _ => rfl⟩
      · exact ⟨fg, _, C.eg, Hg, fun _ _ => rfl⟩
    obtain ⟨S, AH, hS⟩ : ∃ S : Addr → Option Sp, (∀ f sp, S f = some sp → Held P w K mg base 8 f sp) ∧ ∀ z ds, d = .tuple (.str z :: ds) → z ∈ sevens → ∃ (fz : Addr) (g : PyData → List PyData → Bool), PySem.W.nsIn K DC z = some (some (.ref fz)) ∧ S fz = some (spRest g) ∧ ∀ c ds, restOf z c ds = g c ds := by
      by_cases h : ∃ z ds, d = .tuple (.str z :: ds) ∧ z ∈ sevens
      · obtain ⟨z, ds, rfl, hz⟩ := h
        obtain ⟨fz, g, e1, e2, e3⟩ := all z hz
        refine ⟨fun a => if a = fz then some (spRest g) else none, fun f sp e => ?_, fun z' ds' e hz' => ?_⟩
        · dsimp only at e
          split at e
          · rename_i ef
            cases e
            rw [ef]; exact e2
          · cases e
        · cases e
          exact ⟨fz, g, e1, if_pos rfl, e3⟩
      · exact ⟨fun _ => none, (fun _ _ e => by cases e), fun z ds e hz => absurd ⟨z, ds, e, hz⟩ h⟩
    refine ⟨_, (pss_cons (ps_if (PW.pt (pw_or (pt_not (pt_val (pe_callB call_isi (by rfl) T.b_isinstance (by decide +kernel) (pa_cons (pv 1) (pa_cons (pe_ty "tuple" T.b_tuple) pa_nil))))) (pw_or1 (pt_cmpR op_lt (pe_callB call_len_seq (by rfl) T.b_len (by decide +kernel) (pa_cons (pv 1) pa_nil)) pe_int (nomark _)))))
        (pss_one (ps_ret pe_bl))
        pss_nil)
      (pss_cons (ps_set (i := 2) nd rfl (Or.inl rfl) (pe_ix ix_tup (pv 1) pe_int (fun _ _ => rfl)))
      (pss_cons (ps_if (PW.pt (pw_or (pt_not (pt_val (pe_callB call_isi (by rfl) T.b_isinstance (by decide +kernel) (pa_cons (pv 2) (pa_cons (pe_ty "str" T.b_str) pa_nil))))) (pw_or1 (pt_cmpR (op_notIn_kd D) (pv 2) (pe_cls C.g__CHECKS) (by rfl)))))
        (pss_one (ps_ret pe_bl))
        pss_nil)
      (pss_cons (ps_if (PW.pt (pw_or (pt_not (pt_val (pcall c_is_member hr (pa_cons (pv 0) (pa_cons (pe_ix ix_tup (pv 1) pe_int (fun _ _ => rfl)) pa_nil))))) (pw_or1 (pt_not (pt_val (pcall c_is_view_id hr (pa_cons (pv 0) (pa_cons (pe_ix ix_tup (pv 1) pe_int (fun _ _ => rfl)) pa_nil))))))))
        (pss_one (ps_ret pe_bl))
        pss_nil)
      (pss_cons (ps_set (i := 3) nd rfl (Or.inl rfl) (pe_ix ix_kdict (pe_cls C.g__CHECKS) (pv 2) (fun _ _ => rfl)))
      (pss_one (ps_ret (pe_callA (i := 3) (S := S) AH hr rfl (Or.inl rfl) (pa_cons (pv 0) (pa_cons (pv 1) pa_nil)))))))))), ?_⟩
    have hd' := hd
    cases hd
    case tup a xs ds ha np hw hr1 =>
      have hl := hr1.length
      have Q0 : isLet c (.tuple ds) = false → Q (.bl false) H := fun e => ansB (q H (Same.rfl' H)) e
      walk_at "rds"
      refine iB (fun h => ?_) (fun h => ?_)
      · have h : xs.length < 3 := by have := of_decide_eq_true h; omega
        refine Q0 ?_
        match ds, (show ds.length < 3 by omega) with
        | [], _ => rfl
        | [x], _ => cases x <;> rfl
        | [x, y], _ => cases x <;> rfl
      · have h : ¬ xs.length < 3 := by have := of_decide_eq_false h; omega
        obtain ⟨k, m, i, r, rfl⟩ : ∃ k m i r, ds = k :: m :: i :: r := by
          match ds, (show ¬ ds.length < 3 by omega) with
          | k :: m :: i :: r, _ => exact ⟨k, m, i, r, rfl⟩
          | [], h => exact absurd (by decide) h
          | [_], h => exact absurd (by simp) h
          | [_, _], h => exact absurd (by simp) h
        obtain _ | @⟨v1, _, _, _, h1, _ | @⟨v2, _, _, _, h2, _ | @⟨v3, vs, _, _, h3, hrs⟩⟩⟩ := hr1
        have a0 : ∀ (x : V) (l : List V), atI (x :: l) 0 = some x := fun x l => at_int (by decide) rfl
        have a1 : ∀ (x y : V) (l : List V), atI (x :: y :: l) 1 = some y := fun x y l => at_int (by decide) rfl
        have a2 : ∀ (x y z : V) (l : List V), atI (x :: y :: z :: l) 2 = some z := fun x y z l => at_int (by decide) rfl
        walk_at "rds"
        refine ⟨a, _, _, _, rfl, rfl, SqT.of ha, a0 _ _, ?_⟩
        have h1' := h1
        by_cases hk : ∃ z, k = .str z
        · obtain ⟨z, rfl⟩ := hk
          cases h1
          walk_at "rds"
          by_cases hz : z ∈ sevens
          · obtain ⟨fz, g, e1, e2, e3⟩ := hS z _ rfl hz
            refine ⟨z, _, rfl, rfl, e1, ?_⟩
            walk_at "rds"
            have ez : sevens.contains z = true := by simpa using hz
            have full : isLet c (.tuple (.str z :: m :: i :: r)) = (isMem c m && isVid c i && restOf z c (.str z :: m :: i :: r)) := by simp only [isLet]; rw [ez, Bool.true_and]
            refine ⟨a, _, _, _, rfl, rfl, SqT.of ha, a1 _ _ _, ?_⟩
            walk_at "rds"
            refine iB (fun hm => ?_) (fun hm => ?_)
            · have hm : isMem c m = false := by simpa using hm
              walk_at "rds"
              exact Q0 (full.trans (by rw [hm]; rfl))
            · have hm : isMem c m = true := by simpa using hm
              walk_at "rds"
              refine ⟨a, _, _, _, rfl, rfl, SqT.of ha, a2 _ _ _ _, ?_⟩
              walk_at "rds"
              refine iB (fun hi => ?_) (fun hi => ?_)
              · have hi : isVid c i = false := by simpa using hi
                walk_at "rds"
                exact Q0 (full.trans (by rw [hm, hi]; rfl))
              · have hi : isVid c i = true := by simpa using hi
                walk_at "rds"
                refine ⟨DC, z, .ref fz, rfl, rfl, ⟨es, nE, _, D.at_, D.lit, e1, rfl⟩, ?_⟩
                refine ⟨fz, _, rfl, e2, ?_⟩
                refine ⟨_, rfl, _, rfl, ?_⟩
                refine ⟨p, _, _, c, _, rfl, hc, hd', hh, ⟨_, m, i, r, rfl, hm, hi⟩, fun H' s' => ansB (q H' s') ?_⟩
                rw [full, hm, hi, e3]; rfl
          · refine ⟨z, _, rfl, rfl, C.no z hz, ?_⟩
            walk_at "rds"
            refine Q0 ?_
            have e : sevens.contains z = false := by simpa using hz
            simp only [isLet]; rw [e]; simp
        · cases h1
          case str => exact absurd ⟨_, rfl⟩ hk
          all_goals
            walk_at "rds"
            exact Q0 rfl
    all_goals
      walk_at "rds"
      exact q H (Same.rfl' H)
end
end Mus

set_option maxRecDepth 100000
set_option maxHeartbeats 4000000
/-! Errors of the program's own: made without arguments, let out by methods. -/
namespace Mus
open PySem PySem.Spec PyProof.Rows L2
section
variable {X : Cx} {C : Addr} {bmB : List Value} {B newId initId : String}
theorem pmk_own0 {x : Str} {p pos : Pos} (F : ExcBaseFacts B newId initId bmB) (q : PySem.W.excIn X.K C bmB newId = true) (gC : X.mg x = some (.ref C)) (kC : PySem.W.keepIn X.K (.ref C) = true) (r : Raises X (.ref C)) (hg : Gl X x := by rfl)
    (hdb : (x == ("__debug__" : Str)) = false := by decide) : PMk X (.Call (.Name x p) [] [] pos) (fun _ H Q => Q (.ref C) none H) := by
  intro pins s σ H Q I h
  refine wpAny_Call_Name_kw (ld_glob I hg gC ?_ hdb)
  refine PySem.W.callWith_K0 I.kIn kC ?_
  show wpAny _ _ (call (.ref C) []) _ _ _
  obtain ⟨mem, g, dw, tn, io⟩ := s
  obtain ⟨chain, N, nm0, qn, bs, hdct, sn, sub, ab, col, dd, k0, k1, k2, k3, k5, mN, cC, hN, hni, T⟩ := exc_obj I.kIn q
  exact wpAny_call_exc_subT F T cC hN hni (fun h' a hm => mk_of I hm r h (I.hok.gone hm.new)) (by show 0 ≤ sizeLine; rw [sizeLine_eq]; omega)
end
section
variable {X : Cx} {C : Addr} {x m : Str} {ps : List Str} {j k : Nat} {sp : Sp} {o e : Expr} {es : List Expr} {to : TE} {t : TA} {p pos apos : Pos} {W : WX} {E : XK}
/-- o.m(e, ..), what it lets out leaves this def, too -/
theorem pmethE {pl : Sem Bool} (c : MethOk X.prog X.w X.K X.mg X.base (L2.CX X.prog X.w) C m ps j sp) (cl : Cls X.K C) (tk : Takes X W) (hW : ∀ cls d σ H, E cls d H → W cls d σ H) (ho : PE X o to) (hr : Room k X.A) (ha : PA X (e :: es) t) (hj : j ≤ k := by first | decide | omega)
    (st0 : starEach (e :: es) X.env = (false, eval e X.env) :: starEach es X.env := by rfl) (pl0 : (backTo pos (starEach es X.env)).any (·.1) = false := by rfl)
    (ht : eval (.Call (.Attribute o m apos) (e :: es) [] pos) X.env = (do
      let v ← eval o X.env; standAt apos.atName; let (f, one) ← holding [v] (getMethod v m pl)
      callWith pos f one (backTo pos (starEach (e :: es) X.env)) (backToKw pos (keywordEach [] X.env))) := by rfl) :
    PE X (.Call (.Attribute o m apos) (e :: es) [] pos) (tMeth C m sp [] E to t) := pe_meth ho cl c.m c.G (hr.mono hj) c.b .nil (passes_call tk hW) ha st0 pl0 ht
theorem pmethE0 {pl : Sem Bool} (c : MethOk X.prog X.w X.K X.mg X.base (L2.CX X.prog X.w) C m ps j sp) (cl : Cls X.K C) (tk : Takes X W) (hW : ∀ cls d σ H, E cls d H → W cls d σ H) (ho : PE X o to) (hr : Room k X.A) (hj : j ≤ k := by first | decide | omega)
    (ht : eval (.Call (.Attribute o m apos) [] [] pos) X.env = (do
      let v ← eval o X.env; standAt apos.atName; let (f, one) ← holding [v] (getMethod v m pl)
      callWith pos f one (backTo pos (starEach [] X.env)) (backToKw pos (keywordEach [] X.env))) := by rfl) :
    PE X (.Call (.Attribute o m apos) [] [] pos) (tMeth C m sp [] E to tNil) := pe_meth0 ho cl c.m c.G (hr.mono hj) c.b .nil (passes_call tk hW) ht
/-- f(e, ..), the same of a def -/
theorem pcallE (c : DefOk X.prog X.w X.K X.mg X.base (L2.CX X.prog X.w) x ps j sp) (tk : Takes X W) (hW : ∀ cls d σ H, E cls d H → W cls d σ H) (hr : Room k X.A) (ha : PA X (e :: es) t) (hj : j ≤ k := by first | decide | omega) (hg : Gl X x := by rfl)
    (db0 : (x == ("__debug__" : Str)) = false := by decide) (st0 : starEach (e :: es) X.env = (false, eval e X.env) :: starEach es X.env := by rfl) (pl0 : (backTo pos (starEach es X.env)).any (·.1) = false := by rfl) :
    PE X (.Call (.Name x p) (e :: es) [] pos) (tCall sp [] E t) := pe_call c.G (hr.mono hj) hg c.m c.kp c.b .nil (passes_call tk hW) ha db0 st0 pl0
end
end Mus

set_option maxRecDepth 100000
set_option maxHeartbeats 4000000
/-! Calls whose errors are caught where the slots stand. -/
namespace Mus
open PySem PySem.Spec PyProof.Rows L2
/-! ### calls in a try's body -/
def tMethA (C : Addr) (m : Str) (sp : Sp) (E : L2.St → XK) (ta : TE) (t : TA) : TE := fun σ H Q => ta σ H fun x H1 => ∃ a dx fs, x = .ref a ∧ H1 a = some (.ins C dx fs) ∧ fs.lookup m = none ∧ t σ H1 fun vs H2 => sp (x :: vs) H2 Q (E σ)
section
variable {X : Cx} {C : Addr} {x m : Str} {ps : List Str} {j k : Nat} {sp : Sp} {o e : Expr} {es : List Expr} {to : TE} {t : TA} {p pos apos : Pos} {W : WX}
theorem pmethA {pl : Sem Bool} (c : MethOk X.prog X.w X.K X.mg X.base (L2.CX X.prog X.w) C m ps j sp) (cl : Cls X.K C) (tk : Takes X W) (ho : PE X o to) (hr : Room k X.A) (ha : PA X (e :: es) t) (hj : j ≤ k := by first | decide | omega)
    (st0 : starEach (e :: es) X.env = (false, eval e X.env) :: starEach es X.env := by rfl) (pl0 : (backTo pos (starEach es X.env)).any (·.1) = false := by rfl)
    (ht : eval (.Call (.Attribute o m apos) (e :: es) [] pos) X.env = (do
      let v ← eval o X.env; standAt apos.atName; let (f, one) ← holding [v] (getMethod v m pl)
      callWith pos f one (backTo pos (starEach (e :: es) X.env)) (backToKw pos (keywordEach [] X.env))) := by rfl) :
    PE X (.Call (.Attribute o m apos) (e :: es) [] pos) (tMethA C m sp (WE W) to t) := by
  refine ⟨fun pins s σ H Q I h => ?_⟩
  refine PySem.W.methodCall_KW (pl := pl) (thn (ho.run pins s σ H _ I h) fun u s1 ⟨x, H1, I1, rx, a, dx, fs, ex, ea, l, q⟩ => ?_) ht
  subst ex
  obtain rfl : u = Value.ref a := rx
  refine getmeth_ok I1 ea cl c.m l ?_
  refine PySem.W.callWith_K (first := [.ref a]) (h₀ := X.base) I.ok.mod.kin c.m.kp (thn (ha.run pos pins s1 σ H1 _ I1 q) fun us s2 ⟨vs, H2, I2, r, q2⟩ => ⟨I2.kIn, ?_⟩) st0 pl0
  exact run_fnS (us := .ref a :: us) (vs := .ref a :: vs) c.G (hr.mono hj) c.b (passAt tk σ) I2 (.cons rfl r) q2
theorem pmethA0 {pl : Sem Bool} (c : MethOk X.prog X.w X.K X.mg X.base (L2.CX X.prog X.w) C m ps j sp) (cl : Cls X.K C) (tk : Takes X W) (ho : PE X o to) (hr : Room k X.A) (hj : j ≤ k := by first | decide | omega)
    (ht : eval (.Call (.Attribute o m apos) [] [] pos) X.env = (do
      let v ← eval o X.env; standAt apos.atName; let (f, one) ← holding [v] (getMethod v m pl)
      callWith pos f one (backTo pos (starEach [] X.env)) (backToKw pos (keywordEach [] X.env))) := by rfl) :
    PE X (.Call (.Attribute o m apos) [] [] pos) (tMethA C m sp (WE W) to tNil) := by
  refine ⟨fun pins s σ H Q I h => ?_⟩
  refine PySem.W.methodCall_KW (pl := pl) (thn (ho.run pins s σ H _ I h) fun u s1 ⟨x, H1, I1, rx, a, dx, fs, ex, ea, l, q⟩ => ?_) ht
  subst ex
  obtain rfl : u = Value.ref a := rx
  refine getmeth_ok I1 ea cl c.m l ?_
  refine PySem.W.callWith_K0 (first := [.ref a]) I1.kIn c.m.kp ?_
  exact run_fnS (us := [.ref a]) (vs := [.ref a]) c.G (hr.mono hj) c.b (passAt tk σ) I1 (.cons rfl .nil) q
theorem pcallA (c : DefOk X.prog X.w X.K X.mg X.base (L2.CX X.prog X.w) x ps j sp) (tk : Takes X W) (hr : Room k X.A) (ha : PA X (e :: es) t) (hj : j ≤ k := by first | decide | omega) (hg : Gl X x := by rfl)
    (db0 : (x == ("__debug__" : Str)) = false := by decide) (st0 : starEach (e :: es) X.env = (false, eval e X.env) :: starEach es X.env := by rfl) (pl0 : (backTo pos (starEach es X.env)).any (·.1) = false := by rfl) :
    PE X (.Call (.Name x p) (e :: es) [] pos) (tCallS sp (WE W) t) := pe_callS c.G (hr.mono hj) hg c.m c.kp c.b (fun σ => passAt tk σ) ha db0 st0 pl0
end
end Mus

set_option maxRecDepth 100000
set_option maxHeartbeats 4000000
/-! The same rules, so that Lean finds the inner readings: they may name what they don't depend on. -/
namespace Mus
open PySem PySem.Spec PyProof.Rows L2
def s00 : Shared := {}
def h00 : Hp := fun _ => none
def o00 : Obj := default
def x00 : Value → Shared → Prop := fun _ _ => False
section
variable {X : Cx} {x n : Str} {c : Value} {i : Nat} {body suite : List Stmt} {b₀ : Stmt} {np pos pos' : Pos} {tb : WX → List (Addr × Obj) → (Value → Shared → Prop) → TS} {ts : Addr → Obj → Value → Option Addr → List (Addr × Obj) → TS} {Wout : WX}
theorem ps_tryAs (hs : X.stack = X.env :: X.outer) (hf : X.env.frame = some X.env.locals) (hN : X.N.Nodup) (hi : X.N[i]? = some n) (hln : X.env.kindOf n = some .local) (hc : Names X x c) (tk : Takes X Wout)
    (hb : ∀ W pn xe, Takes (X.tr pn xe) W → PassesOwn (model X.prog X.w) X.A X.env xe → PSs (X.tr pn xe) body (tb W pn xe)) (hsu : ∀ a oe cls d pn, Zc cls d oe → (∃ vs, oe.data = .fields vs) → PSs (X.suite a ((a, oe) :: pn)) (b₀ :: suite) (ts a oe cls d pn))
    (i1 : ∀ W pn xe, tb W pn xe = tb W [] x00 := by intros; rfl) (i2 : ∀ a oe cls d pn, ts a oe cls d pn = ts a o00 cls d [] := by intros; rfl) :
    PS X (.Try body [.ExceptHandler (some (.Name x np)) (some n) (b₀ :: suite) pos'] [] [] pos) (fun D σ H => tb (wAs X.K c i (fun a cls d => ts a o00 cls d []) Wout D) [] x00 D σ H) :=
  ps_try_as (tb := fun W => tb W [] x00) hs hf hN hi hln hc tk (fun W pn xe t p => i1 W pn xe ▸ hb W pn xe t p) fun a oe cls d pn z f => i2 a oe cls d pn ▸ hsu a oe cls d pn z f
end
section
variable {X : Cx} {body : List Stmt} {h₀ : ExceptHandler} {hds : List ExceptHandler} {l : List (Value × (Addr → Value → Option Addr → TS))} {pos : Pos} {tb : WX → List (Addr × Obj) → (Value → Shared → Prop) → TS} {Wout : WX}
theorem ps_tryX (hs : X.stack = X.env :: X.outer) (hf : X.env.frame = some X.env.locals) (tk : Takes X Wout)
    (hb : ∀ W pn xe, Takes (X.tr pn xe) W → PassesOwn (model X.prog X.w) X.A X.env xe → PSs (X.tr pn xe) body (tb W pn xe)) (hh : HdsOk X (h₀ :: hds) l) (i1 : ∀ W pn xe, tb W pn xe = tb W [] x00 := by intros; rfl) :
    PS X (.Try body (h₀ :: hds) [] [] pos) (fun D σ H => tb (wMany X.K Wout D l) [] x00 D σ H) :=
  ps_try_many (tb := fun W => tb W [] x00) hs hf tk (fun W pn xe t p => i1 W pn xe ▸ hb W pn xe t p) hh
theorem hd_one {x : Str} {c : Value} {ts : Addr → Obj → Value → Option Addr → List (Addr × Obj) → TS} {b₀ : Stmt} {suite : List Stmt} {np pos' : Pos} (hc : Names X x c)
    (hsu : ∀ a oe cls d pn, Zc cls d oe → (∃ vs, oe.data = .fields vs) → PSs (X.suite a ((a, oe) :: pn)) (b₀ :: suite) (ts a oe cls d pn)) (r : HdsOk X hds l) (i2 : ∀ a oe cls d pn, ts a oe cls d pn = ts a o00 cls d [] := by intros; rfl) :
    HdsOk X (.ExceptHandler (some (.Name x np)) none (b₀ :: suite) pos' :: hds) ((c, fun a cls d => ts a o00 cls d []) :: l) :=
  .cons hc (fun a oe cls d pn z f => i2 a oe cls d pn ▸ hsu a oe cls d pn z f) r
end
section
variable {X : Cx} {elt tg iter : Expr} {ifs : List Expr} {scope : Scope} {own : List (Str × Nat)} {pos : Pos} {wi : TI} {g : Shared → Hp → Addr → List (Str × Addr) → List Addr → TG} {tt : Shared → Hp → Addr → List (Str × Addr) → List Addr → TT} {te : Shared → Hp → Addr → List (Str × Addr) → List Addr → TE}
theorem pe_lcX (hc : X.calm = true) (hN : X.N.Nodup) (hi : PI X tg iter wi) (ok : BlkOk X.N X.env.scope scope own)
    (hg : ∀ (s : Shared) (H : Hp) (C : Addr) (cl : List (Str × Addr)) (fp : List Addr), PG (X.blk s H scope (compEnvC scope cl C X.env) fp) tg (g s H C cl fp)) (ht : ∀ (s : Shared) (H : Hp) (C : Addr) (cl : List (Str × Addr)) (fp : List Addr), PTs (X.blk s H scope (compEnvC scope cl C X.env) fp) ifs (tt s H C cl fp))
    (he : ∀ (s : Shared) (H : Hp) (C : Addr) (cl : List (Str × Addr)) (fp : List Addr), PE (X.blk s H scope (compEnvC scope cl C X.env) fp) elt (te s H C cl fp)) (hs : ∀ x, foldedSetIterable iter X.env x = pure x := by intro _; rfl)
    (i1 : ∀ s H C cl fp, g s H C cl fp = g s00 h00 0 [] [] := by intros; rfl) (i2 : ∀ s H C cl fp, tt s H C cl fp = tt s00 h00 0 [] [] := by intros; rfl) (i3 : ∀ s H C cl fp, te s H C cl fp = te s00 h00 0 [] [] := by intros; rfl) :
    PE X (.ListComp elt [⟨tg, iter, ifs, 0⟩] scope pos) (tLc wi (g s00 h00 0 [] []) (tt s00 h00 0 [] []) (te s00 h00 0 [] []) (own.map (·.2))) :=
  pe_lc hc hN hi ok (fun s H C cl fp => i1 s H C cl fp ▸ hg s H C cl fp) (fun s H C cl fp => i2 s H C cl fp ▸ ht s H C cl fp) (fun s H C cl fp => i3 s H C cl fp ▸ he s H C cl fp) hs
theorem ps_setLcX {i : Nat} {y : Str} {py : Pos} {spos : Pos} (hc : X.calm = true) (hN : X.N.Nodup) (hy : X.N[i]? = some y) (hyl : X.env.scope.names.lookup y = some .local)
    (hsw : swapsWith (.ListComp elt [⟨tg, iter, ifs, 0⟩] scope pos) (some (.Name y py)) spos.line X.env = pure true) (hi : PI X tg iter wi) (ok : BlkOk X.N X.env.scope scope own)
    (hg : ∀ (s : Shared) (H : Hp) (C : Addr) (cl : List (Str × Addr)) (fp : List Addr), PG (X.blk s H scope (compEnvC scope cl C X.env) fp) tg (g s H C cl fp)) (ht : ∀ (s : Shared) (H : Hp) (C : Addr) (cl : List (Str × Addr)) (fp : List Addr), PTs (X.blk s H scope (compEnvC scope cl C X.env) fp) ifs (tt s H C cl fp))
    (he : ∀ (s : Shared) (H : Hp) (C : Addr) (cl : List (Str × Addr)) (fp : List Addr), PE (X.blk s H scope (compEnvC scope cl C X.env) fp) elt (te s H C cl fp)) (hs : ∀ x, foldedSetIterable iter X.env x = pure x := by intro _; rfl)
    (i1 : ∀ s H C cl fp, g s H C cl fp = g s00 h00 0 [] [] := by intros; rfl) (i2 : ∀ s H C cl fp, tt s H C cl fp = tt s00 h00 0 [] [] := by intros; rfl) (i3 : ∀ s H C cl fp, te s H C cl fp = te s00 h00 0 [] [] := by intros; rfl) :
    PS X (.Assign [.Name y py] (.ListComp elt [⟨tg, iter, ifs, 0⟩] scope pos) spos) (tAsg (tLc wi (g s00 h00 0 [] []) (tt s00 h00 0 [] []) (te s00 h00 0 [] []) (own.map (·.2))) (gName i)) :=
  ps_setLc hc hN hy hyl hsw hi ok (fun s H C cl fp => i1 s H C cl fp ▸ hg s H C cl fp) (fun s H C cl fp => i2 s H C cl fp ▸ ht s H C cl fp) (fun s H C cl fp => i3 s H C cl fp ▸ he s H C cl fp) hs
end
end Mus

set_option maxRecDepth 100000
set_option maxHeartbeats 4000000
/-! try whose clauses are of both kinds, named and not: the error on its way from clause to clause as one thing (Fell), and what each kind of clause does with it. -/
namespace Mus
open PySem PySem.Spec PyProof.Rows L2
/-- the error at a has come down in X's frame, nobody has taken it so far -/
structure Fell (X : Cx) (pins : List (Addr × Obj)) (σ : L2.St) (H : Hp) (a : Addr) (cls : Value) (d : Option Addr) (s : Shared) : Prop where
  inv : Inv X pins σ H s
  new : H a = none
  air : ∃ (B : Heap) (sI : Shared), Inv X pins σ H sI ∧ (∀ b o, sI.heap.get? b = some o → b ∉ frs X.stack → B.get? b = some o) ∧ sI.heap.UpToSlots s.heap ∧ HandSPX.FlyingZ B (X.env :: X.outer) a (Zc cls d) s.heap ∧ s.os = sI.os ∧ AllBare s.gens
section
variable {X : Cx} {pins : List (Addr × Obj)} {σ : L2.St} {H : Hp} {a : Addr} {cls : Value} {d : Option Addr} {s : Shared} {D : Ends} {W : WX}
/-- the error as an object, and that it is no frame -/
theorem Fell.obj (f : Fell X pins σ H a cls d s) (hs : X.stack = X.env :: X.outer) (hf : X.env.frame = some X.env.locals) : ∃ oe vs, s.heap.get? a = some oe ∧ Zc cls d oe ∧ oe.data = .fields vs ∧ a ≠ X.env.locals ∧ a ∉ X.fs := by
  obtain ⟨B, sI, _, _, _, fl, _⟩ := f.air
  obtain ⟨oe, vs, e1, e2, e3⟩ := fl.there
  have out : a ∉ frs (X.env :: X.outer) := fun m => by
    obtain ⟨_, o, e, no⟩ := fl.2.2.1.mem m
    exact no _ ((Option.some.inj (e1.symm.trans e)) ▸ e3)
  refine ⟨oe, vs, e1, e2, e3, fun z => out ?_, fun m => out ?_⟩
  · exact List.mem_filterMap.mpr ⟨X.env, .head _, z ▸ hf⟩
  · obtain ⟨e, m, q⟩ := List.mem_filterMap.mp m
    exact List.mem_filterMap.mpr ⟨e, .tail _ m, q⟩
/-- the body has let it go -/
theorem Fell.start {h' : Heap} {sI : Shared} {B : Heap} (J : Inv X pins σ H sI) (nb : ∀ b o, sI.heap.get? b = some o → b ∉ frs X.stack → B.get? b = some o) (up : sI.heap.UpToSlots s.heap) (na : H a = none) (os : s.os = sI.os) (ag : AllBare s.gens)
    (fl : HandSPX.FlyingZ B (X.env :: X.outer) a (Zc cls d) h') (up' : s.heap.UpToSlots h') : Fell X pins σ H a cls d { s with heap := h' } :=
  ⟨J.landed nb fl.1 (up.trans up') os ag, na, B, sI, J, nb, up.trans up', fl, os, ag⟩
theorem Fell.next {h' : Heap} {B : Heap} (f : Fell X pins σ H a cls d s) (g : ∀ B sI, Inv X pins σ H sI → (∀ b o, sI.heap.get? b = some o → b ∉ frs X.stack → B.get? b = some o) → sI.heap.UpToSlots s.heap → HandSPX.FlyingZ B (X.env :: X.outer) a (Zc cls d) s.heap → s.os = sI.os → AllBare s.gens →
    HandSPX.FlyingZ B (X.env :: X.outer) a (Zc cls d) h' ∧ s.heap.UpToSlots h') : Fell X pins σ H a cls d { s with heap := h' } := by
  obtain ⟨B, sI, J, nb, up, fl, os, ag⟩ := f.air
  obtain ⟨fl', up'⟩ := g B sI J nb up fl os ag
  exact .start J nb up f.new os ag fl' up'
/-- no clause is left: it goes on -/
theorem Fell.out {Q : Flow → Shared → Prop} (f : Fell X pins σ H a cls d s) (hs : X.stack = X.env :: X.outer) (hf : X.env.frame = some X.env.locals) (tk : Takes X W) (w : W cls d σ H) : wpAny (model X.prog X.w) X.A (handleBy (.ref a) X.env []) Q X.xe s := by
  obtain ⟨B, sI, J, nb, up, fl, os, ag⟩ := f.air
  refine wpAny_handleBy_nil ?_
  obtain ⟨_, _, _, oe, vs, T, _, _, e1, _, e3, e4, _⟩ := id fl
  unfold PySem.passOn
  refine wpAny_bind (wpAny_field e1 e3 e4 ?_)
  rw [if_neg (by simp : ¬ ((Value.ref T == Value.none) = true))]
  have go : wpAny (model X.prog X.w) X.A (setFlight (.ref a) X.env.frame) (fun _ s4 => wpAny (model X.prog X.w) X.A (throw (.ref a) : Sem Flow) Q X.xe s4) X.xe s := hf ▸
    HandSPX.setFlight_upZ fl fun h4 held up4 => wpAny_throw (tk _ _ ⟨a, B, sI, pins, σ, H, cls, d, rfl, J, nb, up.trans up4, .inr (.inr (hs ▸ held)), f.new, os, ag, w⟩)
  first
    | exact wpAny_bind (wpAny_pure (wpAny_bind go))
    | exact wpAny_bind go
/-- is it the clause's? -/
theorem Fell.asks {x : Str} {np : Pos} {c : Value} {b : Bool} {E : Value → Shared → Prop} {R : Bool → Shared → Prop} {F : Value → Shared → Prop} (f : Fell X pins σ H a cls d s) (hs : X.stack = X.env :: X.outer) (hf : X.env.frame = some X.env.locals) (hc : Names X x c) (hb : PySem.W.exmOne X.K cls c = some b)
    (h : R b s) : wpAny (model X.prog X.w) (X.A.mark (some (.ref a))) (eval (.Name x np) X.env) (fun c s1 => wpAny (model X.prog X.w) (X.A.mark (some (.ref a))) (excMatches (.ref a) c) (fun b s2 => R b s2) F s1) E s := by
  obtain ⟨oe, vs, e1, e2, e3, n1, n2⟩ := f.obj hs hf
  have S := f.inv.suite e1 e3 f.new n1 n2
  have L : PySem.W.Looks (model X.prog X.w) s.heap (typeOf (.ref a)) cls := fun A Q E s k q => wpAny_typeOf_ref (k _ _ e1) (e2.1 ▸ q)
  have M := PySem.W.exm_one (M := model X.prog X.w) f.inv.kIn L hb
  obtain ⟨hg, hd, hm | ⟨hm, hv, hn⟩⟩ := hc
  · exact ld_glob (X := X.suite a ((a, oe) :: (X.pn ++ pins))) S hg hm (M.here h) hd
  · exact ld_blt (X := X.suite a ((a, oe) :: (X.pn ++ pins))) S hg hm hv (M.here h) hn hd
end
/-- one clause: its class, its name's slot if it has one, its suite -/
structure Cl where
  c : Value
  i : Option Nat
  ts : Addr → Value → Option Addr → TS
/-- behind a suite the name's slot is empty -/
def endI (D : Ends) : Option Nat → Ends
  | none => D
  | some i => { nx := fun σ H => D.nx (σ.set i none) H, rt := D.rt, bk := fun σ H => D.bk (σ.set i none) H, ct := fun σ H => D.ct (σ.set i none) H }
def putI (a : Addr) (σ : L2.St) : Option Nat → L2.St
  | none => σ
  | some i => σ.set i (some (.ref a))
def wCl (K : PySem.W.Frag) (Wout : WX) (D : Ends) : List Cl → WX
  | [] => Wout
  | k :: r => fun cls d σ H => ∃ b, PySem.W.exmOne K cls k.c = some b ∧ (b = true → ∀ a, H a = none → k.ts a cls d (endI D k.i) (putI a σ k.i) H) ∧ (b = false → wCl K Wout D r cls d σ H)
/-- the clause's name -/
def Nm (X : Cx) : Option Str → Option Nat → Prop
  | none, none => True
  | some n, some i => X.N.Nodup ∧ X.N[i]? = some n ∧ X.env.kindOf n = some .local
  | _, _ => False
inductive Cls' (X : Cx) : List ExceptHandler → List Cl → Prop
  | nil : Cls' X [] []
  | cons {x : Str} {n : Option Str} {i : Option Nat} {c : Value} {ts : Addr → Value → Option Addr → TS} {b₀ : Stmt} {suite : List Stmt} {np pos' : Pos} {hds : List ExceptHandler} {l : List Cl} (hn : Nm X n i) (hc : Names X x c)
      (hsu : ∀ a oe cls d pn, Zc cls d oe → (∃ vs, oe.data = .fields vs) → PSs (X.suite a ((a, oe) :: pn)) (b₀ :: suite) (ts a cls d)) (r : Cls' X hds l) : Cls' X (.ExceptHandler (some (.Name x np)) n (b₀ :: suite) pos' :: hds) (⟨c, i, ts⟩ :: l)
section
variable {X : Cx} {pins : List (Addr × Obj)} {σ : L2.St} {H : Hp} {a : Addr} {cls : Value} {d : Option Addr} {s : Shared} {D : Ends} {W : WX}
/-- a suite without a name runs to its ends -/
theorem Fell.suite0 {b₀ : Stmt} {suite : List Stmt} {pos' : Pos} {t : TS} {E : Value → Shared → Prop} (f : Fell X pins σ H a cls d s) (hs : X.stack = X.env :: X.outer) (hf : X.env.frame = some X.env.locals)
    (hsu : ∀ oe pn, Zc cls d oe → (∃ vs, oe.data = .fields vs) → PSs (X.suite a ((a, oe) :: pn)) (b₀ :: suite) t) (q : t D σ H) :
    codeAny (model X.prog X.w) (X.A.mark (some (.ref a))) (.handlers (.ref a) [.ExceptHandler none none (b₀ :: suite) pos'] X.env) (fun r s2 => match r with | .ok g => SP X pins D g s2 | .error x => E x s2) s := by
  have ok := f.inv.ok
  refine codeAny_handlers_suite ?_
  obtain ⟨B, sI, J, nb, up, fl, os, ag⟩ := id f.air
  refine HandSPX.lands_againZ fl fun h4 fl4 up4 => ?_
  have f4 : Fell X pins σ H a cls d { s with heap := h4 } := .start J nb up f.new os ag fl4 up4
  obtain ⟨oe, vs, e1, e2, e3, n1, n2⟩ := f4.obj hs hf
  refine wpAny_mono ((hsu oe (X.pn ++ pins) e2 ⟨_, e3⟩).run [] _ σ H D (f4.inv.suite e1 e3 f.new n1 n2) q) (fun g s6 h => ?_) fun _ _ z => z.elim
  cases g with
  | ret u => obtain ⟨v, σ6, H6, S6, r6, q6⟩ := h; exact ⟨v, σ6, H6, S6.unsuite ok, r6, q6⟩
  | _ => obtain ⟨σ6, H6, S6, q6⟩ := h; exact ⟨σ6, H6, S6.unsuite ok, q6⟩
/-- one with a name -/
theorem Fell.suite1 {n : Str} {i : Nat} {b₀ : Stmt} {suite : List Stmt} {pos' : Pos} {t : TS} {E F : Value → Shared → Prop} (f : Fell X pins σ H a cls d s) (hs : X.stack = X.env :: X.outer) (hf : X.env.frame = some X.env.locals) (hN : X.N.Nodup) (hi : X.N[i]? = some n) (hl : X.env.kindOf n = some .local)
    (hsu : ∀ oe pn, Zc cls d oe → (∃ vs, oe.data = .fields vs) → PSs (X.suite a ((a, oe) :: pn)) (b₀ :: suite) t) (q : t (endI D (some i)) (σ.set i (some (.ref a))) H) :
    codeAny (model X.prog X.w) (X.A.mark (some (.ref a))) (.handlers (.ref a) [.ExceptHandler none (some n) (b₀ :: suite) pos'] X.env)
      (fun r s2 => match r with | .ok g => wpAny (model X.prog X.w) X.A (do bindName X.env n .none; unbindBehindTheSuite X.env n pos') (fun _ s3 => SP X pins D g s3) F s2 | .error x => E x s2) s := by
  have ok := f.inv.ok
  refine codeAny_handlers_suite_as ?_
  obtain ⟨B, sI, J, nb, up, fl, os, ag⟩ := id f.air
  refine HandSPX.lands_againZ fl fun h4 fl4 up4 => ?_
  have f4 : Fell X pins σ H a cls d { s with heap := h4 } := .start J nb up f.new os ag fl4 up4
  obtain ⟨oe, vs, e1, e2, e3, n1, n2⟩ := f4.obj hs hf
  refine store_ok (X := X.suite a ((a, oe) :: (X.pn ++ pins))) (v := .ref a) (f4.inv.suite e1 e3 f.new n1 n2) hN hi (.inl hl) rfl (fun s5 S5 => ?_) (.inr hl)
  refine wpAny_mono ((hsu oe (X.pn ++ pins) e2 ⟨_, e3⟩).run [] s5 _ H _ S5 q) (fun g s6 h => ?_) fun _ _ z => z.elim
  cases g with
  | ret u => obtain ⟨v, σ6, H6, S6, r6, q6⟩ := h; exact gone_ok (S6.unsuite ok) hN hi hl fun s7 J7 => ⟨v, _, _, J7, r6, q6⟩
  | _ => obtain ⟨σ6, H6, S6, q6⟩ := h; exact gone_ok (S6.unsuite ok) hN hi hl fun s7 J7 => ⟨_, _, J7, q6⟩
/-- from clause to clause -/
theorem Fell.all {hds : List ExceptHandler} {l : List Cl} (hh : Cls' X hds l) (hs : X.stack = X.env :: X.outer) (hf : X.env.frame = some X.env.locals) (tk : Takes X W) (f : Fell X pins σ H a cls d s) (w : wCl X.K W D l cls d σ H) :
    wpAny (model X.prog X.w) X.A (handleBy (.ref a) X.env hds) (SP X pins D) X.xe s := by
  induction hh with
  | nil => exact f.out hs hf tk w
  | @cons x n i c ts b₀ suite np pos' hds l hn hc hsu r ih =>
    obtain ⟨b, hb, yes, no⟩ := w
    refine wpAny_handleBy_cons (codeAny_handlers_test (f.asks (R := fun b s2 => _) hs hf hc hb ?_)) (by intro q; cases q)
    cases b with
    | false => exact ih (no rfl)
    | true =>
      have q := yes rfl a f.new
      match n, i, hn with
      | none, none, _ => exact f.suite0 hs hf (fun oe pn z k => hsu a oe cls d pn z k) q
      | some n, some i, ⟨h1, h2, h3⟩ => exact f.suite1 hs hf h1 h2 h3 (fun oe pn z k => hsu a oe cls d pn z k) q
end
section
variable {X : Cx} {body : List Stmt} {h₀ : ExceptHandler} {hds : List ExceptHandler} {l : List Cl} {pos : Pos} {tb : WX → List (Addr × Obj) → (Value → Shared → Prop) → TS} {Wout : WX}
theorem ps_tryC (hs : X.stack = X.env :: X.outer) (hf : X.env.frame = some X.env.locals) (tk : Takes X Wout)
    (hb : ∀ W pn xe, Takes (X.tr pn xe) W → PassesOwn (model X.prog X.w) X.A X.env xe → PSs (X.tr pn xe) body (tb W pn xe)) (hh : Cls' X (h₀ :: hds) l) (i1 : ∀ W pn xe, tb W pn xe = tb W [] x00 := by intros; rfl) :
    PS X (.Try body (h₀ :: hds) [] [] pos) (fun D σ H => tb (wCl X.K Wout D l) [] x00 D σ H) := by
  refine ⟨fun pins s σ H D I h => ?_⟩
  have ok := I.ok
  have fr : X.A.frames = some (X.env :: X.outer) := ok.frames.trans (hs ▸ rfl)
  rw [← i1 _ (X.pn ++ pins) (fun e s1 => wpAny (model X.prog X.w) X.A (noteFrame e X.env) (fun _ s2 => wpAny (model X.prog X.w) X.A (setFlight e none) (fun _ s3 => wpAny (model X.prog X.w) X.A (handleBy e X.env (h₀ :: hds)) (SP X pins D) X.xe s3) X.xe s2) X.xe s1)] at h
  refine wpAny_Try_except (wpAny_mono ((hb _ _ _ (fun u s' x => ?_) PassesOwn.looking).run [] s σ H D (I.toTry _) h) (fun f s1 e => ?_) fun _ _ e => e)
  · obtain ⟨a, B, sI, pins', σ', H', cls, d, rfl, J, nb, up, sky, na, os, ag, w⟩ := x
    exact Sky.land Zc.steady fr hf (show Sky B (X.env :: X.outer) a (Zc cls d) X.env.locals s'.heap from hs ▸ sky) fun h3 fl up3 => Fell.all hh hs hf tk (.start (J.ofTry ok) nb up na os ag fl up3) w
  · cases f with
    | next => obtain ⟨σ', H', J, q⟩ := e; exact wpAny_execs_nil ⟨σ', H', J.ofTry ok, q⟩
    | ret u => obtain ⟨v, σ', H', J, r, q⟩ := e; exact ⟨v, σ', H', J.ofTry ok, r, q⟩
    | _ => obtain ⟨σ', H', J, q⟩ := e; exact ⟨σ', H', J.ofTry ok, q⟩
theorem cl_one {x : Str} {c : Value} {ts : Addr → Obj → Value → Option Addr → List (Addr × Obj) → TS} {b₀ : Stmt} {suite : List Stmt} {np pos' : Pos} (hc : Names X x c)
    (hsu : ∀ a oe cls d pn, Zc cls d oe → (∃ vs, oe.data = .fields vs) → PSs (X.suite a ((a, oe) :: pn)) (b₀ :: suite) (ts a oe cls d pn)) (r : Cls' X hds l)
    (hj : ∀ a oe cls d pn, ts a oe cls d pn = ts a o00 cls d [] := by intros; rfl) : Cls' X (.ExceptHandler (some (.Name x np)) none (b₀ :: suite) pos' :: hds) (⟨c, none, fun a cls d => ts a o00 cls d []⟩ :: l) :=
  .cons trivial hc (fun a oe cls d pn z f => hj a oe cls d pn ▸ hsu a oe cls d pn z f) r
theorem cl_as {x n : Str} {i : Nat} {c : Value} {ts : Addr → Obj → Value → Option Addr → List (Addr × Obj) → TS} {b₀ : Stmt} {suite : List Stmt} {np pos' : Pos} (hN : X.N.Nodup) (hi : X.N[i]? = some n) (hln : X.env.kindOf n = some .local) (hc : Names X x c)
    (hsu : ∀ a oe cls d pn, Zc cls d oe → (∃ vs, oe.data = .fields vs) → PSs (X.suite a ((a, oe) :: pn)) (b₀ :: suite) (ts a oe cls d pn)) (r : Cls' X hds l)
    (hj : ∀ a oe cls d pn, ts a oe cls d pn = ts a o00 cls d [] := by intros; rfl) : Cls' X (.ExceptHandler (some (.Name x np)) (some n) (b₀ :: suite) pos' :: hds) (⟨c, some i, fun a cls d => ts a o00 cls d []⟩ :: l) :=
  .cons ⟨hN, hi, hln⟩ hc (fun a oe cls d pn z f => hj a oe cls d pn ▸ hsu a oe cls d pn z f) r
end
/-- isinstance(e, c), e what the suite holds, of the class D -/
theorem call_isEx {X : Cx} {a : Addr} {oe : Obj} {cls : Value} {d : Option Addr} {pn : List (Addr × Obj)} (hz : Zc cls d oe) (hf : ∃ vs, oe.data = .fields vs) :
    CallR (X.suite a ((a, oe) :: pn)) (.builtin "isinstance") (fun xs H Q => ∃ D, cls = .ref D ∧ d = none ∧ ExcC X.K D ∧ rIsE X.K D a xs H Q) := by
  intro pins s σ H xs us Q I r h
  obtain ⟨D, rfl, rfl, C, h⟩ := h
  exact call_isE C hz hf pins s σ H xs us Q I r h
end Mus

set_option maxRecDepth 100000
set_option maxHeartbeats 4000000
namespace Mus
open PySem L2 TL PySem.NumText
local macro_rules | `(tactic| walk_at "rd") => `(tactic| first
  | refine ⟨_, rfl, ?_⟩ | refine ⟨(True.intro : True), ?_⟩
  | refine ⟨_, _, rfl, rfl, (⟨by decide, by decide, by decide⟩ : CPow _ _), ?_⟩
  | refine ⟨_, _, rfl, rfl, (⟨by decide, by decide⟩ : CDiv _ _), ?_⟩
  | refine ⟨_, _, rfl, rfl, (by show (0 : Int) < _; decide), ?_⟩
  | refine ⟨_, _, rfl, rfl, ?_⟩ | refine ⟨rfl, ?_⟩ | refine iteT ?_ | refine iteF ?_ | refine ⟨_, _, rfl, ?_⟩ | refine .inl ⟨_, rfl, ?_⟩
  | refine ⟨_, _, _, _, _, rfl, (by assumption), (by assumption), (by assumption), rfl, ?_⟩ | refine ⟨_, _, _, _, rfl, rfl, SqT.of (by assumption), rfl, ?_⟩ | refine ⟨_, _, rfl, SqT.of (by assumption), rfl, ?_⟩
  | refine ⟨_, _, _, _, _, rfl, .ty _, Rp.ty (by assumption), kit_int _, ?_⟩ | refine ⟨_, _, _, _, _, rfl, .ty _, Rp.ty (by assumption), kit_bool _, ?_⟩
  | refine ⟨_, _, _, _, _, rfl, .ty _, Rp.ty (by assumption), kit_str _, ?_⟩ | refine ⟨_, _, _, _, _, rfl, .ty _, Rp.ty (by assumption), kit_tup _, ?_⟩)
local macro_rules | `(tactic| walk_at "cal") => `(tactic| first
  | refine ⟨_, _, _, _, _, rfl, (by assumption), ?_⟩ | refine ⟨_, _, _, _, _, rfl, (by assumption), (by assumption), ?_⟩)
local macro_rules | `(tactic| walk_at "sq") => `(tactic| first
  | refine ⟨_, _, rfl, Or.inr (SqT.of (by assumption)), ?_⟩ | refine ⟨_, _, _, _, rfl, rfl, SqT.of (by assumption), rfl, ?_⟩)
local macro_rules | `(tactic| walk_at "rds") => `(tactic| repeat first | walk_at "rd" | walk_at "cal" | walk_at "sq")
local macro_rules | `(tactic| walk_at "ze") => `(tactic| repeat first
  | exact zes_nil | exact ze_bl | exact ze_str | exact ze_non | apply zes_cons | apply ze_tup | apply ze_lst | apply ze_cat | exact di_c | exact di_v rfl | apply di_opC | apply di_op | apply di_neg | apply ze_i | (refine (⟨?_, ?_, ?_⟩ : CPow _ _) <;> decide) | exact Nat.le_of_ble_eq_true rfl | exact ze_varD rfl (by assumption))
local macro_rules | `(tactic| walk_at "rdz") => `(tactic| repeat (fail_if_success (first | show tLst _ _ _ _ | show tAsg (tLst _) _ _ _ _ | show tSeq (tAsg (tLst _) _) _ _ _ _)); first | walk_at "rd" | walk_at "cal" | walk_at "sq")
structure Tl (K : PySem.W.Frag) (mg : Str → Option Value) (CL CM : Addr) : Prop extends Tx mg where
  g_BadLetter : mg "BadLetter" = some (.ref CL)
  x_BadLetter : PySem.W.excIn K CL [.type "ValueError", .type "Exception", .type "BaseException", .type "object"] "ValueError.__new__" = true
  k_BadLetter : PySem.W.keepIn K (.ref CL) = true
  b_BadLetter : PySem.W.subIn K (.ref CL) (.type "BaseException") = some true
  t_BadLetter : PySem.W.typeIn K (.ref CL) = some (.type "type")
  g_MusterError : mg "MusterError" = some (.ref CM)
  m_LM : PySem.W.exmOne K (.ref CL) (.ref CM) = some true
  e_LL : ExcC K CL
  u_LL : PySem.W.kitOne K (.ref CL) (.ref CL) = some true
def sndr : PyData → Int
  | .tuple (_ :: .tuple (.int i :: _) :: _) => i
  | _ => 0
def chkL (c e d : PyData) : Bool := isLet c d && (isProc c e && !PyData.eqv (.int (sndr d)) e)
theorem isLet_form {c d : PyData} (h : isLet c d = true) : ∃ z i l r, d = .tuple (.str z :: .tuple [.int i, .int l] :: r) := by
  unfold isLet at h
  split at h
  · rename_i z m i r
    rw [Bool.and_eq_true, Bool.and_eq_true, Bool.and_eq_true] at h
    obtain ⟨_, i0, l0, _, rfl, _⟩ := isMem_int h.1.1.2
    exact ⟨z, i0, l0, _, rfl⟩
  · cases h
def sp_chk (CL : Addr) : Sp := fun vs H Q E => ∃ (p : Addr) (u x v : V) (c e d : PyData), vs = [u, x, v] ∧ Rp p H u c ∧ Rp p H x e ∧ Rp p H v d ∧ Her Ok d ∧ (chkL c e d = true → ∀ H', Same H H' → Q v H') ∧ (chkL c e d = false → ∀ H', Same H H' → E (.ref CL) none H')
section
variable {P : Program} {w : World} {K : PySem.W.Frag} {mg : Str → Option Value} {base : Heap} {CL CM : Addr}
abbrev s_check_letter : Stmt := top 40
abbrev N_check_letter : List Str := ["count", "receiver", "letter"]
abbrev P_check_letter : List Str := ["count", "receiver", "letter"]
theorem sc_check_letter : FnScope N_check_letter P_check_letter (defScope s_check_letter) := ⟨rfl, rfl, rfl, by decide +kernel, rfl, by decide +kernel, by decide +kernel⟩
theorem ok_check_letter {f : Addr} {fd : FuncData} (T : Tl K mg CL CM) (c_is_letter : DefOk P w K mg base CX0 "is_letter" P_is_letter 9 (spHS2 isLet)) (c_is_process : DefOk P w K mg base CX0 "is_process" P_is_process 2 (spB2 isProc)) (F : Fun K "check_letter" "check_letter" s_check_letter f fd) : FnOk P w K mg base (L2.CX P w) 10 f fd P_check_letter (sp_chk CL) := by
  have nd := sc_check_letter.nd
  refine F.okX sc_check_letter (fun vs H Q E h => ?_) (fun cdv A outer s H vs Q E hr h => ?_)
  · obtain ⟨_, _, _, _, _, _, _, rfl, _⟩ := h
    rfl
  · obtain ⟨p, u, x, v, c, e, d, rfl, hc, he, hd, hh, q1, q2⟩ := h
    have hs := sl
    refine ⟨_, (pss_cons (ps_if (PW.pt (pw_or (pt_not (pt_val (pcall c_is_letter hr (pa_cons (pv 0) (pa_cons (pv 2) pa_nil))))) (pw_or1 (pt_not (pt_val (pcall c_is_process hr (pa_cons (pv 0) (pa_cons (pv 1) pa_nil))))))))
        (pss_one (ps_raise rfl (takes_of rfl rfl rfl rfl) (pmk_own0 PySem.F.excBase_ValueError T.x_BadLetter T.g_BadLetter T.k_BadLetter (raises_own T.b_BadLetter T.t_BadLetter))))
        pss_nil)
      (pss_cons (ps_if (pt_cmpR (op_eqD hr.units) (pe_ix ix_tup (pe_ix ix_tup (pv 2) pe_int (fun _ _ => rfl)) pe_int (fun _ _ => rfl)) (pv 1) (nomark _))
        (pss_one (ps_raise rfl (takes_of rfl rfl rfl rfl) (pmk_own0 PySem.F.excBase_ValueError T.x_BadLetter T.g_BadLetter T.k_BadLetter (raises_own T.b_BadLetter T.t_BadLetter))))
        pss_nil)
      (pss_one (ps_ret (pv 2))))), ?_⟩
    refine ⟨_, rfl, _, rfl, p, u, v, c, d, rfl, hc, hd, hh, fun H1 s1 => ?_⟩
    walk_at "rds"
    refine iB (fun h => ?_) (fun h => ?_)
    · have h : isLet c d = false := by simpa using h
      exact q2 (by simp only [chkL]; rw [h]; rfl) H1 s1
    · have h : isLet c d = true := by simpa using h
      walk_at "rds"
      refine ⟨p, u, x, c, e, rfl, hc.same s1, he.same s1, ?_⟩
      walk_at "rds"
      refine iB (fun h2 => ?_) (fun h2 => ?_)
      · have h2 : isProc c e = false := by simpa using h2
        exact q2 (by simp only [chkL]; rw [h, h2]; rfl) H1 s1
      · have h2 : isProc c e = true := by simpa using h2
        obtain ⟨n, j, rfl, rfl, _⟩ := isProc_int h2
        obtain ⟨z, i0, l0, r, rfl⟩ := isLet_form h
        obtain _ | _ | _ | _ | _ | @⟨a, xs, _, ha, np, hw, hr1⟩ := id hd
        obtain _ | @⟨v1, _, _, _, h1, _ | @⟨v2, vs, _, _, h2', hrs⟩⟩ := hr1
        obtain _ | _ | _ | _ | _ | @⟨a2, xs2, _, ha2, np2, hw2, hr2⟩ := h2'
        obtain _ | ⟨hx1, _ | ⟨hx2, hn⟩⟩ := hr2
        cases hn
        cases hx1
        cases hx2
        cases he
        have a0 : ∀ (x : V) (l : List V), atI (x :: l) 0 = some x := fun x l => at_int (by decide) rfl
        have a1 : ∀ (x y : V) (l : List V), atI (x :: y :: l) 1 = some y := fun x y l => at_int (by decide) rfl
        walk_at "rds"
        refine ⟨a, _, _, _, rfl, rfl, SqT.of (s1 _ _ ha), a1 _ _ _, ?_⟩
        walk_at "rds"
        refine ⟨a2, _, _, _, rfl, rfl, SqT.of (s1 _ _ ha2), a0 _ _, ?_⟩
        walk_at "rds"
        refine ⟨.int i0, .int j, .int _, .int _, rfl, rfl, ?_⟩
        have e0 : PyData.eqv (.int i0) (.int j) = decide (i0 = j) := rfl
        rw [e0]
        refine ⟨_, rfl, ?_⟩
        refine iB (fun h3 => ?_) (fun h3 => ?_)
        · have h3 : i0 = j := of_decide_eq_true h3
          subst h3
          refine q2 ?_ H1 s1
          simp only [chkL]; rw [h, h2]; simp [sndr, PyData.eqv]
        · have h3 : ¬ i0 = j := of_decide_eq_false h3
          walk_at "rds"
          refine q1 ?_ H1 s1
          simp only [chkL]; rw [h, h2]; simp [sndr, PyData.eqv, h3]
end
end Mus

set_option maxRecDepth 100000
set_option maxHeartbeats 4000000
namespace Mus
open PySem L2 TL PySem.NumText
local macro_rules | `(tactic| walk_at "rd") => `(tactic| first
  | refine ⟨_, rfl, ?_⟩ | refine ⟨(True.intro : True), ?_⟩
  | refine ⟨_, _, rfl, rfl, (⟨by decide, by decide, by decide⟩ : CPow _ _), ?_⟩
  | refine ⟨_, _, rfl, rfl, (⟨by decide, by decide⟩ : CDiv _ _), ?_⟩
  | refine ⟨_, _, rfl, rfl, (by show (0 : Int) < _; decide), ?_⟩
  | refine ⟨_, _, rfl, rfl, ?_⟩ | refine ⟨rfl, ?_⟩ | refine iteT ?_ | refine iteF ?_ | refine ⟨_, _, rfl, ?_⟩ | refine .inl ⟨_, rfl, ?_⟩
  | refine ⟨_, _, _, _, _, rfl, (by assumption), (by assumption), (by assumption), rfl, ?_⟩ | refine ⟨_, _, _, _, rfl, rfl, SqT.of (by assumption), rfl, ?_⟩ | refine ⟨_, _, rfl, SqT.of (by assumption), rfl, ?_⟩
  | refine ⟨_, _, _, _, _, rfl, .ty _, Rp.ty (by assumption), kit_int _, ?_⟩ | refine ⟨_, _, _, _, _, rfl, .ty _, Rp.ty (by assumption), kit_bool _, ?_⟩
  | refine ⟨_, _, _, _, _, rfl, .ty _, Rp.ty (by assumption), kit_str _, ?_⟩ | refine ⟨_, _, _, _, _, rfl, .ty _, Rp.ty (by assumption), kit_tup _, ?_⟩)
local macro_rules | `(tactic| walk_at "cal") => `(tactic| first
  | refine ⟨_, _, _, _, _, rfl, (by assumption), ?_⟩ | refine ⟨_, _, _, _, _, rfl, (by assumption), (by assumption), ?_⟩)
local macro_rules | `(tactic| walk_at "sq") => `(tactic| first
  | refine ⟨_, _, rfl, Or.inr (SqT.of (by assumption)), ?_⟩ | refine ⟨_, _, _, _, rfl, rfl, SqT.of (by assumption), rfl, ?_⟩)
local macro_rules | `(tactic| walk_at "rds") => `(tactic| repeat first | walk_at "rd" | walk_at "cal" | walk_at "sq")
local macro_rules | `(tactic| walk_at "ze") => `(tactic| repeat first
  | exact zes_nil | exact ze_bl | exact ze_str | exact ze_non | apply zes_cons | apply ze_tup | apply ze_lst | apply ze_cat | exact di_c | exact di_v rfl | apply di_opC | apply di_op | apply di_neg | apply ze_i | (refine (⟨?_, ?_, ?_⟩ : CPow _ _) <;> decide) | exact Nat.le_of_ble_eq_true rfl | exact ze_varD rfl (by assumption))
local macro_rules | `(tactic| walk_at "rdz") => `(tactic| repeat (fail_if_success (first | show tLst _ _ _ _ | show tAsg (tLst _) _ _ _ _ | show tSeq (tAsg (tLst _) _) _ _ _ _)); first | walk_at "rd" | walk_at "cal" | walk_at "sq")
structure Tc (K : PySem.W.Frag) (mg : Str → Option Value) (C CC CE : Addr) : Prop where
  b_len : mg "len" = none
  b_isinstance : mg "isinstance" = none
  b_int : mg "int" = none
  b_bool : mg "bool" = none
  b_str : mg "str" = none
  b_range : mg "range" = none
  b_min : mg "min" = none
  b_max : mg "max" = none
  g_Cells : mg "Cells" = some (.ref C)
  cl_Cells : Cls K C
  n_Cells__texts : NoAttr K C "_texts"
  n_Cells__has_crashed : NoAttr K C "_has_crashed"
  n_Cells__passing : NoAttr K C "_passing"
  n_Cells__keep : NoAttr K C "_keep"
  g_DiskCrashed : mg "DiskCrashed" = some (.ref CC)
  x_DiskCrashed : PySem.W.excIn K CC [.type "ValueError", .type "Exception", .type "BaseException", .type "object"] "ValueError.__new__" = true
  k_DiskCrashed : PySem.W.keepIn K (.ref CC) = true
  b_DiskCrashed : PySem.W.subIn K (.ref CC) (.type "BaseException") = some true
  t_DiskCrashed : PySem.W.typeIn K (.ref CC) = some (.type "type")
  g_DiskError : mg "DiskError" = some (.ref CE)
  x_DiskError : PySem.W.excIn K CE [.type "ValueError", .type "Exception", .type "BaseException", .type "object"] "ValueError.__new__" = true
  k_DiskError : PySem.W.keepIn K (.ref CE) = true
  b_DiskError : PySem.W.subIn K (.ref CE) (.type "BaseException") = some true
  t_DiskError : PySem.W.typeIn K (.ref CE) = some (.type "type")
  m_CC : PySem.W.exmOne K (.ref CC) (.ref CC) = some true
  m_EC : PySem.W.exmOne K (.ref CE) (.ref CC) = some false
  m_EE : PySem.W.exmOne K (.ref CE) (.ref CE) = some true
  c_MOST_NUMBER : ∃ t, mg "MOST_NUMBER" = some (.int 1000000000000 t)
/-! ### the disk -/
def pasV : Option Int → V
  | none => .non
  | some i => .int i
def cf (l : Addr) (dead : Bool) (pas : Option Int) (keep : Int) : List (Str × V) := [("_texts", .ref l), ("_has_crashed", .bl dead), ("_passing", pasV pas), ("_keep", .int keep)]
structure CAt (C : Addr) (H : Hp) (p l : Addr) (ts : Str × Str) (dead : Bool) (pas : Option Int) (keep : Int) : Prop where
  ob : ∃ dx, H p = some (.ins C dx (cf l dead pas keep))
  hl : H l = some (.lst [.str ts.1, .str ts.2])
theorem CAt.same {C : Addr} {H H' : Hp} {p l : Addr} {ts : Str × Str} {dead : Bool} {pas : Option Int} {keep : Int} (c : CAt C H p l ts dead pas keep) (s : Same H H') : CAt C H' p l ts dead pas keep := by
  obtain ⟨⟨dx, h⟩, h2⟩ := c
  exact ⟨⟨dx, s _ _ h⟩, s _ _ h2⟩
theorem CAt.ne {C : Addr} {H : Hp} {p l : Addr} {ts : Str × Str} {dead : Bool} {pas : Option Int} {keep : Int} (c : CAt C H p l ts dead pas keep) : p ≠ l := by
  obtain ⟨⟨dx, h⟩, h2⟩ := c
  exact ne_of h h2 (by intro z; cases z)
def getT (ts : Str × Str) (i : Int) : Str := if i = 0 then ts.1 else ts.2
def setT (ts : Str × Str) (i : Int) (z : Str) : Str × Str := if i = 0 then (z, ts.2) else (ts.1, z)
def torn (new old : Str) (k : Int) : Str := cutS new none (some k) ++ cutS old (some k) none
theorem sIx_pos (n : Nat) {k : Int} (h : 0 ≤ k) (d : Nat) : HT.sIx n d (some k) = min k.toNat n := by
  obtain ⟨m, rfl⟩ := Int.eq_ofNat_of_zero_le h
  rw [HT.sIx_nat, Int.toNat_natCast]
theorem torn_len (a b : Str) {k : Int} (h : 0 ≤ k) {n : Nat} (ha : a.length ≤ n) (hb : b.length ≤ n) : (torn a b k).length ≤ n := by
  unfold torn
  rw [len_tl, tl_append, List.length_append]
  have e1 : (tl (cutS a none (some k))).length = min k.toNat a.length := by
    show ((a.cps.toList.drop 0).take (HT.sIx a.length a.length (some k) - 0)).length = _
    rw [sIx_pos _ h, List.drop_zero, Nat.sub_zero, List.length_take]
    show min _ (tl a).length = _
    rw [← len_tl]; omega
  have e2 : (tl (cutS b (some k) none)).length = b.length - min k.toNat b.length := by
    show ((b.cps.toList.drop (HT.sIx b.length 0 (some k))).take (b.length - HT.sIx b.length 0 (some k))).length = _
    rw [sIx_pos _ h, List.length_take, List.length_drop]
    show min _ ((tl b).length - _) = _
    rw [← len_tl]; omega
  rw [e1, e2]; omega
theorem cut_len' (z : Str) (lo hi : Option Int) : (cutS z lo hi).length ≤ z.length := by
  rw [len_tl, len_tl]
  show ((z.cps.toList.drop _).take _).length ≤ _
  rw [List.length_take, List.length_drop]
  show min _ ((tl z).length - _) ≤ _
  omega
def okC (du dv : PyData) : Bool := isInt du 0 1 && dStr dv
def sp_cinit (C : Addr) : Sp := fun vs H Q _ => ∃ (p dx : Addr), vs = [.ref p] ∧ H p = some (.ins C dx []) ∧
  ∀ l H', H l = none → CAt C H' p l (Str.ofString "", Str.ofString "") false none 0 → (∀ b o, H b = some o → b ≠ p → H' b = some o) → Q .non H'
def sp_check (C CC CE : Addr) : Sp := fun vs H Q E => ∃ (q p l : Addr) (ts : Str × Str) (dead : Bool) (pas : Option Int) (keep : Int) (u v : V) (du dv : PyData), vs = [.ref p, u, v] ∧ CAt C H p l ts dead pas keep ∧ Rp q H u du ∧ Rp q H v dv ∧
  (dead = true → E (.ref CC) none H) ∧ (dead = false → okC du dv = false → E (.ref CE) none H) ∧ (dead = false → okC du dv = true → Q .non H)
def sp_read (C CC CE : Addr) : Sp := fun vs H Q E => ∃ (q p l : Addr) (ts : Str × Str) (dead : Bool) (pas : Option Int) (keep : Int) (u : V) (du : PyData), vs = [.ref p, u] ∧ CAt C H p l ts dead pas keep ∧ Rp q H u du ∧
  (dead = true → E (.ref CC) none H) ∧ (dead = false → isInt du 0 1 = false → E (.ref CE) none H) ∧ (∀ i, du = .int i → 0 ≤ i → i ≤ 1 → dead = false → Q (.str (getT ts i)) H)
def Keeps (p l : Addr) (H H' : Hp) : Prop := ∀ b o, H b = some o → b ≠ p → b ≠ l → H' b = some o
def sp_write (C CC CE : Addr) : Sp := fun vs H Q E => ∃ (q p l : Addr) (ts : Str × Str) (dead : Bool) (pas : Option Int) (keep : Int) (u v : V) (du dv : PyData), vs = [.ref p, u, v] ∧ CAt C H p l ts dead pas keep ∧ Rp q H u du ∧ Rp q H v dv ∧ 0 ≤ keep ∧ ts.1.length ≤ 1000 ∧ ts.2.length ≤ 1000 ∧ (∀ z, dv = .str z → z.length ≤ 1000) ∧
  (dead = true → E (.ref CC) none H) ∧ (dead = false → okC du dv = false → E (.ref CE) none H) ∧
  (∀ i z, du = .int i → dv = .str z → 0 ≤ i → i ≤ 1 → dead = false →
    (pas = some 0 → ∀ H', CAt C H' p l (setT ts i (torn z (getT ts i) keep)) true (some 0) keep → Keeps p l H H' → E (.ref CC) none H') ∧
    (pas ≠ some 0 → ∀ H', CAt C H' p l (setT ts i z) false (pas.map (· - 1)) keep → Keeps p l H H' → Q .non H'))
def sp_arm (C : Addr) : Sp := fun vs H Q _ => ∃ (p l : Addr) (ts : Str × Str) (dead : Bool) (pas : Option Int) (keep n k : Int), vs = [.ref p, .int n, .int k] ∧ CAt C H p l ts dead pas keep ∧ ∀ H', CAt C H' p l ts dead (some n) k → Keeps p l H H' → Q .non H'
def sp_crash (C : Addr) : Sp := fun vs H Q _ => ∃ (p l : Addr) (ts : Str × Str) (dead : Bool) (pas : Option Int) (keep : Int), vs = [.ref p] ∧ CAt C H p l ts dead pas keep ∧ ∀ H', CAt C H' p l ts false none keep → Keeps p l H H' → Q .non H'
theorem log_small {i : Int} (h : i.natAbs < 2 ^ 1000) : i.natAbs.log2 < 1920 := Nat.lt_of_lt_of_le (PySem.Flt.log2_lt_of (by omega) h) (by omega)
theorem tl_nat {i : Int} (h : 0 ≤ i) : tl (Str.ofString (toString i)) = numL i.toNat := by
  obtain ⟨n, rfl⟩ := Int.eq_ofNat_of_zero_le h
  exact tl_num n
def sp_life_text : Sp := fun vs H Q _ => ∃ i : Int, vs = [.int i] ∧ 0 ≤ i ∧ i < 100000000000000000000 ∧ ∀ y : Str, tl y = lifeT i.toNat → Q (.str y) H
def sp_digits : Sp := fun vs H Q _ => ∃ z : Str, vs = [.str z] ∧ Q (.bl (allD (tl z) && !(tl z).isEmpty)) H
def sp_life_of : Sp := fun vs H Q _ => ∃ z : Str, vs = [.str z] ∧ (tl z).length ≤ 1000 ∧ ∀ H', Same H H' → Q (.int (lifeF (tl z) : Nat)) H'
theorem dec_ascii : ∀ c, c < 128 → Unicode.isDecimal c = (decide (48 ≤ c) && decide (c ≤ 57)) := by decide +kernel
theorem big_dec {c : Nat} (h : ¬ c < 128) : (decide (48 ≤ c) && decide (c ≤ 57)) = false := by
  rw [decide_eq_false (show ¬ c ≤ 57 by omega), Bool.and_false]
theorem ascii_dec (z : Str) : (Txt.isascii z && Txt.isdecimal z) = (allD (tl z) && !(tl z).isEmpty) := by
  unfold Txt.isascii Txt.isdecimal allD
  have e1 : z.cps.all (fun x => decide (x < 128)) = (tl z).all (fun x => decide (x < 128)) := by unfold tl; rw [Array.all_toList]
  have e2 : z.cps.all Unicode.isDecimal = (tl z).all Unicode.isDecimal := by unfold tl; rw [Array.all_toList]
  have e3 : decide (z.length > 0) = !(tl z).isEmpty := by
    rw [len_tl]
    cases tl z with
    | nil => rfl
    | cons a r => simp
  rw [e1, e2, e3]
  generalize tl z = l
  have e4 : ∀ l : List Nat, (l.all (fun x => decide (x < 128)) && l.all Unicode.isDecimal) = l.all fun c => decide (48 ≤ c) && decide (c ≤ 57) := by
    intro l
    induction l with
    | nil => rfl
    | cons c r ih =>
      rw [List.all_cons, List.all_cons, List.all_cons, ← ih]
      by_cases hc : c < 128
      · rw [dec_ascii c hc, decide_eq_true hc, Bool.true_and]
        cases (decide (48 ≤ c) && decide (c ≤ 57)) <;> cases r.all (fun x => decide (x < 128)) <;> rfl
      · rw [big_dec hc, decide_eq_false hc]; simp
  rw [← e4]
  cases l.all (fun x => decide (x < 128)) <;> cases l.all Unicode.isDecimal <;> cases (!l.isEmpty) <;> rfl
theorem part_take (z y : Str) (hy : tl y = [61]) : tl (Txt.partition z y).1 = (tl z).takeWhile fun c => decide (c ≠ 61) := by
  by_cases h : 61 ∈ tl z
  · obtain ⟨a, b, e, ha⟩ : ∃ a b, tl z = a ++ 61 :: b ∧ 61 ∉ a := by
      generalize tl z = l at h
      clear z y hy
      induction l with
      | nil => exact absurd h List.not_mem_nil
      | cons c r ih =>
        by_cases hc : c = 61
        · exact ⟨[], r, by rw [hc]; rfl, List.not_mem_nil⟩
        · have hr : 61 ∈ r := by
            rcases List.mem_cons.mp h with h | h
            · exact absurd h.symm hc
            · exact h
          obtain ⟨a, b, e, ha⟩ := ih hr
          refine ⟨c :: a, b, by rw [e]; rfl, fun m => ?_⟩
          rcases List.mem_cons.mp m with m | m
          · exact hc m.symm
          · exact ha m
    have ez : z = (⟨a.toArray⟩ : Str) ++ y ++ (⟨b.toArray⟩ : Str) := ext_tl (by show tl z = tl _; rw [tl_append, tl_append, hy, tl_mk a, tl_mk b, e, List.append_assoc]; rfl)
    rw [ez, partition_app (s := 61) (S := []) hy (by rw [tl_mk a]; exact ha)]
    show tl _ = _
    rw [tl_append, tl_append, hy, tl_mk a, tl_mk b, List.append_assoc]
    exact (take_free ha).symm
  · rw [partition_none (s := 61) (S := []) hy h]
    show tl z = _
    generalize tl z = l at h
    clear z y hy
    induction l with
    | nil => rfl
    | cons c r ih =>
      have hc : c ≠ 61 := fun e => h (by rw [e]; exact List.mem_cons_self)
      rw [List.takeWhile_cons, decide_eq_true hc, if_pos rfl, ← ih fun m => h (List.mem_cons_of_mem _ m)]
section
variable {P : Program} {w : World} {K : PySem.W.Frag} {mg : Str → Option Value} {base : Heap} {C CC CE : Addr}
abbrev s_Cells___init__ : Stmt := inClass (top 59) 0
abbrev N_Cells___init__ : List Str := ["self"]
abbrev P_Cells___init__ : List Str := ["self"]
theorem sc_Cells___init__ : FnScope N_Cells___init__ P_Cells___init__ (defScope s_Cells___init__) := ⟨rfl, rfl, rfl, by decide +kernel, rfl, by decide +kernel, by decide +kernel⟩
theorem ok_cinit {f : Addr} {fd : FuncData} (T : Tc K mg C CC CE) (F : Fun K "__init__" "Cells.__init__" s_Cells___init__ f fd) : FnOk P w K mg base CX0 1 f fd P_Cells___init__ (sp_cinit C) := by
  have nd := sc_Cells___init__.nd
  refine F.ok sc_Cells___init__ (fun vs H Q E h => ?_) (fun cdv A outer s H vs Q E hr h => ?_)
  · obtain ⟨_, _, rfl, _⟩ := h
    rfl
  · obtain ⟨p, dx, rfl, hp, q⟩ := h
    have hs := sl
    refine ⟨_, (pss_cons (ps_fld (pv 0) (pe_lst (pa_cons pe_str (pa_cons pe_str pa_nil))) rfl)
      (pss_cons (ps_fld (pv 0) pe_bl rfl)
      (pss_cons (ps_fld (pv 0) pe_non rfl)
      (pss_one (ps_fld (pv 0) pe_int rfl))))), ?_⟩
    refine ⟨by show 2 ≤ sizeLine; omega, fun l nl => ?_⟩
    have pl := ne_of_none hp nl
    refine ⟨_, rfl, p, C, dx, [], rfl, (by rw [upd_ne pl]; exact hp), T.cl_Cells, T.n_Cells__texts, (by decide), ?_⟩
    refine ⟨_, rfl, p, C, dx, _, rfl, upd_same, T.cl_Cells, T.n_Cells__has_crashed, (by show 1 < 1000; decide), ?_⟩
    refine ⟨_, rfl, p, C, dx, _, rfl, upd_same, T.cl_Cells, T.n_Cells__passing, (by show 2 < 1000; decide), ?_⟩
    refine ⟨_, rfl, p, C, dx, _, rfl, upd_same, T.cl_Cells, T.n_Cells__keep, (by show 3 < 1000; decide), ?_⟩
    refine q l _ nl ⟨⟨dx, upd_same⟩, ?_⟩ fun b o h n => ?_
    · rw [upd_ne pl.symm, upd_ne pl.symm, upd_ne pl.symm, upd_ne pl.symm]; exact upd_same
    · rw [upd_ne n, upd_ne n, upd_ne n, upd_ne n, upd_ne (ne_of_none h nl)]; exact h
abbrev s_Cells__check : Stmt := inClass (top 59) 5
abbrev N_Cells__check : List Str := ["self", "cell", "text"]
abbrev P_Cells__check : List Str := ["self", "cell", "text"]
theorem sc_Cells__check : FnScope N_Cells__check P_Cells__check (defScope s_Cells__check) := ⟨rfl, rfl, rfl, by decide +kernel, rfl, by decide +kernel, by decide +kernel⟩
theorem ok_check {f : Addr} {fd : FuncData} (T : Tc K mg C CC CE) (c_is_integer : DefOk P w K mg base CX0 "is_integer" P_is_integer 1 spI) (F : Fun K "_check" "Cells._check" s_Cells__check f fd) : FnOk P w K mg base (L2.CX P w) 2 f fd P_Cells__check (sp_check C CC CE) := by
  have nd := sc_Cells__check.nd
  refine F.okX sc_Cells__check (fun vs H Q E h => ?_) (fun cdv A outer s H vs Q E hr h => ?_)
  · obtain ⟨_, _, _, _, _, _, _, _, _, _, _, rfl, _⟩ := h
    rfl
  · obtain ⟨q0, p, l, ts, dead, pas, keep, u, v, du, dv, rfl, hc, hu, hv, q1, q2, q3⟩ := h
    obtain ⟨⟨dx, ho⟩, hl⟩ := id hc
    have c1 := T.cl_Cells
    have n1 := T.n_Cells__has_crashed
    refine ⟨_, (pss_cons (ps_if (pt_val (pe_fld (pv 0) (by rfl)))
        (pss_one (ps_raise rfl (takes_of rfl rfl rfl rfl) (pmk_own0 PySem.F.excBase_ValueError T.x_DiskCrashed T.g_DiskCrashed T.k_DiskCrashed (raises_own T.b_DiskCrashed T.t_DiskCrashed))))
        pss_nil)
      (pss_one (ps_if (PW.pt (pw_or (pt_not (pt_val (pcall c_is_integer hr (pa_cons (pv 1) (pa_cons pe_int (pa_cons pe_int pa_nil)))))) (pw_or1 (pt_not (pt_val (pe_callB call_isi (by rfl) T.b_isinstance (by decide +kernel) (pa_cons (pv 2) (pa_cons (pe_ty "str" T.b_str) pa_nil))))))))
        (pss_one (ps_raise rfl (takes_of rfl rfl rfl rfl) (pmk_own0 PySem.F.excBase_ValueError T.x_DiskError T.g_DiskError T.k_DiskError (raises_own T.b_DiskError T.t_DiskError))))
        pss_nil))), ?_⟩
    walk_at "rds"
    refine iB (fun h => ?_) (fun h => ?_)
    · exact q1 h
    · have q2 := q2 h
      have q3 := q3 h
      walk_at "rds"
      refine iB (fun h2 => ?_) (fun h2 => ?_)
      · refine q2 ?_
        unfold okC
        cases e : isInt du 0 1 with
        | false => rfl
        | true => rw [e] at h2; cases h2
      · have e1 : isInt du 0 1 = true := by
          cases e : isInt du 0 1 with
          | true => rfl
          | false => rw [e] at h2; cases h2
        walk_at "rds"
        refine iB (fun h3 => ?_) (fun h3 => ?_)
        · refine q2 ?_
          unfold okC
          cases e : dStr dv with
          | false => rw [Bool.and_false]
          | true => rw [e] at h3; cases h3
        · refine q3 ?_
          unfold okC
          rw [e1]
          cases e : dStr dv with
          | true => rfl
          | false => rw [e] at h3; cases h3
abbrev s_Cells_read : Stmt := inClass (top 59) 1
abbrev N_Cells_read : List Str := ["self", "cell"]
abbrev P_Cells_read : List Str := ["self", "cell"]
theorem sc_Cells_read : FnScope N_Cells_read P_Cells_read (defScope s_Cells_read) := ⟨rfl, rfl, rfl, by decide +kernel, rfl, by decide +kernel, by decide +kernel⟩
theorem ok_read {f : Addr} {fd : FuncData} (T : Tc K mg C CC CE) (m_Cells__check : MethOk P w K mg base (L2.CX P w) C "_check" P_Cells__check 2 (sp_check C CC CE)) (F : Fun K "read" "Cells.read" s_Cells_read f fd) : FnOk P w K mg base (L2.CX P w) 3 f fd P_Cells_read (sp_read C CC CE) := by
  have nd := sc_Cells_read.nd
  refine F.okX sc_Cells_read (fun vs H Q E h => ?_) (fun cdv A outer s H vs Q E hr h => ?_)
  · obtain ⟨_, _, _, _, _, _, _, _, _, rfl, _⟩ := h
    rfl
  · obtain ⟨q0, p, l, ts, dead, pas, keep, u, du, rfl, hc, hu, q1, q2, q3⟩ := h
    obtain ⟨⟨dx, ho⟩, hl⟩ := id hc
    have c1 := T.cl_Cells
    have n1 := T.n_Cells__texts
    refine ⟨_, (pss_cons (ps_expr (pmethE m_Cells__check T.cl_Cells (takes_of rfl rfl rfl rfl) (fun _ _ _ _ h => h) (pv 0) hr (pa_cons (pv 1) (pa_cons pe_str pa_nil))))
      (pss_one (ps_ret (pe_ix ix_list (pe_fld (pv 0) (by rfl)) (pv 1) (fun _ _ => rfl))))), ?_⟩
    walk_at "rds"
    refine ⟨p, dx, _, rfl, ho, rfl, ?_⟩
    walk_at "rds"
    refine ⟨q0, p, l, ts, dead, pas, keep, u, _, du, _, rfl, hc, hu, .str _, q1, fun hd hk => ?_, fun hd hk => ?_⟩
    · refine q2 hd ?_
      unfold okC at hk
      rw [show dStr (.str (Str.ofString "")) = true from rfl, Bool.and_true] at hk
      exact hk
    · unfold okC at hk
      rw [show dStr (.str (Str.ofString "")) = true from rfl, Bool.and_true] at hk
      obtain ⟨i, rfl, i0, i1⟩ := isInt_int hk
      cases hu
      walk_at "rds"
      have hi : i = 0 ∨ i = 1 := by omega
      rcases hi with rfl | rfl
      · exact ⟨l, _, _, _, rfl, rfl, SqL.of hl, rfl, q3 0 rfl (by decide) (by decide) hd⟩
      · exact ⟨l, _, _, _, rfl, rfl, SqL.of hl, rfl, q3 1 rfl (by decide) (by decide) hd⟩
abbrev s_Cells_arm : Stmt := inClass (top 59) 3
abbrev N_Cells_arm : List Str := ["self", "count", "keep"]
abbrev P_Cells_arm : List Str := ["self", "count", "keep"]
theorem sc_Cells_arm : FnScope N_Cells_arm P_Cells_arm (defScope s_Cells_arm) := ⟨rfl, rfl, rfl, by decide +kernel, rfl, by decide +kernel, by decide +kernel⟩
theorem ok_arm {f : Addr} {fd : FuncData} (T : Tc K mg C CC CE) (F : Fun K "arm" "Cells.arm" s_Cells_arm f fd) : FnOk P w K mg base CX0 1 f fd P_Cells_arm (sp_arm C) := by
  have nd := sc_Cells_arm.nd
  refine F.ok sc_Cells_arm (fun vs H Q E h => ?_) (fun cdv A outer s H vs Q E hr h => ?_)
  · obtain ⟨_, _, _, _, _, _, _, _, rfl, _⟩ := h
    rfl
  · obtain ⟨p, l, ts, dead, pas, keep, n, k, rfl, hc, q⟩ := h
    have pl := hc.ne
    obtain ⟨⟨dx, ho⟩, hl⟩ := id hc
    refine ⟨_, (pss_cons (ps_fld (pv 0) (pv 1) rfl)
      (pss_one (ps_fld (pv 0) (pv 2) rfl))), ?_⟩
    refine ⟨_, rfl, _, rfl, p, C, dx, _, rfl, ho, T.cl_Cells, T.n_Cells__passing, (by show 4 < 1000; decide), ?_⟩
    refine ⟨_, rfl, _, rfl, p, C, dx, _, rfl, upd_same, T.cl_Cells, T.n_Cells__keep, (by show 4 < 1000; decide), ?_⟩
    exact q _ ⟨⟨dx, upd_same⟩, by rw [upd_ne pl.symm, upd_ne pl.symm]; exact hl⟩ fun b o h n1 _ => by rw [upd_ne n1, upd_ne n1]; exact h
abbrev s_Cells_crash : Stmt := inClass (top 59) 4
abbrev N_Cells_crash : List Str := ["self"]
abbrev P_Cells_crash : List Str := ["self"]
theorem sc_Cells_crash : FnScope N_Cells_crash P_Cells_crash (defScope s_Cells_crash) := ⟨rfl, rfl, rfl, by decide +kernel, rfl, by decide +kernel, by decide +kernel⟩
theorem ok_crash {f : Addr} {fd : FuncData} (T : Tc K mg C CC CE) (F : Fun K "crash" "Cells.crash" s_Cells_crash f fd) : FnOk P w K mg base CX0 1 f fd P_Cells_crash (sp_crash C) := by
  have nd := sc_Cells_crash.nd
  refine F.ok sc_Cells_crash (fun vs H Q E h => ?_) (fun cdv A outer s H vs Q E hr h => ?_)
  · obtain ⟨_, _, _, _, _, _, rfl, _⟩ := h
    rfl
  · obtain ⟨p, l, ts, dead, pas, keep, rfl, hc, q⟩ := h
    have pl := hc.ne
    obtain ⟨⟨dx, ho⟩, hl⟩ := id hc
    refine ⟨_, (pss_cons (ps_fld (pv 0) pe_bl rfl)
      (pss_one (ps_fld (pv 0) pe_non rfl))), ?_⟩
    refine ⟨_, rfl, p, C, dx, _, rfl, ho, T.cl_Cells, T.n_Cells__has_crashed, (by show 4 < 1000; decide), ?_⟩
    refine ⟨_, rfl, p, C, dx, _, rfl, upd_same, T.cl_Cells, T.n_Cells__passing, (by show 4 < 1000; decide), ?_⟩
    exact q _ ⟨⟨dx, upd_same⟩, by rw [upd_ne pl.symm, upd_ne pl.symm]; exact hl⟩ fun b o h n1 _ => by rw [upd_ne n1, upd_ne n1]; exact h
abbrev s_Cells_write : Stmt := inClass (top 59) 2
abbrev N_Cells_write : List Str := ["self", "cell", "text"]
abbrev P_Cells_write : List Str := ["self", "cell", "text"]
theorem sc_Cells_write : FnScope N_Cells_write P_Cells_write (defScope s_Cells_write) := ⟨rfl, rfl, rfl, by decide +kernel, rfl, by decide +kernel, by decide +kernel⟩
theorem ok_write {f : Addr} {fd : FuncData} (T : Tc K mg C CC CE) (m_Cells__check : MethOk P w K mg base (L2.CX P w) C "_check" P_Cells__check 2 (sp_check C CC CE)) (F : Fun K "write" "Cells.write" s_Cells_write f fd) : FnOk P w K mg base (L2.CX P w) 3 f fd P_Cells_write (sp_write C CC CE) := by
  have nd := sc_Cells_write.nd
  refine F.okX sc_Cells_write (fun vs H Q E h => ?_) (fun cdv A outer s H vs Q E hr h => ?_)
  · obtain ⟨_, _, _, _, _, _, _, _, _, _, _, rfl, _⟩ := h
    rfl
  · obtain ⟨q0, p, l, ts, dead, pas, keep, u, v, du, dv, rfl, hc, hu, hv, k0, l1, l2, lz, q1, q2, q3⟩ := h
    have hs := sl
    have pl := hc.ne
    obtain ⟨⟨dx, ho⟩, hl⟩ := id hc
    have c1 := T.cl_Cells
    have n1 := T.n_Cells__texts
    have n2 := T.n_Cells__passing
    have n3 := T.n_Cells__keep
    refine ⟨_, (pss_cons (ps_expr (pmethE m_Cells__check T.cl_Cells (takes_of rfl rfl rfl rfl) (fun _ _ _ _ h => h) (pv 0) hr (pa_cons (pv 1) (pa_cons (pv 2) pa_nil))))
      (pss_cons (ps_if (pt_cmpR op_eq (pe_fld (pv 0) (by rfl)) pe_int (nomark _))
        (pss_cons (ps_fld (pv 0) pe_bl rfl)
        (pss_cons (ps_asg (pe_op op_add_str (pe_slice sl_str (pv 2) po_none (po_some (pe_fld (pv 0) (by rfl)))) (pe_slice sl_str (pe_ix ix_list (pe_fld (pv 0) (by rfl)) (pv 1) (fun _ _ => rfl)) (po_some (pe_fld (pv 0) (by rfl))) po_none)) (pg_sub (pe_fld (pv 0) (by rfl)) (pv 1) set_list))
        (pss_one (ps_raise rfl (takes_of rfl rfl rfl rfl) (pmk_own0 PySem.F.excBase_ValueError T.x_DiskCrashed T.g_DiskCrashed T.k_DiskCrashed (raises_own T.b_DiskCrashed T.t_DiskCrashed))))))
        pss_nil)
      (pss_cons (ps_if (pt_cmpR op_notN (pe_fld (pv 0) (by rfl)) pe_non (nomark _))
        (pss_one (ps_fldaug (pv 0) pe_int in_sub))
        pss_nil)
      (pss_one (ps_asg (pv 2) (pg_sub (pe_fld (pv 0) (by rfl)) (pv 1) set_list)))))), ?_⟩
    walk_at "rds"
    refine ⟨p, dx, _, rfl, ho, rfl, ?_⟩
    walk_at "rds"
    refine ⟨q0, p, l, ts, dead, pas, keep, u, v, du, dv, rfl, hc, hu, hv, q1, q2, fun hd hk => ?_⟩
    unfold okC at hk
    rw [Bool.and_eq_true] at hk
    obtain ⟨i, rfl, i0, i1⟩ := isInt_int hk.1
    obtain ⟨z, rfl⟩ : ∃ z, dv = .str z := by cases dv <;> first | exact ⟨_, rfl⟩ | cases hk.2
    cases hu
    cases hv
    obtain ⟨q4, q5⟩ := q3 i z rfl rfl i0 i1 hd
    have lz := lz z rfl
    have hfin : ∀ (H1 : Hp) (ns : Str × Str) (nd : Bool) (np : Option Int), Keeps p l H H1 → H1 p = some (.ins C dx (cf l nd np keep)) → H1 l = some (.lst [.str ts.1, .str ts.2]) →
        CAt C (upd H1 l (.lst [.str ns.1, .str ns.2])) p l ns nd np keep ∧ Keeps p l H (upd H1 l (.lst [.str ns.1, .str ns.2])) := fun H1 ns nd np kp hp1 _ =>
      ⟨⟨⟨dx, by rw [upd_ne pl]; exact hp1⟩, upd_same⟩, fun b o h n1 n2 => by rw [upd_ne n2]; exact kp b o h n1 n2⟩
    have hi : i = 0 ∨ i = 1 := by omega
    have lo : (getT ts i).length ≤ 1000 := by unfold getT; split <;> assumption
    have hat : atI [V.str ts.1, V.str ts.2] i = some (.str (getT ts i)) := by rcases hi with rfl | rfl <;> rfl
    have hset : ∀ y : Str, ∃ j, ixN 2 i = some j ∧ ([V.str ts.1, V.str ts.2] : List V).set j (.str y) = [.str (setT ts i y).1, .str (setT ts i y).2] := fun y => by
      rcases hi with rfl | rfl
      · exact ⟨0, rfl, rfl⟩
      · exact ⟨1, rfl, rfl⟩
    have ho' := ho
    cases pas with
    | none =>
      walk_at "rds"
      obtain ⟨j, hj, hs2⟩ := hset z
      refine ⟨l, _, _, j, rfl, rfl, hl, hj, ?_⟩
      rw [hs2]
      obtain ⟨r1, r2⟩ := hfin H (setT ts i z) false none (fun b o h _ _ => h) (hd ▸ ho) hl
      exact q5 (by simp) _ r1 r2
    | some n =>
      walk_at "rds"
      refine iB (fun h => ?_) (fun h => ?_)
      · have e0 : n = 0 := V.int.inj (of_decide_eq_true h)
        subst e0
        walk_at "rds"
        refine ⟨p, C, dx, _, rfl, ho, c1, T.n_Cells__has_crashed, (by show 4 < 1000; decide), ?_⟩
        have ho1 : (upd H p (.ins C dx (putF "_has_crashed" (.bl true) (cf l dead (some 0) keep)))) p = some (.ins C dx (cf l true (some 0) keep)) := upd_same
        have hl1 : (upd H p (.ins C dx (putF "_has_crashed" (.bl true) (cf l dead (some 0) keep)))) l = some (.lst [.str ts.1, .str ts.2]) := by rw [upd_ne pl.symm]; exact hl
        have k1 : Keeps p l H (upd H p (.ins C dx (putF "_has_crashed" (.bl true) (cf l dead (some 0) keep)))) := fun b o h n1 _ => by rw [upd_ne n1]; exact h
        generalize upd H p _ = H1 at *
        walk_at "rds"
        refine ⟨by omega, ?_⟩
        walk_at "rds"
        refine ⟨l, _, _, _, rfl, rfl, SqL.of hl1, hat, ?_⟩
        walk_at "rds"
        refine ⟨by omega, ?_⟩
        have a1 := cut_len' z none (some keep)
        have a2 := cut_len' (getT ts i) (some keep) none
        refine ⟨_, _, rfl, rfl, by omega, ?_⟩
        walk_at "rds"
        obtain ⟨j, hj, hs2⟩ := hset (torn z (getT ts i) keep)
        refine ⟨l, _, _, j, rfl, rfl, hl1, hj, ?_⟩
        have e3 : cutS z none (some keep) ++ cutS (getT ts i) (some keep) none = torn z (getT ts i) keep := rfl
        rw [e3, hs2]
        obtain ⟨r1, r2⟩ := hfin H1 (setT ts i (torn z (getT ts i) keep)) true (some 0) k1 ho1 hl1
        exact q4 rfl _ r1 r2
      · have n0 : n ≠ 0 := fun e => of_decide_eq_false h (by rw [e]; rfl)
        walk_at "rds"
        refine ⟨dx, _, ho, by show 4 < 1000; decide, ?_⟩
        have ho1 : (upd H p (.ins C dx (putF "_passing" (.int (n - 1)) (cf l dead (some n) keep)))) p = some (.ins C dx (cf l dead (some (n - 1)) keep)) := upd_same
        have hl1 : (upd H p (.ins C dx (putF "_passing" (.int (n - 1)) (cf l dead (some n) keep)))) l = some (.lst [.str ts.1, .str ts.2]) := by rw [upd_ne pl.symm]; exact hl
        have k1 : Keeps p l H (upd H p (.ins C dx (putF "_passing" (.int (n - 1)) (cf l dead (some n) keep)))) := fun b o h n1 _ => by rw [upd_ne n1]; exact h
        generalize upd H p _ = H1 at *
        walk_at "rds"
        obtain ⟨j, hj, hs2⟩ := hset z
        refine ⟨l, _, _, j, rfl, rfl, hl1, hj, ?_⟩
        rw [hs2]
        obtain ⟨r1, r2⟩ := hfin H1 (setT ts i z) false (some (n - 1)) k1 (hd ▸ ho1) hl1
        exact q5 (fun e => n0 (Option.some.inj e)) _ r1 r2
end
section
variable {P : Program} {w : World} {K : PySem.W.Frag} {mg : Str → Option Value} {base : Heap} {C CC CE : Addr}
abbrev s_life_text : Stmt := top 45
abbrev N_life_text : List Str := ["life"]
abbrev P_life_text : List Str := ["life"]
theorem sc_life_text : FnScope N_life_text P_life_text (defScope s_life_text) := ⟨rfl, rfl, rfl, by decide +kernel, rfl, by decide +kernel, by decide +kernel⟩
theorem ok_life_text {f : Addr} {fd : FuncData} (T : Tc K mg C CC CE) (F : Fun K "life_text" "life_text" s_life_text f fd) : FnOk P w K mg base CX0 (1) f fd P_life_text (sp_life_text) := by
  have nd := sc_life_text.nd
  refine F.ok sc_life_text (fun vs H Q E h => ?_) (fun cdv A outer s H vs Q E hr h => ?_)
  · obtain ⟨_, rfl, _⟩ := h
    rfl
  · obtain ⟨i, rfl, h0, h1, q⟩ := h
    have hs := sl
    refine ⟨_, (pss_one (ps_ret (pe_joined (.cons (pe_fmt (pv 0)) (.cons pe_str (.cons (pe_fmt (pv 0)) .nil)))))), ?_⟩
    have e1 := tl_nat h0
    have hn := numL_len (n := i.toNat) (k := 20) (by omega) (by omega)
    have t1 : tl (Str.empty ++ Str.ofString (toString i)) = numL i.toNat := by rw [tl_append, e1]; rfl
    have t2 : tl (Str.empty ++ Str.ofString (toString i) ++ Str.ofString "=") = numL i.toNat ++ [61] := by rw [tl_append, t1]; rfl
    have t3 : tl (Str.empty ++ Str.ofString (toString i) ++ Str.ofString "=" ++ Str.ofString (toString i)) = numL i.toNat ++ [61] ++ numL i.toNat := by rw [tl_append, t2, e1]
    have l1 : (Str.empty ++ Str.ofString (toString i)).length ≤ sizeLine := by rw [len_tl, t1]; omega
    have l2 : (Str.empty ++ Str.ofString (toString i) ++ Str.ofString "=").length ≤ sizeLine := by rw [len_tl, t2, List.length_append, List.length_singleton]; omega
    have l3 : (Str.empty ++ Str.ofString (toString i) ++ Str.ofString "=" ++ Str.ofString (toString i)).length ≤ sizeLine := by rw [len_tl, t3, List.length_append, List.length_append, List.length_singleton]; omega
    refine ⟨_, rfl, .inr ⟨i, rfl, log_small (by omega), _, rfl, l1, _, rfl, l2, _, rfl, .inr ⟨i, rfl, log_small (by omega), _, rfl, l3, ?_⟩⟩⟩
    exact q _ (by rw [t3, List.append_assoc]; rfl)
abbrev s__are_digits : Stmt := top 47
abbrev N__are_digits : List Str := ["text"]
abbrev P__are_digits : List Str := ["text"]
theorem sc__are_digits : FnScope N__are_digits P__are_digits (defScope s__are_digits) := ⟨rfl, rfl, rfl, by decide +kernel, rfl, by decide +kernel, by decide +kernel⟩
theorem ok__are_digits {f : Addr} {fd : FuncData} (T : Tc K mg C CC CE) (F : Fun K "_are_digits" "_are_digits" s__are_digits f fd) : FnOk P w K mg base CX0 (1) f fd P__are_digits (sp_digits) := by
  have nd := sc__are_digits.nd
  refine F.ok sc__are_digits (fun vs H Q E h => ?_) (fun cdv A outer s H vs Q E hr h => ?_)
  · obtain ⟨_, rfl, _⟩ := h
    rfl
  · obtain ⟨z, rfl, q⟩ := h
    refine ⟨_, (pss_one (ps_ret (pe_and (pe_bm0 PySem.F.plainAttrs_str PySem.F.slot_str_isascii PySem.F.type_str_isascii mt_isascii (pv 0)) (pe_one (pe_bm0 PySem.F.plainAttrs_str PySem.F.slot_str_isdecimal PySem.F.type_str_isdecimal mt_isdecimal (pv 0)))))), ?_⟩
    rw [← ascii_dec] at q
    walk_at "rds"
    refine iB (fun h => ?_) (fun h => ?_)
    · walk_at "rds"
      rw [h, Bool.true_and] at q
      exact q
    · rw [h, Bool.false_and] at q
      exact q
abbrev s_life_of : Stmt := top 46
abbrev N_life_of : List Str := ["text", "digits", "life"]
abbrev P_life_of : List Str := ["text"]
theorem sc_life_of : FnScope N_life_of P_life_of (defScope s_life_of) := ⟨rfl, rfl, rfl, by decide +kernel, rfl, by decide +kernel, by decide +kernel⟩
theorem ok_life_of {f : Addr} {fd : FuncData} (T : Tc K mg C CC CE) (c_life_text : DefOk P w K mg base CX0 "life_text" P_life_text 1 (sp_life_text)) (c__are_digits : DefOk P w K mg base CX0 "_are_digits" P__are_digits 1 (sp_digits))(F : Fun K "life_of" "life_of" s_life_of f fd) : FnOk P w K mg base CX0 (2) f fd P_life_of (sp_life_of) := by
  have nd := sc_life_of.nd
  refine F.ok sc_life_of (fun vs H Q E h => ?_) (fun cdv A outer s H vs Q E hr h => ?_)
  · obtain ⟨_, rfl, _⟩ := h
    rfl
  · obtain ⟨z, rfl, hz, q⟩ := h
    have hs := sl
    have hl := len_tl z
    refine ⟨_, (pss_cons (ps_if (pt_not (pt_val (pe_callB call_isi (by rfl) T.b_isinstance (by decide +kernel) (pa_cons (pv 0) (pa_cons (pe_ty "str" T.b_str) pa_nil)))))
        (pss_one (ps_ret pe_int))
        pss_nil)
      (pss_cons (ps_set (i := 1) nd rfl (Or.inl rfl) (pe_ix ix_tup (pe_partition (pv 0) pe_str) pe_int (fun _ _ => rfl)))
      (pss_cons (ps_if (PW.pt (pw_or (pt_cmpR op_gt (pe_callB call_len_str (by rfl) T.b_len (by decide +kernel) (pa_cons (pv 1) pa_nil)) (pe_callB call_len_str (by rfl) T.b_len (by decide +kernel) (pa_cons (pe_callTy call_str_int (by rfl) T.b_str (by decide +kernel) (pa_cons (pe_const T.c_MOST_NUMBER) pa_nil)) pa_nil)) (nomark _)) (pw_or1 (pt_not (pt_val (pcall c__are_digits hr (pa_cons (pv 1) pa_nil)))))))
        (pss_one (ps_ret pe_int))
        pss_nil)
      (pss_cons (ps_set (i := 2) nd rfl (Or.inl rfl) (pe_callTy call_int_str (by rfl) T.b_int (by decide +kernel) (pa_cons (pv 1) pa_nil)))
      (pss_cons (ps_if (PW.pt (pw_or (pt_not (pt_chain op_le op_le pe_int (pv 2) (pe_const T.c_MOST_NUMBER))) (pw_or1 (pt_cmpR op_ne (pcall c_life_text hr (pa_cons (pv 2) pa_nil)) (pv 0) (nomark _)))))
        (pss_one (ps_ret pe_int))
        pss_nil)
      (pss_one (ps_ret (pv 2)))))))), ?_⟩
    refine ⟨_, rfl, _, _, _, _, true, rfl, .ty _, .base (.str z), kit_ty (by decide +kernel), _, rfl, iteF ?_⟩
    walk_at "rds"
    refine ⟨⟨_, rfl⟩, ?_⟩
    walk_at "rds"
    refine ⟨by omega, fun p np => ?_⟩
    have st := same_new np (.tup [.str (Txt.partition z (Str.ofString "=")).1, .str (Txt.partition z (Str.ofString "=")).2.1, .str (Txt.partition z (Str.ofString "=")).2.2])
    have q := q _ st
    have hp := part_take z (Str.ofString "=") (by decide)
    have hd : ((tl z).takeWhile fun c => decide (c ≠ 61)).length ≤ 1000 := Nat.le_trans (List.takeWhile_prefix _).length_le hz
    have hp0 : (upd H p (.tup [.str (Txt.partition z (Str.ofString "=")).1, .str (Txt.partition z (Str.ofString "=")).2.1, .str (Txt.partition z (Str.ofString "=")).2.2])) p = some (.tup [.str (Txt.partition z (Str.ofString "=")).1, .str (Txt.partition z (Str.ofString "=")).2.1, .str (Txt.partition z (Str.ofString "=")).2.2]) := upd_same
    walk_at "rds"
    generalize upd H p _ = H1 at *
    generalize (Txt.partition z (Str.ofString "=")).1 = y at hp ⊢
    have hy := len_tl y
    rw [hp] at hy
    have l13 : (Str.ofString (toString (1000000000000 : Int))).length = 13 := by decide
    refine ⟨by omega, ?_⟩
    walk_at "rds"
    refine ⟨log_small (by decide), ?_⟩
    walk_at "rds"
    refine ⟨by rw [l13]; omega, ?_⟩
    walk_at "rds"
    have no0 : ∀ h : ¬ ((tl y).length ≤ 13 ∧ allD (tl y) = true ∧ tl y ≠ []), lifeF (tl z) = 0 := fun h => by
      unfold lifeF; rw [← hp]; exact if_neg h
    have hly := len_tl y
    refine iB (fun h => ?_) (fun h => ?_)
    · have h2 := of_decide_eq_true h
      rw [l13] at h2
      rw [no0 (by rintro ⟨a, _⟩; omega)] at q
      exact q
    · have h2 := of_decide_eq_false h
      rw [l13] at h2
      walk_at "rds"
      refine iB (fun h => ?_) (fun h => ?_)
      · rw [no0 (by
          rintro ⟨_, b, c⟩
          rw [b] at h
          cases hy2 : tl y with
          | nil => exact c hy2
          | cons _ _ => rw [hy2] at h; simp at h)] at q
        exact q
      · have hA : allD (tl y) = true ∧ tl y ≠ [] := by
          cases ha : allD (tl y) with
          | false => rw [ha] at h; cases h
          | true =>
            refine ⟨rfl, fun e => ?_⟩
            rw [ha, e] at h; cases h
        have hv := intText_digits (x := y) (allD_iff.mp hA.1) hA.2 (by omega)
        walk_at "rds"
        refine ⟨y, _, rfl, hv, by omega, ?_⟩
        change Q (V.int ((lifeF (tl z) : Nat) : Int)) H1 at q
        have eF : lifeF (tl z) = if 1 ≤ digitsVal (tl y) ∧ digitsVal (tl y) ≤ 1000000000000 ∧ lifeT (digitsVal (tl y)) = tl z then digitsVal (tl y) else 0 := by
          unfold lifeF
          rw [← hp, if_pos ⟨by omega, hA.1, hA.2⟩]
        have eV : digitsVal y.cps.toList = digitsVal (tl y) := rfl
        rw [eV]
        generalize digitsVal (tl y) = n at eF ⊢
        have no1 : ¬ (1 ≤ n ∧ n ≤ 1000000000000 ∧ lifeT n = tl z) → lifeF (tl z) = 0 := fun h => eF.trans (if_neg h)
        walk_at "rds"
        refine iB (fun h => ?_) (fun h => ?_)
        · have h1 : (1 : Int) ≤ (n : Int) := of_decide_eq_true h
          walk_at "rds"
          refine iB (fun h2 => ?_) (fun h2 => ?_)
          · have h3 : ¬ (n : Int) ≤ 1000000000000 := fun c => by rw [decide_eq_true c] at h2; cases h2
            rw [no1 (by rintro ⟨_, b, _⟩; omega)] at q
            exact q
          · have h3 : (n : Int) ≤ 1000000000000 := by
              cases hd : decide ((n : Int) ≤ 1000000000000) with
              | true => exact of_decide_eq_true hd
              | false => rw [hd] at h2; cases h2
            walk_at "rds"
            refine ⟨by omega, by omega, fun u hu => ?_⟩
            rw [Int.toNat_natCast] at hu
            walk_at "rds"
            refine iB (fun h4 => ?_) (fun h4 => ?_)
            · rw [no1 (by
                rintro ⟨_, _, c⟩
                have : u = z := ext_tl (hu.trans c)
                rw [this, decide_eq_true rfl] at h4; cases h4)] at q
              exact q
            · have h5 : u = z := by
                cases hd : decide (V.str u = V.str z) with
                | true => exact V.str.inj (of_decide_eq_true hd)
                | false => rw [hd] at h4; cases h4
              walk_at "rds"
              rw [if_pos ⟨by omega, by omega, by rw [← hu, h5]⟩] at eF
              rw [eF] at q
              exact q
        · have h1 : ¬ (1 : Int) ≤ (n : Int) := of_decide_eq_false h
          refine ⟨_, rfl, iteT ?_⟩
          rw [no1 (by rintro ⟨a, _⟩; omega)] at q
          exact q
end
end Mus

set_option maxRecDepth 100000
set_option maxHeartbeats 4000000
namespace Mus
open PySem L2 TL PySem.NumText
local macro_rules | `(tactic| walk_at "rd") => `(tactic| first
  | refine ⟨_, rfl, ?_⟩ | refine ⟨(True.intro : True), ?_⟩
  | refine ⟨_, _, rfl, rfl, (⟨by decide, by decide, by decide⟩ : CPow _ _), ?_⟩
  | refine ⟨_, _, rfl, rfl, (⟨by decide, by decide⟩ : CDiv _ _), ?_⟩
  | refine ⟨_, _, rfl, rfl, (by show (0 : Int) < _; decide), ?_⟩
  | refine ⟨_, _, rfl, rfl, ?_⟩ | refine ⟨rfl, ?_⟩ | refine iteT ?_ | refine iteF ?_ | refine ⟨_, _, rfl, ?_⟩ | refine .inl ⟨_, rfl, ?_⟩
  | refine ⟨_, _, _, _, _, rfl, (by assumption), (by assumption), (by assumption), rfl, ?_⟩ | refine ⟨_, _, _, _, rfl, rfl, SqT.of (by assumption), rfl, ?_⟩ | refine ⟨_, _, rfl, SqT.of (by assumption), rfl, ?_⟩
  | refine ⟨_, _, _, _, _, rfl, .ty _, Rp.ty (by assumption), kit_int _, ?_⟩ | refine ⟨_, _, _, _, _, rfl, .ty _, Rp.ty (by assumption), kit_bool _, ?_⟩
  | refine ⟨_, _, _, _, _, rfl, .ty _, Rp.ty (by assumption), kit_str _, ?_⟩ | refine ⟨_, _, _, _, _, rfl, .ty _, Rp.ty (by assumption), kit_tup _, ?_⟩)
local macro_rules | `(tactic| walk_at "cal") => `(tactic| first
  | refine ⟨_, _, _, _, _, rfl, (by assumption), ?_⟩ | refine ⟨_, _, _, _, _, rfl, (by assumption), (by assumption), ?_⟩)
local macro_rules | `(tactic| walk_at "sq") => `(tactic| first
  | refine ⟨_, _, rfl, Or.inr (SqT.of (by assumption)), ?_⟩ | refine ⟨_, _, _, _, rfl, rfl, SqT.of (by assumption), rfl, ?_⟩)
local macro_rules | `(tactic| walk_at "rds") => `(tactic| repeat first | walk_at "rd" | walk_at "cal" | walk_at "sq")
local macro_rules | `(tactic| walk_at "ze") => `(tactic| repeat first
  | exact zes_nil | exact ze_bl | exact ze_str | exact ze_non | apply zes_cons | apply ze_tup | apply ze_lst | apply ze_cat | exact di_c | exact di_v rfl | apply di_opC | apply di_op | apply di_neg | apply ze_i | (refine (⟨?_, ?_, ?_⟩ : CPow _ _) <;> decide) | exact Nat.le_of_ble_eq_true rfl | exact ze_varD rfl (by assumption))
local macro_rules | `(tactic| walk_at "rdz") => `(tactic| repeat (fail_if_success (first | show tLst _ _ _ _ | show tAsg (tLst _) _ _ _ _ | show tSeq (tAsg (tLst _) _) _ _ _ _)); first | walk_at "rd" | walk_at "cal" | walk_at "sq")
/-- the life that comes next -/
def nextL (ts : Str × Str) : Nat := max (lifeF (tl ts.1)) (lifeF (tl ts.2)) + 1
def cellL (ts : Str × Str) : Int := if lifeF (tl ts.1) ≤ lifeF (tl ts.2) then 0 else 1
def sp_next (C CC : Addr) : Sp := fun vs H Q E => ∃ (p l : Addr) (ts : Str × Str) (dead : Bool) (pas : Option Int) (keep : Int), vs = [.ref p] ∧ CAt C H p l ts dead pas keep ∧ 0 ≤ keep ∧ ts.1.length ≤ 1000 ∧ ts.2.length ≤ 1000 ∧
  (dead = true → E (.ref CC) none H) ∧
  (dead = false → ∀ z : Str, tl z = lifeT (nextL ts) →
    (pas = some 0 → ∀ H', CAt C H' p l (setT ts (cellL ts) (torn z (getT ts (cellL ts)) keep)) true (some 0) keep → Keeps p l H H' → E (.ref CC) none H') ∧
    (pas ≠ some 0 → ∀ H', CAt C H' p l (setT ts (cellL ts) z) false (pas.map (· - 1)) keep → Keeps p l H H' → Q (.int (nextL ts : Nat)) H'))
theorem max_int (a b : Nat) : (if (b : Int) > (a : Int) then (b : Int) else (a : Int)) + 1 = ((max a b + 1 : Nat) : Int) := by
  split <;> omega
theorem lifeF_le (l : List Nat) : lifeF l ≤ 1000000000000 := by
  by_cases h : lifeF l = 0
  · omega
  · obtain ⟨n, _, _, h2, h3⟩ := lifeF_ne h
    omega
section
variable {P : Program} {w : World} {K : PySem.W.Frag} {mg : Str → Option Value} {base : Heap} {C CC CE : Addr}
abbrev s_next_life : Stmt := top 48
abbrev N_next_life : List Str := ["cells", "first", "second", "life", "lesser"]
abbrev P_next_life : List Str := ["cells"]
theorem sc_next_life : FnScope N_next_life P_next_life (defScope s_next_life) := ⟨rfl, rfl, rfl, by decide +kernel, rfl, by decide +kernel, by decide +kernel⟩
theorem ok_next_life {f : Addr} {fd : FuncData} (T : Tc K mg C CC CE) (m_Cells_read : MethOk P w K mg base (L2.CX P w) C "read" P_Cells_read 3 (sp_read C CC CE)) (m_Cells_write : MethOk P w K mg base (L2.CX P w) C "write" P_Cells_write 3 (sp_write C CC CE))
    (c_life_text : DefOk P w K mg base CX0 "life_text" P_life_text 1 (sp_life_text)) (c_life_of : DefOk P w K mg base CX0 "life_of" P_life_of 2 (sp_life_of)) (F : Fun K "next_life" "next_life" s_next_life f fd) : FnOk P w K mg base (L2.CX P w) 4 f fd P_next_life (sp_next C CC) := by
  have nd := sc_next_life.nd
  refine F.okX sc_next_life (fun vs H Q E h => ?_) (fun cdv A outer s H vs Q E hr h => ?_)
  · obtain ⟨_, _, _, _, _, _, rfl, _⟩ := h
    rfl
  · obtain ⟨p, l, ts, dead, pas, keep, rfl, hc, k0, l1, l2, q1, q2⟩ := h
    have hs := sl
    have pl := hc.ne
    obtain ⟨⟨dx, ho⟩, hl⟩ := id hc
    have t1 := len_tl ts.1
    have t2 := len_tl ts.2
    refine ⟨_, (pss_cons (ps_set (i := 1) nd rfl (Or.inl rfl) (pcall c_life_of hr (pa_cons (pmethE m_Cells_read T.cl_Cells (takes_of rfl rfl rfl rfl) (fun _ _ _ _ h => h) (pv 0) hr (pa_cons pe_int pa_nil)) pa_nil)))
      (pss_cons (ps_set (i := 2) nd rfl (Or.inl rfl) (pcall c_life_of hr (pa_cons (pmethE m_Cells_read T.cl_Cells (takes_of rfl rfl rfl rfl) (fun _ _ _ _ h => h) (pv 0) hr (pa_cons pe_int pa_nil)) pa_nil)))
      (pss_cons (ps_set (i := 3) nd rfl (Or.inl rfl) (pe_op op_add (pe_callB (call_max2 rfl) (by rfl) T.b_max (by decide +kernel) (pa_cons (pv 1) (pa_cons (pv 2) pa_nil))) pe_int))
      (pss_cons (ps_set (i := 4) nd rfl (Or.inl rfl) (pe_ifExp (pt_cmpR op_le (pv 1) (pv 2) (nomark _)) pe_int pe_int))
      (pss_cons (ps_expr (pmethE m_Cells_write T.cl_Cells (takes_of rfl rfl rfl rfl) (fun _ _ _ _ h => h) (pv 0) hr (pa_cons (pv 4) (pa_cons (pcall c_life_text hr (pa_cons (pv 3) pa_nil)) pa_nil))))
      (pss_one (ps_ret (pv 3)))))))), ?_⟩
    walk_at "rds"
    refine ⟨p, dx, _, rfl, ho, rfl, ?_⟩
    walk_at "rds"
    refine ⟨p, p, l, ts, dead, pas, keep, _, _, rfl, hc, .int 0, q1, fun _ h => (by cases h), fun i e _ _ hd => ?_⟩
    cases e
    have q2 := q2 hd
    walk_at "rds"
    refine ⟨by show (tl ts.1).length ≤ _; omega, fun H1 s1 => ?_⟩
    have hc1 := hc.same s1
    obtain ⟨⟨dx1, ho1⟩, hl1⟩ := id hc1
    walk_at "rds"
    refine ⟨p, dx1, _, rfl, ho1, rfl, ?_⟩
    walk_at "rds"
    refine ⟨p, p, l, ts, dead, pas, keep, _, _, rfl, hc1, .int 1, fun h => (by rw [hd] at h; cases h), fun _ h => (by cases h), fun i e _ _ hd => ?_⟩
    cases e
    walk_at "rds"
    refine ⟨by show (tl ts.2).length ≤ _; omega, fun H2 s2 => ?_⟩
    have hc2 := hc1.same s2
    obtain ⟨⟨dx2, ho2⟩, hl2⟩ := id hc2
    have b1 := lifeF_le (tl ts.1)
    have b2 := lifeF_le (tl ts.2)
    have g0 : getT ts 0 = ts.1 := rfl
    have g1 : getT ts 1 = ts.2 := rfl
    walk_at "rds"
    simp only [g0, g1, max_int]
    have en : ((max (lifeF (tl ts.1)) (lifeF (tl ts.2)) + 1 : Nat) : Int) = (nextL ts : Nat) := rfl
    rw [en]
    have nb : nextL ts ≤ 1000000000001 := by unfold nextL; omega
    have h13 : (numL (nextL ts)).length ≤ 13 := numL_len (k := 13) (by decide) (by omega)
    refine iB (fun h => ?_) (fun h => ?_)
    case' refine_1 =>
      have ec : cellL ts = 0 := if_pos (by have := of_decide_eq_true h; omega)
    case' refine_2 =>
      have ec : cellL ts = 1 := if_neg (by have := of_decide_eq_false h; omega)
    all_goals
      rw [ec] at q2
      walk_at "rds"
      refine ⟨p, dx2, _, rfl, ho2, rfl, ?_⟩
      walk_at "rds"
      refine ⟨by omega, by omega, fun z hz => ?_⟩
      rw [Int.toNat_natCast] at hz
      obtain ⟨q3, q4⟩ := q2 z hz
      have lz : z.length ≤ 1000 := by rw [len_tl, hz]; unfold lifeT; rw [List.length_append, List.length_cons]; omega
      have ss := s1.trans s2
      have kk : ∀ H', Keeps p l H2 H' → Keeps p l H H' := fun H' k b o h n1 n2 => k b o (ss b o h) n1 n2
      refine ⟨p, p, l, ts, dead, pas, keep, _, _, _, _, rfl, hc2, .int _, .str z, k0, l1, l2, fun z' e => (by cases e; exact lz), fun h => (by rw [hd] at h; cases h), fun _ h => (by cases h), fun i z' e1 e2 _ _ _ => ?_⟩
      cases e1
      cases e2
      refine ⟨fun hp H' c k => q3 hp H' c (kk H' k), fun hp H' c k => ?_⟩
      walk_at "rds"
      exact q4 hp H' c (kk H' k)
end
end Mus

set_option maxRecDepth 100000
set_option maxHeartbeats 4000000
/-! Dicts whose keys are nested tuples: {}, d[k], d[k] = v, d.get(k, x), k in d. -/
namespace Mus
open PySem PySem.Spec PyProof.Rows L2
/-! ### keys -/
mutual
inductive NK (H : Hp) : V → NestedKey → Prop
  | non : NK H .non .none
  | int (i : Int) : NK H (.int i) (.num i)
  | str (x : Str) : NK H (.str x) (.text x)
  | tup {a : Addr} {xs : List V} {ks : List NestedKey} : H a = some (.tup xs) → NKs H xs ks → NK H (.ref a) (.tup ks)
inductive NKs (H : Hp) : List V → List NestedKey → Prop
  | nil : NKs H [] []
  | cons {v : V} {vs : List V} {k : NestedKey} {ks : List NestedKey} : NK H v k → NKs H vs ks → NKs H (v :: vs) (k :: ks)
end
mutual
theorem NK.mono {H H' : Hp} (t : ∀ b xs, H b = some (.tup xs) → H' b = some (.tup xs)) : ∀ {v : V} {k : NestedKey}, NK H v k → NK H' v k
  | _, _, .non => .non
  | _, _, .int i => .int i
  | _, _, .str x => .str x
  | _, _, .tup h r => .tup (t _ _ h) (r.mono t)
theorem NKs.mono {H H' : Hp} (t : ∀ b xs, H b = some (.tup xs) → H' b = some (.tup xs)) : ∀ {vs : List V} {ks : List NestedKey}, NKs H vs ks → NKs H' vs ks
  | _, _, .nil => .nil
  | _, _, .cons a b => .cons (a.mono t) (b.mono t)
end
mutual
theorem NK.is {P : Program} {w : World} {H : Hp} {h : Heap} (ok : HOk P w H h) : ∀ {v : V} {k : NestedKey} {u : Value}, NK H v k → RelV v u → NestedIs h k u
  | _, _, _, .non, r => by cases (show _ = Value.none from r); exact .none
  | _, _, _, .int i, r => by obtain ⟨t, rfl⟩ := (show ∃ t, _ = Value.int i t from r); exact .int i t
  | _, _, _, .str x, r => by obtain ⟨t, rfl⟩ := (show ∃ t, _ = Value.str x t from r); exact .text x t
  | _, _, _, .tup (a := a) (xs := xs) e q, r => by
    cases (show _ = Value.ref a from r)
    obtain ⟨_, its, rv, o, h1, h2, n, h3⟩ := (show ObjOk P w H h a (.tup xs) from ok a _ e)
    exact .tup h1 h2 h3 (by simpa using NKs.all ok q rv)
theorem NKs.all {P : Program} {w : World} {H : Hp} {h : Heap} (ok : HOk P w H h) : ∀ {vs : List V} {ks : List NestedKey} {us : List Value}, NKs H vs ks → Vals vs us → NestedAll h ks us
  | _, _, _, .nil, r => by cases r; exact .nil
  | _, _, _, .cons a b, r => by
    cases r with
    | cons r1 r2 => exact .cons (a.is ok r1) (b.all ok r2)
end
/-! ### the dict -/
abbrev NKV := List (NestedKey × Addr × V)
abbrev KN : NKV → List (NestedKey × Addr × Value) → Prop := Paired fun p q => p.1 = q.1 ∧ p.2.1 = q.2.1 ∧ RelV p.2.2 q.2.2
def ndE (w : World) (x : NestedKey × Addr × Value) : DictEntry := ⟨x.1.hash w, .ref x.2.1, x.2.2⟩
def ndΦ (w : World) (d : Addr) (ks : NKV) : Heap → Prop := fun h => ∃ xs o es ep, KN ks xs ∧ h.get? d = some o ∧ o.ExactDict ∧ o.data = .dict es ep ∧ es.toList = xs.map (ndE w)
def ndO (w : World) (d : Addr) (ks : NKV) : HO := .ext (ndΦ w d ks)
structure Nd (w : World) (H : Hp) (d : Addr) (ks : NKV) : Prop where
  ob : H d = some (ndO w d ks)
  keys : ∀ x ∈ ks, NK H (.ref x.2.1) x.1 ∧ x.1.depth ≤ 8
  one : (ks.map (·.1)).Nodup
  sz : ks.length ≤ sizeLine
  sm : (d == sysModules) = false
def valN (ks : NKV) (k : NestedKey) : Option V := (ks.find? fun x => decide (x.1 = k)).map (·.2.2)
def putN (ks : NKV) (k : NestedKey) (b : Addr) (v : V) : NKV := if (valN ks k).isSome then ks.map (fun x => if x.1 = k then (x.1, x.2.1, v) else x) else ks ++ [(k, b, v)]
theorem KN.val {ks : NKV} {xs : List (NestedKey × Addr × Value)} (r : KN ks xs) (k : NestedKey) : RelO (valN ks k) ((atKey xs k).map (·.2)) := by
  unfold valN atKey
  induction r with
  | nil => exact trivial
  | @cons p q ps qs h t ih =>
    rw [List.find?_cons, List.find?_cons]
    by_cases e : p.1 = k
    · have e2 : q.1 = k := h.1 ▸ e
      simp only [e, e2, decide_true]
      exact h.2.2
    · have e2 : ¬ q.1 = k := h.1 ▸ e
      simp only [e, e2, decide_false]
      exact ih
theorem KN.fsts {ks : NKV} {xs : List (NestedKey × Addr × Value)} (r : KN ks xs) : ks.map (·.1) = xs.map (·.1) := by
  induction r with
  | nil => rfl
  | cons h t ih => rw [List.map_cons, List.map_cons, ih, h.1]
theorem KN.repl {ks : NKV} {xs : List (NestedKey × Addr × Value)} (r : KN ks xs) (k : NestedKey) {v : V} {u : Value} (rv : RelV v u) : KN (ks.map fun x => if x.1 = k then (x.1, x.2.1, v) else x) (xs.map (putAt k u)) := by
  induction r with
  | nil => exact .nil
  | @cons p q ps qs h t ih =>
    refine .cons ?_ ih
    unfold putAt
    dsimp only
    by_cases e : p.1 = k
    · have e2 : q.1 = k := h.1 ▸ e
      rw [if_pos e, if_pos e2]
      exact ⟨h.1, h.2.1, rv⟩
    · have e2 : ¬ q.1 = k := h.1 ▸ e
      rw [if_neg e, if_neg e2]
      exact h
theorem KN.put {ks : NKV} {xs : List (NestedKey × Addr × Value)} (r : KN ks xs) (k : NestedKey) (b : Addr) {v : V} {u : Value} (rv : RelV v u) : KN (putN ks k b v) (storedH xs k b u) := by
  have e : (valN ks k).isSome = (atKey xs k).isSome := by rw [(r.val k).isSome_eq, Option.isSome_map]
  unfold putN storedH
  rw [e]
  by_cases q : (atKey xs k).isSome = true
  · rw [if_pos q, if_pos q]; exact r.repl k rv
  · rw [if_neg q, if_neg q]; exact Paired.snoc r ⟨rfl, rfl, rv⟩
theorem KN.mem {ks : NKV} {xs : List (NestedKey × Addr × Value)} (r : KN ks xs) {F : NestedKey → Addr → Prop} (h : ∀ x ∈ ks, F x.1 x.2.1) : ∀ x ∈ xs, F x.1 x.2.1 := by
  induction r with
  | nil => intro x hx; exact nomatch hx
  | @cons p q ps qs hq t ih =>
    intro x hx
    rcases List.mem_cons.mp hx with e | hx
    · subst e
      rw [← hq.1, ← hq.2.1]
      exact h p List.mem_cons_self
    · exact ih (fun y hy => h y (List.mem_cons_of_mem _ hy)) x hx
theorem putN_len (ks : NKV) (k : NestedKey) (b : Addr) (v : V) : (putN ks k b v).length ≤ ks.length + 1 := by
  unfold putN
  split
  · rw [List.length_map]; omega
  · rw [List.length_append]; exact Nat.le_refl _
theorem putN_keys {ks : NKV} {k : NestedKey} {b : Addr} {v : V} {F : NestedKey → Addr → Prop} (h : ∀ x ∈ ks, F x.1 x.2.1) (hk : F k b) : ∀ x ∈ putN ks k b v, F x.1 x.2.1 := by
  intro x hx
  unfold putN at hx
  split at hx
  · obtain ⟨y, hy, rfl⟩ := List.mem_map.mp hx
    split
    · exact h y hy
    · exact h y hy
  · rcases List.mem_append.mp hx with hx | hx
    · exact h x hx
    · rw [List.mem_singleton.mp hx]; exact hk
theorem valN_none {ks : NKV} {k : NestedKey} (h : valN ks k = none) : k ∉ ks.map (·.1) := fun m => by
  obtain ⟨x, hx, e⟩ := List.mem_map.mp m
  unfold valN at h
  rw [Option.map_eq_none_iff, List.find?_eq_none] at h
  exact h x hx (by simpa using e)
theorem putN_one {ks : NKV} {k : NestedKey} {b : Addr} {v : V} (h : (ks.map (·.1)).Nodup) : ((putN ks k b v).map (·.1)).Nodup := by
  unfold putN
  split
  · have e : (ks.map fun x => if x.1 = k then (x.1, x.2.1, v) else x).map (·.1) = ks.map (·.1) := by
      rw [List.map_map]
      refine List.map_congr_left fun x _ => ?_
      show (if x.1 = k then (x.1, x.2.1, v) else x).1 = x.1
      split <;> rfl
    rw [e]; exact h
  · rename_i q
    have q : valN ks k = none := by cases e : valN ks k with | none => rfl | some _ => rw [e] at q; exact absurd rfl q
    rw [List.map_append, List.nodup_append]
    refine ⟨h, by simp, fun x hx y hy e => ?_⟩
    rw [List.map_singleton, List.mem_singleton] at hy
    have hy : y = k := hy
    exact valN_none q (by rw [← hy, ← e]; exact hx)
theorem Nd.mono {w : World} {H H' : Hp} {d : Addr} {ks : NKV} (n : Nd w H d ks) (ho : H' d = some (ndO w d ks)) (t : ∀ b xs, H b = some (.tup xs) → H' b = some (.tup xs)) : Nd w H' d ks :=
  ⟨ho, fun x hx => ⟨(n.keys x hx).1.mono t, (n.keys x hx).2⟩, n.one, n.sz, n.sm⟩
theorem Nd.same {w : World} {H H' : Hp} {d : Addr} {ks : NKV} (n : Nd w H d ks) (s : Same H H') : Nd w H' d ks := n.mono (s _ _ n.ob) fun _ _ h => s _ _ h
section
variable {X : Cx} {pins : List (Addr × Obj)} {σ : L2.St} {H : Hp} {s : Shared} {a b : Addr} {v : V} {u r : Value} {A : Around} {E : Value → Shared → Prop} {ks : NKV} {k : NestedKey}
theorem Nd.heap (I : Inv X pins σ H s) (n : Nd X.w H a ks) : ∃ xs, KN ks xs ∧ s.heap.DictOfH (nestedKind X.prog X.w) a xs := by
  obtain ⟨⟨xs, o, es, ep, rel, h1, h2, h3, h4⟩, _⟩ := (show ObjOk X.prog X.w H s.heap a (ndO X.w a ks) from I.hok a _ n.ob)
  exact ⟨xs, rel, o, es, ep, h1, h2, h3, h4, rel.mem (F := fun k b => (nestedKind X.prog X.w).is s.heap k b) fun x hx => ⟨(n.keys x hx).1.is I.hok rfl, (n.keys x hx).2⟩, rel.fsts ▸ n.one⟩
theorem nd_room (hu : A.units + 64 < cLine) : (nestedKind X.prog X.w).room A.in1 := by
  show A.in1.units + 8 < cLine
  have : A.in1.units = A.units + 1 := rfl
  omega
/-- what the dict at a holds at the key at b -/
def NGet (w : World) (H : Hp) (a b : Addr) (o : Option V) : Prop := ∃ ks k, Nd w H a ks ∧ NK H (.ref b) k ∧ k.depth ≤ 8 ∧ o = valN ks k
theorem n_getItem {Q : Value → Shared → Prop} (hu : A.units + 64 < cLine) (I : Inv X pins σ H s) (g : NGet X.w H a b (some v)) (h : ∀ w' s', Inv X pins σ H s' → RelV v w' → Q w' s') :
    wpAny (model X.prog X.w) A (getItem (.ref a) (.ref b)) Q E s := by
  obtain ⟨ks, k, n, nk, dk, l⟩ := g
  obtain ⟨xs, rel, dd⟩ := n.heap I
  obtain ⟨w', hw, rw'⟩ := RelO.some_of (v := v) (o := (atKey xs k).map (·.2)) (by rw [l]; exact rel.val k)
  obtain ⟨p, hp, hp2⟩ := Option.map_eq_some_iff.mp hw
  refine wpAny_getItem_heap (knd := nestedKind X.prog X.w) (nd_room hu) ⟨nk.is I.hok rfl, dk⟩ dd hp ?_
  rw [hp2]
  exact h w' _ (I.tok _) rw'
theorem n_in {o : Option V} {Q : Value → Shared → Prop} (hu : A.units + 64 < cLine) (I : Inv X pins σ H s) (g : NGet X.w H a b o) (h : ∀ s', Inv X pins σ H s' → Q (.bool o.isSome) s') :
    wpAny (model X.prog X.w) A (compareOp .In (.ref b) (.ref a)) Q E s := by
  obtain ⟨ks, k, n, nk, dk, l⟩ := g
  obtain ⟨xs, rel, dd⟩ := n.heap I
  refine wpAny_in_heap (knd := nestedKind X.prog X.w) (nd_room hu) ⟨nk.is I.hok rfl, dk⟩ n.sm dd ?_
  have q := (rel.val k).isSome_eq
  rw [Option.isSome_map] at q
  rw [← q, ← l]
  exact h _ (I.tok _)
theorem n_notIn {o : Option V} {Q : Value → Shared → Prop} (hu : A.units + 64 < cLine) (I : Inv X pins σ H s) (g : NGet X.w H a b o) (h : ∀ s', Inv X pins σ H s' → Q (.bool (!o.isSome)) s') :
    wpAny (model X.prog X.w) A (compareOp .NotIn (.ref b) (.ref a)) Q E s := by
  obtain ⟨ks, k, n, nk, dk, l⟩ := g
  obtain ⟨xs, rel, dd⟩ := n.heap I
  refine wpAny_notIn_heap (knd := nestedKind X.prog X.w) (nd_room hu) ⟨nk.is I.hok rfl, dk⟩ n.sm dd ?_
  have q := (rel.val k).isSome_eq
  rw [Option.isSome_map] at q
  rw [← q, ← l]
  exact h _ (I.tok _)
theorem n_get2 {o : Option V} {y : V} {Q : Value → Shared → Prop} (hu : A.units + 64 < cLine) (I : Inv X pins σ H s) (g : NGet X.w H a b o) (rd : RelV y r) (h : ∀ w' s', Inv X pins σ H s' → RelV (o.getD y) w' → Q w' s') :
    wpAny (model X.prog X.w) A (call (.builtin "dict.get") [.ref a, .ref b, r]) Q E s := by
  obtain ⟨ks, k, n, nk, dk, l⟩ := g
  obtain ⟨xs, rel, dd⟩ := n.heap I
  refine call_meetsIn PySem.F.slot_dict_get dd.typeIs PySem.F.entry_dict_get (PySem.F.args_dict_get_3 _ _ _) (meetsH_dict_get_default (nestedKind X.prog X.w) a b n.sm r) ⟨nd_room hu, k, xs, ⟨nk.is I.hok rfl, dk⟩, dd, h _ _ (I.tok _) ?_⟩
  rw [l]
  exact (rel.val k).getD rd
/-- the heap behind d[k] = v -/
theorem n_setItem {Q : Unit → Shared → Prop} (hu : A.units + 64 < cLine) (I : Inv X pins σ H s) (n : Nd X.w H a ks) (nk : NK H (.ref b) k) (dk : k.depth ≤ 8) (rv : RelV v r) (h : ∀ s', Inv X pins σ (upd H a (ndO X.w a (putN ks k b v))) s' → Q () s') :
    wpAny (model X.prog X.w) A (setItem (.ref a) (.ref b) r) Q E s := by
  obtain ⟨xs, rel, dd⟩ := n.heap I
  have hz : xs.length ≤ sizeLine := by rw [← Paired.length rel]; exact n.sz
  refine wpAny_setItem_heap (knd := nestedKind X.prog X.w) (hsz := hz) (nd_room hu) ⟨nk.is I.hok rfl, dk⟩ dd fun h' dd' hs => h _ ?_
  obtain ⟨q, es, ep, hq, h2, h3, h4, _, h5⟩ := dd'
  refine d_write I (by rw [n.ob]; exact True.intro) hs ⟨q, hq⟩ ⟨⟨_, q, es, ep, rel.put k b rv, hq, h2, h3, h4⟩, ⟨q, hq⟩, fun h1 h2 p st => ?_⟩
  obtain ⟨ys, o, es', ep', p1, p2, p3⟩ := p
  exact ⟨ys, o, es', ep', p1, st _ p2, p3⟩
theorem Nd.put {w : World} (n : Nd w H a ks) (nk : NK H (.ref b) k) (dk : k.depth ≤ 8) (hl : ks.length < sizeLine) : Nd w (upd H a (ndO w a (putN ks k b v))) a (putN ks k b v) := by
  have t : ∀ c xs, H c = some (.tup xs) → (upd H a (ndO w a (putN ks k b v))) c = some (.tup xs) := fun c xs hc => by
    rw [upd_ne (ne_of hc n.ob (by intro z; cases z))]; exact hc
  exact ⟨upd_same, putN_keys (F := fun k b => NK _ (.ref b) k ∧ k.depth ≤ 8) (fun x hx => ⟨(n.keys x hx).1.mono t, (n.keys x hx).2⟩) ⟨nk.mono t, dk⟩, putN_one n.one, Nat.le_trans (putN_len _ _ _ _) hl, n.sm⟩
end
/-! ### readings and rules -/
def tNNew (w : World) : TE := fun _ H Q => ∀ d, H d = none → (d == sysModules) = false → Q (.ref d) (upd H d (ndO w d []))
def tNGet (w : World) (td ty : TE) : TE := fun σ H Q => td σ H fun x H1 => ty σ H1 fun y H2 => ∃ a b v, x = .ref a ∧ y = .ref b ∧ NGet w H2 a b (some v) ∧ Q v H2
def tNIn (w : World) (ty td : TE) : TE := fun σ H Q => ty σ H fun y H1 => td σ H1 fun x H2 => ∃ a b o, x = .ref a ∧ y = .ref b ∧ NGet w H2 a b o ∧ Q (.bl o.isSome) H2
def tNNotIn (w : World) (ty td : TE) : TE := fun σ H Q => ty σ H fun y H1 => td σ H1 fun x H2 => ∃ a b o, x = .ref a ∧ y = .ref b ∧ NGet w H2 a b o ∧ Q (.bl (!o.isSome)) H2
def sNPut (w : World) (td ty tv : TE) : TS := fun D σ H => tv σ H fun v H1 => td σ H1 fun x H2 => ty σ H2 fun y H3 => ∃ a b ks k, x = .ref a ∧ y = .ref b ∧ Nd w H3 a ks ∧ NK H3 (.ref b) k ∧ k.depth ≤ 8 ∧ D.nx σ (upd H3 a (ndO w a (putN ks k b v)))
def tNGet2 (w : World) (td ty tx : TE) : TE := fun σ H Q => td σ H fun x H1 => ∃ a ks, x = .ref a ∧ Nd w H1 a ks ∧ ty σ H1 fun y H2 => tx σ H2 fun z H3 => ∃ b o, y = .ref b ∧ NGet w H3 a b o ∧ Q (o.getD z) H3
theorem nd_new {w : World} {H : Hp} {d : Addr} (h : (d == sysModules) = false) : Nd w (upd H d (ndO w d [])) d [] :=
  ⟨upd_same, fun x hx => (by cases hx), List.nodup_nil, Nat.zero_le _, h⟩
section
variable {X : Cx} {o i e f value : Expr} {pos pos' apos cpos : Pos} {td ty tv tx : TE}
theorem pe_nnew : PE X (.Dict [] [] pos) (tNNew X.w) := ⟨fun pins s σ H Q I h =>
  wpAny_Dict_empty ⟨.ref s.heap.objs.size, _, I.laid (a := s.heap.objs.size) (o := ndO X.w s.heap.objs.size []) (t' := s.toks) (fun _ _ q => Heap.get?_push_of_some _ q) (Nat.le_refl _)
    ⟨⟨[], _, #[], 0, .nil, Heap.get?_push_size _ rfl, ⟨rfl, rfl, rfl⟩, rfl, rfl⟩, ⟨_, Heap.get?_push_size _ rfl⟩, fun h1 h2 p st => by
      obtain ⟨ys, o, es', ep', p1, p2, p3⟩ := p
      exact ⟨ys, o, es', ep', p1, st _ p2, p3⟩⟩, rfl, h _ (I.hok.fresh (Nat.le_refl _)) (beq_eq_false_iff_ne.mpr (Ne.symm (Nat.ne_of_lt I.big)))⟩⟩
theorem pe_nget (hu : X.A.units + 64 < cLine) (ho : PE X o td) (hi : PE X i ty) (hs : NoSl i) : PE X (.Subscript o i pos) (tNGet X.w td ty) := by
  refine ⟨fun pins s σ H Q I h => ?_⟩
  refine subD_of PySem.F.slot_dict_getitem.lookup hs (thn (ho.run pins s σ H _ I h) fun u s1 ⟨x, H1, I1, rx, q1⟩ => thn (hi.run pins s1 σ H1 _ I1 q1) fun iv s2 ⟨y, H2, I2, ry, a, b, v, ex, ey, g, q2⟩ => ?_)
  subst ex ey
  obtain rfl : u = Value.ref a := rx
  obtain rfl : iv = Value.ref b := ry
  have t : s2.TypeIs (.ref a) "dict" := by
    obtain ⟨ks, k, n, _⟩ := g
    obtain ⟨xs, rel, dd⟩ := n.heap I2
    exact dd.typeIs
  exact ⟨t, n_getItem hu I2 g fun w' s3 I3 rw' => ⟨v, H2, I3, rw', q2⟩⟩
theorem pc_nin (hu : X.A.units + 64 < cLine) (hi : PE X i ty) (ho : PE X o td) : PC X .In i o (tNIn X.w ty td) := by
  refine ⟨fun pins s σ H Q I h => ?_⟩
  refine thn (hi.run pins s σ H _ I h) fun iv s1 ⟨y, H1, I1, ry, q1⟩ => thn (ho.run pins s1 σ H1 _ I1 q1) fun u s2 ⟨x, H2, I2, rx, a, b, ov, ex, ey, g, q2⟩ => ?_
  subst ex ey
  obtain rfl : u = Value.ref a := rx
  obtain rfl : iv = Value.ref b := ry
  exact n_in hu I2 g fun s3 I3 => ⟨.bl ov.isSome, H2, I3, rfl, q2⟩
theorem pc_nnotin (hu : X.A.units + 64 < cLine) (hi : PE X i ty) (ho : PE X o td) : PC X .NotIn i o (tNNotIn X.w ty td) := by
  refine ⟨fun pins s σ H Q I h => ?_⟩
  refine thn (hi.run pins s σ H _ I h) fun iv s1 ⟨y, H1, I1, ry, q1⟩ => thn (ho.run pins s1 σ H1 _ I1 q1) fun u s2 ⟨x, H2, I2, rx, a, b, ov, ex, ey, g, q2⟩ => ?_
  subst ex ey
  obtain rfl : u = Value.ref a := rx
  obtain rfl : iv = Value.ref b := ry
  exact n_notIn hu I2 g fun s3 I3 => ⟨.bl (!ov.isSome), H2, I3, rfl, q2⟩
theorem ps_nput (hu : X.A.units + 64 < cLine) (ho : PE X o td) (hi : PE X i ty) (hv : PE X value tv) (hs : swapsWith value (some (.Subscript o i pos')) pos.line X.env = pure false) :
    PS X (.Assign [.Subscript o i pos'] value pos) (sNPut X.w td ty tv) := by
  refine ⟨fun pins s σ H D I h => ?_⟩
  refine wpAny_Assign_Subscript (thn (hv.run pins s σ H _ I h) fun r s1 ⟨v, H1, I1, rv, q1⟩ => thn (ho.run pins s1 σ H1 _ I1 q1) fun u s2 ⟨x, H2, I2, rx, q2⟩ => thn (hi.run pins s2 σ H2 _ I2 q2) fun iv s3 ⟨y, H3, I3, ry, a, b, ks, k, ex, ey, n, nk, dk, q3⟩ => ?_) hs
  subst ex ey
  obtain rfl : u = Value.ref a := rx
  obtain rfl : iv = Value.ref b := ry
  exact n_setItem hu I3 n nk dk rv fun s4 I4 => ⟨σ, _, I4, q3⟩
theorem pe_nget2 (hu : X.A.units + 64 < cLine) (ho : PE X o td) (he : PE X e ty) (hf : PE X f tx) (m : M2 X o "get" apos e f cpos) : PE X (.Call (.Attribute o "get" apos) [e, f] [] cpos) (tNGet2 X.w td ty tx) := by
  refine ⟨fun pins s σ H Q I h => ?_⟩
  refine wpAny_Call_method m.base m.few m.line PySem.F.plainAttrs_dict PySem.F.slot_dict_get PySem.F.type_dict_get (thn (ho.run pins s σ H _ I h) fun u s1 ⟨x, H1, I1, rx, a, ks, ex, n, q1⟩ => ?_)
  subst ex
  obtain rfl : u = Value.ref a := rx
  obtain ⟨xs, rel, dd⟩ := n.heap I1
  refine ⟨dd.typeIs, fun b q => ?_, ?_⟩
  · cases q
    obtain ⟨ob, _, _, h1, h2, _⟩ := dd
    exact ⟨ob, h1, h2.2.1⟩
  rw [m.trees]
  refine Calls.callWith_builtin rfl (Calls.evalArgs_plain (Calls.spliced_cons (thn (he.run pins s1 σ H1 _ I1 q1) fun iv s2 ⟨y, H2, I2, ry, q2⟩ =>
    Calls.spliced_cons (thn (hf.run pins s2 σ H2 _ I2 q2) fun fv s3 ⟨z, H3, I3, rz, b, ov, ey, g, q3⟩ => Calls.spliced_nil ?_))))
  subst ey
  obtain rfl : iv = Value.ref b := ry
  exact n_get2 hu I3 g rz fun w' s4 I4 rw' => ⟨_, H3, I4, rw', q3⟩
end
end Mus

set_option maxRecDepth 100000
set_option maxHeartbeats 4000000
/-! sorted(x), x a list or a tuple of data of one shape. -/
namespace PySem.W
open PySem PySem.Calls PyProof.Rows
section
variable {prog : Program} {w : World} {A : Around} {E : Value → Shared → Prop} {s : Shared}
/-- the items of a tuple, in a list of their own -/
theorem mus_collect {a : Addr} {vs : List Value} {Q : List Value → Shared → Prop} (ht : s.heap.IsTuple a vs.toArray) (hz : vs.length ≤ sizeLine)
    (h : Q vs { s with heap := (s.heap.push (seqObj "list" #[] 0)).update s.heap.objs.size (Obj.mapSeq (· ++ vs.toArray)) }) : wpAny (model prog w) A (collect (.ref a)) Q E s := by
  obtain ⟨o, e1, e2, n, e3⟩ := id ht
  have f1 : (s.heap.push (seqObj "list" #[] 0)).get? a = some o := Heap.get?_push_of_some _ e1
  have f2 : (s.heap.push (seqObj "list" #[] 0)).get? s.heap.objs.size = some (seqObj "list" #[] 0) := Heap.get?_push_size _ rfl
  have k1 : (Value.type "tuple" == Value.type "list") = false := by decide +kernel
  have k2 : (Value.type "tuple" == Value.type "tuple") = true := by decide +kernel
  unfold collect
  refine wpAny_bind (wpAny_runValue (codeAny_builtin entry_proto_collect' ?_))
  refine wpAny_bind (wpAny_newList (wpAny_pure ⟨Code.quiet_builtin _ (by decide +kernel), codeAny_builtin entry_list_iadd' ?_⟩))
  show wpAny _ _ (Builtin.List.listExtendWith (.ref s.heap.objs.size) (.ref a) (.ref s.heap.objs.size)) _ _ { s with heap := s.heap.push (seqObj "list" #[] 0) }
  unfold Builtin.List.listExtendWith
  refine wpAny_bind (wpAny_typeOf (T := "tuple") ⟨o, f1, e2⟩ ?_)
  rw [if_pos (by rw [k1, k2]; simp)]
  refine wpAny_bind (listItems_at f1 e3 (wpAny_bind (listItems_at (xs := #[]) (n := 0) f2 rfl ?_)))
  rw [if_neg (by simp)]
  refine wpAny_bind (listUpdate_at (xs := #[]) (n := 0) f2 rfl (wpAny_pure ?_) (Nat.zero_le _) (by simp only [Array.size_append, List.size_toArray, List.length_nil]; omega))
  refine wpAny_bind (wpAny_load (get?_update_seq f2 _) ?_)
  have e : ((#[] : Array Value) ++ vs.toArray).toList = vs := by simp
  show wpAny _ _ (pure ((#[] : Array Value) ++ vs.toArray).toList) Q E _
  rw [e]
  exact wpAny_pure h
theorem mus_sortedT {a : Addr} {vs : List Value} {Q : Value → Shared → Prop} (ht : s.heap.IsTuple a vs.toArray) (hL : vs.length ≤ sizeLine)
    (body : ∀ E' : Value → Shared → Prop, wpAny (model prog w) A.in1.in1 (Builtin.«list.sort» ⟨[.ref (s.heap.objs.size + 1)], []⟩) (fun f s' => f = .done (.ret .none) ∧ Q (.ref (s.heap.objs.size + 1)) s') E' { s with heap := copyHeap s.heap vs }) :
    wpAny (model prog w) A (call (.builtin "sorted") [.ref a]) Q E s := by
  have z : ((s.heap.push (seqObj "list" #[] 0)).update s.heap.objs.size (Obj.mapSeq (· ++ vs.toArray))).objs.size = s.heap.objs.size + 1 := (Heap.size_update ..).trans (size_push' ..)
  refine call_function_entry_kw kind_sorted plain_sorted entry_sorted (args_sorted1 _) ?_
  unfold Builtin.«sorted»
  refine wpAny_bind (m := checkCount "sorted" 1 1 _) (wpAny_pure (wpAny_bind (mus_collect ht hL (wpAny_bind (wpAny_newList ?_ hL)))))
  show wpAny _ _ _ _ _ { s with heap := copyHeap s.heap vs }
  rw [z]
  refine wpAny_bind (wpAny_holding (wpAny_call_entry_kw slot_list_sort ⟨_, copyHeap_at s.heap vs, rfl⟩ entry_list_sort ?sorts (args_list_sort _)))
  case sorts =>
    refine wpAny_mono (body _) (fun f s' q => ?_) fun _ _ e => e
    obtain ⟨rfl, q⟩ := q
    exact ⟨_, rfl, wpAny_pure ⟨_, rfl, q⟩⟩
theorem mus_sorted {β : Type} {R : Value → β → Prop} {enc : β → PyData} {bs : List β} {a : Addr} {vs : List Value} {Q : Value → Shared → Prop} (ht : s.heap.IsTuple a vs.toArray) (e : EachIs R vs bs) (er : EachIs (fun v b => ∃ as, Reads s.heap v (enc b) as) vs bs) (hal : AllAlike (bs.map enc)) (hk : Sortable (bs.map enc)) (hL : bs.length ≤ sizeLine)
    (hu : ∀ b, b ∈ bs → A.units + 2 + (enc b).depth < cLine) (h : ∀ out, out.length = bs.length → EachIs R out (bs.mergeSort (dataLe false enc)) → Q (.ref (s.heap.objs.size + 1)) { s with heap := sortedAll s.heap vs (List.toArray out) }) :
    wpAny (model prog w) A (call (.builtin "sorted") [.ref a]) Q E s := by
  have lv : vs.length ≤ sizeLine := e.length ▸ hL
  have er' : EachIs (fun v b => ∃ as, Reads (sortingHeap (copyHeap s.heap vs) (s.heap.objs.size + 1) vs) v (enc b) as) vs bs := er.mono fun _ _ ⟨as, r⟩ => ⟨as, PyProof.Rows.Reads.keeps (fun _ _ => sorting_copy_old) r⟩
  have S := SortsAt.data (prog := prog) (w := w) (A := A.in1.in1) (s := { s with heap := sortingHeap (copyHeap s.heap vs) (s.heap.objs.size + 1) vs }) (each_map (R := fun v d => ∃ as, Reads (sortingHeap (copyHeap s.heap vs) (s.heap.objs.size + 1) vs) v d as) enc er') hal hk (bound_map hu)
  exact mus_sortedT ht lv fun _ => list_sort_vals (s := { s with heap := copyHeap s.heap vs }) (copyHeap_at s.heap vs) S lv ⟨rfl, h _ (by rw [sortVals_length false rfl]; exact e.length) (sortVals_data false e er' hal)⟩
end
end PySem.W
namespace Mus
open PySem PySem.Spec PyProof.Rows L2
def rSortedD (K : PySem.W.Frag) : List V → Hp → VK → Prop := fun vs H Q => ∃ (a : Addr) (xs : List V) (ds : List PyData), vs = [V.ref a] ∧ (SqL K H a xs ∨ SqT K H a xs) ∧ DpAll K H xs ds ∧ PySem.W.AllAlike ds ∧ PySem.W.Sortable ds ∧ (∀ d ∈ ds, d.depth ≤ 20) ∧
  ∀ (ps : List (V × PyData)) p, ps = (xs.zip ds).mergeSort (PySem.W.dataLe false (·.2)) → H p = none → Q (.ref p) (upd H p (.lst (ps.map (·.1))))
theorem each_zip {h : Heap} : ∀ {xs : List V} {ds : List PyData} {vs : List Value}, Vals xs vs → xs.length = ds.length → PySem.W.EachIs (fun v (b : V × PyData) => RelV b.1 v) vs (xs.zip ds)
  | [], [], _, .nil, _ => .nil
  | x :: xs, d :: ds, _, .cons r rs, hl => .cons r (each_zip (h := h) rs (by simpa using hl))
  | [], _ :: _, _, _, hl => by cases hl
  | _ :: _, [], _, _, hl => by cases hl
theorem each_reads {h : Heap} : ∀ {xs : List V} {ds : List PyData} {vs : List Value} {as : List Addr}, xs.length = ds.length → ReadsAll h vs ds as → vs.length = xs.length → PySem.W.EachIs (fun v (b : V × PyData) => ∃ as, Reads h v b.2 as) vs (xs.zip ds)
  | [], [], _, _, _, .nil, _ => .nil
  | x :: xs, d :: ds, _, _, hl, .cons r rs, h2 => .cons ⟨_, r⟩ (each_reads (by simpa using hl) rs (by simpa using h2))
  | [], _ :: _, _, _, hl, _, _ => by cases hl
  | _ :: _, [], _, _, hl, _, _ => by cases hl
theorem vals_of_each : ∀ {ps : List (V × PyData)} {out : List Value}, PySem.W.EachIs (fun v (b : V × PyData) => RelV b.1 v) out ps → Vals (ps.map (·.1)) out
  | _, _, .nil => .nil
  | _, _, .cons r rs => .cons r (vals_of_each rs)
theorem dpAll_len {K : PySem.W.Frag} {H : Hp} : ∀ {xs : List V} {ds : List PyData}, DpAll K H xs ds → xs.length = ds.length
  | _, _, .nil => rfl
  | _, _, .cons _ r => congrArg (· + 1) (dpAll_len r)
section
variable {X : Cx}
theorem cr_sortedD (hu : X.A.units + 64 < cLine) : CallR X (.builtin "sorted") (rSortedD X.K) := by
  intro pins s σ H vs us Q I r h
  obtain ⟨a, xs, ds, rfl, hs, hd, hal, hk, hdep, q⟩ := h
  obtain ⟨u, rfl, ru⟩ := vals1 r
  obtain rfl : u = Value.ref a := ru
  have ll := dpAll_len hd
  have lz : (xs.zip ds).length = ds.length := by rw [List.length_zip, ll, Nat.min_self]
  have em : (xs.zip ds).map (·.2) = ds := List.map_snd_zip (by omega)
  have hu' : ∀ b ∈ xs.zip ds, X.A.units + 2 + b.2.depth < cLine := fun b hb => by
    have := hdep b.2 (by rw [← em]; exact List.mem_map.mpr ⟨b, hb, rfl⟩)
    omega
  have fin : ∀ {vs : List Value}, Vals xs vs → ∀ out, out.length = (xs.zip ds).length → PySem.W.EachIs (fun v (b : V × PyData) => RelV b.1 v) out ((xs.zip ds).mergeSort (PySem.W.dataLe false (·.2))) → EP X pins σ Q (.ref (s.heap.objs.size + 1)) { s with heap := sortedAll s.heap vs (List.toArray out) } := fun {vs} rv out hl he => by
    obtain ⟨n, hn⟩ := sortedAll_at s.heap vs (List.toArray out)
    have nd : H (s.heap.objs.size + 1) = none := I.hok.fresh (Nat.le_succ _)
    have hz : ((xs.zip ds).mergeSort (PySem.W.dataLe false (·.2))).length ≤ sizeLine := by
      rw [List.length_mergeSort, lz, ← ll]
      rcases hs with hs | hs
      · obtain ⟨_, _, _, hz⟩ := I.list hs; exact hz
      · obtain ⟨_, _, _, hz⟩ := I.tuple hs; exact hz
    exact ⟨.ref (s.heap.objs.size + 1), _, I.laid (t' := s.toks) (o := .lst (((xs.zip ds).mergeSort (PySem.W.dataLe false (·.2))).map (·.1))) (fun b o e => sortedAll_old e) (Nat.le_succ _) ⟨by rw [List.length_map]; exact hz, out, n, vals_of_each he, hn⟩, rfl, q _ _ rfl nd⟩
  rcases hs with hs | hs
  · obtain ⟨its, rv, hl, hz⟩ := I.list hs
    obtain ⟨as, ra⟩ := Dp.readsAll I ds xs its hd rv
    exact PySem.W.sorted_data hl.isList (each_zip (h := s.heap) rv ll) (each_reads ll ra rv.length.symm) (by rw [em]; exact hal) (by rw [em]; exact hk) (by rw [lz, ← ll]; exact hz) hu' (fin rv)
  · obtain ⟨its, rv, hl, hz⟩ := I.tuple hs
    obtain ⟨as, ra⟩ := Dp.readsAll I ds xs its hd rv
    exact PySem.W.mus_sorted hl (each_zip (h := s.heap) rv ll) (each_reads ll ra rv.length.symm) (by rw [em]; exact hal) (by rw [em]; exact hk) (by rw [lz, ← ll]; exact hz) hu' (fin rv)
end
end Mus

set_option maxRecDepth 100000
set_option maxHeartbeats 4000000
/-! sorted(d) and d.get(k, x) of a dict whose keys are nested tuples. -/
namespace PySem.W
open PySem PySem.Calls PyProof.Rows
theorem mus_raw {prog : Program} {w : World} {d : Addr} {es : Array DictEntry} {ep : Nat} (lo : (d == sysModules) = false) : KdlSrc prog w "dict" d d es.size (fun i v => ∃ hi : i < es.size, v = es[i].key) (fun h => h.DictRaw d es ep) where
  type := fun _ hm => hm.typeIs
  there := fun _ hm => ⟨let ⟨_, ho, _⟩ := hm; Heap.lt_size ho, let ⟨_, ho, _⟩ := hm; Heap.lt_size ho⟩
  keep := fun _ _ hm hk => hm.at fun o e => hk d (.inl rfl) o e
  notList := by decide
  notTuple := by decide
  hint := fun _ _ _ _ hm hq => kdl_hint_dict hm.typeIs hq
  iter := fun _ _ hh hm => ⟨_, _, (fun _ _ hq => wpAny_pyIter_dict_raw lo hm hq), Walks.rawKeys hh _ d (Nat.ne_of_lt (let ⟨_, ho, _⟩ := hm; Heap.lt_size ho)) es ep, ⟨⟨_, Heap.get?_push_size _ rfl, rfl, rfl⟩, hm.at fun _ e => Heap.get?_push_of_some _ e⟩⟩
end PySem.W
namespace Mus
open PySem PySem.Spec PyProof.Rows L2
def rSortedN (K : PySem.W.Frag) (w : World) : List V → Hp → VK → Prop := fun vs H Q => ∃ (a : Addr) (kvs : NKV) (ds : List PyData), vs = [V.ref a] ∧ Nd w H a kvs ∧ DpAll K H (kvs.map fun x => V.ref x.2.1) ds ∧ PySem.W.AllAlike ds ∧ PySem.W.Sortable ds ∧ (∀ d ∈ ds, d.depth ≤ 20) ∧
  ∀ (ps : List (V × PyData)) p, ps = ((kvs.map fun x => V.ref x.2.1).zip ds).mergeSort (PySem.W.dataLe false (·.2)) → H p = none → Q (.ref p) (upd H p (.lst (ps.map (·.1))))
theorem vals_refs : ∀ kvs : NKV, Vals (kvs.map fun x => V.ref x.2.1) (kvs.map fun x => Value.ref x.2.1)
  | [] => .nil
  | x :: r => .cons rfl (vals_refs r)
theorem KN.ref {ks : NKV} {xs : List (NestedKey × Addr × Value)} (r : KN ks xs) : xs.map (fun x => Value.ref x.2.1) = ks.map fun x => Value.ref x.2.1 := by
  induction r with
  | nil => rfl
  | cons h t ih => rw [List.map_cons, List.map_cons, ih, h.2.1]
section
variable {X : Cx}
theorem cr_sortedN (hc : X.calm = true) (hu : X.A.units + 64 < cLine) : CallR X (.builtin "sorted") (rSortedN X.K X.w) := by
  intro pins s σ H vs us Q I r h
  obtain ⟨a, kvs, ds, rfl, n, hd, hal, hk, hdep, q⟩ := h
  obtain ⟨u, rfl, ru⟩ := vals1 r
  obtain rfl : u = Value.ref a := ru
  obtain ⟨xs, rel, dd⟩ := n.heap I
  obtain ⟨es, ep, raw, hs, hx⟩ := dd.raw
  have hl : es.size = kvs.length := by rw [hs, Paired.length rel]
  have h16 : es.size ≤ sizeLine := by rw [hl]; exact n.sz
  refine Calls.call_function_entry PyProof.Rows.kind_sorted PyProof.Rows.plain_sorted PyProof.Rows.entry_sorted (PyProof.Rows.args_sorted1 _) ?_
  unfold Builtin.«sorted»
  refine wpAny_bind (m := checkCount "sorted" 1 1 _) (wpAny_pure ?_)
  refine wpAny_bind (PySem.W.kdu_collect (A := X.A.in1) (PySem.W.mus_raw n.sm) (I.ok.hd hc) raw h16 fun h' tk acc hk' hacc => ?_)
  have e1 : acc.toList = kvs.map fun x => Value.ref x.2.1 := by
    rw [← rel.ref]
    refine List.ext_getElem? fun j => ?_
    rw [List.getElem?_map]
    cases e : acc.toList[j]? with
    | none =>
      have : acc.toList.length ≤ j := List.getElem?_eq_none_iff.mp e
      rw [Array.length_toList, hacc.1, hs] at this
      rw [List.getElem?_eq_none this]; rfl
    | some v =>
      obtain ⟨hi, rfl⟩ := hacc.2 j v (by rw [← Array.getElem?_toList]; exact e)
      obtain ⟨y, hy, ey, _⟩ := hx j hi
      rw [hy, ey]; rfl
  have rv : Vals (kvs.map fun x => V.ref x.2.1) acc.toList := by rw [e1]; exact vals_refs kvs
  have I1 : Inv X pins σ H { s with heap := h', toks := tk } := I.kept hk'
  have ll := dpAll_len hd
  have lz : ((kvs.map fun x => V.ref x.2.1).zip ds).length = ds.length := by rw [List.length_zip, ll, Nat.min_self]
  have em : ((kvs.map fun x => V.ref x.2.1).zip ds).map (·.2) = ds := List.map_snd_zip (by omega)
  have la : acc.toList.length = ds.length := by rw [← rv.length]; exact ll
  have hL : acc.toList.length ≤ sizeLine := by rw [Array.length_toList, hacc.1]; exact h16
  obtain ⟨as, ra⟩ := Dp.readsAll I1 ds _ _ hd rv
  refine wpAny_bind (wpAny_newList ?_ hL)
  have hoL : (h'.push (seqObj "list" acc.toList.toArray 0)).get? h'.objs.size = some (seqObj "list" acc.toList.toArray 0) := Heap.get?_push_size _ rfl
  show wpAny _ _ _ _ _ { s with heap := h'.push (seqObj "list" acc.toList.toArray 0), toks := tk }
  have old : ∀ b o, h'.get? b = some o → (PySem.W.sortingHeap (h'.push (seqObj "list" acc.toList.toArray 0)) h'.objs.size acc.toList).get? b = some o := fun b o e => PySem.W.sortingHeap_old (Nat.ne_of_lt (Heap.lt_size e)) (Heap.get?_push_of_some _ e)
  have er : PySem.W.EachIs (fun v (b : V × PyData) => ∃ as, Reads (PySem.W.sortingHeap (h'.push (seqObj "list" acc.toList.toArray 0)) h'.objs.size acc.toList) v b.2 as) acc.toList ((kvs.map fun x => V.ref x.2.1).zip ds) :=
    (each_reads ll ra rv.length.symm).mono fun _ _ ⟨as, r⟩ => ⟨as, PyProof.Rows.Reads.keeps old r⟩
  have hu' : ∀ b ∈ (kvs.map fun x => V.ref x.2.1).zip ds, X.A.in1.in1.units + b.2.depth < cLine := fun b hb => by
    have := hdep b.2 (by rw [← em]; exact List.mem_map.mpr ⟨b, hb, rfl⟩)
    have e : X.A.in1.in1.units = X.A.units + 2 := rfl
    omega
  have S := PySem.W.SortsAt.data (prog := X.prog) (w := X.w) (A := X.A.in1.in1) (s := { s with heap := PySem.W.sortingHeap (h'.push (seqObj "list" acc.toList.toArray 0)) h'.objs.size acc.toList, toks := tk }) (PySem.W.each_map (R := fun v d => ∃ as, Reads _ v d as) (fun b : V × PyData => b.2) er) (by rw [em]; exact hal) (by rw [em]; exact hk) (PySem.W.bound_map hu')
  have he := PySem.W.sortVals_data false (each_zip (h := h') rv ll) er (by rw [em]; exact hal)
  refine wpAny_bind (wpAny_holding (wpAny_call_entry PyProof.Rows.slot_list_sort ⟨_, hoL, rfl⟩ PyProof.Rows.entry_list_sort
    (PySem.W.list_sort_vals (s := { s with heap := h'.push (seqObj "list" acc.toList.toArray 0), toks := tk }) hoL S hL ⟨_, rfl, ?_⟩) (PyProof.Rows.args_list_sort _)))
  generalize PySem.W.sortVals _ false acc.toList acc.toList = out at he ⊢
  obtain ⟨e', he'⟩ := PyProof.Rows.sortedHeap_at (vs := acc.toList) (out := out.toArray) hoL
  refine wpAny_pure ⟨_, rfl, .ref h'.objs.size, upd H h'.objs.size (.lst ((((kvs.map fun x => V.ref x.2.1).zip ds).mergeSort (PySem.W.dataLe false (·.2))).map (·.1))), I1.laid (t' := tk) (fun b u e => ?_) (Nat.le_refl _)
    (show ObjOk X.prog X.w _ _ _ (.lst _) from ⟨?_, out, e', vals_of_each he, he'⟩), rfl, q _ _ rfl (I1.hok.fresh (Nat.le_refl _))⟩
  · have hb : b < h'.objs.size := Heap.lt_size e
    rw [PyProof.Rows.sortedHeap_old (Nat.ne_of_lt hb) (by rw [size_push']; exact Nat.lt_succ_of_lt hb)]
    exact Heap.get?_push_of_some _ e
  · rw [List.length_map, List.length_mergeSort, lz, ← la]; exact hL
end
end Mus

set_option maxRecDepth 100000
set_option maxHeartbeats 4000000
/-! Data stand where a thing that is no list and no tuple changes. -/
namespace Mus
open PySem L2
mutual
theorem Rp.upN {p D : Addr} {H : Hp} {o : HO} (h1 : ∀ xs, H D ≠ some (.lst xs)) (h2 : ∀ xs, H D ≠ some (.tup xs)) : ∀ {v : V} {d : PyData}, Rp p H v d → Rp p (upd H D o) v d
  | _, _, .non => .non
  | _, _, .bl b => .bl b
  | _, _, .int i => .int i
  | _, _, .str x => .str x
  | _, _, .lst h n r => .lst (by rw [upd_ne fun z => h1 _ (by rw [← z]; exact h)]; exact h) n (Rps.upN h1 h2 r)
  | _, _, .tup h n l r => .tup (by rw [upd_ne fun z => h2 _ (by rw [← z]; exact h)]; exact h) n l (Rps.upN h1 h2 r)
theorem Rps.upN {p D : Addr} {H : Hp} {o : HO} (h1 : ∀ xs, H D ≠ some (.lst xs)) (h2 : ∀ xs, H D ≠ some (.tup xs)) : ∀ {vs : List V} {ds : List PyData}, Rps p H vs ds → Rps p (upd H D o) vs ds
  | _, _, .nil => .nil
  | _, _, .cons a b => .cons (Rp.upN h1 h2 a) (Rps.upN h1 h2 b)
end
theorem rp_tup {p t : Addr} {c : Int} {H : Hp} {vs : List V} {ds : List PyData} (g : Bag p c H) (nt : H t = none) (r : Rps p H vs ds) (hl : vs.length ≤ 100000 := by exact Nat.le_of_ble_eq_true rfl) : Rp p (upd H t (.tup vs)) (.ref t) (.tuple ds) :=
  .tup upd_same (g.ne nt).symm hl (r.same (same_new nt _))
theorem atI_intsU {ns : List Int} {r : Int} (h0 : 0 ≤ r) (h1 : r < ns.length) : ∃ x, x ∈ ns ∧ atI (ns.map V.int) r = some (.int x) := by
  have hi : r.toNat < ns.length := by omega
  refine ⟨ns[r.toNat], List.getElem_mem _, at_int h0 ?_⟩
  rw [List.getElem?_map, List.getElem?_eq_getElem hi]; rfl
/-- one of the listed values -/
theorem atI_mem {xs : List V} {r : Int} (h0 : 0 ≤ r) (h1 : r < xs.length) : ∃ x, x ∈ xs ∧ atI xs r = some x := by
  have hi : r.toNat < xs.length := by omega
  exact ⟨xs[r.toNat], List.getElem_mem _, at_int h0 (List.getElem?_eq_getElem hi)⟩
end Mus

set_option maxRecDepth 100000
set_option maxHeartbeats 4000000
/-! View ids as data and as keys; their order; lists sorted by them. -/
namespace Mus
open PySem PySem.Spec PyProof.Rows L2
def vKey (k i l : Int) : NestedKey := .tup [.num k, .tup [.num i, .num l]]
def vD (k i l : Int) : PyData := .tuple [.int k, .tuple [.int i, .int l]]
mutual
def kD : NestedKey → PyData
  | .none => .none
  | .num i => .int i
  | .text x => .str x
  | .tup ks => .tuple (kDs ks)
def kDs : List NestedKey → List PyData
  | [] => []
  | k :: ks => kD k :: kDs ks
end
theorem kD_v (k i l : Int) : kD (vKey k i l) = vD k i l := rfl
theorem vKey_depth (k i l : Int) : (vKey k i l).depth ≤ 8 := by simp [vKey, NestedKey.depth, NestedKey.depthAll]
theorem vKey_inj {k i l k' i' l' : Int} (h : vKey k i l = vKey k' i' l') : k = k' ∧ i = i' ∧ l = l' := by
  injection h with h
  injection h with h1 h2
  injection h1 with h1
  injection h2 with h2 _
  injection h2 with h2
  injection h2 with h2 h3
  injection h2 with h2
  injection h3 with h3 _
  injection h3 with h3
  exact ⟨h1, h2, h3⟩
theorem nk_vid {p : Addr} {H : Hp} {a : Addr} {k i l : Int} (h : Rp p H (.ref a) (vD k i l)) : NK H (.ref a) (vKey k i l) := by
  obtain _ | _ | _ | _ | _ | @⟨_, xs, _, ha, _, _, hr⟩ := h
  obtain _ | ⟨h1, _ | ⟨h2, hn⟩⟩ := hr
  cases hn
  cases h1
  obtain _ | _ | _ | _ | _ | @⟨b, ys, _, hb, _, _, hr2⟩ := h2
  obtain _ | ⟨h3, _ | ⟨h4, hn⟩⟩ := hr2
  cases hn
  cases h3
  cases h4
  exact .tup ha (.cons (.int _) (.cons (.tup hb (.cons (.int _) (.cons (.int _) .nil))) .nil))
theorem v_alike (k i l k' i' l' : Int) : PySem.W.alike (vD k i l) (vD k' i' l') = true := rfl
theorem v_depth (k i l : Int) : (vD k i l).depth ≤ 20 := by simp [vD, PyData.depth, PyData.depthAll]
/-- the order of view ids -/
def vLt (k i l k' i' l' : Int) : Bool := decide (k < k' ∨ k = k' ∧ (i < i' ∨ i = i' ∧ l < l'))
theorem v_lt (k i l k' i' l' : Int) : PySem.W.dataLt (vD k i l) (vD k' i' l') = vLt k i l k' i' l' := by
  unfold vD vLt
  rw [PySem.W.dataLt_pair rfl rfl, PySem.W.dataLt_ii, PySem.W.dataLt_int]
  have e1 : PyData.eqv (.int k) (.int k') = decide (k = k') := rfl
  have e2 : PyData.eqv (.tuple [.int i, .int l]) (.tuple [.int i', .int l']) = (decide (i = i') && decide (l = l')) := by
    show (decide (i = i') && (decide (l = l') && true)) = _
    rw [Bool.and_true]
  rw [e1, e2]
  by_cases h1 : k = k'
  · subst h1
    by_cases h2 : i = i'
    · subst h2
      by_cases h3 : l = l'
      · subst h3; simp
      · simp [h3]
    · simp [h2]
  · simp [h1]
theorem valN_mem {ks : NKV} {x : NestedKey × Addr × V} (h : (ks.map (·.1)).Nodup) (hx : x ∈ ks) : valN ks x.1 = some x.2.2 := by
  induction ks with
  | nil => cases hx
  | cons y ys ih =>
    rw [List.map_cons, List.nodup_cons] at h
    unfold valN
    rw [List.find?_cons]
    rcases List.mem_cons.mp hx with rfl | hx
    · simp
    · have ne : ¬ y.1 = x.1 := fun e => h.1 (by rw [e]; exact List.mem_map.mpr ⟨x, hx, rfl⟩)
      rw [decide_eq_false ne]
      exact ih h.2 hx
theorem putN_all {ks : NKV} {k : NestedKey} {b : Addr} {v : V} {A : NestedKey → Addr → Prop} {B : V → Prop} (h : ∀ x ∈ ks, A x.1 x.2.1 ∧ B x.2.2) (hk : A k b) (hv : B v) : ∀ x ∈ putN ks k b v, A x.1 x.2.1 ∧ B x.2.2 := by
  intro x hx
  unfold putN at hx
  split at hx
  · obtain ⟨y, hy, rfl⟩ := List.mem_map.mp hx
    split
    · exact ⟨(h y hy).1, hv⟩
    · exact h y hy
  · rcases List.mem_append.mp hx with hx | hx
    · exact h x hx
    · rw [List.mem_singleton.mp hx]; exact ⟨hk, hv⟩
/-- the entries, sorted by their keys -/
theorem sort_split {kvs : NKV} {ps : List (V × PyData)} (e : ps = ((kvs.map fun x => V.ref x.2.1).zip (kvs.map fun x => kD x.1)).mergeSort (PySem.W.dataLe false (·.2))) :
    ∃ ys : NKV, ys.Perm kvs ∧ ps.map (·.1) = ys.map (fun x => V.ref x.2.1) ∧ ys = kvs.mergeSort fun a b => !(PySem.W.dataLt (kD b.1) (kD a.1)) := by
  refine ⟨_, List.mergeSort_perm _ _, ?_, rfl⟩
  have z : (kvs.map fun x => V.ref x.2.1).zip (kvs.map fun x => kD x.1) = kvs.map fun x => (V.ref x.2.1, kD x.1) := List.zip_map' ..
  rw [e, z, ← List.map_mergeSort (r := fun a b => !(PySem.W.dataLt (kD b.1) (kD a.1))) (fun _ _ _ _ => rfl), List.map_map]
  rfl
theorem v_sorted {kvs : NKV} (h : ∀ x ∈ kvs, ∃ k i l, x.1 = vKey k i l) (n : (kvs.map (·.1)).Nodup) : (kvs.mergeSort fun a b => !(PySem.W.dataLt (kD b.1) (kD a.1))).Pairwise fun a b => PySem.W.dataLt (kD a.1) (kD b.1) = true := by
  have P : (kvs.mergeSort fun a b => !(PySem.W.dataLt (kD b.1) (kD a.1))).Perm kvs := List.mergeSort_perm _ _
  have S : (kvs.mergeSort fun a b => !(PySem.W.dataLt (kD b.1) (kD a.1))).Pairwise fun a b => (!(PySem.W.dataLt (kD b.1) (kD a.1))) = true := by
    refine List.pairwise_mergeSort (fun a b c h1 h2 => ?_) (fun a b => ?_) _
    · simp only [Bool.not_eq_true'] at h1 h2 ⊢
      cases e : PySem.W.dataLt (kD c.1) (kD a.1) with
      | false => rfl
      | true =>
        by_cases h3 : PySem.W.dataLt (kD b.1) (kD c.1) = true
        · have := PyProof.Rows.lex_trans _ _ _ h3 e
          rw [show PyProof.Rows.lexLt PyProof.Rows.itemOrd _ _ = PySem.W.dataLt (kD b.1) (kD a.1) from rfl, h1] at this
          cases this
        · have h3 : PySem.W.dataLt (kD b.1) (kD c.1) = false := by simpa using h3
          have e2 := PyProof.Rows.lex_total _ _ h2 h3
          have : PySem.W.dataLt (kD c.1) (kD a.1) = PySem.W.dataLt (kD b.1) (kD a.1) := by unfold PySem.W.dataLt; rw [e2]
          rw [this, h1] at e; cases e
    · cases e : PySem.W.dataLt (kD b.1) (kD a.1) with
      | false => rfl
      | true =>
        cases e2 : PySem.W.dataLt (kD a.1) (kD b.1) with
        | false => rfl
        | true =>
          have := PyProof.Rows.lex_trans _ _ _ e e2
          rw [PyProof.Rows.lex_irrefl] at this
          cases this
  have N : (kvs.mergeSort fun a b => !(PySem.W.dataLt (kD b.1) (kD a.1))).Pairwise fun a b => a.1 ≠ b.1 := by
    have : ((kvs.mergeSort fun a b => !(PySem.W.dataLt (kD b.1) (kD a.1))).map (·.1)).Nodup := (P.map _).nodup_iff.mpr n
    exact List.pairwise_map.mp this
  refine (S.and N).imp_of_mem fun {a b} ha hb ⟨h1, h2⟩ => ?_
  obtain ⟨k, i, l, ea⟩ := h a (P.mem_iff.mp ha)
  obtain ⟨k', i', l', eb⟩ := h b (P.mem_iff.mp hb)
  rw [ea, eb] at h1 h2 ⊢
  rw [kD_v, kD_v, v_lt] at h1 ⊢
  unfold vLt at h1 ⊢
  have ne : ¬ (k = k' ∧ i = i' ∧ l = l') := fun ⟨e1, e2, e3⟩ => h2 (by rw [e1, e2, e3])
  simp only [Bool.not_eq_true', decide_eq_false_iff_not, decide_eq_true_eq] at h1 ⊢
  omega
end Mus

set_option maxRecDepth 100000
set_option maxHeartbeats 4000000
/-! in, not in: data in a list or a tuple of data. -/
namespace Mus
open PySem PySem.Spec PyProof.Rows L2
def rInDD (K : PySem.W.Frag) (f : Bool → Bool) : R2 := fun x y H Q => ∃ d ds, Dp K H x d ∧ (Dp K H y (.list ds) ∨ Dp K H y (.tuple ds)) ∧ d.canLay0 = true ∧ PyData.canLayAll0 ds = true ∧ d.depth ≤ 20 ∧ Q (.bl (f (ds.any fun z => PyData.eqv z d))) H
section
variable {X : Cx}
theorem op_inDD (hu : X.A.units + 64 < cLine) : OpR X (compareOp .In) (rInDD X.K id) := by
  intro pins s σ H x y v u Q I rx ry h
  obtain ⟨d, ds, hd, hs, cd, cs, dp, q⟩ := h
  obtain ⟨as, r1⟩ := Dp.reads I d x v hd rx
  have hr : X.A.units + 1 + min (PyData.depthAll ds) d.depth < cLine := by
    have : min (PyData.depthAll ds) d.depth ≤ d.depth := Nat.min_le_right _ _
    omega
  rcases hs with hs | hs
  · obtain ⟨bs, r2⟩ := Dp.reads I _ y u hs ry
    exact SeqAt.in_list_reads r2 r1 cs cd hr ⟨.bl _, H, I, rfl, q⟩
  · obtain ⟨bs, r2⟩ := Dp.reads I _ y u hs ry
    exact SeqAt.in_tuple_reads r2 r1 cs cd hr ⟨.bl _, H, I, rfl, q⟩
theorem op_notInDD (hu : X.A.units + 64 < cLine) : OpR X (compareOp .NotIn) (rInDD X.K not) := by
  intro pins s σ H x y v u Q I rx ry h
  obtain ⟨d, ds, hd, hs, cd, cs, dp, q⟩ := h
  obtain ⟨as, r1⟩ := Dp.reads I d x v hd rx
  have hr : X.A.units + 1 + min (PyData.depthAll ds) d.depth < cLine := by
    have : min (PyData.depthAll ds) d.depth ≤ d.depth := Nat.min_le_right _ _
    omega
  rcases hs with hs | hs
  · obtain ⟨bs, r2⟩ := Dp.reads I _ y u hs ry
    exact SeqAt.notIn_list_reads r2 r1 cs cd hr ⟨.bl _, H, I, rfl, q⟩
  · obtain ⟨bs, r2⟩ := Dp.reads I _ y u hs ry
    exact SeqAt.notIn_tuple_reads r2 r1 cs cd hr ⟨.bl _, H, I, rfl, q⟩
end
end Mus

set_option maxRecDepth 100000
set_option maxHeartbeats 4000000
/-! Data without lists, wherever it stands; frames: what a call may have changed. -/
namespace Mus
open PySem PySem.Spec PyProof.Rows L2
mutual
inductive TD (H : Hp) : V → PyData → Prop
  | non : TD H .non .none
  | bl (b : Bool) : TD H (.bl b) (.bool b)
  | int (i : Int) : TD H (.int i) (.int i)
  | str (x : Str) : TD H (.str x) (.str x)
  | tup {a : Addr} {xs : List V} {ds : List PyData} : H a = some (.tup xs) → xs.length ≤ 100000 → TDs H xs ds → TD H (.ref a) (.tuple ds)
inductive TDs (H : Hp) : List V → List PyData → Prop
  | nil : TDs H [] []
  | cons {v : V} {vs : List V} {d : PyData} {ds : List PyData} : TD H v d → TDs H vs ds → TDs H (v :: vs) (d :: ds)
end
/-- tuples stay -/
def TupK (H H' : Hp) : Prop := ∀ b xs, H b = some (.tup xs) → H' b = some (.tup xs)
theorem TupK.refl (H : Hp) : TupK H H := fun _ _ h => h
theorem TupK.trans {H H1 H2 : Hp} (a : TupK H H1) (b : TupK H1 H2) : TupK H H2 := fun c xs h => b c xs (a c xs h)
theorem TupK.of {H H' : Hp} (s : Same H H') : TupK H H' := fun b xs h => s b _ h
theorem tupK_upd {H : Hp} {D : Addr} {o : HO} (h : ∀ xs, H D ≠ some (.tup xs)) : TupK H (upd H D o) := fun b xs e => by
  rw [upd_ne fun z => h xs (by rw [← z]; exact e)]; exact e
mutual
theorem TD.mono {H H' : Hp} (k : TupK H H') : ∀ {v : V} {d : PyData}, TD H v d → TD H' v d
  | _, _, .non => .non
  | _, _, .bl b => .bl b
  | _, _, .int i => .int i
  | _, _, .str x => .str x
  | _, _, .tup h l r => .tup (k _ _ h) l (r.mono k)
theorem TDs.mono {H H' : Hp} (k : TupK H H') : ∀ {vs : List V} {ds : List PyData}, TDs H vs ds → TDs H' vs ds
  | _, _, .nil => .nil
  | _, _, .cons a r => .cons (a.mono k) (r.mono k)
end
theorem TD.same {H H' : Hp} {v : V} {d : PyData} (h : TD H v d) (s : Same H H') : TD H' v d := h.mono (TupK.of s)
theorem TDs.same {H H' : Hp} {vs : List V} {ds : List PyData} (h : TDs H vs ds) (s : Same H H') : TDs H' vs ds := h.mono (TupK.of s)
mutual
theorem TD.dp {K : PySem.W.Frag} {H : Hp} : ∀ {v : V} {d : PyData}, TD H v d → Dp K H v d
  | _, _, .non => .non
  | _, _, .bl b => .bl b
  | _, _, .int i => .int i
  | _, _, .str x => .str x
  | _, _, .tup h _ r => .tup (SqT.of h) r.dp
theorem TDs.dp {K : PySem.W.Frag} {H : Hp} : ∀ {vs : List V} {ds : List PyData}, TDs H vs ds → DpAll K H vs ds
  | _, _, .nil => .nil
  | _, _, .cons a r => .cons a.dp r.dp
end
mutual
/-- none of it at p, where no tuple stands -/
theorem TD.rp {p : Addr} {H : Hp} (hp : ∀ xs, H p ≠ some (.tup xs)) : ∀ {v : V} {d : PyData}, TD H v d → Rp p H v d
  | _, _, .non => .non
  | _, _, .bl b => .bl b
  | _, _, .int i => .int i
  | _, _, .str x => .str x
  | _, _, .tup h l r => .tup h (fun z => hp _ (z ▸ h)) l (r.rp hp)
theorem TDs.rp {p : Addr} {H : Hp} (hp : ∀ xs, H p ≠ some (.tup xs)) : ∀ {vs : List V} {ds : List PyData}, TDs H vs ds → Rps p H vs ds
  | _, _, .nil => .nil
  | _, _, .cons a r => .cons (a.rp hp) (r.rp hp)
end
theorem TDs.length {H : Hp} : ∀ {vs : List V} {ds : List PyData}, TDs H vs ds → vs.length = ds.length
  | _, _, .nil => rfl
  | _, _, .cons _ r => congrArg (· + 1) r.length
theorem TDs.append {H : Hp} : ∀ {vs : List V} {ds : List PyData} {us : List V} {es : List PyData}, TDs H vs ds → TDs H us es → TDs H (vs ++ us) (ds ++ es)
  | _, _, _, _, .nil, r => r
  | _, _, _, _, .cons a b, r => .cons a (b.append r)
theorem TDs.at {H : Hp} : ∀ {vs : List V} {ds : List PyData} {i : Nat} {y : V}, TDs H vs ds → vs[i]? = some y → ∃ d, ds[i]? = some d ∧ TD H y d
  | _, _, _, _, .nil, h => by cases h
  | _, _, 0, _, .cons a b, h => by cases h; exact ⟨_, rfl, a⟩
  | _, _, i + 1, _, .cons a b, h => b.at (i := i) h
theorem TDs.get {H : Hp} : ∀ {vs : List V} {ds : List PyData} {i : Nat} {d : PyData}, TDs H vs ds → ds[i]? = some d → ∃ y, vs[i]? = some y ∧ TD H y d
  | _, _, _, _, .nil, h => by cases h
  | _, _, 0, _, .cons a b, h => by cases h; exact ⟨_, rfl, a⟩
  | _, _, i + 1, _, .cons a b, h => b.get (i := i) h
theorem TDs.take {H : Hp} : ∀ {vs : List V} {ds : List PyData} (n : Nat), TDs H vs ds → TDs H (vs.take n) (ds.take n)
  | _, _, 0, _ => .nil
  | _, _, n + 1, .nil => .nil
  | _, _, n + 1, .cons a q => .cons a (q.take n)
theorem TDs.drop {H : Hp} : ∀ {vs : List V} {ds : List PyData} (n : Nat), TDs H vs ds → TDs H (vs.drop n) (ds.drop n)
  | _, _, 0, r => r
  | _, _, n + 1, .nil => .nil
  | _, _, n + 1, .cons a q => q.drop n
theorem TDs.cut {H : Hp} {vs : List V} {ds : List PyData} (r : TDs H vs ds) (lo hi : Option Int) : TDs H (cutV vs lo hi) (cutD ds lo hi) := by
  unfold cutV cutD
  rw [r.length]
  exact (r.drop _).take _
/-! ### frames -/
/-- of what stood in H all but what is at fp is as it was; fp' is of fp or new; tuples stay -/
structure Fr (fp fp' : List Addr) (H H' : Hp) : Prop where
  k : ∀ b o, H b = some o → b ∉ fp → H' b = some o
  n : ∀ b ∈ fp', b ∈ fp ∨ H b = none
  t : TupK H H'
  s : ∀ b, H' b = none → H b = none
theorem Fr.refl (fp : List Addr) (H : Hp) : Fr fp fp H H := ⟨fun _ _ h _ => h, fun _ h => .inl h, TupK.refl H, fun _ h => h⟩
theorem Fr.of {fp : List Addr} {H H' : Hp} (s : Same H H') : Fr fp fp H H' := ⟨fun b o h _ => s b o h, fun _ h => .inl h, TupK.of s, fun b h => by
  cases e : H b with
  | none => rfl
  | some o => rw [s b o e] at h; cases h⟩
theorem Fr.trans {fp fp1 fp2 : List Addr} {H H1 H2 : Hp} (a : Fr fp fp1 H H1) (b : Fr fp1 fp2 H1 H2) : Fr fp fp2 H H2 := by
  refine ⟨fun c o h n => b.k c o (a.k c o h n) fun m => ?_, fun c m => ?_, a.t.trans b.t, fun c h => a.s c (b.s c h)⟩
  · rcases a.n c m with z | z
    · exact n z
    · rw [h] at z; cases z
  · rcases b.n c m with z | z
    · exact a.n c z
    · by_cases q : c ∈ fp
      · exact .inl q
      · cases e : H c with
        | none => exact .inr rfl
        | some o => rw [a.k c o e q] at z; cases z
theorem Fr.same {fp : List Addr} {H H' : Hp} (f : Fr [] fp H H') : Same H H' := fun b o h => f.k b o h List.not_mem_nil
theorem fr_upd {fp : List Addr} {H : Hp} {p : Addr} {o0 o : HO} (hp : p ∈ fp) (ho : H p = some o0) (nt : ∀ xs, o0 ≠ .tup xs) : Fr fp fp H (upd H p o) :=
  ⟨fun b u e n => by rw [upd_ne (show b ≠ p from fun z => n (by rw [z]; exact hp))]; exact e, fun _ h => .inl h, tupK_upd fun xs e => nt xs (Option.some.inj (ho.symm.trans e)), fun b h => by
    by_cases z : b = p
    · rw [z, upd_same] at h; cases h
    · rwa [upd_ne z] at h⟩
theorem fr_new {fp : List Addr} {H : Hp} {p : Addr} {o : HO} (ho : H p = none) : Fr fp (p :: fp) H (upd H p o) :=
  ⟨fun b u e n => by rw [upd_ne (ne_of_none e ho)]; exact e, fun b h => by
    rcases List.mem_cons.mp h with rfl | h
    · exact .inr ho
    · exact .inl h, tupK_upd fun xs e => (by rw [ho] at e; cases e), fun b h => by
    by_cases z : b = p
    · rw [z, upd_same] at h; cases h
    · rwa [upd_ne z] at h⟩
theorem Fr.sub {fp fp1 fp2 : List Addr} {H H' : Hp} (f : Fr fp fp1 H H') (h : ∀ b ∈ fp2, b ∈ fp1) : Fr fp fp2 H H' := ⟨f.k, fun b m => f.n b (h b m), f.t, f.s⟩
theorem Fr.wide {fp fp0 fp1 : List Addr} {H H' : Hp} (f : Fr fp fp1 H H') (h : ∀ b ∈ fp, b ∈ fp0) : Fr fp0 (fp0 ++ fp1) H H' :=
  ⟨fun b o e n => f.k b o e fun m => n (h b m), fun b m => by
    rcases List.mem_append.mp m with m | m
    · exact .inl m
    · exact (f.n b m).imp (h b) id, f.t, f.s⟩
/-! ### members, ids, messages -/
abbrev Mem := Int × Int
abbrev Vid := Int × Mem
abbrev Msg := Mem × Int × Str
abbrev Cst := Int × Str
def eM (m : Mem) : PyData := .tuple [.int m.1, .int m.2]
def eV (v : Vid) : PyData := .tuple [.int v.1, eM v.2]
def eG (g : Msg) : PyData := .tuple [eM g.1, .int g.2.1, .str g.2.2]
def eC (c : Cst) : PyData := .tuple [.int c.1, .str c.2]
def eMs (ms : List Mem) : PyData := .tuple (ms.map eM)
def kM (m : Mem) : NestedKey := .tup [.num m.1, .num m.2]
theorem kM_inj {a b : Mem} (h : kM a = kM b) : a = b := by
  injection h with h
  injection h with h1 h2
  injection h1 with h1
  injection h2 with h2 _
  injection h2 with h2
  exact Prod.ext h1 h2
theorem kM_depth (m : Mem) : (kM m).depth ≤ 8 := by simp [kM, NestedKey.depth, NestedKey.depthAll]
theorem TD.mem {H : Hp} {v : V} {m : Mem} (h : TD H v (eM m)) : ∃ a, v = .ref a ∧ H a = some (.tup [.int m.1, .int m.2]) := by
  cases h with
  | tup h _ r =>
    obtain _ | ⟨h1, _ | ⟨h2, hn⟩⟩ := r
    cases hn; cases h1; cases h2
    exact ⟨_, rfl, h⟩
theorem TD.vid {H : Hp} {v : V} {m : Vid} (h : TD H v (eV m)) : ∃ a u, v = .ref a ∧ H a = some (.tup [.int m.1, u]) ∧ TD H u (eM m.2) := by
  cases h with
  | tup h _ r =>
    obtain _ | ⟨h1, _ | ⟨h2, hn⟩⟩ := r
    cases hn; cases h1
    exact ⟨_, _, rfl, h, h2⟩
theorem TD.msg {H : Hp} {v : V} {g : Msg} (h : TD H v (eG g)) : ∃ a u, v = .ref a ∧ H a = some (.tup [u, .int g.2.1, .str g.2.2]) ∧ TD H u (eM g.1) := by
  cases h with
  | tup h _ r =>
    obtain _ | ⟨h1, _ | ⟨h2, _ | ⟨h3, hn⟩⟩⟩ := r
    cases hn; cases h2; cases h3
    exact ⟨_, _, rfl, h, h1⟩
theorem TD.cst {H : Hp} {v : V} {c : Cst} (h : TD H v (eC c)) : ∃ a, v = .ref a ∧ H a = some (.tup [.int c.1, .str c.2]) := by
  cases h with
  | tup h _ r =>
    obtain _ | ⟨h1, _ | ⟨h2, hn⟩⟩ := r
    cases hn; cases h1; cases h2
    exact ⟨_, rfl, h⟩
theorem td_mem {H : Hp} {a : Addr} {m : Mem} (h : H a = some (.tup [.int m.1, .int m.2])) : TD H (.ref a) (eM m) := .tup h (by show 2 ≤ 100000; decide) (.cons (.int _) (.cons (.int _) .nil))
theorem td_msg {H : Hp} {a : Addr} {u : V} {g : Msg} (h : H a = some (.tup [u, .int g.2.1, .str g.2.2])) (hu : TD H u (eM g.1)) : TD H (.ref a) (eG g) := .tup h (by show 3 ≤ 100000; decide) (.cons hu (.cons (.int _) (.cons (.str _) .nil)))
theorem td_cst {H : Hp} {a : Addr} {c : Cst} (h : H a = some (.tup [.int c.1, .str c.2])) : TD H (.ref a) (eC c) := .tup h (by show 2 ≤ 100000; decide) (.cons (.int _) (.cons (.str _) .nil))
theorem TD.nk {H : Hp} {v : V} {m : Mem} (h : TD H v (eM m)) : ∃ a, v = .ref a ∧ NK H (.ref a) (kM m) := by
  obtain ⟨a, rfl, h2⟩ := h.mem
  exact ⟨a, rfl, .tup h2 (.cons (.int _) (.cons (.int _) .nil))⟩
theorem eM_eqv (a b : Mem) : PyData.eqv (eM a) (eM b) = decide (a = b) := by
  show (decide (a.1 = b.1) && (decide (a.2 = b.2) && true)) = _
  rw [Bool.and_true, ← Bool.decide_and]
  exact decide_eq_decide.mpr ⟨fun h => Prod.ext h.1 h.2, fun h => by rw [h]; exact ⟨rfl, rfl⟩⟩
theorem eV_eqv (a b : Vid) : PyData.eqv (eV a) (eV b) = decide (a = b) := by
  show (decide (a.1 = b.1) && (PyData.eqv (eM a.2) (eM b.2) && true)) = _
  rw [Bool.and_true, eM_eqv, ← Bool.decide_and]
  exact decide_eq_decide.mpr ⟨fun h => Prod.ext h.1 h.2, fun h => by rw [h]; exact ⟨rfl, rfl⟩⟩
theorem eM_lay (m : Mem) : (eM m).canLay0 = true ∧ (eM m).depth = 1 ∧ SeqAt.shaped (eM m) = true := by
  refine ⟨rfl, by simp [eM, PyData.depth, PyData.depthAll], ?_⟩
  simp [eM, SeqAt.shaped, PyData.canLay0, PyData.canLayAll0, PyData.depth, PyData.depthAll]
theorem eV_lay (v : Vid) : (eV v).canLay0 = true ∧ (eV v).depth = 2 ∧ SeqAt.shaped (eV v) = true := by
  refine ⟨rfl, by simp [eV, eM, PyData.depth, PyData.depthAll], ?_⟩
  simp [eV, eM, SeqAt.shaped, PyData.canLay0, PyData.canLayAll0, PyData.depth, PyData.depthAll]
theorem eMs_lay : ∀ ms : List Mem, PyData.canLayAll0 (ms.map eM) = true
  | [] => rfl
  | m :: ms => by show ((eM m).canLay0 && PyData.canLayAll0 (ms.map eM)) = true; rw [(eM_lay m).1, eMs_lay ms]; rfl
theorem eMs_any (ms : List Mem) (m : Mem) : ((ms.map eM).any fun z => PyData.eqv z (eM m)) = decide (m ∈ ms) := by
  rw [List.any_map, Bool.eq_iff_iff, List.any_eq_true, decide_eq_true_eq]
  constructor
  · rintro ⟨x, hx, h⟩
    have h : decide (x = m) = true := by rw [← eM_eqv]; exact h
    rw [← of_decide_eq_true h]; exact hx
  · intro h
    exact ⟨m, h, by show PyData.eqv (eM m) (eM m) = true; rw [eM_eqv]; simp⟩
section
variable {K : PySem.W.Frag} {H : Hp} {x y : V} {a b : Mem} {Q : VK}
theorem rd_eqM (hx : TD H x (eM a)) (hy : TD H y (eM b)) (q : Q (.bl (decide (a = b))) H) : rEqD K x y H Q :=
  ⟨_, _, hx.dp, hy.dp, (eM_lay a).2.2, (eM_lay b).2.2, by rw [eM_eqv]; exact q⟩
theorem rd_neM (hx : TD H x (eM a)) (hy : TD H y (eM b)) (q : Q (.bl (!decide (a = b))) H) : rNeD K x y H Q :=
  ⟨_, _, hx.dp, hy.dp, (eM_lay a).2.2, (eM_lay b).2.2, by rw [eM_eqv]; exact q⟩
theorem rd_neV {a b : Vid} (hx : TD H x (eV a)) (hy : TD H y (eV b)) (q : Q (.bl (!decide (a = b))) H) : rNeD K x y H Q :=
  ⟨_, _, hx.dp, hy.dp, (eV_lay a).2.2, (eV_lay b).2.2, by rw [eV_eqv]; exact q⟩
theorem rd_eqV {a b : Vid} (hx : TD H x (eV a)) (hy : TD H y (eV b)) (q : Q (.bl (decide (a = b))) H) : rEqD K x y H Q :=
  ⟨_, _, hx.dp, hy.dp, (eV_lay a).2.2, (eV_lay b).2.2, by rw [eV_eqv]; exact q⟩
theorem rd_inMs {ms : List Mem} {f : Bool → Bool} (hx : TD H x (eM a)) (hy : TD H y (eMs ms)) (q : Q (.bl (f (decide (a ∈ ms)))) H) : rInDD K f x y H Q :=
  ⟨_, _, hx.dp, .inr hy.dp, (eM_lay a).1, eMs_lay ms, by rw [(eM_lay a).2.1]; decide, by rw [eMs_any]; exact q⟩
theorem rd_inMl {ms : List Mem} {l : Addr} {vs : List V} {f : Bool → Bool} (hx : TD H x (eM a)) (hl : H l = some (.lst vs)) (hv : TDs H vs (ms.map eM)) (q : Q (.bl (f (decide (a ∈ ms)))) H) : rInDD K f x (.ref l) H Q :=
  ⟨_, _, hx.dp, .inl (.lst (SqL.of hl) hv.dp), (eM_lay a).1, eMs_lay ms, by rw [(eM_lay a).2.1]; decide, by rw [eMs_any]; exact q⟩
end
end Mus

set_option maxRecDepth 100000
set_option maxHeartbeats 4000000
/-! enumerate of a list from a start: for i, x in enumerate(xs, start=n). -/
namespace Mus
open PySem PySem.Spec PyProof.Rows L2
/-- the pairs (k + i, the list's item i) -/
def ItK (K : PySem.W.Frag) (a : Addr) (k : Int) : It where
  go := fun i H => ∃ (xs : List V) (x : V), SqL K H a xs ∧ xs[i]? = some x
  yld := fun i H v H' => ∃ T x, v = .ref T ∧ H T = none ∧ H' = upd H T (.tup [.int (k + (i : Int)), x]) ∧ ∀ xs, SqL K H a xs → xs[i]? = some x
  stop := fun i H => ∃ xs : List V, SqL K H a xs ∧ xs.length = i
theorem turn_enK {P : Program} {w : World} {K : PySem.W.Frag} {elts : List Expr} {kk : Nat} {tpos : Pos} (k : Int) (a e it : Addr) :
    Turn P w K (.Tuple elts kk tpos) (ItK K a k) [e, it] e (fun i h => (∃ old, IsEnum h e it (k + (i : Int)) old) ∧ h.IsListIter it a i ∧ e ≠ it ∧ a ≠ it ∧ a ≠ e) where
  mem := by simp
  obj := fun i h st b hb => by
    obtain ⟨⟨old, he⟩, ⟨o, ho, hc, hd⟩, _⟩ := st
    rcases List.mem_cons.mp hb with z | z
    · rw [z]; exact ⟨_, he, fun v q => nomatch q⟩
    · exact ⟨o, List.mem_singleton.mp z ▸ ho, fun v q => by rw [hd] at q; cases q⟩
  keep := fun i h h' st k => by
    obtain ⟨⟨old, he⟩, hi, r⟩ := st
    exact ⟨⟨old, k e List.mem_cons_self _ he⟩, hi.at fun o q => k it (by simp) o q, r⟩
  item := by
    intro X hP hw hK hc i pins s σ H E I hf st hg
    subst hP hw hK
    obtain ⟨⟨old, he⟩, hit, hne, hai, hae⟩ := st
    obtain ⟨xs, x, hq, hx⟩ := hg
    obtain ⟨its, rv, p, hz⟩ := I.list hq
    obtain ⟨u, hu, ru⟩ := rv.get hx
    have lt : i < its.toArray.size := by simpa using (List.getElem?_eq_some_iff.mp hu).1
    refine wpAny_pyNext_enum_itemC (Draws.list (A := X.A.in1) (I.ok.hd hc) it a hai its.toArray) he ⟨hit, p.isList⟩ lt hne (by simp [hne, Ne.symm hae]) fun y h1 tk hy ho st1 hT hsz hk => ?_
    have ey : y = u := by
      have hy : its.toArray[i]? = some y := hy
      rw [List.getElem?_toArray, hu] at hy
      exact (Option.some.inj hy).symm
    subst ey
    refine ⟨_, rfl, wpAny_letOwnedTupleGo_enum (s := { s with heap := h1, toks := tk + 1 }) ho fun h2 he2 sb => ?_⟩
    have hel := Heap.lt_size he
    have hT2 := (sb.2 s.heap.objs.size (Nat.ne_of_gt hel)).trans hT
    have new : ObjOk X.prog X.w (upd H s.heap.objs.size (.tup [.int (k + (i : Int)), x])) h2 s.heap.objs.size (.tup [.int (k + (i : Int)), x]) := ⟨by show 2 ≤ sizeLine; decide, [.int (k + (i : Int)) tk, y], .cons ⟨_, rfl⟩ (.cons ru .nil), ⟨_, hT2, rfl, _, rfl⟩⟩
    have I1 : Inv X pins σ (upd H s.heap.objs.size (.tup [.int (k + (i : Int)), x])) { s with heap := h2, toks := tk + 1 } :=
      I.turnedNew (ch := [e, it]) (fun b ob hb q => by
        have n1 : b ≠ e := fun z => hb (by simp [z])
        have n2 : b ≠ it := fun z => hb (by simp [z])
        exact (sb.2 b n1).trans (hk b ob n1 n2 q)) hf (Nat.le_refl _) new
    have hfr : H s.heap.objs.size = none := I.hok.fresh (Nat.le_refl _)
    have ei : k + (i : Int) + 1 = k + ((i + 1 : Nat) : Int) := by omega
    rw [ei] at he2
    refine ⟨.ref s.heap.objs.size, _, I1, rfl, ⟨_, x, rfl, hfr, rfl, fun ys hy => by rw [I.list_inj hy hq]; exact hx⟩, ⟨⟨y, he2⟩, st1.1.at fun o q => (sb.2 it (Ne.symm hne)).trans q, hne, hai, hae⟩, fun b hb => ?_⟩
    have hb0 := (hf b hb).1
    rw [upd_ne]
    · exact hb0
    · intro z
      have hl : b < s.heap.objs.size := by
        rcases List.mem_cons.mp hb with z | z
        · rw [z]; exact hel
        · obtain ⟨o, q, _⟩ := hit
          rw [List.mem_singleton.mp z]; exact Heap.lt_size q
      exact Nat.ne_of_lt hl z
  done := by
    intro X hP hw hK hc i pins s σ H E I hf st hg
    subst hP hw hK
    obtain ⟨⟨old, he⟩, hit, hne, hai, hae⟩ := st
    obtain ⟨xs, hq, hx⟩ := hg
    obtain ⟨its, rv, p, hz⟩ := I.list hq
    have hl := rv.length
    have ei : i = its.toArray.size := by rw [← hx, hl]; rfl
    subst ei
    obtain ⟨f0, f1, f2, f3, f4, f5⟩ := hf it (by simp)
    exact wpAny_pyNext_enum_endD (Draws.list (A := X.A.in1) (I.ok.hd hc) it a hai its.toArray) he ⟨hit, p.isList⟩ fun h1 eb => ⟨rfl, I.turned (t' := s.toks) (fun b o hb q => eb b o hb q) f0 f1 f3 f4 f5⟩
  self := fun A i s Q E st h => by
    obtain ⟨⟨_, he⟩, _⟩ := st
    exact wpAny_pyIter_enum he h
theorem callWith_typeK {M : Model} {env : Env} {A : Around} {E : Value → Shared → Prop} {s : Shared} {pos : Pos} {T : String} {e : Expr} {rest : List Expr} {kws : List Keyword} {Q : Value → Shared → Prop}
    (h : wpAny M A (spliced (backTo pos (starEach (e :: rest) env))) (fun vs s₁ => wpAny M A (evalAll ((backToKw pos (keywordEach kws env)).map (·.2)))
      (fun kvs s₂ => wpAny M A (call (.type T) vs (((backToKw pos (keywordEach kws env)).filterMap (·.1)).zip kvs)) Q E s₂) E s₁) E s)
    (he : backTo pos (starEach (e :: rest) env) = (false, eval e env) :: backTo pos (starEach rest env) := by rfl)
    (hplain : (backTo pos (starEach (e :: rest) env)).any (·.1) = false := by rfl)
    (hall : (backToKw pos (keywordEach kws env)).all (·.1.isSome) = true := by rfl)
    (hkw : (backToKw pos (keywordEach kws env)).any (·.1.isNone) = false := by rfl) :
    wpAny M A (callWith pos (.type T) [] (backTo pos (starEach (e :: rest) env)) (backToKw pos (keywordEach kws env))) Q E s := by
  have g : wpAny M A (evalArgs (.type T) true (backTo pos (starEach (e :: rest) env)) (backToKw pos (keywordEach kws env))) (fun a s₁ => wpAny M A (call (.type T) ([] ++ a.pos) a.kw) Q E s₁) E s := by
    rw [he] at h ⊢
    exact evalArgs_kwB hall h
  unfold callWith
  refine wpAny_bind (wpAny_holding (wpAny_mono g (fun a s₁ h₁ => wpAny_bind (wpAny_standAt ?_)) fun _ _ x => x))
  simp only [hplain, hkw, Bool.or_false]
  refine wpAny_bind (wpAny_pure ?_)
  exact wpAny_bind (wpAny_mono h₁ (fun r s₂ hr => wpAny_bind (wpAny_holding (wpAny_point (wpAny_pure hr)))) fun _ _ x => x)
def iEnK (K : PySem.W.Frag) (ta tk : TA) : TI := fun σ H R => ta σ H fun vs H1 => tk σ H1 fun zs H2 => ∃ a xs k, vs = [.ref a] ∧ zs = [.int k] ∧ SqL K H2 a xs ∧ 0 ≤ k ∧ k < 2 ^ 62 ∧ R (ItK K a k) H2
theorem pi_enK {X : Cx} {e : Expr} {kws : List Keyword} {ta tk : TA} {p pos tpos : Pos} {elts : List Expr} {kk : Nat} (hg : Gl X "enumerate") (hm : X.mg "enumerate" = none) (ha : PA X [e] ta) (hk : PK X kws tk)
    (he : backTo pos (starEach [e] X.env) = (false, eval e X.env) :: backTo pos (starEach [] X.env) := by rfl) (hpl : (backTo pos (starEach [e] X.env)).any (·.1) = false := by rfl)
    (hall : (backToKw pos (keywordEach kws X.env)).all (·.1.isSome) = true := by rfl) (hnone : (backToKw pos (keywordEach kws X.env)).any (·.1.isNone) = false := by rfl) (hks : (backToKw pos (keywordEach kws X.env)).filterMap (·.1) = [Str.ofString "start"] := by rfl) :
    PI X (.Tuple elts kk tpos) (.Call (.Name "enumerate" p) [e] kws pos) (iEnK X.K ta tk) := by
  refine ⟨fun pins s σ H R I h => ?_⟩
  refine wpAny_Call_Name_kw (ld_blt I hg hm boot_enumerate (callWith_typeK (thn (ha.run pos pins s σ H _ I h) fun us s1 ⟨vs, H1, I1, r1, q1⟩ => thn (hk.run pos pins s1 σ H1 _ I1 q1) fun ws s2 ⟨zs, H2, I2, r2, q2⟩ => ?_) he hpl hall hnone))
  rw [hks]
  obtain ⟨a, xs, k, rfl, rfl, hq, k0, k1, q⟩ := q2
  obtain _ | ⟨r, _ | _⟩ := r1
  cases r
  obtain _ | ⟨r, _ | _⟩ := r2
  obtain ⟨t, rfl⟩ := (show ∃ t, _ = Value.int k t from r)
  obtain ⟨its, rv, p', hz⟩ := I2.list hq
  have p'' : s2.heap.IsList a its.toArray := p'.isList
  have la : a < s2.heap.objs.size := by
    obtain ⟨o, y, _⟩ := p''
    exact Heap.lt_size y
  refine enum_begins_start (begins_list a its.toArray) p'' (by omega) (by omega) fun h1 he' ho _ hk' => wpAny_pyIter_enum he' ?_
  have I3 : Inv X pins σ H2 { s2 with heap := h1 } := I2.kept (t' := s2.toks) hk'
  have e0 : k + ((0 : Nat) : Int) = k := by omega
  refine ⟨s2.heap.objs.size + 1, [s2.heap.objs.size + 1, s2.heap.objs.size], _, _, H2, rfl, I3, turn_enK k a (s2.heap.objs.size + 1) s2.heap.objs.size, ⟨⟨.none, by rw [e0]; exact he'⟩, ⟨_, ho, rfl, rfl⟩, Nat.succ_ne_self _, Nat.ne_of_lt la, Nat.ne_of_lt (Nat.lt_succ_of_lt la)⟩, fun b hb => ?_, q⟩
  have hle : s2.heap.objs.size ≤ b := by
    rcases List.mem_cons.mp hb with z | z
    · rw [z]; exact Nat.le_succ _
    · rw [List.mem_singleton.mp z]; exact Nat.le_refl _
  exact I2.fpOk hle (I2.hok.fresh hle)
theorem walk_enK {K : PySem.W.Frag} {a : Addr} {k : Int} {xs : List V} : Walk (ItK K a k) xs.length (fun H => SqL K H a xs) (YPair (fun i => some (.int (k + (i : Int)))) (fun i => xs[i]?)) where
  goes := fun i H hi h => ⟨xs, _, h, List.getElem?_eq_getElem hi⟩
  stops := fun H h => ⟨xs, h, rfl⟩
  yields := fun i H v H' hi h y => by
    obtain ⟨T, x, e1, e2, e3, e4⟩ := y
    exact ⟨T, _, x, e1, e2, e3, rfl, e4 xs h⟩
end Mus

set_option maxRecDepth 100000
set_option maxHeartbeats 4000000
namespace Mus
open PySem PySem.Spec PyProof.Rows L2
theorem valN_put {ks : NKV} {k k' : NestedKey} {b : Addr} {v : V} : valN (putN ks k b v) k' = if k' = k then some v else valN ks k' := by
  have rep : ∀ ks : NKV, (valN ks k).isSome → valN (ks.map fun x => if x.1 = k then (x.1, x.2.1, v) else x) k' = if k' = k then some v else valN ks k' := by
    intro ks
    induction ks with
    | nil => intro h; cases h
    | cons y ys ih =>
      intro h
      unfold valN at h ih ⊢
      rw [List.map_cons, List.find?_cons, List.find?_cons]
      rw [List.find?_cons] at h
      by_cases e : y.1 = k
      · simp only [e, if_true]
        by_cases e2 : k = k'
        · simp [e2]
        · have e3 : ¬ k' = k := fun z => e2 z.symm
          simp only [decide_eq_false e2, if_neg e3]
          have nomem : ∀ zs : NKV, (zs.map fun x => if x.1 = k then (x.1, x.2.1, v) else x).find? (fun x => decide (x.1 = k')) = zs.find? (fun x => decide (x.1 = k')) := by
            intro zs
            induction zs with
            | nil => rfl
            | cons z zs ih2 =>
              rw [List.map_cons, List.find?_cons, List.find?_cons]
              by_cases e4 : z.1 = k
              · simp [e4, e2, ih2]
              · simp [e4, ih2]
          rw [nomem]
      · simp only [e, if_false]
        simp only [e, decide_false] at h
        by_cases e2 : y.1 = k'
        · have e3 : ¬ k' = k := fun z => e (e2.trans z)
          simp [e2, e3]
        · simp only [decide_eq_false e2]
          exact ih h
  have app : ∀ ks : NKV, valN ks k = none → valN (ks ++ [(k, b, v)]) k' = if k' = k then some v else valN ks k' := by
    intro ks
    induction ks with
    | nil =>
      intro _
      unfold valN
      by_cases e : k' = k
      · simp [e]
      · have e3 : ¬ k = k' := fun z => e z.symm
        simp [e, e3]
    | cons y ys ih =>
      intro h
      unfold valN at h ih ⊢
      rw [List.find?_cons] at h
      rw [List.cons_append, List.find?_cons, List.find?_cons]
      by_cases e : y.1 = k
      · simp [e] at h
      · simp only [e, decide_false] at h
        by_cases e2 : y.1 = k'
        · have e3 : ¬ k' = k := fun z => e (e2.trans z)
          simp [e2, e3]
        · simp only [decide_eq_false e2]
          exact ih h
  unfold putN
  cases h : valN ks k with
  | none => simp only [Option.isSome_none]; exact app ks h
  | some x => simp only [Option.isSome_some, if_true]; exact rep ks (by rw [h]; rfl)
theorem putN_len' (ks : NKV) (k : NestedKey) (b : Addr) (v : V) : (putN ks k b v).length = if (valN ks k).isSome then ks.length else ks.length + 1 := by
  unfold putN
  split
  · rw [List.length_map]
  · rw [List.length_append]; rfl
end Mus

set_option maxRecDepth 100000
set_option maxHeartbeats 4000000
namespace Mus
open PySem PySem.Spec PyProof.Rows L2
/-! ### the order of a view, as a state -/
inductive Ltr
  | here (m : Mem) (v : Vid) (n : Int) (p : Vid)
  | cast (m : Mem) (v : Vid) (ix : Int) (z : Str)
  | order (m : Mem) (v : Vid) (place : Int) (g : Msg)
  | propose (m : Mem) (v : Vid) (ms : List Mem)
  | state (m : Mem) (v : Vid) (old : Vid) (log : List Msg) (pend : List Cst)
  | install (m : Mem) (v : Vid) (ms : List Mem) (fins : List (Vid × List Msg))
  | higher (m : Mem) (v : Vid) (p : Vid)
def eGs (gs : List Msg) : PyData := .tuple (gs.map eG)
def eCs (cs : List Cst) : PyData := .tuple (cs.map eC)
def eL : Ltr → PyData
  | .here m v n p => .tuple [.str "here", eM m, eV v, .int n, eV p]
  | .cast m v i z => .tuple [.str "cast", eM m, eV v, .int i, .str z]
  | .order m v i g => .tuple [.str "order", eM m, eV v, .int i, eG g]
  | .propose m v ms => .tuple [.str "propose", eM m, eV v, eMs ms]
  | .state m v o l c => .tuple [.str "state", eM m, eV v, eV o, eGs l, eCs c]
  | .install m v ms fs => .tuple [.str "install", eM m, eV v, eMs ms, .tuple (fs.map fun f => .tuple [eV f.1, eGs f.2])]
  | .higher m v p => .tuple [.str "higher", eM m, eV v, eV p]
abbrev Pkt := Int × Ltr
def ePk (k : Pkt) : PyData := .tuple [.int k.1, eL k.2]
structure OS where
  me : Mem
  vid : Vid
  mems : List Mem
  fd : Mem
  log : List Msg
  last : Mem → Option Int
  casts : Int
  pend : List Cst
  kept : Int → Option Msg
  kn : Nat
  told : Mem → Option Int
  tn : Nat
namespace OS
def new (me : Mem) (vid : Vid) (mems : List Mem) (fd : Mem) : OS := ⟨me, vid, mems, fd, [], fun _ => none, 0, [], fun _ => none, 0, fun _ => none, 0⟩
def others (s : OS) : List Mem := s.mems.filter fun m => !decide (m = s.me)
def deliver (s : OS) (g : Msg) : OS :=
  { s with log := s.log ++ [g], last := fun m => if m = g.1 then some g.2.1 else s.last m, pend := if g.1 = s.me then s.pend.filter (fun c => !decide (c.1 = g.2.1)) else s.pend }
/-- the letters that tell the message at the place -/
def ords (s : OS) (place : Int) (g : Msg) : List Pkt := s.others.map fun m => (m.1, .order s.me s.vid place g)
def decide (s : OS) (g : Msg) : OS × List Msg × List Pkt := (s.deliver g, [g], s.ords ((s.log.length : Int) + 1) g)
def castL (s : OS) (c : Cst) : Pkt := (s.fd.1, .cast s.me s.vid c.1 c.2)
def cast (s : OS) (z : Str) : OS × Int × List Msg × List Pkt :=
  let n := s.casts + 1
  if s.me = s.fd then
    let r := ({ s with casts := n }).decide (s.me, n, z)
    (r.1, n, r.2.1, r.2.2)
  else ({ s with casts := n, pend := s.pend ++ [(n, z)] }, n, [], [s.castL (n, z)])
def takeCast (s : OS) (m : Mem) (v : Vid) (i : Int) (z : Str) : OS × List Msg × List Pkt :=
  if s.me ≠ s.fd ∨ v ≠ s.vid ∨ m ∉ s.others then (s, [], [])
  else if i ≠ (s.last m).getD 0 + 1 then (s, [], [])
  else s.decide (m, i, z)
def drop (s : OS) (i : Int) : OS := { s with kept := fun j => if j = i then none else s.kept j, kn := s.kn - 1 }
/-- deliver what is next, as long as it is there; at most n times -/
def flush : Nat → OS → OS × List Msg
  | 0, s => (s, [])
  | n + 1, s => match s.kept ((s.log.length : Int) + 1) with
    | none => (s, [])
    | some g => let r := flush n ((s.drop ((s.log.length : Int) + 1)).deliver g); (r.1, g :: r.2)
def keep (s : OS) (i : Int) (g : Msg) : OS := if i > (s.log.length : Int) ∧ s.kept i = none then { s with kept := fun j => if j = i then some g else s.kept j, kn := s.kn + 1 } else s
def takeOrder (s : OS) (m : Mem) (v : Vid) (i : Int) (g : Msg) : OS × List Msg :=
  if s.me = s.fd ∨ m ≠ s.fd ∨ v ≠ s.vid then (s, []) else flush (s.keep i g).kn (s.keep i g)
def heard (s : OS) (m : Mem) (n : Int) : OS :=
  if m ∈ s.mems then { s with told := fun x => if x = m then some (if (s.told m).getD 0 > n then (s.told m).getD 0 else n) else s.told x, tn := if (s.told m).isSome then s.tn else s.tn + 1 } else s
def behind (s : OS) (m : Mem) : List Pkt :=
  let t := ((s.told m).getD 0).toNat
  ((s.log.drop t).take 16).mapIdx fun j g => (m.1, .order s.me s.vid (((s.told m).getD 0) + 1 + (j : Int)) g)
def again (s : OS) : List Pkt := if s.me ≠ s.fd then (s.pend.take 16).map s.castL else (s.others.map s.behind).flatten
end OS
/-! ### how it stands in the heap -/
def oF (vme vvid vms vfd : V) (lg li : Addr) (c : Int) (pn kp tl : Addr) : List (Str × V) :=
  [("_me", vme), ("_view_id", vvid), ("_members", vms), ("_founder", vfd), ("_log", .ref lg), ("_last_indexes", .ref li), ("_casts", .int c), ("_pending", .ref pn), ("_kept", .ref kp), ("_told", .ref tl)]
structure OA where
  dx : Addr
  vme : V
  vvid : V
  vms : V
  vfd : V
  lg : Addr
  li : Addr
  pn : Addr
  kp : Addr
  tl : Addr
def OA.fp (a : OA) (p : Addr) : List Addr := [p, a.lg, a.li, a.pn, a.kp, a.tl]
def KpAt (H : Hp) : Option V → Option Msg → Prop
  | none, none => True
  | some v, some g => TD H v (eG g)
  | _, _ => False
theorem KpAt.mono {H H' : Hp} {v : Option V} {g : Option Msg} (h : KpAt H v g) (t : TupK H H') : KpAt H' v g := by
  cases v <;> cases g <;> first | exact h | exact TD.mono t h
/-- a list of data at l -/
def LstAt (H : Hp) (l : Addr) (ds : List PyData) : Prop := ∃ vs, H l = some (.lst vs) ∧ TDs H vs ds
theorem LstAt.mono {H H' : Hp} {l : Addr} {ds : List PyData} (h : LstAt H l ds) (e : ∀ o, H l = some o → H' l = some o) (t : TupK H H') : LstAt H' l ds := by
  obtain ⟨vs, h1, h2⟩ := h
  exact ⟨vs, e _ h1, h2.mono t⟩
/-- a dict of ints by members at d -/
def DctAt (w : World) (H : Hp) (d : Addr) (f : Mem → Option Int) (n : Nat) : Prop := ∃ kvs, Nd w H d kvs ∧ (∀ m, valN kvs (kM m) = (f m).map V.int) ∧ kvs.length ≤ n
theorem nd_putK {κ : Type} [DecidableEq κ] {kvs : List (κ × V)} {k : κ} {v : V} (h : (kvs.map (·.1)).Nodup) : ((putK kvs k v).map (·.1)).Nodup := by
  unfold putK
  split
  · have e : (kvs.map fun kv => if kv.1 = k then (kv.1, v) else kv).map (·.1) = kvs.map (·.1) := by
      rw [List.map_map]
      refine List.map_congr_left fun x _ => ?_
      show (if x.1 = k then (x.1, v) else x).1 = x.1
      split <;> rfl
    rw [e]; exact h
  · rename_i q
    rw [List.map_append, List.nodup_append]
    refine ⟨h, by simp, fun x hx y hy e => ?_⟩
    rw [List.map_singleton, List.mem_singleton] at hy
    have hy : y = k := hy
    obtain ⟨z, hz, ez⟩ := List.mem_map.mp hx
    exact q (List.any_eq_true.mpr ⟨z, hz, by rw [ez, e, hy]; simp⟩)
theorem DctAt.mono {w : World} {H H' : Hp} {d : Addr} {f : Mem → Option Int} {n : Nat} (h : DctAt w H d f n) (e : ∀ o, H d = some o → H' d = some o) (t : TupK H H') : DctAt w H' d f n := by
  obtain ⟨kvs, h1, h2⟩ := h
  exact ⟨kvs, h1.mono (e _ h1.ob) t, h2⟩
structure OAt (w : World) (CO : Addr) (H : Hp) (p : Addr) (a : OA) (s : OS) : Prop where
  ob : H p = some (.ins CO a.dx (oF a.vme a.vvid a.vms a.vfd a.lg a.li s.casts a.pn a.kp a.tl))
  me : TD H a.vme (eM s.me)
  vid : TD H a.vvid (eV s.vid)
  ms : TD H a.vms (eMs s.mems)
  fd : TD H a.vfd (eM s.fd)
  lg : LstAt H a.lg (s.log.map eG)
  li : DctAt w H a.li s.last s.log.length
  pn : LstAt H a.pn (s.pend.map eC)
  kp : ∃ kvs, H a.kp = some (.dK kvs) ∧ (∀ i, KpAt H (valV kvs (.inl i)) (s.kept i)) ∧ kvs.length = s.kn ∧ (kvs.map (·.1)).Nodup
  tl : DctAt w H a.tl s.told s.tn
  ap : a.lg ≠ a.pn ∧ a.li ≠ a.tl
theorem OAt.mono {w : World} {CO : Addr} {H H' : Hp} {p : Addr} {a : OA} {s : OS} (h : OAt w CO H p a s) (e : ∀ b ∈ a.fp p, ∀ o, H b = some o → H' b = some o) (t : TupK H H') : OAt w CO H' p a s := by
  refine ⟨e p (by simp [OA.fp]) _ h.ob, h.me.mono t, h.vid.mono t, h.ms.mono t, h.fd.mono t, h.lg.mono (e _ (by simp [OA.fp])) t, h.li.mono (e _ (by simp [OA.fp])) t, h.pn.mono (e _ (by simp [OA.fp])) t, ?_, h.tl.mono (e _ (by simp [OA.fp])) t, h.ap⟩
  obtain ⟨kvs, h1, h2, h3⟩ := h.kp
  exact ⟨kvs, e _ (by simp [OA.fp]) _ h1, fun i => (h2 i).mono t, h3⟩
theorem OAt.same {w : World} {CO : Addr} {H H' : Hp} {p : Addr} {a : OA} {s : OS} (h : OAt w CO H p a s) (e : Same H H') : OAt w CO H' p a s := h.mono (fun b _ o x => e b o x) (TupK.of e)
/-- the places are all taken, by no tuples -/
theorem OAt.taken {w : World} {CO : Addr} {H : Hp} {p : Addr} {a : OA} {s : OS} (h : OAt w CO H p a s) : ∀ b ∈ a.fp p, ∃ o, H b = some o ∧ ∀ xs, o ≠ .tup xs := by
  obtain ⟨v1, l1, _⟩ := h.lg
  obtain ⟨v2, l2, _⟩ := h.li
  obtain ⟨v3, l3, _⟩ := h.pn
  obtain ⟨v4, l4, _⟩ := h.kp
  obtain ⟨v5, l5, _⟩ := h.tl
  intro b hb
  simp only [OA.fp, List.mem_cons, List.not_mem_nil, or_false] at hb
  rcases hb with rfl | rfl | rfl | rfl | rfl | rfl
  · exact ⟨_, h.ob, fun _ z => by cases z⟩
  · exact ⟨_, l1, fun _ z => by cases z⟩
  · exact ⟨_, l2.ob, fun _ z => by cases z⟩
  · exact ⟨_, l3, fun _ z => by cases z⟩
  · exact ⟨_, l4, fun _ z => by cases z⟩
  · exact ⟨_, l5.ob, fun _ z => by cases z⟩
/-- a change elsewhere -/
theorem OAt.upd {w : World} {CO : Addr} {H : Hp} {p q : Addr} {a : OA} {s : OS} {o : HO} (h : OAt w CO H p a s) (hq : q ∉ a.fp p) (nt : ∀ xs, H q ≠ some (.tup xs)) : OAt w CO (L2.upd H q o) p a s :=
  h.mono (fun b hb u e => by rw [upd_ne (show b ≠ q from fun z => hq (z ▸ hb))]; exact e) (tupK_upd nt)
theorem OAt.fresh {w : World} {CO : Addr} {H : Hp} {p q : Addr} {a : OA} {s : OS} (h : OAt w CO H p a s) (hq : H q = none) : q ∉ a.fp p := fun m => by
  obtain ⟨o, e, _⟩ := h.taken q m
  rw [hq] at e; cases e
/-- a new list of data -/
structure NewL (H0 : Hp) (fp : List Addr) (H : Hp) (l : Addr) (ds : List PyData) : Prop where
  at_ : LstAt H l ds
  new : H0 l = none
  out : l ∉ fp
theorem NewL.mono {H0 : Hp} {fp : List Addr} {H H' : Hp} {l : Addr} {ds : List PyData} (h : NewL H0 fp H l ds) (e : ∀ o, H l = some o → H' l = some o) (t : TupK H H') : NewL H0 fp H' l ds := ⟨h.at_.mono e t, h.new, h.out⟩
end Mus

set_option maxRecDepth 100000
set_option maxHeartbeats 4000000
/-! Objects whose __init__ may raise: made in a try's body, and where the error leaves the def. -/
namespace Mus
open PySem PySem.Spec PyProof.Rows L2
structure MkOkX (P : Program) (w : World) (K : PySem.W.Frag) (mg : Str → Option Value) (base : Heap) (C : Addr) (x : Str) (ps : List Str) (k : Nat) (sp : Sp) where
  f : Addr
  fd : FuncData
  G : FnOk P w K mg base (L2.CX P w) k f fd ps sp
  M : Mk K C f
  g : mg x = some (.ref C)
  b : Binds K fd ps []
def MethAt.mkX {P : Program} {w : World} {K : PySem.W.Frag} {mg : Str → Option Value} {base : Heap} {C : Addr} {x : Str} {qual : Str} {ps : List Str} {st : Stmt} {k : Nat} {sp : Sp} (d : MethAt K C "__init__" qual ps st) (hm : PySem.W.makesIn K C = true) (hk : PySem.W.keepIn K (.ref C) = true) (g : mg x = some (.ref C))
    (h : ∀ {f : Addr} {fd : FuncData}, Fun K "__init__" qual st f fd → FnOk P w K mg base (L2.CX P w) k f fd ps sp) : MkOkX P w K mg base C x ps k sp :=
  ⟨d.f, d.fd, h d.F, ⟨hm, d.m.at_, d.m.fn, hk⟩, g, d.b⟩
def tMakeA (C : Addr) (sp : Sp) (E : L2.St → XK) (t : TA) : TE := fun σ H Q => t σ H fun vs H1 => ∀ x dx, H1 x = none → H1 dx = none → dx ≠ x →
  sp (.ref x :: vs) (upd (upd H1 dx (.own x)) x (.ins C dx [])) (fun v H2 => v = .non ∧ Q (.ref x) H2) (E σ)
section
variable {X : Cx} {C : Addr} {x : Str} {ps : List Str} {j k : Nat} {sp : Sp} {e : Expr} {es : List Expr} {t : TA} {p pos : Pos} {W : WX} {E : XK}
theorem run_makeA {pins : List (Addr × Obj)} {σ : L2.St} {H : Hp} {s : Shared} {Q : VK} {us : List Value} {vs : List V} {f : Addr} {fd : FuncData} {E : XK} (M : Mk X.K C f) (F : FnOk X.prog X.w X.K X.mg X.base (L2.CX X.prog X.w) k f fd ps sp) (hr : Room (k + 1) X.A) (hb : Binds X.K fd ps [])
    (hx : PassesAt (L2.CX X.prog X.w) X σ E) (I : Inv X pins σ H s) (r : Vals vs us)
    (h : ∀ x dx, H x = none → H dx = none → dx ≠ x → sp (.ref x :: vs) (upd (upd H dx (.own x)) x (.ins C dx [])) (fun v H2 => v = .non ∧ Q (.ref x) H2) E) :
    wpAny (model X.prog X.w) X.A (call (.ref C) us) (EP X pins σ Q) X.xe s := by
  have hq := h (s.heap.objs.size + 1) s.heap.objs.size (I.hok.fresh (Nat.le_succ _)) (I.hok.fresh (Nat.le_refl _)) (Nat.ne_of_lt (Nat.lt_succ_self _))
  have I2 := Inv.made (C := C) I
  have r2 : Vals (V.ref (s.heap.objs.size + 1) :: vs) (Value.ref (s.heap.objs.size + 1) :: us) := .cons rfl r
  have hl : (Value.ref (s.heap.objs.size + 1) :: us).length = ps.length := by
    have e := r2.length
    rw [F.len _ _ _ _ hq] at e
    exact e.symm
  have hl' : (Value.ref (s.heap.objs.size + 1) :: us ++ ([] : List Value)).length = ps.length := by rw [List.append_nil]; exact hl
  have bd := hb _ (Value.ref (s.heap.objs.size + 1) :: us) I2.kIn hl'
  rw [List.append_nil] at bd
  refine wpAny_call (make_map (f := f) I.kIn M.makes M.init (beq_iff_eq.mp M.fn) (codeAny_mono (F.run _ X.stack _ _ ⟨Value.ref (s.heap.objs.size + 1) :: us, []⟩ (Value.ref (s.heap.objs.size + 1) :: us) _ _ E (hr.make C us [])
    (I2.env0.make C us []) bd r2 hq) fun r s' hq' => ?_))
  cases r with
  | error e => exact hx pins _ _ e s' I2 hq'
  | ok fl =>
    cases fl with
    | ret u =>
      obtain ⟨v, H', I3, rv, ev, q3⟩ := I2.after hq'
      subst ev
      exact ⟨rv, ⟨V.ref (s.heap.objs.size + 1), H', I3, rfl, q3⟩⟩
    | next => exact False.elim hq'
    | brk => exact False.elim hq'
    | cont => exact False.elim hq'
/-- C(e, ..) in a try's body -/
theorem pmakeA (c : MkOkX X.prog X.w X.K X.mg X.base C x ps j sp) (tk : Takes X W) (hr : Room k X.A) (ha : PA X (e :: es) t) (hj : j + 1 ≤ k := by first | decide | omega) (hg : Gl X x := by rfl)
    (d0 : (x == ("__debug__" : Str)) = false := by decide) (st0 : starEach (e :: es) X.env = (false, eval e X.env) :: starEach es X.env := by rfl) (pl0 : (backTo pos (starEach es X.env)).any (·.1) = false := by rfl) :
    PE X (.Call (.Name x p) (e :: es) [] pos) (tMakeA C sp (WE W) t) := by
  refine ⟨fun pins s σ H Q I h => ?_⟩
  refine wpAny_Call_Name_kw (ld_glob I hg c.g ?_ d0)
  refine PySem.W.callWith_K (h₀ := X.base) I.ok.mod.kin c.M.kp (thn (ha.run pos pins s σ H _ I h) fun us s1 ⟨vs, H1, I1, r, q⟩ => ⟨I1.kIn, ?_⟩) st0 pl0
  exact run_makeA c.M c.G (hr.mono hj) c.b (passAt tk σ) I1 r q
/-- where it raises nothing -/
theorem pmakeN (c : MkOkX X.prog X.w X.K X.mg X.base C x ps j sp) (tk : Takes X (fun _ _ _ _ => False)) (hr : Room k X.A) (ha : PA X (e :: es) t) (hj : j + 1 ≤ k := by first | decide | omega) (hg : Gl X x := by rfl)
    (d0 : (x == ("__debug__" : Str)) = false := by decide) (st0 : starEach (e :: es) X.env = (false, eval e X.env) :: starEach es X.env := by rfl) (pl0 : (backTo pos (starEach es X.env)).any (·.1) = false := by rfl) :
    PE X (.Call (.Name x p) (e :: es) [] pos) (tMakeA C sp (fun _ _ _ _ => False) t) := pmakeA c tk hr ha hj hg d0 st0 pl0
end
end Mus

set_option maxRecDepth 100000
set_option maxHeartbeats 4000000
/-! An object whose fields are stored one after another, beside new things. -/
namespace Mus
open PySem L2
structure Bld (H : Hp) (p dx CO : Addr) (fs : List (Str × V)) (X : Hp) : Prop where
  ob : X p = some (.ins CO dx fs)
  k : ∀ b o, H b = some o → b ≠ p → X b = some o
  s : ∀ b, X b = none → H b = none
variable {H X : Hp} {p dx CO q : Addr} {fs fs' : List (Str × V)} {o : HO}
theorem Bld.start (h : H p = some (.ins CO dx fs)) : Bld H p dx CO fs H := ⟨h, fun _ _ e _ => e, fun _ e => e⟩
theorem Bld.put (B : Bld H p dx CO fs X) : Bld H p dx CO fs' (upd X p (.ins CO dx fs')) :=
  ⟨upd_same, fun b u e n => by rw [upd_ne n]; exact B.k b u e n, fun b e => B.s b (by
    by_cases z : b = p
    · rw [z, upd_same] at e; cases e
    · rwa [upd_ne z] at e)⟩
theorem Bld.new (B : Bld H p dx CO fs X) (hq : X q = none) : Bld H p dx CO fs (upd X q o) :=
  ⟨by rw [upd_ne (ne_of_none B.ob hq)]; exact B.ob, fun b u e n => by rw [upd_ne (ne_of_none (B.k b u e n) hq)]; exact B.k b u e n, fun b e => B.s b (by
    by_cases z : b = q
    · rw [z, upd_same] at e; cases e
    · rwa [upd_ne z] at e)⟩
theorem Bld.tup (B : Bld H p dx CO fs X) (hp : ∀ xs, H p ≠ some (.tup xs)) : TupK H X := fun b xs e => B.k b _ e fun z => hp xs (z ▸ e)
end Mus

set_option maxRecDepth 100000
set_option maxHeartbeats 4000000
namespace Mus
open PySem L2
local macro_rules | `(tactic| walk_at "rd") => `(tactic| first
  | refine ⟨_, rfl, ?_⟩ | refine ⟨(True.intro : True), ?_⟩
  | refine ⟨_, _, rfl, rfl, (⟨by decide, by decide, by decide⟩ : CPow _ _), ?_⟩
  | refine ⟨_, _, rfl, rfl, (⟨by decide, by decide⟩ : CDiv _ _), ?_⟩
  | refine ⟨_, _, rfl, rfl, (by show (0 : Int) < _; decide), ?_⟩
  | refine ⟨_, _, rfl, rfl, ?_⟩ | refine ⟨rfl, ?_⟩ | refine iteT ?_ | refine iteF ?_ | refine ⟨_, _, rfl, ?_⟩ | refine .inl ⟨_, rfl, ?_⟩
  | refine ⟨_, _, _, _, _, rfl, (by assumption), (by assumption), (by assumption), rfl, ?_⟩ | refine ⟨_, _, _, _, rfl, rfl, SqT.of (by assumption), rfl, ?_⟩ | refine ⟨_, _, rfl, SqT.of (by assumption), rfl, ?_⟩
  | refine ⟨_, _, _, _, _, rfl, .ty _, Rp.ty (by assumption), kit_int _, ?_⟩ | refine ⟨_, _, _, _, _, rfl, .ty _, Rp.ty (by assumption), kit_bool _, ?_⟩
  | refine ⟨_, _, _, _, _, rfl, .ty _, Rp.ty (by assumption), kit_str _, ?_⟩ | refine ⟨_, _, _, _, _, rfl, .ty _, Rp.ty (by assumption), kit_tup _, ?_⟩)
local macro_rules | `(tactic| walk_at "cal") => `(tactic| first
  | refine ⟨_, _, _, _, _, rfl, (by assumption), ?_⟩ | refine ⟨_, _, _, _, _, rfl, (by assumption), (by assumption), ?_⟩)
local macro_rules | `(tactic| walk_at "sq") => `(tactic| first
  | refine ⟨_, _, rfl, Or.inr (SqT.of (by assumption)), ?_⟩ | refine ⟨_, _, _, _, rfl, rfl, SqT.of (by assumption), rfl, ?_⟩)
local macro_rules | `(tactic| walk_at "rds") => `(tactic| repeat first | walk_at "rd" | walk_at "cal" | walk_at "sq")
local macro_rules | `(tactic| walk_at "ze") => `(tactic| repeat first
  | exact zes_nil | exact ze_bl | exact ze_str | exact ze_non | apply zes_cons | apply ze_tup | apply ze_lst | apply ze_cat | exact di_c | exact di_v rfl | apply di_opC | apply di_op | apply di_neg | apply ze_i | (refine (⟨?_, ?_, ?_⟩ : CPow _ _) <;> decide) | exact Nat.le_of_ble_eq_true rfl | exact ze_varD rfl (by assumption))
local macro_rules | `(tactic| walk_at "rdz") => `(tactic| repeat (fail_if_success (first | show tLst _ _ _ _ | show tAsg (tLst _) _ _ _ _ | show tSeq (tAsg (tLst _) _) _ _ _ _)); first | walk_at "rd" | walk_at "cal" | walk_at "sq")
structure To (K : PySem.W.Frag) (mg : Str → Option Value) (CO CV : Addr) : Prop where
  b_len : mg "len" = none
  b_isinstance : mg "isinstance" = none
  b_int : mg "int" = none
  b_list : mg "list" = none
  b_tuple : mg "tuple" = none
  b_range : mg "range" = none
  b_min : mg "min" = none
  b_max : mg "max" = none
  b_abs : mg "abs" = none
  b_enumerate : mg "enumerate" = none
  c_WINDOW : ∃ t, mg "WINDOW" = some (.int 16 t)
  g_Order : mg "Order" = some (.ref CO)
  cl_Order : L2.Cls K CO
  n_Order__me : NoAttr K CO "_me"
  n_Order__view_id : NoAttr K CO "_view_id"
  n_Order__members : NoAttr K CO "_members"
  n_Order__founder : NoAttr K CO "_founder"
  n_Order__log : NoAttr K CO "_log"
  n_Order__last_indexes : NoAttr K CO "_last_indexes"
  n_Order__casts : NoAttr K CO "_casts"
  n_Order__pending : NoAttr K CO "_pending"
  n_Order__kept : NoAttr K CO "_kept"
  n_Order__told : NoAttr K CO "_told"
  g_BadView : mg "BadView" = some (.ref CV)
  x_BadView : PySem.W.excIn K CV [.type "ValueError", .type "Exception", .type "BaseException", .type "object"] "ValueError.__new__" = true
  k_BadView : PySem.W.keepIn K (.ref CV) = true
  b_BadView : PySem.W.subIn K (.ref CV) (.type "BaseException") = some true
  t_BadView : PySem.W.typeIn K (.ref CV) = some (.type "type")
  m_VV : PySem.W.exmOne K (.ref CV) (.ref CV) = some true
section
variable {P : Program} {w : World} {K : PySem.W.Frag} {mg : Str → Option Value} {base : Heap} {CO CV : Addr}
/-! ### Order -/
abbrev s_Order__order_letter : Stmt := inClass (top 51) 15
abbrev N_Order__order_letter : List Str := ["self", "member", "place", "message"]
abbrev P_Order__order_letter : List Str := ["self", "member", "place", "message"]
theorem sc_Order__order_letter : FnScope N_Order__order_letter P_Order__order_letter (defScope s_Order__order_letter) := ⟨rfl, rfl, rfl, by decide +kernel, rfl, by decide +kernel, by decide +kernel⟩
def sp_ordl (CO : Addr) : Sp := fun vs H Q _ => ∃ (w : World) (p : Addr) (a : OA) (s : OS) (v u : V) (m : Mem) (i : Int) (g : Msg), vs = [.ref p, v, .int i, u] ∧ OAt w CO H p a s ∧ TD H v (eM m) ∧ TD H u (eG g) ∧ ∀ r H', Same H H' → TD H' (.ref r) (ePk (m.1, .order s.me s.vid i g)) → Q (.ref r) H'
theorem ok_ordl {f : Addr} {fd : FuncData} (T : To K mg CO CV) (F : Fun K "_order_letter" "Order._order_letter" s_Order__order_letter f fd) : FnOk P w K mg base CX0 1 f fd P_Order__order_letter (sp_ordl CO) := by
  have nd := sc_Order__order_letter.nd
  refine F.ok sc_Order__order_letter (fun vs H Q E h => ?_) (fun cdv A outer s H vs Q E hr h => ?_)
  · obtain ⟨_, _, _, _, _, _, _, _, _, rfl, _⟩ := h
    rfl
  · obtain ⟨w0, p, a, s, v, u, m, i, g, rfl, O, hv, hu, q⟩ := h
    have hs := sl
    have ob := O.ob
    obtain ⟨c1, n1, n2⟩ : L2.Cls K CO ∧ NoAttr K CO "_me" ∧ NoAttr K CO "_view_id" := ⟨T.cl_Order, T.n_Order__me, T.n_Order__view_id⟩
    obtain ⟨b, rfl, hb⟩ := hv.mem
    refine ⟨_, (pss_one (ps_ret (pe_tup (pa_cons (pe_ix ix_tup (pv 1) pe_int (fun _ _ => rfl)) (pa_cons (pe_tup (pa_cons pe_str (pa_cons (pe_fld (pv 0) (by rfl)) (pa_cons (pe_fld (pv 0) (by rfl)) (pa_cons (pv 2) (pa_cons (pv 3) pa_nil)))))) pa_nil))))), ?_⟩
    walk_at "rds"
    refine ⟨by show 5 ≤ sizeLine; omega, fun t1 nt1 => ?_⟩
    have s1 := same_new nt1 (.tup [V.str "order", a.vme, a.vvid, V.int i, u])
    have d1 : TD (upd H t1 (.tup [V.str "order", a.vme, a.vvid, V.int i, u])) (.ref t1) (eL (.order s.me s.vid i g)) := .tup upd_same (by show 5 ≤ 100000; decide) (.cons (.str _) (.cons (O.me.same s1) (.cons (O.vid.same s1) (.cons (.int _) (.cons (hu.same s1) .nil)))))
    refine ⟨by show 2 ≤ sizeLine; omega, fun t2 nt2 => ?_⟩
    have s2 := same_new nt2 (.tup [V.int m.1, V.ref t1])
    exact q t2 _ (s1.trans s2) (.tup upd_same (by show 2 ≤ 100000; decide) (.cons (.int _) (.cons (d1.same s2) .nil)))
abbrev s_Order__cast_letter : Stmt := inClass (top 51) 14
abbrev N_Order__cast_letter : List Str := ["self", "index", "payload"]
abbrev P_Order__cast_letter : List Str := ["self", "index", "payload"]
theorem sc_Order__cast_letter : FnScope N_Order__cast_letter P_Order__cast_letter (defScope s_Order__cast_letter) := ⟨rfl, rfl, rfl, by decide +kernel, rfl, by decide +kernel, by decide +kernel⟩
def sp_casl (CO : Addr) : Sp := fun vs H Q _ => ∃ (w : World) (p : Addr) (a : OA) (s : OS) (c : Cst), vs = [.ref p, .int c.1, .str c.2] ∧ OAt w CO H p a s ∧ ∀ r H', Same H H' → TD H' (.ref r) (ePk (s.castL c)) → Q (.ref r) H'
theorem ok_casl {f : Addr} {fd : FuncData} (T : To K mg CO CV) (F : Fun K "_cast_letter" "Order._cast_letter" s_Order__cast_letter f fd) : FnOk P w K mg base CX0 1 f fd P_Order__cast_letter (sp_casl CO) := by
  have nd := sc_Order__cast_letter.nd
  refine F.ok sc_Order__cast_letter (fun vs H Q E h => ?_) (fun cdv A outer s H vs Q E hr h => ?_)
  · obtain ⟨_, _, _, _, _, rfl, _⟩ := h
    rfl
  · obtain ⟨w0, p, a, s, c, rfl, O, q⟩ := h
    have hs := sl
    have ob := O.ob
    obtain ⟨c1, n1, n2, n3⟩ : L2.Cls K CO ∧ NoAttr K CO "_me" ∧ NoAttr K CO "_view_id" ∧ NoAttr K CO "_founder" := ⟨T.cl_Order, T.n_Order__me, T.n_Order__view_id, T.n_Order__founder⟩
    obtain ⟨b, eb, hb⟩ := O.fd.mem
    rw [eb] at ob
    refine ⟨_, (pss_one (ps_ret (pe_tup (pa_cons (pe_ix ix_tup (pe_fld (pv 0) (by rfl)) pe_int (fun _ _ => rfl)) (pa_cons (pe_tup (pa_cons pe_str (pa_cons (pe_fld (pv 0) (by rfl)) (pa_cons (pe_fld (pv 0) (by rfl)) (pa_cons (pv 1) (pa_cons (pv 2) pa_nil)))))) pa_nil))))), ?_⟩
    walk_at "rds"
    refine ⟨by show 5 ≤ sizeLine; omega, fun t1 nt1 => ?_⟩
    have s1 := same_new nt1 (.tup [V.str "cast", a.vme, a.vvid, V.int c.1, V.str c.2])
    have d1 : TD (upd H t1 (.tup [V.str "cast", a.vme, a.vvid, V.int c.1, V.str c.2])) (.ref t1) (eL (.cast s.me s.vid c.1 c.2)) := .tup upd_same (by show 5 ≤ 100000; decide) (.cons (.str _) (.cons (O.me.same s1) (.cons (O.vid.same s1) (.cons (.int _) (.cons (.str _) .nil)))))
    refine ⟨by show 2 ≤ sizeLine; omega, fun t2 nt2 => ?_⟩
    have s2 := same_new nt2 (.tup [V.int s.fd.1, V.ref t1])
    exact q t2 _ (s1.trans s2) (.tup upd_same (by show 2 ≤ 100000; decide) (.cons (.int _) (.cons (d1.same s2) .nil)))
abbrev s_Order__others : Stmt := inClass (top 51) 12
abbrev N_Order__others : List Str := ["self", "member"]
abbrev P_Order__others : List Str := ["self"]
theorem sc_Order__others : FnScope N_Order__others P_Order__others (defScope s_Order__others) := ⟨rfl, rfl, rfl, by decide +kernel, rfl, by decide +kernel, by decide +kernel⟩
def sp_oth (CO : Addr) : Sp := fun vs H Q _ => ∃ (w : World) (p : Addr) (a : OA) (s : OS), vs = [.ref p] ∧ OAt w CO H p a s ∧ ∀ r H', Same H H' → H r = none → LstAt H' r (s.others.map eM) → Q (.ref r) H'
theorem ok_oth {f : Addr} {fd : FuncData} (T : To K mg CO CV) (F : Fun K "_others" "Order._others" s_Order__others f fd) : FnOk P w K mg base CX0 1 f fd P_Order__others (sp_oth CO) := by
  have nd := sc_Order__others.nd
  refine F.ok sc_Order__others (fun vs H Q E h => ?_) (fun cdv A outer s H vs Q E hr h => ?_)
  · obtain ⟨_, _, _, _, rfl, _⟩ := h
    rfl
  · obtain ⟨w0, p, a, s, rfl, O, q⟩ := h
    have hs := sl
    have ob := O.ob
    obtain ⟨c1, n1, n2⟩ : L2.Cls K CO ∧ NoAttr K CO "_me" ∧ NoAttr K CO "_members" := ⟨T.cl_Order, T.n_Order__me, T.n_Order__members⟩
    obtain ⟨am, xs, em, ham, lx, hx⟩ : ∃ am xs, a.vms = .ref am ∧ H am = some (.tup xs) ∧ xs.length ≤ 100000 ∧ TDs H xs (s.mems.map eM) := by
      have := O.ms
      cases e : a.vms with
      | ref b => rw [e] at this; cases this with | tup h l r => exact ⟨_, _, rfl, h, l, r⟩
      | _ => rw [e] at this; cases this
    rw [em] at ob
    refine ⟨_, (pss_one (ps_ret (pe_lcX (own := [("member", 1)]) rfl nd (pi_tup (pe_fld (pv 0) (by rfl))) (blkOk_by (own := [("member", 1)]) (N := N_Order__others) (sc := defScope s_Order__others) (by decide +kernel)) (fun _ _ _ _ _ => (pg_name (i := 1) nd rfl (Or.inl rfl))) (fun _ _ _ _ _ => (pts_one (pt_cmpR (op_neD hr.units) (pv 1) (pe_fld (pv 0) (by rfl)) (nomark _)))) (fun _ _ _ _ _ => (pv 1))))), ?_⟩
    walk_at "rds"
    refine ⟨⟨_, SqT.of ham⟩, fun D nD => ?_⟩
    have lm := hx.length
    rw [List.length_map] at lm
    refine lc_tup (K := K) (a := am) (xs := xs) (fun i H' => LstAt H' D (((s.mems.take i).filter fun m => !decide (m = s.me)).map eM) ∧ Same H H') ?_ ?_ ?_ ?_
    · exact ⟨⟨[], upd_same, .nil⟩, same_new nD _⟩
    · rintro i H' _ ⟨_, s1⟩
      exact SqT.of (s1 _ _ ham)
    · rintro i x H' hi ⟨⟨ws, hD, hw⟩, s1⟩
      obtain ⟨d, hd, rd⟩ := hx.at hi
      rw [List.getElem?_map] at hd
      obtain ⟨m, hm, rfl⟩ := Option.map_eq_some_iff.mp hd
      have ht : s.mems.take (i + 1) = s.mems.take i ++ [m] := by rw [List.take_succ, hm]; rfl
      have ob1 := s1 _ _ ob
      refine ⟨rfl, ?_⟩
      walk_at "rds"
      refine rd_neM (rd.same s1) (O.me.same s1) ?_
      walk_at "rds"
      have lw := hw.length
      rw [List.length_map] at lw
      have := List.length_filter_le (fun m => !decide (m = s.me)) (s.mems.take i)
      rw [List.length_take] at this
      have sD : ∀ o, Same H (upd H' D o) := fun o b u e => by rw [upd_ne (ne_of_none e nD)]; exact s1 b u e
      refine iB (fun h => ?_) (fun h => ?_)
      · walk_at "rds"
        refine ⟨ws, hD, by omega, ⟨ws ++ [x], upd_same, ?_⟩, sD _⟩
        rw [ht, List.filter_append, List.map_append, show [m].filter (fun m => !decide (m = s.me)) = [m] by rw [List.filter_cons, if_pos h]; rfl]
        exact (hw.mono (tupK_upd fun xs e => by rw [hD] at e; cases e)).append (.cons (rd.mono (TupK.of (sD _))) .nil)
      · refine ⟨⟨ws, hD, ?_⟩, s1⟩
        rw [ht, List.filter_append, show [m].filter (fun m => !decide (m = s.me)) = [] by rw [List.filter_cons, if_neg (by rw [h]; decide)]; rfl, List.append_nil]
        exact hw
    · rintro H' ⟨hD, s1⟩
      rw [lm, List.take_length] at hD
      exact q D H' s1 nD hD
end
section
variable {P : Program} {w : World} {K : PySem.W.Frag} {mg : Str → Option Value} {base : Heap} {CO CV : Addr}
abbrev s_Order__deliver : Stmt := inClass (top 51) 11
abbrev N_Order__deliver : List Str := ["self", "message", "sender", "index", "_", "pair"]
abbrev P_Order__deliver : List Str := ["self", "message"]
theorem sc_Order__deliver : FnScope N_Order__deliver P_Order__deliver (defScope s_Order__deliver) := ⟨rfl, rfl, rfl, by decide +kernel, rfl, by decide +kernel, by decide +kernel⟩
def sp_del (w : World) (CO : Addr) : Sp := fun vs H Q _ => ∃ (p : Addr) (a : OA) (s : OS) (v : V) (g : Msg), vs = [.ref p, v] ∧ OAt w CO H p a s ∧ TD H v (eG g) ∧ s.log.length ≤ 90000 ∧ s.pend.length ≤ 90000 ∧ ∀ H' a', OAt w CO H' p a' (s.deliver g) → Fr (a.fp p) (a'.fp p) H H' → Q .non H'
theorem ok_del {f : Addr} {fd : FuncData} (T : To K mg CO CV) (F : Fun K "_deliver" "Order._deliver" s_Order__deliver f fd) : FnOk P w K mg base CX0 1 f fd P_Order__deliver (sp_del w CO) := by
  have nd := sc_Order__deliver.nd
  refine F.ok sc_Order__deliver (fun vs H Q E h => ?_) (fun cdv A outer s H vs Q E hr h => ?_)
  · obtain ⟨_, _, _, _, _, rfl, _⟩ := h
    rfl
  · obtain ⟨p, a, s, v, g, rfl, O, hv, hl, hp, q⟩ := h
    have hs := sl
    have ob := O.ob
    obtain ⟨c1, n1, n2, n3, n4⟩ : L2.Cls K CO ∧ NoAttr K CO "_me" ∧ NoAttr K CO "_log" ∧ NoAttr K CO "_last_indexes" ∧ NoAttr K CO "_pending" := ⟨T.cl_Order, T.n_Order__me, T.n_Order__log, T.n_Order__last_indexes, T.n_Order__pending⟩
    obtain ⟨b, u, rfl, hb, hu⟩ := hv.msg
    obtain ⟨bm, rfl, nk⟩ := hu.nk
    obtain ⟨vl, hlg, tl⟩ := O.lg
    obtain ⟨kvs, N, hN, lN⟩ := O.li
    have ll := tl.length
    rw [List.length_map] at ll
    have lgli : a.lg ≠ a.li := ne_of hlg N.ob (by intro z; cases z)
    have lgp : a.lg ≠ p := ne_of hlg ob (by intro z; cases z)
    have lip : a.li ≠ p := ne_of N.ob ob (by intro z; cases z)
    refine ⟨_, (pss_cons (ps_asg (pv 1) (pg_tup (by rfl) (pgs_cons (pg_name (i := 2) nd rfl (Or.inl rfl)) (pgs_cons (pg_name (i := 3) nd rfl (Or.inr rfl)) (pgs_cons (pg_name (i := 4) nd rfl (Or.inl rfl)) pgs_nil)))))
      (pss_cons (ps_expr (pe_bm PySem.F.plainAttrs_list PySem.F.slot_list_append PySem.F.type_list_append mt_append (pe_fld (pv 0) (by rfl)) (pa_cons (pv 1) pa_nil)))
      (pss_cons (ps_nput hr.units (pe_fld (pv 0) (by rfl)) (pv 2) (pv 3) rfl)
      (pss_one (ps_if (pt_cmpR (op_eqD hr.units) (pv 2) (pe_fld (pv 0) (by rfl)) (nomark _))
        (pss_one (ps_fld (pv 0) (pe_lcX (own := [("pair", 5)]) rfl nd (pi_list (pe_fld (pv 0) (by rfl))) (blkOk_by (own := [("pair", 5)]) (N := N_Order__deliver) (sc := defScope s_Order__deliver) (by decide +kernel)) (fun _ _ _ _ _ => (pg_name (i := 5) nd rfl (Or.inl rfl))) (fun _ _ _ _ _ => (pts_one (pt_cmpR op_ne (pe_ix ix_tup (pv 5) pe_int (fun _ _ => rfl)) (pv 3) (nomark _)))) (fun _ _ _ _ _ => (pv 5))) rfl))
        pss_nil))))), ?_⟩
    walk_at "rds"
    refine ⟨.inl ⟨rfl, _, SqL.of hlg⟩, ?_⟩
    walk_at "rds"
    refine ⟨a.lg, _, _, rfl, rfl, hlg, by omega, ?_⟩
    generalize hh2 : upd H a.lg (HO.lst (vl ++ [V.ref b])) = H2
    have k2 : TupK H H2 := by subst hh2; exact tupK_upd fun xs e => by rw [hlg] at e; cases e
    have at2 : ∀ c, c ≠ a.lg → ∀ o, H c = some o → H2 c = some o := fun c h o e => by subst hh2; rw [upd_ne h]; exact e
    have lg2 : H2 a.lg = some (.lst (vl ++ [V.ref b])) := by subst hh2; exact upd_same
    have ob2 := at2 _ lgp.symm _ ob
    have N2 : Nd w H2 a.li kvs := N.mono (at2 _ lgli.symm _ N.ob) k2
    have nk2 := nk.mono k2
    have F2 : Fr (a.fp p) (a.fp p) H H2 := by subst hh2; exact fr_upd (by simp [OA.fp]) hlg (fun _ z => by cases z)
    walk_at "rds"
    refine ⟨a.li, bm, kvs, kM g.1, rfl, rfl, N2, nk2, kM_depth _, ?_⟩
    generalize hh3 : upd H2 a.li _ = H3
    have N3 : Nd w H3 a.li (putN kvs (kM g.1) bm (.int g.2.1)) := by subst hh3; exact N2.put (v := .int g.2.1) nk2 (kM_depth _) (by omega)
    have k23 : TupK H2 H3 := by subst hh3; exact tupK_upd fun xs e => by rw [N2.ob] at e; cases e
    have k3 := k2.trans k23
    have at3 : ∀ c, c ≠ a.li → ∀ o, H2 c = some o → H3 c = some o := fun c h o e => by subst hh3; rw [upd_ne h]; exact e
    have ob3 := at3 _ lip.symm _ ob2
    have F3 : Fr (a.fp p) (a.fp p) H H3 := by subst hh3; exact F2.trans (fr_upd (by simp [OA.fp]) N2.ob (fun _ z => by cases z))
    have O3 : OAt w CO H3 p a { s with log := s.log ++ [g], last := fun m => if m = g.1 then some g.2.1 else s.last m } := by
      have at_ : ∀ c, c ≠ a.lg → c ≠ a.li → ∀ o, H c = some o → H3 c = some o := fun c h1 h2 o e => at3 c h2 o (at2 c h1 o e)
      refine ⟨ob3, O.me.mono k3, O.vid.mono k3, O.ms.mono k3, O.fd.mono k3, ?_, ?_, O.pn.mono (at_ _ O.ap.1.symm ?_) k3, ?_, O.tl.mono (at_ _ ?_ O.ap.2.symm) k3, O.ap⟩
      · refine ⟨vl ++ [.ref b], at3 _ lgli _ lg2, ?_⟩
        rw [List.map_append]
        exact (tl.mono k3).append (.cons (hv.mono k3) .nil)
      · refine ⟨_, N3, fun m => ?_, by rw [List.length_append]; exact Nat.le_trans (putN_len _ _ _ _) (by show _ + 1 ≤ _ + 1; omega)⟩
        show _ = Option.map V.int (if m = g.1 then some g.2.1 else s.last m)
        rw [valN_put]
        by_cases e : m = g.1
        · rw [if_pos (by rw [e]), if_pos e]; rfl
        · rw [if_neg fun z => e (kM_inj z), if_neg e]; exact hN m
      · obtain ⟨v3, h3, _⟩ := O.pn
        exact ne_of h3 N.ob (by intro z; cases z)
      · obtain ⟨v4, h4, e4, l4⟩ := O.kp
        exact ⟨v4, at_ _ (ne_of h4 hlg (by intro z; cases z)) (ne_of h4 N.ob (by intro z; cases z)) _ h4, fun i => (e4 i).mono k3, l4⟩
      · obtain ⟨v5, h5, _⟩ := O.tl
        exact ne_of h5.ob hlg (by intro z; cases z)
    clear ob ob2
    have hu3 := hu.mono k3
    walk_at "rds"
    refine rd_eqM hu3 O3.me ?_
    walk_at "rds"
    refine iB (fun h => ?_) (fun h => ?_)
    · have h : g.1 = s.me := of_decide_eq_true h
      obtain ⟨vp, hpn, tp⟩ := O3.pn
      have tp : TDs H3 vp (s.pend.map eC) := tp
      have lp := tp.length
      rw [List.length_map] at lp
      walk_at "rds"
      refine ⟨⟨_, SqL.of hpn⟩, fun D nD => ?_⟩
      have Dn : D ∉ a.fp p := O3.fresh nD
      have sD : ∀ o, Same H3 (upd H3 D o) := same_new nD
      refine lc_list (K := K) (a := a.pn) (xs := vp) (fun i H' => LstAt H' D (((s.pend.take i).filter fun c => !decide (c.1 = g.2.1)).map eC) ∧ Same H3 H') ?_ ?_ ?_ ?_
      · exact ⟨⟨[], upd_same, .nil⟩, sD _⟩
      · rintro i H' _ ⟨_, s1⟩
        exact SqL.of (s1 _ _ hpn)
      · rintro i x H' hi ⟨⟨ws, hD, hw⟩, s1⟩
        obtain ⟨d, hd, rd⟩ := tp.at hi
        rw [List.getElem?_map] at hd
        obtain ⟨c, hc, rfl⟩ := Option.map_eq_some_iff.mp hd
        obtain ⟨bc, rfl, hbc⟩ := rd.cst
        have hbc1 := s1 _ _ hbc
        have ht : s.pend.take (i + 1) = s.pend.take i ++ [c] := by rw [List.take_succ, hc]; rfl
        have lw := hw.length
        rw [List.length_map] at lw
        have := List.length_filter_le (fun c : Cst => !decide (c.1 = g.2.1)) (s.pend.take i)
        rw [List.length_take] at this
        have sD1 : ∀ o, Same H3 (upd H' D o) := fun o b u e => by rw [upd_ne (ne_of_none e nD)]; exact s1 b u e
        refine ⟨rfl, ?_⟩
        walk_at "rds"
        have dt : (!decide (V.int c.1 = V.int g.2.1)) = !decide (c.1 = g.2.1) := by
          congr 1
          exact decide_eq_decide.mpr ⟨fun h => V.int.inj h, fun h => by rw [h]⟩
        rw [dt]
        refine iB (fun h => ?_) (fun h => ?_)
        · walk_at "rds"
          refine ⟨ws, hD, by omega, ⟨ws ++ [.ref bc], upd_same, ?_⟩, sD1 _⟩
          rw [ht, List.filter_append, List.map_append, show [c].filter (fun c => !decide (c.1 = g.2.1)) = [c] by rw [List.filter_cons, if_pos h]; rfl]
          exact (hw.mono (tupK_upd fun xs e => by rw [hD] at e; cases e)).append (.cons (rd.mono (TupK.of (sD1 _))) .nil)
        · refine ⟨⟨ws, hD, ?_⟩, s1⟩
          rw [ht, List.filter_append, show [c].filter (fun c => !decide (c.1 = g.2.1)) = [] by rw [List.filter_cons, if_neg (by rw [h]; decide)]; rfl, List.append_nil]
          exact hw
      · rintro H' ⟨hD, s1⟩
        rw [lp, List.take_length] at hD
        have O4 := O3.same s1
        have ob4 := O4.ob
        have Dp : D ≠ p := fun z => Dn (by rw [z]; simp [OA.fp])
        walk_at "rds"
        refine ⟨p, CO, a.dx, _, rfl, ob4, c1, n4, (by show 10 < 1000; decide), ?_⟩
        have pd : p ≠ D := Dp.symm
        have kt : TupK H' (upd H' p (.ins CO a.dx (oF a.vme a.vvid a.vms a.vfd a.lg a.li s.casts D a.kp a.tl))) := tupK_upd fun xs e => by rw [ob4] at e; cases e
        have at_ : ∀ c, c ≠ p → ∀ o, H' c = some o → (upd H' p (.ins CO a.dx (oF a.vme a.vvid a.vms a.vfd a.lg a.li s.casts D a.kp a.tl))) c = some o := fun c h1 o e => by rw [upd_ne h1]; exact e
        obtain ⟨w1, x1, x2⟩ := O4.lg
        obtain ⟨w2, x3, x4⟩ := O4.li
        obtain ⟨w4, x5, x6, x7⟩ := O4.kp
        obtain ⟨w5, x8, x9⟩ := O4.tl
        refine q _ { a with pn := D } ⟨upd_same, O4.me.mono kt, O4.vid.mono kt, O4.ms.mono kt, O4.fd.mono kt, ⟨w1, at_ _ (ne_of x1 ob4 (by intro z; cases z)) _ x1, x2.mono kt⟩, ⟨w2, x3.mono (at_ _ (ne_of x3.ob ob4 (by intro z; cases z)) _ x3.ob) kt, x4⟩, ?_, ⟨w4, at_ _ (ne_of x5 ob4 (by intro z; cases z)) _ x5, fun i => (x6 i).mono kt, x7⟩, ⟨w5, x8.mono (at_ _ (ne_of x8.ob ob4 (by intro z; cases z)) _ x8.ob) kt, x9⟩, ⟨fun z => Dn (by have z : a.lg = D := z; rw [← z]; simp [OA.fp]), O4.ap.2⟩⟩ ?_
        · have e : (s.deliver g).pend = s.pend.filter fun c => !decide (c.1 = g.2.1) := by show (if g.1 = s.me then _ else _) = _; rw [if_pos h]
          rw [e]
          obtain ⟨ws, h1, h2⟩ := hD
          exact ⟨ws, (upd_ne Dp).trans h1, h2.mono kt⟩
        · have F4 : Fr (a.fp p) (a.fp p) H H' := F3.trans (Fr.of s1)
          have hD0 : H D = none := by
            cases e : H D with
            | none => rfl
            | some o => rw [F3.k D o e Dn] at nD; cases nD
          refine ⟨fun b o e n => by rw [upd_ne (show b ≠ p from fun z => n (by rw [z]; simp [OA.fp]))]; exact F4.k b o e n, fun b hb => ?_, F4.t.trans kt, fun b e => F4.s b (by
            by_cases z : b = p
            · rw [z, upd_same] at e; cases e
            · rwa [upd_ne z] at e)⟩
          simp only [OA.fp, List.mem_cons, List.not_mem_nil, or_false] at hb ⊢
          rcases hb with hb | hb | hb | hb | hb | hb
          · exact .inl (.inl hb)
          · exact .inl (.inr (.inl hb))
          · exact .inl (.inr (.inr (.inl hb)))
          · rw [hb]; exact .inr hD0
          · exact .inl (.inr (.inr (.inr (.inr (.inl hb)))))
          · exact .inl (.inr (.inr (.inr (.inr (.inr hb)))))
    · have h : ¬ g.1 = s.me := of_decide_eq_false h
      have e : s.deliver g = { s with log := s.log ++ [g], last := fun m => if m = g.1 then some g.2.1 else s.last m } := by
        show ({ s with log := _, last := _, pend := if g.1 = s.me then _ else _ } : OS) = _
        rw [if_neg h]
      exact q _ a (by rw [e]; exact O3) F3
end
section
variable {P : Program} {w : World} {K : PySem.W.Frag} {mg : Str → Option Value} {base : Heap} {CO CV : Addr}
abbrev s_Order__decide : Stmt := inClass (top 51) 8
abbrev N_Order__decide : List Str := ["self", "message", "place", "member"]
abbrev P_Order__decide : List Str := ["self", "message"]
theorem sc_Order__decide : FnScope N_Order__decide P_Order__decide (defScope s_Order__decide) := ⟨rfl, rfl, rfl, by decide +kernel, rfl, by decide +kernel, by decide +kernel⟩
def sp_dec (w : World) (CO : Addr) : Sp := fun vs H Q _ => ∃ (p : Addr) (a : OA) (s : OS) (v : V) (g : Msg), vs = [.ref p, v] ∧ OAt w CO H p a s ∧ TD H v (eG g) ∧ s.log.length ≤ 90000 ∧ s.pend.length ≤ 90000 ∧ s.mems.length ≤ 1000 ∧
  ∀ t H' a' l1 l2, OAt w CO H' p a' (s.deliver g) → Fr (a.fp p) (a'.fp p) H H' → H' t = some (.tup [.ref l1, .ref l2]) → NewL H (a'.fp p) H' l1 [eG g] → NewL H (a'.fp p) H' l2 ((s.ords ((s.log.length : Int) + 1) g).map ePk) → l1 ≠ l2 → Q (.ref t) H'
theorem ok_dec {f : Addr} {fd : FuncData} (T : To K mg CO CV) (m_Order__deliver : MethOk P w K mg base CX0 CO "_deliver" P_Order__deliver 1 (sp_del w CO)) (m_Order__others : MethOk P w K mg base CX0 CO "_others" P_Order__others 1 (sp_oth CO)) (m_Order__order_letter : MethOk P w K mg base CX0 CO "_order_letter" P_Order__order_letter 1 (sp_ordl CO))
    (F : Fun K "_decide" "Order._decide" s_Order__decide f fd) : FnOk P w K mg base CX0 2 f fd P_Order__decide (sp_dec w CO) := by
  have nd := sc_Order__decide.nd
  refine F.ok sc_Order__decide (fun vs H Q E h => ?_) (fun cdv A outer s H vs Q E hr h => ?_)
  · obtain ⟨_, _, _, _, _, rfl, _⟩ := h
    rfl
  · obtain ⟨p, a, s, v, g, rfl, O, hv, hl, hp, hm, q⟩ := h
    have hs := sl
    obtain ⟨c1, n2⟩ : L2.Cls K CO ∧ NoAttr K CO "_log" := ⟨T.cl_Order, T.n_Order__log⟩
    refine ⟨_, (pss_cons (ps_expr (pmeth m_Order__deliver T.cl_Order (pv 0) hr (pa_cons (pv 1) pa_nil)))
      (pss_cons (ps_set (i := 2) nd rfl (Or.inr rfl) (pe_callB call_len_seq (by rfl) T.b_len (by decide +kernel) (pa_cons (pe_fld (pv 0) (by rfl)) pa_nil)))
      (pss_one (ps_ret (pe_tup (pa_cons (pe_lst (pa_cons (pv 1) pa_nil)) (pa_cons (pe_lcX (own := [("member", 3)]) rfl nd (pi_list (pmeth0 m_Order__others T.cl_Order (pv 0) hr)) (blkOk_by (own := [("member", 3)]) (N := N_Order__decide) (sc := defScope s_Order__decide) (by decide +kernel)) (fun _ _ _ _ _ => (pg_name (i := 3) nd rfl (Or.inl rfl))) (fun _ _ _ _ _ => pts_nil) (fun _ _ _ _ _ => (pmeth m_Order__order_letter T.cl_Order (pv 0) hr (pa_cons (pv 3) (pa_cons (pv 2) (pa_cons (pv 1) pa_nil)))))) pa_nil))))))), ?_⟩
    refine ⟨_, rfl, p, a.dx, _, rfl, O.ob, rfl, _, rfl, p, a, s, v, g, rfl, O, hv, hl, hp, fun H1 a1 O1 F1 => ?_⟩
    have ob := O1.ob
    have hv1 := hv.mono F1.t
    obtain ⟨vl, hlg, tl⟩ := O1.lg
    have ll : vl.length = s.log.length + 1 := by
      have := tl.length
      rw [List.length_map] at this
      show vl.length = _
      rw [this]
      show (s.log ++ [g]).length = _
      rw [List.length_append]; rfl
    walk_at "rds"
    refine ⟨a1.lg, _, rfl, .inl (SqL.of hlg), ?_⟩
    refine ⟨_, rfl, by show 1 ≤ sizeLine; omega, fun l1 nl1 => ?_⟩
    have s1 := same_new nl1 (.lst [v])
    have h1 : (upd H1 l1 (.lst [v])) l1 = some (.lst [v]) := upd_same
    generalize upd H1 l1 (.lst [v]) = H2 at *
    have O2 := O1.same s1
    refine ⟨_, rfl, p, a1.dx, _, rfl, O2.ob, rfl, w, p, a1, _, rfl, O2, fun r H3 s3 nr hr3 => ?_⟩
    have O3 := O2.same s3
    obtain ⟨vo, hvo, to⟩ := hr3
    have lo := to.length
    rw [List.length_map] at lo
    have lo2 : (s.deliver g).others.length ≤ 1000 := Nat.le_trans (List.length_filter_le _ _) hm
    refine ⟨r, rfl, ⟨_, SqL.of hvo⟩, fun D nD => ?_⟩
    have s13 := s1.trans s3
    have hv3 := hv1.same s13
    refine lc_list (K := K) (a := r) (xs := vo) (fun i H' => LstAt H' D ((((s.deliver g).others.take i).map fun m => ((m.1, Ltr.order s.me s.vid ((s.log.length : Int) + 1) g) : Pkt)).map ePk) ∧ Same H3 H') ?_ ?_ ?_ ?_
    · exact ⟨⟨[], upd_same, .nil⟩, same_new nD _⟩
    · rintro i H' _ ⟨_, s4⟩
      exact SqL.of (s4 _ _ hvo)
    · rintro i x H' hi ⟨⟨ws, hD, hw⟩, s4⟩
      obtain ⟨d, hd, rd⟩ := to.at hi
      rw [List.getElem?_map] at hd
      obtain ⟨m, hm, rfl⟩ := Option.map_eq_some_iff.mp hd
      have ht : (s.deliver g).others.take (i + 1) = (s.deliver g).others.take i ++ [m] := by rw [List.take_succ, hm]; rfl
      have O4 := O3.same s4
      have lw := hw.length
      rw [List.length_map, List.length_map, List.length_take] at lw
      refine ⟨rfl, ?_⟩
      refine ⟨_, rfl, p, a1.dx, _, rfl, O4.ob, rfl, ?_⟩
      walk_at "rds"
      have el : (vl.length : Int) = (s.log.length : Int) + 1 := by omega
      refine ⟨w, p, a1, s.deliver g, x, v, m, (s.log.length : Int) + 1, g, by rw [← el]; rfl, O4, rd.same s4, hv3.same s4, fun r5 H5 s5 d5 => ?_⟩
      refine ⟨ws, s5 _ _ hD, by omega, ⟨ws ++ [.ref r5], upd_same, ?_⟩, fun b o e => by rw [upd_ne (ne_of_none e nD)]; exact s5 _ _ (s4 _ _ e)⟩
      rw [ht, List.map_append, List.map_append]
      have kt : TupK H5 (upd H5 D (.lst (ws ++ [.ref r5]))) := tupK_upd fun xs e => by rw [s5 _ _ hD] at e; cases e
      exact ((hw.same s5).mono kt).append (.cons (d5.mono kt) .nil)
    · rintro H' ⟨hD, s4⟩
      rw [lo, List.take_length] at hD
      refine ⟨by show 2 ≤ sizeLine; omega, fun t nt => ?_⟩
      have st := same_new nt (.tup [.ref l1, .ref D])
      have hn2 := F1.s
      have O5 := ((O3.same s4).same st)
      refine q t _ a1 l1 D O5 (F1.trans (Fr.of (s13.trans (s4.trans st)))) upd_same ⟨⟨[v], st _ _ (s4 _ _ (s3 _ _ h1)), .cons ((hv3.same s4).same st) .nil⟩, hn2 _ nl1, O1.fresh nl1⟩ ⟨hD.mono (fun o e => st _ _ e) (TupK.of st), hn2 _ ?_, O3.fresh nD⟩ ?_
      · cases e : H1 D with
        | none => rfl
        | some o => rw [s3 _ _ (s1 _ _ e)] at nD; cases nD
      · exact ne_of_none (s3 _ _ h1) nD
end
section
variable {P : Program} {w : World} {K : PySem.W.Frag} {mg : Str → Option Value} {base : Heap} {CO CV : Addr}
abbrev s_Order_log : Stmt := inClass (top 51) 5
abbrev N_Order_log : List Str := ["self"]
abbrev P_Order_log : List Str := ["self"]
theorem sc_Order_log : FnScope N_Order_log P_Order_log (defScope s_Order_log) := ⟨rfl, rfl, rfl, by decide +kernel, rfl, by decide +kernel, by decide +kernel⟩
def sp_olog (w : World) (CO : Addr) : Sp := fun vs H Q _ => ∃ (p : Addr) (a : OA) (s : OS), vs = [.ref p] ∧ OAt w CO H p a s ∧ s.log.length ≤ 100000 ∧ ∀ r H', Same H H' → TD H' (.ref r) (eGs s.log) → Q (.ref r) H'
theorem ok_olog {f : Addr} {fd : FuncData} (T : To K mg CO CV) (F : Fun K "log" "Order.log" s_Order_log f fd) : FnOk P w K mg base CX0 1 f fd P_Order_log (sp_olog w CO) := by
  have nd := sc_Order_log.nd
  refine F.ok sc_Order_log (fun vs H Q E h => ?_) (fun cdv A outer s H vs Q E hr h => ?_)
  · obtain ⟨_, _, _, rfl, _⟩ := h
    rfl
  · obtain ⟨p, a, s, rfl, O, hl, q⟩ := h
    have ob := O.ob
    obtain ⟨c1, n1⟩ : L2.Cls K CO ∧ NoAttr K CO "_log" := ⟨T.cl_Order, T.n_Order__log⟩
    obtain ⟨vl, hlg, tl⟩ := O.lg
    have ll := tl.length
    rw [List.length_map] at ll
    refine ⟨_, (pss_one (ps_ret (pe_callTy call_tuple_of (by rfl) T.b_tuple (by decide +kernel) (pa_cons (pe_fld (pv 0) (by rfl)) pa_nil)))), ?_⟩
    walk_at "rds"
    refine ⟨a.lg, _, rfl, .inl ⟨SqL.of hlg, fun t nt => ?_⟩⟩
    exact q t _ (same_new nt _) (.tup upd_same (by omega) (tl.same (same_new nt _)))
abbrev s_Order_cast : Stmt := inClass (top 51) 1
abbrev N_Order_cast : List Str := ["self", "payload", "index", "delivered", "letters"]
abbrev P_Order_cast : List Str := ["self", "payload"]
theorem sc_Order_cast : FnScope N_Order_cast P_Order_cast (defScope s_Order_cast) := ⟨rfl, rfl, rfl, by decide +kernel, rfl, by decide +kernel, by decide +kernel⟩
def sp_ocast (w : World) (CO : Addr) : Sp := fun vs H Q _ => ∃ (p : Addr) (a : OA) (s : OS) (z : Str), vs = [.ref p, .str z] ∧ OAt w CO H p a s ∧ s.log.length ≤ 90000 ∧ s.pend.length ≤ 90000 ∧ s.mems.length ≤ 1000 ∧
  ∀ t H' a' l1 l2, OAt w CO H' p a' (s.cast z).1 → Fr (a.fp p) (a'.fp p) H H' → H' t = some (.tup [.int (s.cast z).2.1, .ref l1, .ref l2]) → NewL H (a'.fp p) H' l1 ((s.cast z).2.2.1.map eG) → NewL H (a'.fp p) H' l2 ((s.cast z).2.2.2.map ePk) → l1 ≠ l2 → Q (.ref t) H'
theorem ok_ocast {f : Addr} {fd : FuncData} (T : To K mg CO CV) (m_Order__decide : MethOk P w K mg base CX0 CO "_decide" P_Order__decide 2 (sp_dec w CO)) (m_Order__cast_letter : MethOk P w K mg base CX0 CO "_cast_letter" P_Order__cast_letter 1 (sp_casl CO))
    (F : Fun K "cast" "Order.cast" s_Order_cast f fd) : FnOk P w K mg base CX0 3 f fd P_Order_cast (sp_ocast w CO) := by
  have nd := sc_Order_cast.nd
  refine F.ok sc_Order_cast (fun vs H Q E h => ?_) (fun cdv A outer s H vs Q E hr h => ?_)
  · obtain ⟨_, _, _, _, rfl, _⟩ := h
    rfl
  · obtain ⟨p, a, s, z, rfl, O, hl, hp, hm, q⟩ := h
    have hs := sl
    have ob := O.ob
    obtain ⟨c1, n1, n2, n3, n4⟩ : L2.Cls K CO ∧ NoAttr K CO "_me" ∧ NoAttr K CO "_founder" ∧ NoAttr K CO "_casts" ∧ NoAttr K CO "_pending" := ⟨T.cl_Order, T.n_Order__me, T.n_Order__founder, T.n_Order__casts, T.n_Order__pending⟩
    refine ⟨_, (pss_cons (ps_fldaug (pv 0) pe_int in_add)
      (pss_cons (ps_set (i := 2) nd rfl (Or.inl rfl) (pe_fld (pv 0) (by rfl)))
      (pss_cons (ps_if (pt_cmpR (op_eqD hr.units) (pe_fld (pv 0) (by rfl)) (pe_fld (pv 0) (by rfl)) (nomark _))
        (pss_cons (ps_asg (pmeth m_Order__decide T.cl_Order (pv 0) hr (pa_cons (pe_tup (pa_cons (pe_fld (pv 0) (by rfl)) (pa_cons (pv 2) (pa_cons (pv 1) pa_nil)))) pa_nil)) (pg_tup (by rfl) (pgs_cons (pg_name (i := 3) nd rfl (Or.inl rfl)) (pgs_cons (pg_name (i := 4) nd rfl (Or.inl rfl)) pgs_nil))))
        (pss_one (ps_ret (pe_tup (pa_cons (pv 2) (pa_cons (pv 3) (pa_cons (pv 4) pa_nil)))))))
        pss_nil)
      (pss_cons (ps_expr (pe_bm PySem.F.plainAttrs_list PySem.F.slot_list_append PySem.F.type_list_append mt_append (pe_fld (pv 0) (by rfl)) (pa_cons (pe_tup (pa_cons (pv 2) (pa_cons (pv 1) pa_nil))) pa_nil)))
      (pss_one (ps_ret (pe_tup (pa_cons (pv 2) (pa_cons (pe_lst pa_nil) (pa_cons (pe_lst (pa_cons (pmeth m_Order__cast_letter T.cl_Order (pv 0) hr (pa_cons (pv 2) (pa_cons (pv 1) pa_nil))) pa_nil)) pa_nil)))))))))), ?_⟩
    refine ⟨_, rfl, p, CO, a.dx, _, .int s.casts, rfl, ob, c1, n3, rfl, s.casts, 1, rfl, rfl, a.dx, _, ob, by show 10 < 1000; decide, ?_⟩
    generalize hh2 : upd H p _ = H2
    have ob2 : H2 p = some (.ins CO a.dx (oF a.vme a.vvid a.vms a.vfd a.lg a.li (s.casts + 1) a.pn a.kp a.tl)) := by subst hh2; exact upd_same
    have k2 : TupK H H2 := by subst hh2; exact tupK_upd fun xs e => by rw [ob] at e; cases e
    have at2 : ∀ c, c ≠ p → ∀ o, H c = some o → H2 c = some o := fun c h o e => by subst hh2; rw [upd_ne h]; exact e
    have F2 : Fr (a.fp p) (a.fp p) H H2 := by subst hh2; exact fr_upd (by simp [OA.fp]) ob (fun _ z => by cases z)
    have O2 : OAt w CO H2 p a { s with casts := s.casts + 1 } := by
      obtain ⟨w1, x1, x2⟩ := O.lg
      obtain ⟨w2, x3, x4⟩ := O.li
      obtain ⟨w3, y1, y2⟩ := O.pn
      obtain ⟨w4, x5, x6, x7⟩ := O.kp
      obtain ⟨w5, x8, x9⟩ := O.tl
      exact ⟨ob2, O.me.mono k2, O.vid.mono k2, O.ms.mono k2, O.fd.mono k2, ⟨w1, at2 _ (ne_of x1 ob (by intro z; cases z)) _ x1, x2.mono k2⟩, ⟨w2, x3.mono (at2 _ (ne_of x3.ob ob (by intro z; cases z)) _ x3.ob) k2, x4⟩, ⟨w3, at2 _ (ne_of y1 ob (by intro z; cases z)) _ y1, y2.mono k2⟩,
        ⟨w4, at2 _ (ne_of x5 ob (by intro z; cases z)) _ x5, fun i => (x6 i).mono k2, x7⟩, ⟨w5, x8.mono (at2 _ (ne_of x8.ob ob (by intro z; cases z)) _ x8.ob) k2, x9⟩, O.ap⟩
    walk_at "rds"
    refine rd_eqM O2.me O2.fd ?_
    walk_at "rds"
    refine iB (fun h => ?_) (fun h => ?_)
    · have h : s.me = s.fd := of_decide_eq_true h
      have e : s.cast z = (let r := ({ s with casts := s.casts + 1 } : OS).decide (s.me, s.casts + 1, z); (r.1, s.casts + 1, r.2.1, r.2.2)) := if_pos h
      rw [e] at q
      refine ⟨_, rfl, p, a.dx, _, rfl, ob2, rfl, ?_⟩
      walk_at "rds"
      refine ⟨by show 3 ≤ sizeLine; omega, fun t nt => ?_⟩
      have st := same_new nt (.tup [a.vme, V.int (s.casts + 1), V.str z])
      refine ⟨p, a, _, .ref t, (s.me, s.casts + 1, z), rfl, O2.same st, td_msg upd_same (O2.me.same st), hl, hp, hm, fun t2 H3 a3 l1 l2 O3 F3 ht2 L1 L2' hne => ?_⟩
      have F := (F2.trans (Fr.of st)).trans F3
      have hn2 := (F2.trans (Fr.of (fp := a.fp p) st)).s
      walk_at "rds"
      refine ⟨by show 3 ≤ sizeLine; omega, fun t4 n4 => ?_⟩
      have s4 := same_new n4 (.tup [V.int (s.casts + 1), V.ref l1, V.ref l2])
      obtain ⟨v1, b1, b2⟩ := L1.at_
      obtain ⟨v2, b3, b4⟩ := L2'.at_
      exact q t4 _ a3 l1 l2 (O3.same s4) (F.trans (Fr.of s4)) upd_same ⟨⟨v1, s4 _ _ b1, b2.same s4⟩, hn2 _ L1.new, L1.out⟩ ⟨⟨v2, s4 _ _ b3, b4.same s4⟩, hn2 _ L2'.new, L2'.out⟩ hne
    · have h : ¬ s.me = s.fd := of_decide_eq_false h
      have e : s.cast z = ({ s with casts := s.casts + 1, pend := s.pend ++ [(s.casts + 1, z)] }, s.casts + 1, [], [s.castL (s.casts + 1, z)]) := if_neg h
      rw [e] at q
      obtain ⟨vp, hpn, tp⟩ := O2.pn
      have tp : TDs H2 vp (s.pend.map eC) := tp
      have lp := tp.length
      rw [List.length_map] at lp
      walk_at "rds"
      refine ⟨.inl ⟨rfl, _, SqL.of hpn⟩, ?_⟩
      walk_at "rds"
      refine ⟨by show 2 ≤ sizeLine; omega, fun t nt => ?_⟩
      have st := same_new nt (.tup [V.int (s.casts + 1), V.str z])
      have ht : (upd H2 t (.tup [V.int (s.casts + 1), V.str z])) t = some (.tup [V.int (s.casts + 1), V.str z]) := upd_same
      have O3 := O2.same st
      have hpn3 := st _ _ hpn
      generalize upd H2 t (.tup [V.int (s.casts + 1), V.str z]) = H3 at *
      refine ⟨a.pn, _, _, rfl, rfl, hpn3, by omega, ?_⟩
      generalize hh4 : upd H3 a.pn (HO.lst (vp ++ [V.ref t])) = H4
      have pn4 : H4 a.pn = some (.lst (vp ++ [V.ref t])) := by subst hh4; exact upd_same
      have k4 : TupK H3 H4 := by subst hh4; exact tupK_upd fun xs e => by rw [hpn3] at e; cases e
      have at4 : ∀ c, c ≠ a.pn → ∀ o, H3 c = some o → H4 c = some o := fun c h o e => by subst hh4; rw [upd_ne h]; exact e
      have F4 : Fr (a.fp p) (a.fp p) H3 H4 := by subst hh4; exact fr_upd (by simp [OA.fp]) hpn3 (fun _ z => by cases z)
      have O4 : OAt w CO H4 p a { s with casts := s.casts + 1, pend := s.pend ++ [(s.casts + 1, z)] } := by
        obtain ⟨w1, x1, x2⟩ := O3.lg
        obtain ⟨w2, x3, x4⟩ := O3.li
        obtain ⟨w4, x5, x6, x7⟩ := O3.kp
        obtain ⟨w5, x8, x9⟩ := O3.tl
        refine ⟨at4 _ (ne_of O3.ob hpn3 (by intro z; cases z)) _ O3.ob, O3.me.mono k4, O3.vid.mono k4, O3.ms.mono k4, O3.fd.mono k4, ⟨w1, at4 _ O3.ap.1 _ x1, x2.mono k4⟩, ⟨w2, x3.mono (at4 _ (ne_of x3.ob hpn3 (by intro z; cases z)) _ x3.ob) k4, x4⟩, ⟨_, pn4, ?_⟩,
          ⟨w4, at4 _ (ne_of x5 hpn3 (by intro z; cases z)) _ x5, fun i => (x6 i).mono k4, x7⟩, ⟨w5, x8.mono (at4 _ (ne_of x8.ob hpn3 (by intro z; cases z)) _ x8.ob) k4, x9⟩, O3.ap⟩
        show TDs H4 _ ((s.pend ++ [(s.casts + 1, z)]).map eC)
        rw [List.map_append]
        exact ((tp.same st).mono k4).append (.cons (td_cst (c := (s.casts + 1, z)) (k4 _ _ ht)) .nil)
      have ob4 := O4.ob
      have F := (F2.trans (Fr.of (fp := a.fp p) st)).trans F4
      refine ⟨_, rfl, by show 0 ≤ sizeLine; omega, fun l1 n1' => ?_⟩
      have s5 := same_new n1' (.lst [])
      have h1 : (upd H4 l1 (.lst [])) l1 = some (.lst []) := upd_same
      have O5 := O4.same s5
      generalize upd H4 l1 (.lst []) = H5 at *
      refine ⟨_, rfl, p, a.dx, _, rfl, O5.ob, rfl, _, rfl, _, rfl, w, p, a, _, (s.casts + 1, z), rfl, O5, fun r6 H6 s6 d6 => ?_⟩
      refine ⟨by show 1 ≤ sizeLine; omega, fun l2 n2' => ?_⟩
      have s7 := same_new n2' (.lst [V.ref r6])
      have h2 : (upd H6 l2 (.lst [V.ref r6])) l2 = some (.lst [V.ref r6]) := upd_same
      refine ⟨by show 3 ≤ sizeLine; omega, fun t8 n8 => ?_⟩
      have s8 := same_new n8 (.tup [V.int (s.casts + 1), V.ref l1, V.ref l2])
      have h16 := s7 _ _ (s6 _ _ h1)
      have nl2 : H4 l2 = none := (Fr.of (fp := []) (s5.trans s6)).s _ n2'
      exact q t8 _ a l1 l2 (((O5.same s6).same s7).same s8) (F.trans (Fr.of (s5.trans (s6.trans (s7.trans s8))))) upd_same ⟨⟨[], s8 _ _ h16, .nil⟩, F.s _ n1', O4.fresh n1'⟩ ⟨⟨_, s8 _ _ h2, .cons ((d6.same s7).same s8) .nil⟩, F.s _ nl2, O4.fresh nl2⟩ (ne_of_none (s6 _ _ h1) n2')
end
theorem again_len (s : OS) (h1 : s.mems.length ≤ 1000) : s.again.length ≤ 16000 := by
  unfold OS.again
  split
  · rw [List.length_map, List.length_take]; omega
  · have hb : ∀ m, (s.behind m).length ≤ 16 := fun m => by
      show (List.mapIdx _ _).length ≤ 16
      rw [List.length_mapIdx, List.length_take]; omega
    have : ∀ ms : List Mem, (ms.map s.behind).flatten.length ≤ 16 * ms.length := by
      intro ms
      induction ms with
      | nil => simp
      | cons m ms ih => rw [List.map_cons, List.flatten_cons, List.length_append, List.length_cons]; have := hb m; omega
    have h2 := this s.others
    have h3 : s.others.length ≤ s.mems.length := List.length_filter_le _ _
    omega
section
variable {P : Program} {w : World} {K : PySem.W.Frag} {mg : Str → Option Value} {base : Heap} {CO CV : Addr}
abbrev s_Order___init__ : Stmt := inClass (top 51) 0
abbrev N_Order___init__ : List Str := ["self", "me", "view_id", "members"]
abbrev P_Order___init__ : List Str := ["self", "me", "view_id", "members"]
theorem sc_Order___init__ : FnScope N_Order___init__ P_Order___init__ (defScope s_Order___init__) := ⟨rfl, rfl, rfl, by decide +kernel, rfl, by decide +kernel, by decide +kernel⟩
def sp_oini (w : World) (CO CV : Addr) : Sp := fun vs H Q E => ∃ (p dx : Addr) (vme vvid vms : V) (me : Mem) (vid : Vid) (mems : List Mem), vs = [.ref p, vme, vvid, vms] ∧ H p = some (.ins CO dx []) ∧ TD H vme (eM me) ∧ TD H vvid (eV vid) ∧ TD H vms (eMs mems) ∧
  (me ∉ mems → E (.ref CV) none H) ∧ (me ∈ mems → ∀ H' a fd r, mems = fd :: r → OAt w CO H' p a (OS.new me vid mems fd) → Fr [p] (a.fp p) H H' → Q .non H')
theorem ok_oini {f : Addr} {fd : FuncData} (T : To K mg CO CV) (F : Fun K "__init__" "Order.__init__" s_Order___init__ f fd) : FnOk P w K mg base (L2.CX P w) 1 f fd P_Order___init__ (sp_oini w CO CV) := by
  have nd := sc_Order___init__.nd
  refine F.okX sc_Order___init__ (fun vs H Q E h => ?_) (fun cdv A outer s H vs Q E hr h => ?_)
  · obtain ⟨_, _, _, _, _, _, _, _, rfl, _⟩ := h
    rfl
  · obtain ⟨p, dx, vme, vvid, vms, me, vid, mems, rfl, hp, tme, tvid, tms, q1, q2⟩ := h
    have hs := sl
    refine ⟨_, (pss_cons (ps_if (pt_cmpR (op_notInDD hr.units) (pv 1) (pv 3) (by rfl))
        (pss_one (ps_raise rfl (takes_of rfl rfl rfl rfl) (pmk_own0 PySem.F.excBase_ValueError T.x_BadView T.g_BadView T.k_BadView (raises_own T.b_BadView T.t_BadView))))
        pss_nil)
      (pss_cons (ps_fld (pv 0) (pv 1) rfl)
      (pss_cons (ps_fld (pv 0) (pv 2) rfl)
      (pss_cons (ps_fld (pv 0) (pv 3) rfl)
      (pss_cons (ps_fld (pv 0) (pe_ix ix_tup (pv 3) pe_int (fun _ _ => rfl)) rfl)
      (pss_cons (ps_fld (pv 0) (pe_lst pa_nil) rfl)
      (pss_cons (ps_fld (pv 0) pe_nnew rfl)
      (pss_cons (ps_fld (pv 0) pe_int rfl)
      (pss_cons (ps_fld (pv 0) (pe_lst pa_nil) rfl)
      (pss_cons (ps_fld (pv 0) pe_dnewK rfl)
      (pss_one (ps_fld (pv 0) pe_nnew rfl)))))))))))), ?_⟩
    walk_at "rds"
    refine rd_inMs tme tms ?_
    walk_at "rds"
    refine iB (fun h => ?_) (fun h => ?_)
    · have h : ¬ me ∈ mems := by simpa using h
      exact q1 h
    · have h : me ∈ mems := by simpa using h
      obtain ⟨fd0, rest, em⟩ : ∃ fd0 rest, mems = fd0 :: rest := by
        cases mems with
        | nil => cases h
        | cons x y => exact ⟨x, y, rfl⟩
      have q := fun H' a => q2 h H' a fd0 rest em
      subst em
      obtain ⟨am, vf, xs, rfl, ham, tf⟩ : ∃ am vf xs, vms = .ref am ∧ H am = some (.tup (vf :: xs)) ∧ TD H vf (eM fd0) := by
        cases tms with
        | tup h l r => cases r with | cons a b => exact ⟨_, _, _, rfl, h, a⟩
      have pam : am ≠ p := ne_of ham hp (by intro z; cases z)
      have a0 : ∀ (x : V) (l : List V), atI (x :: l) 0 = some x := fun x l => at_int (by decide) rfl
      have c1 := T.cl_Order
      have B := Bld.start hp
      have put : ∀ {fs : List (Str × V)} {X : Hp} {x : Str} {v : V} {R : Prop}, True := fun {_ _ _ _ _} => trivial
      refine ⟨_, rfl, _, rfl, p, CO, dx, _, rfl, B.ob, c1, T.n_Order__me, (by decide), ?_⟩
      have B := B.put (fs' := putF "_me" vme [])
      generalize upd H p _ = X1 at *
      refine ⟨_, rfl, _, rfl, p, CO, dx, _, rfl, B.ob, c1, T.n_Order__view_id, (by show 1 < 1000; decide), ?_⟩
      have B := B.put (fs' := putF "_view_id" vvid (putF "_me" vme []))
      generalize upd X1 p _ = X2 at *
      refine ⟨_, rfl, _, rfl, p, CO, dx, _, rfl, B.ob, c1, T.n_Order__members, (by show 2 < 1000; decide), ?_⟩
      have B := B.put (fs' := putF "_members" (.ref am) (putF "_view_id" vvid (putF "_me" vme [])))
      generalize upd X2 p _ = X3 at *
      refine ⟨_, rfl, am, _, _, _, rfl, rfl, SqT.of (B.k _ _ ham pam), a0 _ _, _, rfl, p, CO, dx, _, rfl, B.ob, c1, T.n_Order__founder, (by show 3 < 1000; decide), ?_⟩
      have B := B.put (fs' := putF "_founder" vf (putF "_members" (.ref am) (putF "_view_id" vvid (putF "_me" vme []))))
      generalize upd X3 p _ = X4 at *
      refine ⟨by show 0 ≤ sizeLine; omega, fun lg nl => ?_⟩
      have lgp : lg ≠ p := fun z => by rw [z, B.ob] at nl; cases nl
      have hl0 := B.s _ nl
      have B := B.new (o := .lst []) nl
      have hlg : (upd X4 lg (.lst [])) lg = some (.lst []) := upd_same
      generalize upd X4 lg (.lst []) = X5 at *
      refine ⟨_, rfl, p, CO, dx, _, rfl, B.ob, c1, T.n_Order__log, (by show 4 < 1000; decide), ?_⟩
      have B := B.put (fs' := putF "_log" (.ref lg) (putF "_founder" vf (putF "_members" (.ref am) (putF "_view_id" vvid (putF "_me" vme [])))))
      have kl : ∀ {X : Hp} {o : HO}, X lg = some (.lst []) → (upd X p o) lg = some (.lst []) := fun h => (upd_ne lgp).trans h
      have hlg := kl (o := .ins CO dx (putF "_log" (.ref lg) (putF "_founder" vf (putF "_members" (.ref am) (putF "_view_id" vvid (putF "_me" vme [])))))) hlg
      generalize upd X5 p _ = X6 at *
      intro li nli loli
      have lip : li ≠ p := fun z => by rw [z, B.ob] at nli; cases nli
      have hli0 := B.s _ nli
      have lgli : lg ≠ li := ne_of_none hlg nli
      generalize hh7 : upd X6 li _ = X7
      have B : Bld H p dx CO (putF "_log" (.ref lg) (putF "_founder" vf (putF "_members" (.ref am) (putF "_view_id" vvid (putF "_me" vme []))))) X7 := by subst hh7; exact B.new nli
      have hlg : X7 lg = some (.lst []) := by subst hh7; rw [upd_ne lgli]; exact hlg
      have Nli : Nd w X7 li [] := by subst hh7; exact nd_new loli
      refine ⟨_, rfl, p, CO, dx, _, rfl, B.ob, c1, T.n_Order__last_indexes, (by show 5 < 1000; decide), ?_⟩
      generalize hh8 : upd X7 p _ = X8
      have B : Bld H p dx CO (putF "_last_indexes" (.ref li) (putF "_log" (.ref lg) (putF "_founder" vf (putF "_members" (.ref am) (putF "_view_id" vvid (putF "_me" vme [])))))) X8 := by subst hh8; exact B.put
      have hlg : X8 lg = some (.lst []) := by subst hh8; exact kl hlg
      have hli : X8 li = some (ndO w li []) := by subst hh8; rw [upd_ne lip]; exact Nli.ob
      refine ⟨_, rfl, p, CO, dx, _, rfl, B.ob, c1, T.n_Order__casts, (by show 6 < 1000; decide), ?_⟩
      generalize hh9 : upd X8 p _ = X9
      have B : Bld H p dx CO (putF "_casts" (.int 0) (putF "_last_indexes" (.ref li) (putF "_log" (.ref lg) (putF "_founder" vf (putF "_members" (.ref am) (putF "_view_id" vvid (putF "_me" vme []))))))) X9 := by subst hh9; exact B.put
      have hlg : X9 lg = some (.lst []) := by subst hh9; exact kl hlg
      have hli : X9 li = some (ndO w li []) := by subst hh9; rw [upd_ne lip]; exact hli
      refine ⟨by show 0 ≤ sizeLine; omega, fun pn npn => ?_⟩
      have pnp : pn ≠ p := fun z => by rw [z, B.ob] at npn; cases npn
      have hpn0 := B.s _ npn
      have lgpn : lg ≠ pn := ne_of_none hlg npn
      have lipn : li ≠ pn := ne_of_none hli npn
      have B := B.new (o := .lst []) npn
      have hlg := (upd_ne lgpn (H := X9) (o := .lst [])).trans hlg
      have hli := (upd_ne lipn (H := X9) (o := .lst [])).trans hli
      have hpn : (upd X9 pn (.lst [])) pn = some (.lst []) := upd_same
      generalize upd X9 pn (.lst []) = X10 at *
      refine ⟨_, rfl, p, CO, dx, _, rfl, B.ob, c1, T.n_Order__pending, (by show 7 < 1000; decide), ?_⟩
      generalize hh11 : upd X10 p _ = X11
      have B : Bld H p dx CO (putF "_pending" (.ref pn) (putF "_casts" (.int 0) (putF "_last_indexes" (.ref li) (putF "_log" (.ref lg) (putF "_founder" vf (putF "_members" (.ref am) (putF "_view_id" vvid (putF "_me" vme [])))))))) X11 := by subst hh11; exact B.put
      have hlg : X11 lg = some (.lst []) := by subst hh11; exact kl hlg
      have hli : X11 li = some (ndO w li []) := by subst hh11; rw [upd_ne lip]; exact hli
      have hpn : X11 pn = some (.lst []) := by subst hh11; rw [upd_ne pnp]; exact hpn
      intro kp nkp
      have kpp : kp ≠ p := fun z => by rw [z, B.ob] at nkp; cases nkp
      have hkp0 := B.s _ nkp
      have lgkp : lg ≠ kp := ne_of_none hlg nkp
      have likp : li ≠ kp := ne_of_none hli nkp
      have pnkp : pn ≠ kp := ne_of_none hpn nkp
      have B := B.new (o := .dK []) nkp
      have hlg := (upd_ne lgkp (H := X11) (o := .dK [])).trans hlg
      have hli := (upd_ne likp (H := X11) (o := .dK [])).trans hli
      have hpn := (upd_ne pnkp (H := X11) (o := .dK [])).trans hpn
      have hkp : (upd X11 kp (.dK [])) kp = some (.dK []) := upd_same
      generalize upd X11 kp (.dK []) = X12 at *
      refine ⟨_, rfl, p, CO, dx, _, rfl, B.ob, c1, T.n_Order__kept, (by show 8 < 1000; decide), ?_⟩
      generalize hh13 : upd X12 p _ = X13
      have B : Bld H p dx CO (putF "_kept" (.ref kp) (putF "_pending" (.ref pn) (putF "_casts" (.int 0) (putF "_last_indexes" (.ref li) (putF "_log" (.ref lg) (putF "_founder" vf (putF "_members" (.ref am) (putF "_view_id" vvid (putF "_me" vme []))))))))) X13 := by subst hh13; exact B.put
      have hlg : X13 lg = some (.lst []) := by subst hh13; exact kl hlg
      have hli : X13 li = some (ndO w li []) := by subst hh13; rw [upd_ne lip]; exact hli
      have hpn : X13 pn = some (.lst []) := by subst hh13; rw [upd_ne pnp]; exact hpn
      have hkp : X13 kp = some (.dK []) := by subst hh13; rw [upd_ne kpp]; exact hkp
      intro tl ntl lotl
      have tlp : tl ≠ p := fun z => by rw [z, B.ob] at ntl; cases ntl
      have htl0 := B.s _ ntl
      generalize hh14 : upd X13 tl _ = X14
      have B : Bld H p dx CO (putF "_kept" (.ref kp) (putF "_pending" (.ref pn) (putF "_casts" (.int 0) (putF "_last_indexes" (.ref li) (putF "_log" (.ref lg) (putF "_founder" vf (putF "_members" (.ref am) (putF "_view_id" vvid (putF "_me" vme []))))))))) X14 := by subst hh14; exact B.new ntl
      have litl : li ≠ tl := ne_of_none hli ntl
      have hlg : X14 lg = some (.lst []) := by subst hh14; rw [upd_ne (ne_of_none hlg ntl)]; exact hlg
      have hli : X14 li = some (ndO w li []) := by subst hh14; rw [upd_ne litl]; exact hli
      have hpn : X14 pn = some (.lst []) := by subst hh14; rw [upd_ne (ne_of_none hpn ntl)]; exact hpn
      have hkp : X14 kp = some (.dK []) := by subst hh14; rw [upd_ne (ne_of_none hkp ntl)]; exact hkp
      have Ntl : Nd w X14 tl [] := by subst hh14; exact nd_new lotl
      refine ⟨_, rfl, p, CO, dx, _, rfl, B.ob, c1, T.n_Order__told, (by show 9 < 1000; decide), ?_⟩
      generalize hh15 : upd X14 p _ = X15
      have B : Bld H p dx CO (putF "_told" (.ref tl) (putF "_kept" (.ref kp) (putF "_pending" (.ref pn) (putF "_casts" (.int 0) (putF "_last_indexes" (.ref li) (putF "_log" (.ref lg) (putF "_founder" vf (putF "_members" (.ref am) (putF "_view_id" vvid (putF "_me" vme [])))))))))) X15 := by subst hh15; exact B.put
      have hlg : X15 lg = some (.lst []) := by subst hh15; exact kl hlg
      have hli : X15 li = some (ndO w li []) := by subst hh15; rw [upd_ne lip]; exact hli
      have hpn : X15 pn = some (.lst []) := by subst hh15; rw [upd_ne pnp]; exact hpn
      have hkp : X15 kp = some (.dK []) := by subst hh15; rw [upd_ne kpp]; exact hkp
      have htl : X15 tl = some (ndO w tl []) := by subst hh15; rw [upd_ne tlp]; exact Ntl.ob
      have kt : TupK H X15 := B.tup fun xs e => by rw [hp] at e; cases e
      refine q X15 ⟨dx, vme, vvid, .ref am, vf, lg, li, pn, kp, tl⟩ ⟨B.ob, tme.mono kt, tvid.mono kt, tms.mono kt, tf.mono kt, ⟨[], hlg, .nil⟩, ⟨[], ⟨hli, (fun x h => by cases h), List.nodup_nil, Nat.zero_le _, loli⟩, fun _ => rfl, Nat.le_refl _⟩, ⟨[], hpn, .nil⟩, ⟨[], hkp, fun _ => trivial, rfl, List.nodup_nil⟩, ⟨[], ⟨htl, (fun x h => by cases h), List.nodup_nil, Nat.zero_le _, lotl⟩, fun _ => rfl, Nat.le_refl _⟩, lgpn, litl⟩ ?_
      refine ⟨fun b o e n => B.k b o e fun z => n (by rw [z]; simp), fun b hb => ?_, kt, B.s⟩
      simp only [OA.fp, List.mem_cons, List.not_mem_nil, or_false] at hb ⊢
      rcases hb with hb | hb | hb | hb | hb | hb
      · exact .inl hb
      · rw [hb]; exact .inr hl0
      · rw [hb]; exact .inr hli0
      · rw [hb]; exact .inr hpn0
      · rw [hb]; exact .inr hkp0
      · rw [hb]; exact .inr htl0
end
end Mus

set_option maxRecDepth 100000
set_option maxHeartbeats 4000000
/-! Dicts of ints by ints, counted by a fold; pairs in order. -/
namespace Mus
open PySem L2
def iv (kvs : List (Key × V)) (k : Key) : Int := match valV kvs k with | some (.int i) => i | _ => 0
/-- keys and values are ints, no key twice -/
structure DI2 (kvs : List (Key × V)) : Prop where
  nd : (kvs.map (·.1)).Nodup
  int2 : ∀ kv ∈ kvs, ∃ i l : Int, kv = (Sum.inl i, V.int l)
theorem DI2.nil : DI2 [] := ⟨List.nodup_nil, fun _ h => absurd h List.not_mem_nil⟩
theorem putK_keys {kvs : List (Key × V)} {k : Key} {v : V} : (putK kvs k v).map (·.1) = (if valV kvs k = none then kvs.map (·.1) ++ [k] else kvs.map (·.1)) := by
  cases e : valV kvs k with
  | none => rw [if_pos rfl, putK_new v e, List.map_append]; rfl
  | some x =>
    rw [if_neg (by simp)]
    obtain ⟨q, hq, e2⟩ := List.mem_map.mp (valV_in e)
    have hany : (kvs.any fun kv => decide (kv.1 = k)) = true := List.any_eq_true.mpr ⟨q, hq, decide_eq_true e2⟩
    unfold putK
    rw [if_pos hany, List.map_map]
    refine List.map_congr_left fun q _ => ?_
    show (if q.1 = k then (q.1, v) else q).1 = q.1
    split <;> rfl
theorem putK_keys_in {kvs : List (Key × V)} {k : Key} {v : V} (h : k ∈ kvs.map (·.1)) : (putK kvs k v).map (·.1) = kvs.map (·.1) := by
  obtain ⟨x, e, _⟩ := valV_mem h
  rw [putK_keys, e, if_neg (by simp)]
theorem DI2.put {kvs : List (Key × V)} (h : DI2 kvs) (i l : Int) : DI2 (putK kvs (Sum.inl i) (.int l)) := by
  refine ⟨?_, fun kv hk => ?_⟩
  · rw [putK_keys]
    split
    · rename_i hn
      rw [List.nodup_append]
      refine ⟨h.nd, by simp, fun a ha b hb => ?_⟩
      rw [List.mem_singleton.mp hb]
      rintro rfl
      exact valV_not hn ha
    · exact h.nd
  · rcases mem_putK hk with e | e
    · exact ⟨i, l, e⟩
    · exact h.int2 kv e
theorem valV_nd {kvs : List (Key × V)} (h : (kvs.map (·.1)).Nodup) {k : Key} {v : V} (m : (k, v) ∈ kvs) : valV kvs k = some v := by
  induction kvs with
  | nil => exact absurd m List.not_mem_nil
  | cons a r ih =>
    obtain ⟨b, x⟩ := a
    rw [List.map_cons, List.nodup_cons] at h
    rcases List.mem_cons.mp m with e | m
    · cases e; exact valV_pos rfl
    · have : ¬ b = k := fun e => h.1 (List.mem_map.mpr ⟨(k, v), m, e.symm⟩)
      rw [valV_neg this]
      exact ih h.2 m
theorem DI2.val {kvs : List (Key × V)} (h : DI2 kvs) {k : Key} (m : k ∈ kvs.map (·.1)) : ∃ i, k = Sum.inl i ∧ valV kvs k = some (.int (iv kvs k)) := by
  obtain ⟨v, h1, h2⟩ := valV_mem m
  obtain ⟨i, l, e⟩ := h.int2 _ h2
  cases e
  refine ⟨i, rfl, ?_⟩
  unfold iv
  rw [h1]
theorem DI2.val_or {kvs : List (Key × V)} (h : DI2 kvs) (k : Key) : valV kvs k = none ∧ iv kvs k = 0 ∨ valV kvs k = some (.int (iv kvs k)) ∧ k ∈ kvs.map (·.1) := by
  cases e : valV kvs k with
  | none => left; refine ⟨rfl, ?_⟩; unfold iv; rw [e]
  | some v =>
    right
    have m := valV_in e
    obtain ⟨i, _, h2⟩ := h.val m
    rw [e] at h2
    exact ⟨h2, m⟩
/-- one more, key by key -/
def bump (a : List (Key × V)) (ks : List Key) : List (Key × V) := ks.foldl (fun a k => putK a k (.int (iv a k + 1))) a
theorem bump_more {a : List (Key × V)} {ks : List Key} {i : Nat} {k : Key} (h : ks[i]? = some k) : bump a (ks.take (i + 1)) = putK (bump a (ks.take i)) k (.int (iv (bump a (ks.take i)) k + 1)) := by
  obtain ⟨hi, e⟩ := List.getElem?_eq_some_iff.mp h
  unfold bump
  rw [List.take_succ_eq_append_getElem hi, List.foldl_append, e]; rfl
theorem bump_ok {a : List (Key × V)} (h : DI2 a) : ∀ {ks : List Key}, (∀ k ∈ ks, k ∈ a.map (·.1)) → DI2 (bump a ks) ∧ (bump a ks).map (·.1) = a.map (·.1) := by
  intro ks
  induction ks generalizing a with
  | nil => exact fun _ => ⟨h, rfl⟩
  | cons k r ih =>
    intro hk
    obtain ⟨i, rfl, _⟩ := h.val (hk k List.mem_cons_self)
    have e : (putK a (Sum.inl i : Key) (.int (iv a (Sum.inl i) + 1))).map (·.1) = a.map (·.1) := putK_keys_in (hk _ List.mem_cons_self)
    obtain ⟨h1, h2⟩ := ih (h.put i _) (fun k' hk' => by rw [e]; exact hk k' (List.mem_cons_of_mem _ hk'))
    exact ⟨h1, h2.trans e⟩
/-- the pairs that are told: key and life of those whose age is at most four -/
def rowsOf (lv ag : List (Key × V)) (ks : List Key) : List (Int × Int) := ks.filterMap fun k => if iv ag k ≤ 4 then some (keyI k, iv lv k) else none
theorem rowsOf_more {lv ag : List (Key × V)} {ks : List Key} {i : Nat} {k : Key} (h : ks[i]? = some k) : rowsOf lv ag (ks.take (i + 1)) = rowsOf lv ag (ks.take i) ++ (if iv ag k ≤ 4 then [(keyI k, iv lv k)] else []) := by
  obtain ⟨hi, e⟩ := List.getElem?_eq_some_iff.mp h
  unfold rowsOf
  rw [List.take_succ_eq_append_getElem hi, List.filterMap_append, e]
  split <;> rename_i hh <;> simp [hh]
/-! ### pairs of ints in the heap -/
/-- v is a tuple of the two ints -/
def PairAt (H : Hp) (v : V) (q : Int × Int) : Prop := ∃ t, v = .ref t ∧ H t = some (.tup [.int q.1, .int q.2])
def PairsAt (H : Hp) : List V → List (Int × Int) → Prop
  | [], [] => True
  | v :: vs, q :: qs => PairAt H v q ∧ PairsAt H vs qs
  | _, _ => False
theorem PairsAt.mono {H H' : Hp} (k : ∀ t xs, H t = some (.tup xs) → H' t = some (.tup xs)) : ∀ {vs : List V} {qs : List (Int × Int)}, PairsAt H vs qs → PairsAt H' vs qs
  | [], [], _ => trivial
  | v :: vs, q :: qs, ⟨⟨t, e, h⟩, r⟩ => ⟨⟨t, e, k _ _ h⟩, PairsAt.mono k r⟩
theorem PairsAt.snoc {H : Hp} {v : V} {q : Int × Int} (h : PairAt H v q) : ∀ {vs : List V} {qs : List (Int × Int)}, PairsAt H vs qs → PairsAt H (vs ++ [v]) (qs ++ [q])
  | [], [], _ => ⟨h, trivial⟩
  | _ :: _, _ :: _, ⟨a, r⟩ => ⟨a, PairsAt.snoc h r⟩
theorem PairsAt.length {H : Hp} : ∀ {vs : List V} {qs : List (Int × Int)}, PairsAt H vs qs → vs.length = qs.length
  | [], [], _ => rfl
  | _ :: _, _ :: _, ⟨_, r⟩ => by rw [List.length_cons, List.length_cons, PairsAt.length r]
/-- what a value's pair is -/
def pairIn (H : Hp) (v : V) : Int × Int := match v with
  | .ref t => match H t with
    | some (.tup [.int i, .int j]) => (i, j)
    | _ => (0, 0)
  | _ => (0, 0)
theorem PairAt.eq {H : Hp} {v : V} {q : Int × Int} (h : PairAt H v q) : pairIn H v = q := by
  obtain ⟨t, rfl, e⟩ := h
  show (match H t with | some (.tup [.int i, .int j]) => (i, j) | _ => (0, 0)) = q
  rw [e]
theorem PairsAt.all {H : Hp} : ∀ {vs : List V} {qs : List (Int × Int)}, PairsAt H vs qs → qs = vs.map (pairIn H) ∧ ∀ v ∈ vs, PairAt H v (pairIn H v)
  | [], [], _ => ⟨rfl, fun _ h => absurd h List.not_mem_nil⟩
  | v :: vs, q :: qs, ⟨a, r⟩ => by
    obtain ⟨h1, h2⟩ := PairsAt.all r
    have e := a.eq
    refine ⟨by rw [List.map_cons, ← h1, e], fun u hu => ?_⟩
    rcases List.mem_cons.mp hu with rfl | hu
    · rw [e]; exact a
    · exact h2 u hu
theorem PairsAt.of {H : Hp} : ∀ {vs : List V}, (∀ v ∈ vs, PairAt H v (pairIn H v)) → PairsAt H vs (vs.map (pairIn H))
  | [], _ => trivial
  | v :: vs, h => ⟨h v List.mem_cons_self, PairsAt.of fun u hu => h u (List.mem_cons_of_mem _ hu)⟩
def pairD (q : Int × Int) : PyData := .tuple [.int q.1, .int q.2]
theorem PairsAt.dp {K : PySem.W.Frag} {H : Hp} : ∀ {vs : List V} {qs : List (Int × Int)}, PairsAt H vs qs → DpAll K H vs (qs.map pairD)
  | [], [], _ => .nil
  | v :: vs, q :: qs, ⟨⟨t, e, h⟩, r⟩ => by
    subst e
    exact .cons (.tup (SqT.of h) (.cons (.int _) (.cons (.int _) .nil))) (PairsAt.dp r)
/-- by the first, then by the second -/
def pLe (x y : Int × Int) : Prop := x.1 < y.1 ∨ (x.1 = y.1 ∧ x.2 ≤ y.2)
theorem pLe_anti {x y : Int × Int} (h : pLe x y) (k : pLe y x) : x = y := by
  obtain ⟨a, b⟩ := x
  obtain ⟨c, d⟩ := y
  unfold pLe at h k
  simp only at h k
  have e1 : a = c := by omega
  have e2 : b = d := by omega
  rw [e1, e2]
theorem sorted_eq {zs ws rs : List (Int × Int)} (h1 : zs.Pairwise pLe) (h2 : ws.Pairwise pLe) (p1 : zs.Perm rs) (p2 : ws.Perm rs) : zs = ws :=
  (p1.trans p2.symm).eq_of_pairwise (fun _ _ _ _ a b => pLe_anti a b) h1 h2
theorem ltP_le {k : V → Int × Int} {x y : V} (h : ltP k y x = false) : pLe (k x) (k y) := by
  have z := SrtO.lexB_no.mp h
  unfold pLe
  omega
/-- sorted(..) of pairs -/
theorem rd_sorted {K : PySem.W.Frag} {H : Hp} {Q : VK} {a : Addr} {vs : List V} {rs : List (Int × Int)} (ha : SqL K H a vs) (hr : PairsAt H vs rs)
    (q : ∀ l us zs, H l = none → PairsAt H us zs → zs.Pairwise pLe → zs.Perm rs → us.length = vs.length → Q (.ref l) (upd H l (.lst us))) : rSortedPO K [.ref a] H Q := by
  obtain ⟨h1, h2⟩ := hr.all
  refine ⟨a, vs, pairIn H, rfl, ha, fun x hx => ?_, fun ys p srt stb np => ?_⟩
  · obtain ⟨t, e, h⟩ := h2 x hx
    exact ⟨t, e, h⟩
  · have pm := stb.perm
    refine q p ys (ys.map (pairIn H)) np (PairsAt.of fun v hv => h2 v (pm.mem_iff.mp hv)) ?_ ?_ pm.length_eq
    · rw [List.pairwise_map]
      exact List.Pairwise.imp (fun h => ltP_le h) srt
    · rw [h1]; exact pm.map _
end Mus
namespace Mus
open PySem L2
theorem DI2.get0 {kvs : List (Key × V)} (h : DI2 kvs) (k : Key) : (valV kvs k).getD (.int 0) = .int (iv kvs k) := by
  rcases h.val_or k with ⟨e1, e2⟩ | ⟨e1, _⟩
  · rw [e1, e2]; rfl
  · rw [e1]; rfl
end Mus
namespace Mus
open PySem L2
/-- tuples of pairs stay where new things come and where one list or dict changes -/
theorem PairsAt.same {H H' : Hp} (s : Same H H') {vs : List V} {qs : List (Int × Int)} (h : PairsAt H vs qs) : PairsAt H' vs qs := h.mono fun _ _ e => s _ _ e
theorem PairsAt.upd {H : Hp} {D : Addr} {o u : HO} (hD : H D = some u) (hu : ∀ xs, u ≠ .tup xs) {vs : List V} {qs : List (Int × Int)} (h : PairsAt H vs qs) : PairsAt (L2.upd H D o) vs qs :=
  h.mono fun t xs e => by rw [upd_ne (fun z => by subst z; rw [hD] at e; exact hu xs (Option.some.inj e))]; exact e
theorem DI2.nd' {kvs : List (Key × V)} (h : DI2 kvs) {j : Nat} {k : Key} {v : V} (e : kvs[j]? = some (k, v)) : ∃ i, k = Sum.inl i ∧ v = .int (iv kvs k) := by
  have m := List.mem_of_getElem? e
  obtain ⟨i, l, e2⟩ := h.int2 _ m
  cases e2
  have := valV_nd h.nd m
  refine ⟨i, rfl, ?_⟩
  unfold iv
  rw [this]
end Mus
namespace Mus
open PySem L2
theorem lay_pairs : ∀ zs : List (Int × Int), PyData.canLayAll0 (zs.map pairD) = true
  | [] => by simp [PyData.canLayAll0]
  | z :: zs => by simp [PyData.canLayAll0, pairD, PyData.canLay0, lay_pairs zs]
theorem dep_pairs : ∀ zs : List (Int × Int), PyData.depthAll (zs.map pairD) ≤ 2
  | [] => by simp [PyData.depthAll]
  | z :: zs => by
    have := dep_pairs zs
    simp [PyData.depthAll, pairD, PyData.depth]
    omega
theorem shaped_pairs (zs : List (Int × Int)) : SeqAt.shaped (.tuple (zs.map pairD)) = true := by
  unfold SeqAt.shaped
  rw [Bool.and_eq_true, decide_eq_true_eq]
  refine ⟨by simp [PyData.canLay0, lay_pairs], ?_⟩
  have := dep_pairs zs
  simp [PyData.depth]
  omega
theorem eqv_pairs (zs : List (Int × Int)) : PyData.eqv (.tuple (zs.map pairD)) (.tuple (zs.map pairD)) = true := SeqAt.eqv_refl _ (by simp [PyData.canLay0, lay_pairs])
end Mus

set_option maxRecDepth 100000
set_option maxHeartbeats 4000000
/-! Displays of data, with no bag: p is any place that is taken. -/
namespace Mus
open PySem L2
def Occ (p : Addr) (H : Hp) : Prop := ∃ o, H p = some o
theorem Occ.same {p : Addr} {H H' : Hp} (g : Occ p H) (s : Same H H') : Occ p H' := by
  obtain ⟨o, h⟩ := g
  exact ⟨o, s _ _ h⟩
theorem Occ.ne {p D : Addr} {H : Hp} (g : Occ p H) (h : H D = none) : p ≠ D := by
  obtain ⟨o, hp⟩ := g
  exact ne_of_none hp h
def ZE (p : Addr) (te : TE) (σ : St) (d : PyData) : Prop := ∀ (H : Hp) (Q : VK), Occ p H → (∀ v H', Same H H' → Rp p H' v d → Q v H') → te σ H Q
def ZEs (p : Addr) (ta : TA) (σ : St) (ds : List PyData) : Prop := ∀ (H : Hp) (Q : List V → Hp → Prop), Occ p H → (∀ vs H', Same H H' → Rps p H' vs ds → Q vs H') → ta σ H Q
section
variable {p : Addr} {σ : St} {te ta1 tb1 : TE} {ta : TA} {i j : Int} {d : PyData} {ds : List PyData}
theorem ze_i (h : DI te σ i) : ZE p te σ (.int i) := fun H Q g q => h H Q (q _ H (Same.rfl' H) (.int i))
theorem ze_bl {b : Bool} : ZE p (tC (.bl b)) σ (.bool b) := fun H Q g q => q _ H (Same.rfl' H) (.bl b)
theorem ze_str {z : Str} : ZE p (tC (.str z)) σ (.str z) := fun H Q g q => q _ H (Same.rfl' H) (.str z)
theorem ze_non : ZE p (tC .non) σ .none := fun H Q g q => q _ H (Same.rfl' H) .non
theorem zes_nil : ZEs p tNil σ [] := fun H Q g q => q [] H (Same.rfl' H) .nil
theorem zes_cons (h1 : ZE p te σ d) (h2 : ZEs p ta σ ds) : ZEs p (tCons te ta) σ (d :: ds) := fun H Q g q =>
  h1 H _ g fun v H1 s1 r1 => h2 H1 _ (g.same s1) fun vs H2 s2 r2 => q _ H2 (s1.trans s2) (.cons (r1.same s2) r2)
theorem ze_tup (h : ZEs p ta σ ds) (hl : ds.length ≤ 1000) : ZE p (tTup ta) σ (.tuple ds) := fun H Q g q =>
  h H _ g fun vs H1 s1 r1 => ⟨by have := r1.length; have := sl; omega, fun a na => q _ _ (s1.trans (same_new na _)) (.tup upd_same ((g.same s1).ne na).symm (by have := r1.length; omega) (r1.same (same_new na _)))⟩
theorem ze_lst (h : ZEs p ta σ ds) (hl : ds.length ≤ 1000) : ZE p (tLst ta) σ (.list ds) := fun H Q g q =>
  h H _ g fun vs H1 s1 r1 => ⟨by have := r1.length; have := sl; omega, fun a na => q _ _ (s1.trans (same_new na _)) (.lst upd_same ((g.same s1).ne na).symm (r1.same (same_new na _)))⟩
theorem ze_cat {es : List PyData} (h1 : ZE p ta1 σ (.list ds)) (h2 : ZE p tb1 σ (.list es)) (hl : ds.length + es.length ≤ 1000) : ZE p (tOp rCat ta1 tb1) σ (.list (ds ++ es)) := fun H Q g q =>
  h1 H _ g fun v H1 s1 r1 => h2 H1 _ (g.same s1) fun u H2 s2 r2 => by
    obtain _ | _ | _ | _ | @⟨a, xs, _, ha, na, hr⟩ | _ := r1.same s2
    obtain _ | _ | _ | _ | @⟨b, ys, _, hb, nb, hr2⟩ | _ := r2
    refine ⟨a, b, xs, ys, rfl, rfl, ha, hb, ?_, fun t nt => q _ _ (s1.trans (s2.trans (same_new nt _))) (.lst upd_same (((g.same s1).same s2).ne nt).symm ((hr.append hr2).same (same_new nt _)))⟩
    have := hr.length; have := hr2.length; have := sl; omega
theorem ze_varD {n : Nat} {v : V} (h : σ[n]? = some (some v)) (hd : ∀ H, Rp p H v d) : ZE p (tVar n) σ d := fun H Q g q => ⟨_, h, q _ H (Same.rfl' H) (hd H)⟩
/-- a list of the data D at some place -/
theorem ze_list {H : Hp} {Q : VK} (h : ZE p te σ (.list ds)) (g : Occ p H) (q : ∀ a xs H', Same H H' → H' a = some (.lst xs) → a ≠ p → Rps p H' xs ds → Q (.ref a) H') : te σ H Q :=
  h H Q g fun v H' s r => by
    obtain _ | _ | _ | _ | @⟨a, xs, _, ha, na, hr⟩ | _ := r
    exact q a xs H' s ha na hr
end
end Mus

set_option maxRecDepth 100000
set_option maxHeartbeats 4000000
/-! Displays of data without lists; what stood in G still stands. -/
namespace Mus
open PySem L2
def TZ (G : Hp) (te : TE) (σ : St) (d : PyData) : Prop := ∀ (H : Hp) (Q : VK), Same G H → (∀ v H', Same H H' → TD H' v d → Q v H') → te σ H Q
def TZs (G : Hp) (ta : TA) (σ : St) (ds : List PyData) : Prop := ∀ (H : Hp) (Q : List V → Hp → Prop), Same G H → (∀ vs H', Same H H' → TDs H' vs ds → Q vs H') → ta σ H Q
section
variable {G : Hp} {σ : St} {te : TE} {ta : TA} {i : Int} {d : PyData} {ds : List PyData}
theorem tz_i (h : DI te σ i) : TZ G te σ (.int i) := fun H Q g q => h H Q (q _ H (Same.rfl' H) (.int i))
theorem tz_bl {b : Bool} : TZ G (tC (.bl b)) σ (.bool b) := fun H Q g q => q _ H (Same.rfl' H) (.bl b)
theorem tz_str {z : Str} : TZ G (tC (.str z)) σ (.str z) := fun H Q g q => q _ H (Same.rfl' H) (.str z)
theorem tzs_nil : TZs G tNil σ [] := fun H Q g q => q [] H (Same.rfl' H) .nil
theorem tzs_cons (h1 : TZ G te σ d) (h2 : TZs G ta σ ds) : TZs G (tCons te ta) σ (d :: ds) := fun H Q g q =>
  h1 H _ g fun v H1 s1 r1 => h2 H1 _ (g.trans s1) fun vs H2 s2 r2 => q _ H2 (s1.trans s2) (.cons (r1.same s2) r2)
theorem tz_tup (h : TZs G ta σ ds) (hl : ds.length ≤ 1000) : TZ G (tTup ta) σ (.tuple ds) := fun H Q g q =>
  h H _ g fun vs H1 s1 r1 => ⟨by have := r1.length; have := sl; omega, fun a na => q _ _ (s1.trans (same_new na _)) (.tup upd_same (by have := r1.length; omega) (r1.same (same_new na _)))⟩
theorem tz_var {n : Nat} {v : V} (h : σ[n]? = some (some v)) (hd : TD G v d) : TZ G (tVar n) σ d := fun H Q g q => ⟨_, h, q _ H (Same.rfl' H) (hd.same g)⟩
theorem tz_lst {H : Hp} {Q : VK} (h : TZs H ta σ ds) (hl : ds.length ≤ 1000) (q : ∀ a xs H', Same H H' → H a = none → H' a = some (.lst xs) → TDs H' xs ds → Q (.ref a) H') : tLst ta σ H Q :=
  h H _ (Same.rfl' H) fun vs H1 s1 r1 => ⟨by have := r1.length; have := sl; omega, fun a na => q a vs _ (s1.trans (same_new na _)) ((Fr.of (fp := []) s1).s _ na) upd_same (r1.same (same_new na _))⟩
end
end Mus

namespace Mus
open PySem L2
/-! what is walked may be a list or a tuple -/
theorem pi_or {X : Cx} {tg e : Expr} {i1 i2 : TI} (h1 : PI X tg e i1) (h2 : PI X tg e i2) : PI X tg e (fun σ H R => i1 σ H R ∨ i2 σ H R) :=
  ⟨fun pins s σ H R I h => h.elim (h1.run pins s σ H R I) (h2.run pins s σ H R I)⟩
theorem for_seq {K : PySem.W.Frag} {b : Addr} {vs : List V} {k : Nat} {g : TG} {tb : TS} {D : Ends} {σ : St} {H : Hp} (Pv : Nat → St → Hp → Prop) (hv : σ[k]? = some (some (.ref b))) (hb : H b = some (.lst vs) ∨ H b = some (.tup vs))
    (h0 : Pv 0 σ H) (hk : ∀ i σ' H', Pv i σ' H' → ∀ o, H b = some o → H' b = some o)
    (hs : ∀ i x σ H, vs[i]? = some x → Pv i σ H → g x σ H fun σ2 H2 => tb { D with nx := Pv (i + 1), ct := Pv (i + 1), bk := D.nx } σ2 H2) (hd : ∀ σ H, Pv vs.length σ H → D.nx σ H) :
    tFor (fun σ H R => iList K (tVar k) σ H R ∨ iTup K (tVar k) σ H R) g tb D σ H := by
  rcases hb with hb | hb
  · exact .inl ⟨_, hv, b, rfl, ⟨_, SqL.of hb⟩, for_list Pv h0 (fun i σ' H' _ p => SqL.of (hk i σ' H' p _ hb)) hs hd⟩
  · exact .inr ⟨_, hv, b, rfl, ⟨_, SqT.of hb⟩, for_tup Pv h0 (fun i σ' H' _ p => SqT.of (hk i σ' H' p _ hb)) hs hd⟩
end Mus

set_option maxRecDepth 100000
set_option maxHeartbeats 4000000
namespace Mus
open PySem L2
local macro_rules | `(tactic| walk_at "rd") => `(tactic| first
  | refine ⟨_, rfl, ?_⟩ | refine ⟨(True.intro : True), ?_⟩
  | refine ⟨_, _, rfl, rfl, (⟨by decide, by decide, by decide⟩ : CPow _ _), ?_⟩
  | refine ⟨_, _, rfl, rfl, (⟨by decide, by decide⟩ : CDiv _ _), ?_⟩
  | refine ⟨_, _, rfl, rfl, (by show (0 : Int) < _; decide), ?_⟩
  | refine ⟨_, _, rfl, rfl, ?_⟩ | refine ⟨rfl, ?_⟩ | refine iteT ?_ | refine iteF ?_ | refine ⟨_, _, rfl, ?_⟩ | refine .inl ⟨_, rfl, ?_⟩
  | refine ⟨_, _, _, _, _, rfl, (by assumption), (by assumption), (by assumption), rfl, ?_⟩ | refine ⟨_, _, _, _, rfl, rfl, SqT.of (by assumption), rfl, ?_⟩ | refine ⟨_, _, rfl, SqT.of (by assumption), rfl, ?_⟩
  | refine ⟨_, _, _, _, _, rfl, .ty _, Rp.ty (by assumption), kit_int _, ?_⟩ | refine ⟨_, _, _, _, _, rfl, .ty _, Rp.ty (by assumption), kit_bool _, ?_⟩
  | refine ⟨_, _, _, _, _, rfl, .ty _, Rp.ty (by assumption), kit_str _, ?_⟩ | refine ⟨_, _, _, _, _, rfl, .ty _, Rp.ty (by assumption), kit_tup _, ?_⟩)
local macro_rules | `(tactic| walk_at "cal") => `(tactic| first
  | refine ⟨_, _, _, _, _, rfl, (by assumption), ?_⟩ | refine ⟨_, _, _, _, _, rfl, (by assumption), (by assumption), ?_⟩)
local macro_rules | `(tactic| walk_at "sq") => `(tactic| first
  | refine ⟨_, _, rfl, Or.inr (SqT.of (by assumption)), ?_⟩ | refine ⟨_, _, _, _, rfl, rfl, SqT.of (by assumption), rfl, ?_⟩)
local macro_rules | `(tactic| walk_at "rds") => `(tactic| repeat first | walk_at "rd" | walk_at "cal" | walk_at "sq")
local macro_rules | `(tactic| walk_at "ze") => `(tactic| repeat first
  | exact zes_nil | exact ze_bl | exact ze_str | exact ze_non | apply zes_cons | apply ze_tup | apply ze_lst | apply ze_cat | exact di_c | exact di_v rfl | apply di_opC | apply di_op | apply di_neg | apply ze_i | (refine (⟨?_, ?_, ?_⟩ : CPow _ _) <;> decide) | exact Nat.le_of_ble_eq_true rfl | exact ze_varD rfl (by assumption))
local macro_rules | `(tactic| walk_at "rdz") => `(tactic| repeat (fail_if_success (first | show tLst _ _ _ _ | show tAsg (tLst _) _ _ _ _ | show tSeq (tAsg (tLst _) _) _ _ _ _)); first | walk_at "rd" | walk_at "cal" | walk_at "sq")
structure Tw (K : PySem.W.Frag) (mg : Str → Option Value) (C : Addr) : Prop where
  b_len : mg "len" = none
  b_isinstance : mg "isinstance" = none
  b_int : mg "int" = none
  b_bool : mg "bool" = none
  b_tuple : mg "tuple" = none
  b_list : mg "list" = none
  b_range : mg "range" = none
  b_min : mg "min" = none
  b_max : mg "max" = none
  b_sorted : mg "sorted" = none
  c_SILENCE : ∃ t, mg "SILENCE" = some (.int 4 t)
  g_Watch : mg "Watch" = some (.ref C)
  cl_Watch : Cls K C
  n_Watch__me : NoAttr K C "_me"
  n_Watch__lives : NoAttr K C "_lives"
  n_Watch__ages : NoAttr K C "_ages"
def wf (me dl da : Addr) : List (Str × V) := [("_me", .ref me), ("_lives", .ref dl), ("_ages", .ref da)]
structure WAt (C : Addr) (H : Hp) (p me dl da : Addr) (m0 m1 : Int) (lv ag : List (Key × V)) : Prop where
  ob : ∃ dx, H p = some (.ins C dx (wf me dl da))
  hm : H me = some (.tup [.int m0, .int m1])
  hl : H dl = some (.dK lv)
  ha : H da = some (.dK ag)
  ne : dl ≠ da
theorem WAt.same {C : Addr} {H H' : Hp} {p me dl da : Addr} {m0 m1 : Int} {lv ag : List (Key × V)} (w : WAt C H p me dl da m0 m1 lv ag) (s : Same H H') : WAt C H' p me dl da m0 m1 lv ag := by
  obtain ⟨⟨dx, h⟩, h2, h3, h4, n⟩ := w
  exact ⟨⟨dx, s _ _ h⟩, s _ _ h2, s _ _ h3, s _ _ h4, n⟩
/-- the two dicts: the same keys in the same order -/
structure St16 (lv ag : List (Key × V)) : Prop where
  dl : DI2 lv
  da : DI2 ag
  ks : lv.map (·.1) = ag.map (·.1)
  le : lv.length ≤ 1000
theorem St16.le2 {lv ag : List (Key × V)} (s : St16 lv ag) : ag.length ≤ 1000 := by
  have := congrArg List.length s.ks
  rw [List.length_map, List.length_map] at this
  have := s.le
  omega
def sp_winit (C : Addr) : Sp := fun vs H Q _ => ∃ (p dx me : Addr) (m0 m1 : Int), vs = [.ref p, .ref me] ∧ H p = some (.ins C dx []) ∧ H me = some (.tup [.int m0, .int m1]) ∧
  ∀ dl da H', H dl = none → H da = none → WAt C H' p me dl da m0 m1 [] [] → (∀ b o, H b = some o → b ≠ p → H' b = some o) → Q .non H'
def sp_wknows (C : Addr) : Sp := fun vs H Q _ => ∃ (p t me dl da : Addr) (m0 m1 i l : Int) (lv ag : List (Key × V)), vs = [.ref p, .ref t] ∧ WAt C H p me dl da m0 m1 lv ag ∧ DI2 lv ∧ H t = some (.tup [.int i, .int l]) ∧ Q (.bl (decide (l < iv lv (Sum.inl i)))) H
def hearL (m0 i l : Int) (lv : List (Key × V)) : List (Key × V) := if i = m0 ∨ l < iv lv (Sum.inl i) then lv else putK lv (Sum.inl i) (.int l)
def hearA (m0 i l : Int) (lv ag : List (Key × V)) : List (Key × V) := if i = m0 ∨ l < iv lv (Sum.inl i) then ag else putK ag (Sum.inl i) (.int 0)
def sp_wheard (C : Addr) : Sp := fun vs H Q _ => ∃ (p t me dl da : Addr) (m0 m1 i l : Int) (lv ag : List (Key × V)), vs = [.ref p, .ref t] ∧ WAt C H p me dl da m0 m1 lv ag ∧ St16 lv ag ∧ H t = some (.tup [.int i, .int l]) ∧
  ∀ H', WAt C H' p me dl da m0 m1 (hearL m0 i l lv) (hearA m0 i l lv ag) → (∀ b o, H b = some o → b ≠ dl → b ≠ da → H' b = some o) → Q .non H'
def sp_wtick (C : Addr) : Sp := fun vs H Q _ => ∃ (p me dl da : Addr) (m0 m1 : Int) (lv ag : List (Key × V)), vs = [.ref p] ∧ WAt C H p me dl da m0 m1 lv ag ∧ DI2 ag ∧ ag.length ≤ 1000 ∧
  ∀ H', WAt C H' p me dl da m0 m1 lv (bump ag (ag.map (·.1))) → (∀ b o, H b = some o → b ≠ da → H' b = some o) → Q .non H'
/-- the reach: a new tuple of the pairs in order -/
def sp_wreach (C : Addr) : Sp := fun vs H Q _ => ∃ (p me dl da : Addr) (m0 m1 : Int) (lv ag : List (Key × V)), vs = [.ref p] ∧ WAt C H p me dl da m0 m1 lv ag ∧ St16 lv ag ∧
  ∀ a H' us zs, Same H H' → H' a = some (.tup us) → PairsAt H' us zs → zs.Pairwise pLe → zs.Perm ((m0, m1) :: rowsOf lv ag (ag.map (·.1))) → zs.length ≤ 1001 → Q (.ref a) H'
section
variable {P : Program} {w : World} {K : PySem.W.Frag} {mg : Str → Option Value} {base : Heap} {C : Addr}
abbrev s_Watch___init__ : Stmt := inClass (top 54) 0
abbrev N_Watch___init__ : List Str := ["self", "me"]
abbrev P_Watch___init__ : List Str := ["self", "me"]
theorem sc_Watch___init__ : FnScope N_Watch___init__ P_Watch___init__ (defScope s_Watch___init__) := ⟨rfl, rfl, rfl, by decide +kernel, rfl, by decide +kernel, by decide +kernel⟩
theorem ok_winit {f : Addr} {fd : FuncData} (T : Tw K mg C) (F : Fun K "__init__" "Watch.__init__" s_Watch___init__ f fd) : FnOk P w K mg base CX0 1 f fd P_Watch___init__ (sp_winit C) := by
  have nd := sc_Watch___init__.nd
  refine F.ok sc_Watch___init__ (fun vs H Q E h => ?_) (fun cdv A outer s H vs Q E hr h => ?_)
  · obtain ⟨_, _, _, _, _, rfl, _⟩ := h
    rfl
  · obtain ⟨p, dx, me, m0, m1, rfl, hp, hm, q⟩ := h
    refine ⟨_, (pss_cons (ps_fld (pv 0) (pv 1) rfl)
      (pss_cons (ps_fld (pv 0) pe_dnewK rfl)
      (pss_one (ps_fld (pv 0) pe_dnewK rfl)))), ?_⟩
    refine ⟨_, rfl, _, rfl, p, C, dx, [], rfl, hp, T.cl_Watch, T.n_Watch__me, (by decide), fun dl nl => ?_⟩
    have p1 : p ≠ dl := ne_of_none upd_same nl
    refine ⟨_, rfl, p, C, dx, _, rfl, (by rw [upd_ne p1]; exact upd_same), T.cl_Watch, T.n_Watch__lives, (by show 1 < 1000; decide), fun da na => ?_⟩
    have p2 : p ≠ da := ne_of_none upd_same na
    refine ⟨_, rfl, p, C, dx, _, rfl, (by rw [upd_ne p2]; exact upd_same), T.cl_Watch, T.n_Watch__ages, (by show 2 < 1000; decide), ?_⟩
    have pm : p ≠ me := ne_of hp hm (by intro z; cases z)
    have ml : me ≠ dl := ne_of_none (by rw [upd_ne pm.symm]; exact hm) nl
    have da_l : dl ≠ da := ne_of_none (o := .dK []) (by rw [upd_ne p1.symm]; exact upd_same) na
    have ma : me ≠ da := ne_of_none (o := .tup [.int m0, .int m1]) (by rw [upd_ne pm.symm, upd_ne ml, upd_ne pm.symm]; exact hm) na
    refine q dl da _ ?_ ?_ ⟨⟨dx, upd_same⟩, ?_, ?_, ?_, da_l⟩ fun b o hb nb => ?_
    · rw [upd_ne p1.symm] at nl; exact nl
    · rw [upd_ne p2.symm, upd_ne da_l.symm, upd_ne p2.symm] at na; exact na
    · rw [upd_ne pm.symm, upd_ne ma, upd_ne pm.symm, upd_ne ml, upd_ne pm.symm]; exact hm
    · rw [upd_ne p1.symm, upd_ne da_l, upd_ne p1.symm]; exact upd_same
    · rw [upd_ne p2.symm]; exact upd_same
    · have hb0 : b ≠ dl := ne_of_none (o := o) (by rw [upd_ne nb]; exact hb) nl
      have hb1 : b ≠ da := ne_of_none (o := o) (by rw [upd_ne nb, upd_ne hb0, upd_ne nb]; exact hb) na
      rw [upd_ne nb, upd_ne hb1, upd_ne nb, upd_ne hb0, upd_ne nb]; exact hb
end
/-- all but what is at p stands as it stood; what is free was free -/
structure Gr (p : Addr) (H H' : Hp) : Prop where
  k : ∀ b o, H b = some o → b ≠ p → H' b = some o
  s : ∀ b, H' b = none → H b = none
theorem Gr.refl (p : Addr) (H : Hp) : Gr p H H := ⟨fun _ _ h _ => h, fun _ h => h⟩
theorem Gr.trans {p : Addr} {H H1 H2 : Hp} (a : Gr p H H1) (b : Gr p H1 H2) : Gr p H H2 := ⟨fun c o h n => b.k c o (a.k c o h n) n, fun c h => a.s c (b.s c h)⟩
theorem Gr.put {p : Addr} {H : Hp} {o : HO} : Gr p H (upd H p o) := ⟨fun b u h n => by rw [upd_ne n]; exact h, fun b h => by
  by_cases e : b = p
  · rw [e, upd_same] at h; cases h
  · rwa [upd_ne e] at h⟩
theorem Gr.new {p q : Addr} {H : Hp} {o : HO} (hq : H q = none) : Gr p H (upd H q o) := ⟨fun b u h n => by rw [upd_ne (ne_of_none h hq)]; exact h, fun b h => by
  by_cases e : b = q
  · rw [e, upd_same] at h; cases h
  · rwa [upd_ne e] at h⟩
theorem Gr.of {p : Addr} {H H' : Hp} (s : Same H H') : Gr p H H' := ⟨fun b o h _ => s b o h, fun b h => by
  cases e : H b with
  | none => rfl
  | some o => rw [s b o e] at h; cases h⟩
theorem Gr.tup {p : Addr} {H H' : Hp} (g : Gr p H H') (hp : ∀ xs, H p ≠ some (.tup xs)) : TupK H H' := fun b xs e => g.k b _ e fun z => hp xs (z ▸ e)
theorem tn_ins {H : Hp} {p C dx : Addr} {fs : List (Str × V)} (h : H p = some (.ins C dx fs)) : ∀ xs, H p ≠ some (.tup xs) := fun xs e => by rw [h] at e; cases e
/-! ### the member -/
structure TM (K : PySem.W.Frag) (mg : Str → Option Value) (CM CB CP CO : Addr) : Prop where
  cl_Order : L2.Cls K CO
  b_tuple : mg "tuple" = none
  b_list : mg "list" = none
  g_Member : mg "Member" = some (.ref CM)
  cl_Member : L2.Cls K CM
  n_Member__me : NoAttr K CM "_me"
  n_Member__count : NoAttr K CM "_count"
  n_Member__watch : NoAttr K CM "_watch"
  n_Member__promised : NoAttr K CM "_promised"
  n_Member__greatest_number : NoAttr K CM "_greatest_number"
  n_Member__attempt : NoAttr K CM "_attempt"
  n_Member__waiting : NoAttr K CM "_waiting"
  n_Member__events : NoAttr K CM "_events"
  n_Member__view_id : NoAttr K CM "_view_id"
  n_Member__members : NoAttr K CM "_members"
  n_Member__order : NoAttr K CM "_order"
  n_Member__led_by : NoAttr K CM "_led_by"
  n_Member__seen : NoAttr K CM "_seen"
  n_Member__has_strayed : NoAttr K CM "_has_strayed"
  n_Member__frozen : NoAttr K CM "_frozen"
  g_BadMember : mg "BadMember" = some (.ref CB)
  x_BadMember : PySem.W.excIn K CB [.type "ValueError", .type "Exception", .type "BaseException", .type "object"] "ValueError.__new__" = true
  k_BadMember : PySem.W.keepIn K (.ref CB) = true
  b_BadMember : PySem.W.subIn K (.ref CB) (.type "BaseException") = some true
  t_BadMember : PySem.W.typeIn K (.ref CB) = some (.type "type")
  g_BadPayload : mg "BadPayload" = some (.ref CP)
  x_BadPayload : PySem.W.excIn K CP [.type "ValueError", .type "Exception", .type "BaseException", .type "object"] "ValueError.__new__" = true
  k_BadPayload : PySem.W.keepIn K (.ref CP) = true
  b_BadPayload : PySem.W.subIn K (.ref CP) (.type "BaseException") = some true
  t_BadPayload : PySem.W.typeIn K (.ref CP) = some (.type "type")
def mbF (vme vn : V) (wt : Addr) (vpr : V) (gr : Int) (att : V) (wa ev : Addr) (vvid vms : V) (od : Addr) (led : V) (sn : Addr) (stray fr : Bool) : List (Str × V) :=
  [("_me", vme), ("_count", vn), ("_watch", .ref wt), ("_promised", vpr), ("_greatest_number", .int gr), ("_attempt", att), ("_waiting", .ref wa), ("_events", .ref ev), ("_view_id", vvid), ("_members", vms), ("_order", .ref od), ("_led_by", led), ("_seen", .ref sn), ("_has_strayed", .bl stray), ("_frozen", .bl fr)]
def enF (vvid vms vled : V) (od sn : Addr) (fs : List (Str × V)) : List (Str × V) :=
  putF "_frozen" (.bl false) (putF "_has_strayed" (.bl false) (putF "_seen" (.ref sn) (putF "_led_by" vled (putF "_order" (.ref od) (putF "_members" vms (putF "_view_id" vvid fs))))))
def evView (vid : Vid) (ms : List Mem) : PyData := .tuple [.str "view", eV vid, eMs ms]
def evCast (vid : Vid) (i : Int) (z : Str) : PyData := .tuple [.str "cast", eV vid, .int i, .str z]
def evDel (vid : Vid) (g : Msg) : PyData := .tuple [.str "deliver", eV vid, eG g]
section
variable {P : Program} {w : World} {K : PySem.W.Frag} {mg : Str → Option Value} {base : Heap} {CM CB CP CO CV : Addr}
abbrev s_Member__enter : Stmt := inClass (top 56) 10
abbrev N_Member__enter : List Str := ["self", "view_id", "members", "led_by"]
abbrev P_Member__enter : List Str := ["self", "view_id", "members", "led_by"]
theorem sc_Member__enter : FnScope N_Member__enter P_Member__enter (defScope s_Member__enter) := ⟨rfl, rfl, rfl, by decide +kernel, rfl, by decide +kernel, by decide +kernel⟩
def sp_enter (w : World) (CM CO : Addr) : Sp := fun vs H Q _ => ∃ (p dx ev : Addr) (fs : List (Str × V)) (vme vvid vms vled : V) (me : Mem) (vid : Vid) (mems : List Mem) (evs : List PyData), vs = [.ref p, vvid, vms, vled] ∧ H p = some (.ins CM dx fs) ∧ fs.length ≤ 100 ∧ List.lookup ("_me" : Str) fs = some vme ∧ List.lookup ("_events" : Str) fs = some (V.ref ev) ∧ LstAt H ev evs ∧ evs.length ≤ 100000 ∧
  TD H vme (eM me) ∧ TD H vvid (eV vid) ∧ TD H vms (eMs mems) ∧ me ∈ mems ∧
  ∀ H' od a sn fd r, mems = fd :: r → H' p = some (.ins CM dx (enF vvid vms vled od sn fs)) → OAt w CO H' od a (OS.new me vid mems fd) → (∀ b ∈ a.fp od, H b = none) → LstAt H' ev (evs ++ [evView vid mems]) → Nd w H' sn [] → H sn = none → sn ∉ a.fp od →
    (∀ b o, H b = some o → b ≠ p → b ≠ ev → H' b = some o) → (∀ b, H' b = none → H b = none) → Q .non H'
theorem ok_enter {f : Addr} {fd : FuncData} (T : TM K mg CM CB CP CO) (k_Order : MkOkX P w K mg base CO "Order" P_Order___init__ 1 (sp_oini w CO CV)) (F : Fun K "_enter" "Member._enter" s_Member__enter f fd) : FnOk P w K mg base CX0 3 f fd P_Member__enter (sp_enter w CM CO) := by
  have nd := sc_Member__enter.nd
  refine F.ok sc_Member__enter (fun vs H Q E h => ?_) (fun cdv A outer s H vs Q E hr h => ?_)
  · obtain ⟨_, _, _, _, _, _, _, _, _, _, _, _, rfl, _⟩ := h
    rfl
  obtain ⟨p, dx, ev, fs, vme, vvid, vms, vled, me, vid, mems, evs, rfl, ob0, lfs, fme, fev, hev, lev, tme, tvid, tms, hmem, q⟩ := h
  · have hs := sl
    have c1 := T.cl_Member
    refine ⟨_, (pss_cons (ps_fld (pv 0) (pv 1) rfl)
      (pss_cons (ps_fld (pv 0) (pv 2) rfl)
      (pss_cons (ps_fld (pv 0) (pmakeN k_Order takes0 hr (pa_cons (pe_fld (pv 0) (by rfl)) (pa_cons (pv 1) (pa_cons (pv 2) pa_nil)))) rfl)
      (pss_cons (ps_fld (pv 0) (pv 3) rfl)
      (pss_cons (ps_fld (pv 0) pe_nnew rfl)
      (pss_cons (ps_fld (pv 0) pe_bl rfl)
      (pss_cons (ps_fld (pv 0) pe_bl rfl)
      (pss_one (ps_expr (pe_bm PySem.F.plainAttrs_list PySem.F.slot_list_append PySem.F.type_list_append mt_append (pe_fld (pv 0) (by rfl)) (pa_cons (pe_tup (pa_cons pe_str (pa_cons (pv 1) (pa_cons (pv 2) pa_nil)))) pa_nil))))))))))), ?_⟩
    refine ⟨_, rfl, _, rfl, p, CM, dx, _, rfl, ob0, c1, T.n_Member__view_id, by omega, ?_⟩
    have g1 : Gr p H (upd H p (.ins CM dx (putF "_view_id" vvid fs))) := Gr.put
    have ob1 : (upd H p (.ins CM dx (putF "_view_id" vvid fs))) p = some _ := upd_same
    generalize upd H p (.ins CM dx (putF "_view_id" vvid fs)) = X1 at *
    have l1 : (putF "_view_id" vvid fs).length ≤ 101 := Nat.le_trans (length_putF _ _ _) (by omega)
    refine ⟨_, rfl, _, rfl, p, CM, dx, _, rfl, ob1, c1, T.n_Member__members, by omega, ?_⟩
    have g2 : Gr p X1 (upd X1 p (.ins CM dx (putF "_members" vms (putF "_view_id" vvid fs)))) := Gr.put
    have ob2 : (upd X1 p (.ins CM dx (putF "_members" vms (putF "_view_id" vvid fs)))) p = some _ := upd_same
    generalize upd X1 p (.ins CM dx (putF "_members" vms (putF "_view_id" vvid fs))) = X2 at *
    have l2 : (putF "_members" vms (putF "_view_id" vvid fs)).length ≤ 102 := Nat.le_trans (length_putF _ _ _) (by omega)
    have fme2 : List.lookup ("_me" : Str) (putF "_members" vms (putF "_view_id" vvid fs)) = some vme := by rw [lookup_putF, if_neg (by decide), lookup_putF, if_neg (by decide)]; exact fme
    walk_at "rds"
    refine ⟨p, CM, dx, _, _, rfl, ob2, c1, T.n_Member__me, fme2, ?_⟩
    walk_at "rds"
    have g02 := g1.trans g2
    have tk2 : TupK H X2 := g02.tup (tn_ins ob0)
    intro x dy nx ndy nxy
    have s3 := same_new ndy (.own x)
    have nx2 : (upd X2 dy (.own x)) x = none := by rw [upd_ne nxy.symm]; exact nx
    have s4 := same_new nx2 (.ins CO dy [])
    have s34 := s3.trans s4
    refine ⟨x, dy, vme, vvid, vms, me, vid, mems, rfl, upd_same, (tme.mono tk2).same s34, (tvid.mono tk2).same s34, (tms.mono tk2).same s34, fun hn => absurd hmem hn, fun _ X3 a fd1 r e1 O3 F3 => ⟨rfl, ?_⟩⟩
    have xp : p ≠ x := ne_of_none ob2 nx
    have g23 : Same X2 X3 := fun b o h => F3.k b o (s34 b o h) (fun z => by rw [List.mem_singleton.mp z, nx] at h; cases h)
    have ob3 := g23 _ _ ob2
    have G3 := g02.trans (Gr.of (p := p) g23)
    have fr3 : ∀ b ∈ a.fp x, H b = none := fun b hb => by
      rcases F3.n b hb with z | z
      · rw [List.mem_singleton.mp z]; exact g02.s _ nx
      · exact g02.s _ ((Gr.of (p := p) s34).s _ z)
    clear F3 s34 s3 s4 nx2 g1 g2 ob1 ob2 fme2
    walk_at "rds"
    refine ⟨p, CM, dx, _, rfl, ob3, c1, T.n_Member__order, by omega, ?_⟩
    have g4 : Gr p X3 (upd X3 p (.ins CM dx (putF "_order" (.ref x) (putF "_members" vms (putF "_view_id" vvid fs))))) := Gr.put
    have ob4 : (upd X3 p (.ins CM dx (putF "_order" (.ref x) (putF "_members" vms (putF "_view_id" vvid fs))))) p = some _ := upd_same
    generalize upd X3 p (.ins CM dx (putF "_order" (.ref x) (putF "_members" vms (putF "_view_id" vvid fs)))) = X4 at *
    have L4 : (putF "_order" (.ref x) (putF "_members" vms (putF "_view_id" vvid fs))).length ≤ 103 := Nat.le_trans (length_putF _ _ _) (by omega)
    have O4 := O3.mono (fun b hb o h => g4.k b o h (fun z => by rw [← z] at ob0; have := fr3 b hb; rw [ob0] at this; cases this)) (g4.tup (tn_ins ob3))
    have G4 := G3.trans g4
    refine ⟨_, rfl, _, rfl, p, CM, dx, _, rfl, ob4, c1, T.n_Member__led_by, by omega, ?_⟩
    have g5 : Gr p X4 (upd X4 p (.ins CM dx (putF "_led_by" vled (putF "_order" (.ref x) (putF "_members" vms (putF "_view_id" vvid fs)))))) := Gr.put
    have ob5 : (upd X4 p (.ins CM dx (putF "_led_by" vled (putF "_order" (.ref x) (putF "_members" vms (putF "_view_id" vvid fs)))))) p = some _ := upd_same
    generalize upd X4 p (.ins CM dx (putF "_led_by" vled (putF "_order" (.ref x) (putF "_members" vms (putF "_view_id" vvid fs))))) = X5 at *
    have L5 : (putF "_led_by" vled (putF "_order" (.ref x) (putF "_members" vms (putF "_view_id" vvid fs)))).length ≤ 104 := Nat.le_trans (length_putF _ _ _) (by omega)
    have O5 := O4.mono (fun b hb o h => g5.k b o h (fun z => by rw [← z] at ob0; have := fr3 b hb; rw [ob0] at this; cases this)) (g5.tup (tn_ins ob4))
    have G5 := G4.trans g5
    intro sn nsn losn
    have hsn0 := G5.s _ nsn
    have spn : sn ≠ p := fun z => by rw [z, ob5] at nsn; cases nsn
    have snx := O5.fresh nsn
    generalize hh6 : upd X5 sn _ = X6
    have N6 : Nd w X6 sn [] := by subst hh6; exact nd_new losn
    have s6 : Same X5 X6 := by subst hh6; exact same_new nsn _
    clear hh6
    have ob6 := s6 _ _ ob5
    have O6 := O5.same s6
    have G6 := G5.trans (Gr.of (p := p) s6)
    refine ⟨_, rfl, p, CM, dx, _, rfl, ob6, c1, T.n_Member__seen, by omega, ?_⟩
    have g7 : Gr p X6 (upd X6 p (.ins CM dx (putF "_seen" (.ref sn) (putF "_led_by" vled (putF "_order" (.ref x) (putF "_members" vms (putF "_view_id" vvid fs))))))) := Gr.put
    have ob7 : (upd X6 p (.ins CM dx (putF "_seen" (.ref sn) (putF "_led_by" vled (putF "_order" (.ref x) (putF "_members" vms (putF "_view_id" vvid fs))))))) p = some _ := upd_same
    generalize upd X6 p (.ins CM dx (putF "_seen" (.ref sn) (putF "_led_by" vled (putF "_order" (.ref x) (putF "_members" vms (putF "_view_id" vvid fs)))))) = X7 at *
    have L7 : (putF "_seen" (.ref sn) (putF "_led_by" vled (putF "_order" (.ref x) (putF "_members" vms (putF "_view_id" vvid fs))))).length ≤ 106 := Nat.le_trans (length_putF _ _ _) (by omega)
    have O7 := O6.mono (fun b hb o h => g7.k b o h (fun z => by rw [← z] at ob0; have := fr3 b hb; rw [ob0] at this; cases this)) (g7.tup (tn_ins ob6))
    have G7 := G6.trans g7
    have N7 := N6.mono (g7.k _ _ N6.ob spn) (g7.tup (tn_ins ob6))
    refine ⟨_, rfl, p, CM, dx, _, rfl, ob7, c1, T.n_Member__has_strayed, by omega, ?_⟩
    have g8 : Gr p X7 (upd X7 p (.ins CM dx (putF "_has_strayed" (.bl false) (putF "_seen" (.ref sn) (putF "_led_by" vled (putF "_order" (.ref x) (putF "_members" vms (putF "_view_id" vvid fs)))))))) := Gr.put
    have ob8 : (upd X7 p (.ins CM dx (putF "_has_strayed" (.bl false) (putF "_seen" (.ref sn) (putF "_led_by" vled (putF "_order" (.ref x) (putF "_members" vms (putF "_view_id" vvid fs)))))))) p = some _ := upd_same
    generalize upd X7 p (.ins CM dx (putF "_has_strayed" (.bl false) (putF "_seen" (.ref sn) (putF "_led_by" vled (putF "_order" (.ref x) (putF "_members" vms (putF "_view_id" vvid fs))))))) = X8 at *
    have L8 : (putF "_has_strayed" (.bl false) (putF "_seen" (.ref sn) (putF "_led_by" vled (putF "_order" (.ref x) (putF "_members" vms (putF "_view_id" vvid fs)))))).length ≤ 107 := Nat.le_trans (length_putF _ _ _) (by omega)
    have O8 := O7.mono (fun b hb o h => g8.k b o h (fun z => by rw [← z] at ob0; have := fr3 b hb; rw [ob0] at this; cases this)) (g8.tup (tn_ins ob7))
    have G8 := G7.trans g8
    have N8 := N7.mono (g8.k _ _ N7.ob spn) (g8.tup (tn_ins ob7))
    refine ⟨_, rfl, p, CM, dx, _, rfl, ob8, c1, T.n_Member__frozen, by omega, ?_⟩
    have g9 : Gr p X8 (upd X8 p (.ins CM dx (putF "_frozen" (.bl false) (putF "_has_strayed" (.bl false) (putF "_seen" (.ref sn) (putF "_led_by" vled (putF "_order" (.ref x) (putF "_members" vms (putF "_view_id" vvid fs))))))))) := Gr.put
    have ob9 : (upd X8 p (.ins CM dx (putF "_frozen" (.bl false) (putF "_has_strayed" (.bl false) (putF "_seen" (.ref sn) (putF "_led_by" vled (putF "_order" (.ref x) (putF "_members" vms (putF "_view_id" vvid fs))))))))) p = some _ := upd_same
    generalize upd X8 p (.ins CM dx (putF "_frozen" (.bl false) (putF "_has_strayed" (.bl false) (putF "_seen" (.ref sn) (putF "_led_by" vled (putF "_order" (.ref x) (putF "_members" vms (putF "_view_id" vvid fs)))))))) = X9 at *
    have L9 : (putF "_frozen" (.bl false) (putF "_has_strayed" (.bl false) (putF "_seen" (.ref sn) (putF "_led_by" vled (putF "_order" (.ref x) (putF "_members" vms (putF "_view_id" vvid fs))))))).length ≤ 108 := Nat.le_trans (length_putF _ _ _) (by omega)
    have O9 := O8.mono (fun b hb o h => g9.k b o h (fun z => by rw [← z] at ob0; have := fr3 b hb; rw [ob0] at this; cases this)) (g9.tup (tn_ins ob8))
    have G9 := G8.trans g9
    have N9 := N8.mono (g9.k _ _ N8.ob spn) (g9.tup (tn_ins ob8))
    have fev9 : List.lookup ("_events" : Str) (putF "_frozen" (.bl false) (putF "_has_strayed" (.bl false) (putF "_seen" (.ref sn) (putF "_led_by" vled (putF "_order" (.ref x) (putF "_members" vms (putF "_view_id" vvid fs))))))) = some (.ref ev) := by
      rw [lookup_putF, if_neg (by decide), lookup_putF, if_neg (by decide), lookup_putF, if_neg (by decide), lookup_putF, if_neg (by decide), lookup_putF, if_neg (by decide), lookup_putF, if_neg (by decide), lookup_putF, if_neg (by decide)]; exact fev
    walk_at "rds"
    refine ⟨p, CM, dx, _, _, rfl, ob9, c1, T.n_Member__events, fev9, ?_⟩
    obtain ⟨vs, hv, tvs⟩ := hev
    have evp : ev ≠ p := ne_of hv ob0 (by intro z; cases z)
    have hev9 := G9.k _ _ hv evp
    refine ⟨.inl ⟨rfl, _, SqL.of hev9⟩, ?_⟩
    walk_at "rds"
    refine ⟨by show 3 ≤ sizeLine; omega, fun t nt => ?_⟩
    have s10 := same_new nt (.tup [V.str (Str.ofString "view"), vvid, vms])
    have ht : (upd X9 t (.tup [V.str (Str.ofString "view"), vvid, vms])) t = some _ := upd_same
    generalize upd X9 t (.tup [V.str (Str.ofString "view"), vvid, vms]) = X10 at *
    have G10 := G9.trans (Gr.of (p := p) s10)
    have hev10 := s10 _ _ hev9
    have ll := tvs.length
    refine ⟨ev, vs, _, rfl, rfl, hev10, by omega, ?_⟩
    have tk11 : TupK X10 (upd X10 ev (.lst (vs ++ [V.ref t]))) := tupK_upd fun xs e => by rw [hev10] at e; cases e
    have tk10 := G10.tup (tn_ins ob0)
    have nev : ∀ b, H b = none → b ≠ ev := fun b h z => by rw [z, hv] at h; cases h
    have k11 : ∀ b o, X10 b = some o → b ≠ ev → (upd X10 ev (.lst (vs ++ [V.ref t]))) b = some o := fun b o h n => by rw [upd_ne n]; exact h
    have ttv : TD X10 (.ref t) (evView vid mems) := .tup ht (by show 3 ≤ 100000; decide) (.cons (.str _) (.cons (tvid.mono tk10) (.cons (tms.mono tk10) .nil)))
    refine q _ x a sn fd1 r (by assumption) (k11 _ _ (s10 _ _ ob9) evp.symm) ((O9.same s10).mono (fun b hb o h => k11 b o h (nev b (fr3 b hb))) tk11) fr3 ⟨_, upd_same, ?_⟩ ((N9.mono (s10 _ _ N9.ob) (TupK.of s10)).mono (k11 _ _ (s10 _ _ N9.ob) (nev sn hsn0)) tk11) hsn0 snx (fun b o h n1 n2 => k11 b o (G10.k b o h n1) n2) (fun b h => ?_)
    · exact ((tvs.mono tk10).append (.cons ttv .nil)).mono tk11
    · by_cases e : b = ev
      · rw [e, upd_same] at h; cases h
      · rw [upd_ne e] at h; exact G10.s b h
end
end Mus

set_option maxRecDepth 100000
set_option maxHeartbeats 4000000
namespace Mus
open PySem L2 TL PySem.NumText
local macro_rules | `(tactic| walk_at "rd") => `(tactic| first
  | refine ⟨_, rfl, ?_⟩ | refine ⟨(True.intro : True), ?_⟩
  | refine ⟨_, _, rfl, rfl, (⟨by decide, by decide, by decide⟩ : CPow _ _), ?_⟩
  | refine ⟨_, _, rfl, rfl, (⟨by decide, by decide⟩ : CDiv _ _), ?_⟩
  | refine ⟨_, _, rfl, rfl, (by show (0 : Int) < _; decide), ?_⟩
  | refine ⟨_, _, rfl, rfl, ?_⟩ | refine ⟨rfl, ?_⟩ | refine iteT ?_ | refine iteF ?_ | refine ⟨_, _, rfl, ?_⟩ | refine .inl ⟨_, rfl, ?_⟩
  | refine ⟨_, _, _, _, _, rfl, (by assumption), (by assumption), (by assumption), rfl, ?_⟩ | refine ⟨_, _, _, _, rfl, rfl, SqT.of (by assumption), rfl, ?_⟩ | refine ⟨_, _, rfl, SqT.of (by assumption), rfl, ?_⟩
  | refine ⟨_, _, _, _, _, rfl, .ty _, Rp.ty (by assumption), kit_int _, ?_⟩ | refine ⟨_, _, _, _, _, rfl, .ty _, Rp.ty (by assumption), kit_bool _, ?_⟩
  | refine ⟨_, _, _, _, _, rfl, .ty _, Rp.ty (by assumption), kit_str _, ?_⟩ | refine ⟨_, _, _, _, _, rfl, .ty _, Rp.ty (by assumption), kit_tup _, ?_⟩)
local macro_rules | `(tactic| walk_at "cal") => `(tactic| first
  | refine ⟨_, _, _, _, _, rfl, (by assumption), ?_⟩ | refine ⟨_, _, _, _, _, rfl, (by assumption), (by assumption), ?_⟩)
local macro_rules | `(tactic| walk_at "sq") => `(tactic| first
  | refine ⟨_, _, rfl, Or.inr (SqT.of (by assumption)), ?_⟩ | refine ⟨_, _, _, _, rfl, rfl, SqT.of (by assumption), rfl, ?_⟩)
local macro_rules | `(tactic| walk_at "rds") => `(tactic| repeat first | walk_at "rd" | walk_at "cal" | walk_at "sq")
local macro_rules | `(tactic| walk_at "ze") => `(tactic| repeat first
  | exact zes_nil | exact ze_bl | exact ze_str | exact ze_non | apply zes_cons | apply ze_tup | apply ze_lst | apply ze_cat | exact di_c | exact di_v rfl | apply di_opC | apply di_op | apply di_neg | apply ze_i | (refine (⟨?_, ?_, ?_⟩ : CPow _ _) <;> decide) | exact Nat.le_of_ble_eq_true rfl | exact ze_varD rfl (by assumption))
local macro_rules | `(tactic| walk_at "rdz") => `(tactic| repeat (fail_if_success (first | show tLst _ _ _ _ | show tAsg (tLst _) _ _ _ _ | show tSeq (tAsg (tLst _) _) _ _ _ _)); first | walk_at "rd" | walk_at "cal" | walk_at "sq")
structure MbA where
  dx : Addr
  vme : V
  vn : V
  wt : Addr
  vpr : V
  gr : Int
  att : V
  wa : Addr
  ev : Addr
  vvid : V
  vms : V
  od : Addr
  led : V
  sn : Addr
  stray : Bool
  fr : Bool
  oa : OA
def MbA.fs (a : MbA) : List (Str × V) := mbF a.vme a.vn a.wt a.vpr a.gr a.att a.wa a.ev a.vvid a.vms a.od a.led a.sn a.stray a.fr
def MbA.fp (a : MbA) (p : Addr) : List Addr := p :: a.wa :: a.ev :: a.oa.fp a.od
structure MbAt (w : World) (CM CO : Addr) (H : Hp) (p : Addr) (a : MbA) (me : Mem) (cnt : Int) (s : OS) (evs : List PyData) (wt : List Str) : Prop where
  ob : H p = some (.ins CM a.dx a.fs)
  me : TD H a.vme (eM me)
  cnt : a.vn = .int cnt
  vid : TD H a.vvid (eV s.vid)
  ms : TD H a.vms (eMs s.mems)
  od : OAt w CO H a.od a.oa s
  wa : LstAt H a.wa (wt.map PyData.str)
  ev : LstAt H a.ev evs
  d1 : a.ev ≠ a.wa
  d2 : a.ev ∉ a.oa.fp a.od
  d3 : a.wa ∉ a.oa.fp a.od
  d4 : p ∉ a.oa.fp a.od
theorem MbAt.mono {w : World} {CM CO : Addr} {H H' : Hp} {p : Addr} {a : MbA} {me : Mem} {cnt : Int} {s : OS} {evs : List PyData} {wt : List Str} (h : MbAt w CM CO H p a me cnt s evs wt) (e : ∀ b ∈ a.fp p, ∀ o, H b = some o → H' b = some o) (t : TupK H H') : MbAt w CM CO H' p a me cnt s evs wt :=
  ⟨e p (by simp [MbA.fp]) _ h.ob, h.me.mono t, h.cnt, h.vid.mono t, h.ms.mono t, h.od.mono (fun b hb o x => e b (by simp [MbA.fp, hb]) o x) t, h.wa.mono (e _ (by simp [MbA.fp])) t, h.ev.mono (e _ (by simp [MbA.fp])) t, h.d1, h.d2, h.d3, h.d4⟩
theorem MbAt.same {w : World} {CM CO : Addr} {H H' : Hp} {p : Addr} {a : MbA} {me : Mem} {cnt : Int} {s : OS} {evs : List PyData} {wt : List Str} (h : MbAt w CM CO H p a me cnt s evs wt) (e : Same H H') : MbAt w CM CO H' p a me cnt s evs wt := h.mono (fun b _ o x => e b o x) (TupK.of e)
section
variable {P : Program} {w : World} {K : PySem.W.Frag} {mg : Str → Option Value} {base : Heap} {CM CB CP CO CV CW C CC CE : Addr}
abbrev s_Member___init__ : Stmt := inClass (top 56) 0
abbrev N_Member___init__ : List Str := ["self", "process", "count", "cells"]
abbrev P_Member___init__ : List Str := ["self", "process", "count", "cells"]
theorem sc_Member___init__ : FnScope N_Member___init__ P_Member___init__ (defScope s_Member___init__) := ⟨rfl, rfl, rfl, by decide +kernel, rfl, by decide +kernel, by decide +kernel⟩
def sp_mini (w : World) (CM CO CB C CC : Addr) : Sp := fun vs H Q E => ∃ (p dx q0 pc l : Addr) (vp vc : V) (dp dc : PyData) (ts : Str × Str) (pas : Option Int) (keep : Int), vs = [.ref p, vp, vc, .ref pc] ∧ H p = some (.ins CM dx []) ∧ Rp q0 H vp dp ∧ Rp q0 H vc dc ∧ CAt C H pc l ts false pas keep ∧ 0 ≤ keep ∧ ts.1.length ≤ 1000 ∧ ts.2.length ≤ 1000 ∧
  (isProc dc dp = false → E (.ref CB) none H) ∧
  (isProc dc dp = true → ∀ z : Str, tl z = lifeT (nextL ts) →
    (pas = some 0 → ∀ H', CAt C H' pc l (setT ts (cellL ts) (torn z (getT ts (cellL ts)) keep)) true (some 0) keep → Keeps pc l H H' → E (.ref CC) none H') ∧
    (pas ≠ some 0 → ∀ (i n : Int) H1 H' a, dp = .int i → dc = .int n → CAt C H1 pc l (setT ts (cellL ts) z) false (pas.map (· - 1)) keep → Keeps pc l H H1 → Gr p H1 H' → (∀ b ∈ a.fp p, b = p ∨ H1 b = none) →
      MbAt w CM CO H' p a (i, (nextL ts : Nat)) n (OS.new (i, (nextL ts : Nat)) (0, (i, (nextL ts : Nat))) [(i, (nextL ts : Nat))] (i, (nextL ts : Nat))) [evView (0, (i, (nextL ts : Nat))) [(i, (nextL ts : Nat))]] [] → a.fr = false → Q .non H'))
theorem ok_mini {f : Addr} {fd : FuncData} (T : TM K mg CM CB CP CO) (c_is_process : DefOk P w K mg base CX0 "is_process" P_is_process 2 (spB2 isProc)) (c_next_life : DefOk P w K mg base (L2.CX P w) "next_life" P_next_life 4 (sp_next C CC)) (k_Watch : MkOk P w K mg base CW "Watch" P_Watch___init__ 1 (sp_winit CW)) (m_Member__enter : MethOk P w K mg base CX0 CM "_enter" P_Member__enter 3 (sp_enter w CM CO))
    (F : Fun K "__init__" "Member.__init__" s_Member___init__ f fd) : FnOk P w K mg base (L2.CX P w) 5 f fd P_Member___init__ (sp_mini w CM CO CB C CC) := by
  have nd := sc_Member___init__.nd
  refine F.okX sc_Member___init__ (fun vs H Q E h => ?_) (fun cdv A outer s H vs Q E hr h => ?_)
  · obtain ⟨_, _, _, _, _, _, _, _, _, _, _, _, rfl, _⟩ := h
    rfl
  · obtain ⟨p, dx, q0, pc, l, vp, vc, dp, dc, ts, pas, keep, rfl, ob0, rvp, rvc, hc, k0, l1, l2, q1, q2⟩ := h
    have hs := sl
    have c1 := T.cl_Member
    refine ⟨_, (pss_cons (ps_if (pt_not (pt_val (pcall c_is_process hr (pa_cons (pv 2) (pa_cons (pv 1) pa_nil)))))
        (pss_one (ps_raise rfl (takes_of rfl rfl rfl rfl) (pmk_own0 PySem.F.excBase_ValueError T.x_BadMember T.g_BadMember T.k_BadMember (raises_own T.b_BadMember T.t_BadMember))))
        pss_nil)
      (pss_cons (ps_fld (pv 0) (pe_tup (pa_cons (pv 1) (pa_cons (pcallE c_next_life (takes_of rfl rfl rfl rfl) (fun _ _ _ _ h => h) hr (pa_cons (pv 3) pa_nil)) pa_nil))) rfl)
      (pss_cons (ps_fld (pv 0) (pv 2) rfl)
      (pss_cons (ps_fld (pv 0) (pmake k_Watch hr (pa_cons (pe_fld (pv 0) (by rfl)) pa_nil)) rfl)
      (pss_cons (ps_fld (pv 0) (pe_tup (pa_cons pe_int (pa_cons (pe_fld (pv 0) (by rfl)) pa_nil))) rfl)
      (pss_cons (ps_fld (pv 0) pe_int rfl)
      (pss_cons (ps_fld (pv 0) pe_non rfl)
      (pss_cons (ps_fld (pv 0) (pe_lst pa_nil) rfl)
      (pss_cons (ps_fld (pv 0) (pe_lst pa_nil) rfl)
      (pss_one (ps_expr (pmeth m_Member__enter T.cl_Member (pv 0) hr (pa_cons (pe_tup (pa_cons pe_int (pa_cons (pe_fld (pv 0) (by rfl)) pa_nil))) (pa_cons (pe_tup (pa_cons (pe_fld (pv 0) (by rfl)) pa_nil)) (pa_cons pe_non pa_nil))))))))))))))), ?_⟩
    walk_at "rds"
    refine iB (fun hp => ?_) (fun hp => ?_)
    · have hp : isProc dc dp = false := by simpa using hp
      walk_at "rds"
      exact q1 hp
    have hp : isProc dc dp = true := by simpa using hp
    have q2 := q2 hp
    obtain ⟨n, i, rfl, rfl⟩ : ∃ n i, dc = .int n ∧ dp = .int i := by
      unfold isProc at hp
      split at hp
      · rw [Bool.and_eq_true] at hp
        obtain ⟨_, hp⟩ := hp
        unfold isInt at hp
        split at hp
        · exact ⟨_, _, rfl, rfl⟩
        · cases hp
      · cases hp
    cases rvp
    cases rvc
    walk_at "rds"
    obtain ⟨⟨dxc, hoc⟩, hlc⟩ := id hc
    refine ⟨pc, l, ts, false, pas, keep, rfl, hc, k0, l1, l2, (fun h => by cases h), fun _ z hz => ⟨fun hpa H1 hc1 kk => (q2 z hz).1 hpa H1 hc1 kk, fun hpa H1 hc1 kk => ?_⟩⟩
    have q3 := fun H' a => (q2 z hz).2 hpa i n H1 H' a rfl rfl hc1 kk
    clear q1 q2
    have opc : p ≠ pc := ne_of ob0 hoc (by intro z; cases z)
    have opl : p ≠ l := ne_of ob0 hlc (by intro z; cases z)
    have obs := kk _ _ ob0 opc opl
    generalize ((nextL ts : Nat) : Int) = lf at *
    refine ⟨by show 2 ≤ sizeLine; omega, fun tm ntm => ?_⟩
    have g1 : Gr p H1 (upd H1 tm (.tup [V.int i, V.int lf])) := Gr.new ntm
    have htm : (upd H1 tm (.tup [V.int i, V.int lf])) tm = some (.tup [V.int i, V.int lf]) := upd_same
    have ptm : tm ≠ p := (ne_of_none obs ntm).symm
    have ob1 : (upd H1 tm (.tup [V.int i, V.int lf])) p = some (.ins CM dx []) := by rw [upd_ne ptm.symm]; exact obs
    have ztm := ntm
    generalize upd H1 tm (.tup [V.int i, V.int lf]) = Y1 at *
    refine ⟨_, rfl, p, CM, dx, _, rfl, ob1, c1, T.n_Member__me, (by show 0 < 1000; decide), ?_⟩
    have g2 : Gr p Y1 (upd Y1 p (.ins CM dx (putF "_me" (.ref tm) []))) := Gr.put
    have ob2 : (upd Y1 p (.ins CM dx (putF "_me" (.ref tm) []))) p = some (.ins CM dx [("_me", (.ref tm))]) := upd_same
    generalize upd Y1 p (.ins CM dx (putF "_me" (.ref tm) [])) = Y2 at *
    refine ⟨_, rfl, _, rfl, p, CM, dx, _, rfl, ob2, c1, T.n_Member__count, (by show 1 < 1000; decide), ?_⟩
    have g3 : Gr p Y2 (upd Y2 p (.ins CM dx (putF "_count" (.int n) [("_me", (.ref tm))]))) := Gr.put
    have ob3 : (upd Y2 p (.ins CM dx (putF "_count" (.int n) [("_me", (.ref tm))]))) p = some (.ins CM dx [("_me", (.ref tm)), ("_count", (.int n))]) := upd_same
    generalize upd Y2 p (.ins CM dx (putF "_count" (.int n) [("_me", (.ref tm))])) = Y3 at *
    walk_at "rds"
    refine ⟨p, CM, dx, _, _, rfl, ob3, c1, T.n_Member__me, rfl, ?_⟩
    walk_at "rds"
    intro x dy nx ndy nxy
    have sa := same_new ndy (.own x)
    have nx2 : (upd Y3 dy (.own x)) x = none := by rw [upd_ne nxy.symm]; exact nx
    have sb := same_new nx2 (.ins CW dy [])
    have sab := sa.trans sb
    refine ⟨x, dy, tm, i, lf, rfl, upd_same, sab _ _ ((g2.trans g3).k _ _ htm ptm), fun dl da Y4 ndl nda WA kk5 => ⟨rfl, ?_⟩⟩
    have s4 : Same Y3 Y4 := fun b o h => kk5 b o (sab b o h) (ne_of_none h nx)
    have g4 := Gr.of (p := p) s4
    have ob4 := s4 _ _ ob3
    clear kk5 sab sa sb nx2
    walk_at "rds"
    refine ⟨p, CM, dx, _, rfl, ob4, c1, T.n_Member__watch, (by show 2 < 1000; decide), ?_⟩
    have g5 : Gr p Y4 (upd Y4 p (.ins CM dx (putF "_watch" (.ref x) [("_me", (.ref tm)), ("_count", (.int n))]))) := Gr.put
    have ob5 : (upd Y4 p (.ins CM dx (putF "_watch" (.ref x) [("_me", (.ref tm)), ("_count", (.int n))]))) p = some (.ins CM dx [("_me", (.ref tm)), ("_count", (.int n)), ("_watch", (.ref x))]) := upd_same
    generalize upd Y4 p (.ins CM dx (putF "_watch" (.ref x) [("_me", (.ref tm)), ("_count", (.int n))])) = Y5 at *
    refine ⟨_, rfl, p, CM, dx, _, _, rfl, ob5, c1, T.n_Member__me, rfl, ?_⟩
    refine ⟨by show 2 ≤ sizeLine; omega, fun tp ntp => ?_⟩
    have g6 : Gr p Y5 (upd Y5 tp (.tup [V.int 0, V.ref tm])) := Gr.new ntp
    have htp : (upd Y5 tp (.tup [V.int 0, V.ref tm])) tp = some (.tup [V.int 0, V.ref tm]) := upd_same
    have ptp : tp ≠ p := (ne_of_none ob5 ntp).symm
    have ob6 : (upd Y5 tp (.tup [V.int 0, V.ref tm])) p = some (.ins CM dx [("_me", (.ref tm)), ("_count", (.int n)), ("_watch", (.ref x))]) := by rw [upd_ne ptp.symm]; exact ob5
    have ztp := ntp
    generalize upd Y5 tp (.tup [V.int 0, V.ref tm]) = Y6 at *
    refine ⟨_, rfl, p, CM, dx, _, rfl, ob6, c1, T.n_Member__promised, (by show 3 < 1000; decide), ?_⟩
    have g7 : Gr p Y6 (upd Y6 p (.ins CM dx (putF "_promised" (.ref tp) [("_me", (.ref tm)), ("_count", (.int n)), ("_watch", (.ref x))]))) := Gr.put
    have ob7 : (upd Y6 p (.ins CM dx (putF "_promised" (.ref tp) [("_me", (.ref tm)), ("_count", (.int n)), ("_watch", (.ref x))]))) p = some (.ins CM dx [("_me", (.ref tm)), ("_count", (.int n)), ("_watch", (.ref x)), ("_promised", (.ref tp))]) := upd_same
    generalize upd Y6 p (.ins CM dx (putF "_promised" (.ref tp) [("_me", (.ref tm)), ("_count", (.int n)), ("_watch", (.ref x))])) = Y7 at *
    refine ⟨_, rfl, p, CM, dx, _, rfl, ob7, c1, T.n_Member__greatest_number, (by show 4 < 1000; decide), ?_⟩
    have g8 : Gr p Y7 (upd Y7 p (.ins CM dx (putF "_greatest_number" (.int 0) [("_me", (.ref tm)), ("_count", (.int n)), ("_watch", (.ref x)), ("_promised", (.ref tp))]))) := Gr.put
    have ob8 : (upd Y7 p (.ins CM dx (putF "_greatest_number" (.int 0) [("_me", (.ref tm)), ("_count", (.int n)), ("_watch", (.ref x)), ("_promised", (.ref tp))]))) p = some (.ins CM dx [("_me", (.ref tm)), ("_count", (.int n)), ("_watch", (.ref x)), ("_promised", (.ref tp)), ("_greatest_number", (.int 0))]) := upd_same
    generalize upd Y7 p (.ins CM dx (putF "_greatest_number" (.int 0) [("_me", (.ref tm)), ("_count", (.int n)), ("_watch", (.ref x)), ("_promised", (.ref tp))])) = Y8 at *
    refine ⟨_, rfl, p, CM, dx, _, rfl, ob8, c1, T.n_Member__attempt, (by show 5 < 1000; decide), ?_⟩
    have g9 : Gr p Y8 (upd Y8 p (.ins CM dx (putF "_attempt" .non [("_me", (.ref tm)), ("_count", (.int n)), ("_watch", (.ref x)), ("_promised", (.ref tp)), ("_greatest_number", (.int 0))]))) := Gr.put
    have ob9 : (upd Y8 p (.ins CM dx (putF "_attempt" .non [("_me", (.ref tm)), ("_count", (.int n)), ("_watch", (.ref x)), ("_promised", (.ref tp)), ("_greatest_number", (.int 0))]))) p = some (.ins CM dx [("_me", (.ref tm)), ("_count", (.int n)), ("_watch", (.ref x)), ("_promised", (.ref tp)), ("_greatest_number", (.int 0)), ("_attempt", .non)]) := upd_same
    generalize upd Y8 p (.ins CM dx (putF "_attempt" .non [("_me", (.ref tm)), ("_count", (.int n)), ("_watch", (.ref x)), ("_promised", (.ref tp)), ("_greatest_number", (.int 0))])) = Y9 at *
    refine ⟨by show 0 ≤ sizeLine; omega, fun wa nwa => ?_⟩
    have g10 : Gr p Y9 (upd Y9 wa (.lst [])) := Gr.new nwa
    have hwa : (upd Y9 wa (.lst [])) wa = some (.lst []) := upd_same
    have pwa : wa ≠ p := (ne_of_none ob9 nwa).symm
    have ob10 : (upd Y9 wa (.lst [])) p = some (.ins CM dx [("_me", (.ref tm)), ("_count", (.int n)), ("_watch", (.ref x)), ("_promised", (.ref tp)), ("_greatest_number", (.int 0)), ("_attempt", .non)]) := by rw [upd_ne pwa.symm]; exact ob9
    have zwa := nwa
    generalize upd Y9 wa (.lst []) = Y10 at *
    refine ⟨_, rfl, p, CM, dx, _, rfl, ob10, c1, T.n_Member__waiting, (by show 6 < 1000; decide), ?_⟩
    have g11 : Gr p Y10 (upd Y10 p (.ins CM dx (putF "_waiting" (.ref wa) [("_me", (.ref tm)), ("_count", (.int n)), ("_watch", (.ref x)), ("_promised", (.ref tp)), ("_greatest_number", (.int 0)), ("_attempt", .non)]))) := Gr.put
    have ob11 : (upd Y10 p (.ins CM dx (putF "_waiting" (.ref wa) [("_me", (.ref tm)), ("_count", (.int n)), ("_watch", (.ref x)), ("_promised", (.ref tp)), ("_greatest_number", (.int 0)), ("_attempt", .non)]))) p = some (.ins CM dx [("_me", (.ref tm)), ("_count", (.int n)), ("_watch", (.ref x)), ("_promised", (.ref tp)), ("_greatest_number", (.int 0)), ("_attempt", .non), ("_waiting", (.ref wa))]) := upd_same
    generalize upd Y10 p (.ins CM dx (putF "_waiting" (.ref wa) [("_me", (.ref tm)), ("_count", (.int n)), ("_watch", (.ref x)), ("_promised", (.ref tp)), ("_greatest_number", (.int 0)), ("_attempt", .non)])) = Y11 at *
    refine ⟨by show 0 ≤ sizeLine; omega, fun ev nev => ?_⟩
    have g12 : Gr p Y11 (upd Y11 ev (.lst [])) := Gr.new nev
    have hev : (upd Y11 ev (.lst [])) ev = some (.lst []) := upd_same
    have pev : ev ≠ p := (ne_of_none ob11 nev).symm
    have ob12 : (upd Y11 ev (.lst [])) p = some (.ins CM dx [("_me", (.ref tm)), ("_count", (.int n)), ("_watch", (.ref x)), ("_promised", (.ref tp)), ("_greatest_number", (.int 0)), ("_attempt", .non), ("_waiting", (.ref wa))]) := by rw [upd_ne pev.symm]; exact ob11
    have zev := nev
    generalize upd Y11 ev (.lst []) = Y12 at *
    refine ⟨_, rfl, p, CM, dx, _, rfl, ob12, c1, T.n_Member__events, (by show 7 < 1000; decide), ?_⟩
    have g13 : Gr p Y12 (upd Y12 p (.ins CM dx (putF "_events" (.ref ev) [("_me", (.ref tm)), ("_count", (.int n)), ("_watch", (.ref x)), ("_promised", (.ref tp)), ("_greatest_number", (.int 0)), ("_attempt", .non), ("_waiting", (.ref wa))]))) := Gr.put
    have ob13 : (upd Y12 p (.ins CM dx (putF "_events" (.ref ev) [("_me", (.ref tm)), ("_count", (.int n)), ("_watch", (.ref x)), ("_promised", (.ref tp)), ("_greatest_number", (.int 0)), ("_attempt", .non), ("_waiting", (.ref wa))]))) p = some (.ins CM dx [("_me", (.ref tm)), ("_count", (.int n)), ("_watch", (.ref x)), ("_promised", (.ref tp)), ("_greatest_number", (.int 0)), ("_attempt", .non), ("_waiting", (.ref wa)), ("_events", (.ref ev))]) := upd_same
    generalize upd Y12 p (.ins CM dx (putF "_events" (.ref ev) [("_me", (.ref tm)), ("_count", (.int n)), ("_watch", (.ref x)), ("_promised", (.ref tp)), ("_greatest_number", (.int 0)), ("_attempt", .non), ("_waiting", (.ref wa))])) = Y13 at *
    refine ⟨_, rfl, p, dx, _, rfl, ob13, rfl, ?_⟩
    refine ⟨_, rfl, p, CM, dx, _, _, rfl, ob13, c1, T.n_Member__me, rfl, ?_⟩
    refine ⟨by show 2 ≤ sizeLine; omega, fun t1 nt1 => ?_⟩
    have g14 : Gr p Y13 (upd Y13 t1 (.tup [V.int 0, V.ref tm])) := Gr.new nt1
    have ht1 : (upd Y13 t1 (.tup [V.int 0, V.ref tm])) t1 = some (.tup [V.int 0, V.ref tm]) := upd_same
    have pt1 : t1 ≠ p := (ne_of_none ob13 nt1).symm
    have ob14 : (upd Y13 t1 (.tup [V.int 0, V.ref tm])) p = some (.ins CM dx [("_me", (.ref tm)), ("_count", (.int n)), ("_watch", (.ref x)), ("_promised", (.ref tp)), ("_greatest_number", (.int 0)), ("_attempt", .non), ("_waiting", (.ref wa)), ("_events", (.ref ev))]) := by rw [upd_ne pt1.symm]; exact ob13
    have zt1 := nt1
    generalize upd Y13 t1 (.tup [V.int 0, V.ref tm]) = Y14 at *
    refine ⟨_, rfl, p, CM, dx, _, _, rfl, ob14, c1, T.n_Member__me, rfl, ?_⟩
    refine ⟨by show 1 ≤ sizeLine; omega, fun t2 nt2 => ?_⟩
    have g15 : Gr p Y14 (upd Y14 t2 (.tup [V.ref tm])) := Gr.new nt2
    have ht2 : (upd Y14 t2 (.tup [V.ref tm])) t2 = some (.tup [V.ref tm]) := upd_same
    have pt2 : t2 ≠ p := (ne_of_none ob14 nt2).symm
    have ob15 : (upd Y14 t2 (.tup [V.ref tm])) p = some (.ins CM dx [("_me", (.ref tm)), ("_count", (.int n)), ("_watch", (.ref x)), ("_promised", (.ref tp)), ("_greatest_number", (.int 0)), ("_attempt", .non), ("_waiting", (.ref wa)), ("_events", (.ref ev))]) := by rw [upd_ne pt2.symm]; exact ob14
    have zt2 := nt2
    generalize upd Y14 t2 (.tup [V.ref tm]) = Y15 at *
    have ktm := (((((((((((((g2.trans g3).trans g4).trans g5).trans g6).trans g7).trans g8).trans g9).trans g10).trans g11).trans g12).trans g13).trans g14).trans g15).k _ _ htm ptm
    have kwa := ((((g11.trans g12).trans g13).trans g14).trans g15).k _ _ hwa pwa
    have kev := ((g13.trans g14).trans g15).k _ _ hev pev
    have kt1 := g15.k _ _ ht1 pt1
    have tme := td_mem (m := (i, lf)) ktm
    have GG := ((((((((((((((g1.trans g2).trans g3).trans g4).trans g5).trans g6).trans g7).trans g8).trans g9).trans g10).trans g11).trans g12).trans g13).trans g14).trans g15)
    have waev : wa ≠ ev := ne_of_none (g11.k _ _ hwa pwa) nev
    have fwa := ((((((((g1.trans g2).trans g3).trans g4).trans g5).trans g6).trans g7).trans g8).trans g9).s _ zwa
    have fev := ((((((((((g1.trans g2).trans g3).trans g4).trans g5).trans g6).trans g7).trans g8).trans g9).trans g10).trans g11).s _ zev
    refine ⟨p, dx, ev, _, .ref tm, .ref t1, .ref t2, .non, (i, lf), (0, (i, lf)), [(i, lf)], [], rfl, ob15, (by show 8 ≤ 100; decide), rfl, rfl, ⟨[], kev, .nil⟩, Nat.zero_le _, tme, .tup kt1 (by show 2 ≤ 100000; decide) (.cons (.int _) (.cons tme .nil)), .tup ht2 (by show 1 ≤ 100000; decide) (.cons tme .nil), List.mem_singleton.mpr rfl, fun H' od a sn fd1 r em ob' O' fr' L' N' nsn sna k' s' => ?_⟩
    have efd : fd1 = (i, lf) := (List.cons.inj em).1.symm
    subst efd
    have tk : TupK Y15 H' := fun b xs e => k' b _ e (fun z => by rw [z, ob15] at e; cases e) (fun z => by rw [z, kev] at e; cases e)
    have G' : Gr p H1 H' := ⟨fun b o h nb => k' b o (GG.k b o h nb) nb (fun z => by rw [z, fev] at h; cases h), fun b h => GG.s b (s' b h)⟩
    exact q3 H' ⟨dx, .ref tm, .int n, x, .ref tp, 0, .non, wa, ev, .ref t1, .ref t2, od, .non, sn, false, false, a⟩ G' (fun b hb => by
      rcases List.mem_cons.mp hb with z | hb
      · exact .inl z
      · rcases List.mem_cons.mp hb with z | hb
        · rw [z]; exact .inr fwa
        · rcases List.mem_cons.mp hb with z | hb
          · rw [z]; exact .inr fev
          · exact .inr (GG.s _ (fr' b hb)))
      ⟨ob', tme.mono tk, rfl, .tup (tk _ _ kt1) (by show 2 ≤ 100000; decide) (.cons (.int _) (.cons (tme.mono tk) .nil)), .tup (tk _ _ ht2) (by show 1 ≤ 100000; decide) (.cons (tme.mono tk) .nil), O', ⟨[], k' _ _ kwa pwa waev, .nil⟩, L', waev.symm,
        fun h => (by rw [fr' _ h] at kev; cases kev), fun h => (by rw [fr' _ h] at kwa; cases kwa), fun h => (by have := fr' _ h; rw [ob15] at this; cases this)⟩ rfl
end
end Mus

set_option maxRecDepth 100000
set_option maxHeartbeats 4000000
namespace Mus
open PySem L2 TL PySem.NumText
local macro_rules | `(tactic| walk_at "rd") => `(tactic| first
  | refine ⟨_, rfl, ?_⟩ | refine ⟨(True.intro : True), ?_⟩
  | refine ⟨_, _, rfl, rfl, (⟨by decide, by decide, by decide⟩ : CPow _ _), ?_⟩
  | refine ⟨_, _, rfl, rfl, (⟨by decide, by decide⟩ : CDiv _ _), ?_⟩
  | refine ⟨_, _, rfl, rfl, (by show (0 : Int) < _; decide), ?_⟩
  | refine ⟨_, _, rfl, rfl, ?_⟩ | refine ⟨rfl, ?_⟩ | refine iteT ?_ | refine iteF ?_ | refine ⟨_, _, rfl, ?_⟩ | refine .inl ⟨_, rfl, ?_⟩
  | refine ⟨_, _, _, _, _, rfl, (by assumption), (by assumption), (by assumption), rfl, ?_⟩ | refine ⟨_, _, _, _, rfl, rfl, SqT.of (by assumption), rfl, ?_⟩ | refine ⟨_, _, rfl, SqT.of (by assumption), rfl, ?_⟩
  | refine ⟨_, _, _, _, _, rfl, .ty _, Rp.ty (by assumption), kit_int _, ?_⟩ | refine ⟨_, _, _, _, _, rfl, .ty _, Rp.ty (by assumption), kit_bool _, ?_⟩
  | refine ⟨_, _, _, _, _, rfl, .ty _, Rp.ty (by assumption), kit_str _, ?_⟩ | refine ⟨_, _, _, _, _, rfl, .ty _, Rp.ty (by assumption), kit_tup _, ?_⟩)
local macro_rules | `(tactic| walk_at "cal") => `(tactic| first
  | refine ⟨_, _, _, _, _, rfl, (by assumption), ?_⟩ | refine ⟨_, _, _, _, _, rfl, (by assumption), (by assumption), ?_⟩)
local macro_rules | `(tactic| walk_at "sq") => `(tactic| first
  | refine ⟨_, _, rfl, Or.inr (SqT.of (by assumption)), ?_⟩ | refine ⟨_, _, _, _, rfl, rfl, SqT.of (by assumption), rfl, ?_⟩)
local macro_rules | `(tactic| walk_at "rds") => `(tactic| repeat first | walk_at "rd" | walk_at "cal" | walk_at "sq")
local macro_rules | `(tactic| walk_at "ze") => `(tactic| repeat first
  | exact zes_nil | exact ze_bl | exact ze_str | exact ze_non | apply zes_cons | apply ze_tup | apply ze_lst | apply ze_cat | exact di_c | exact di_v rfl | apply di_opC | apply di_op | apply di_neg | apply ze_i | (refine (⟨?_, ?_, ?_⟩ : CPow _ _) <;> decide) | exact Nat.le_of_ble_eq_true rfl | exact ze_varD rfl (by assumption))
local macro_rules | `(tactic| walk_at "rdz") => `(tactic| repeat (fail_if_success (first | show tLst _ _ _ _ | show tAsg (tLst _) _ _ _ _ | show tSeq (tAsg (tLst _) _) _ _ _ _)); first | walk_at "rd" | walk_at "cal" | walk_at "sq")
section
variable {w : World} {CM CO : Addr} {H H1 : Hp} {p : Addr} {a : MbA} {me : Mem} {cnt : Int} {s s1 : OS} {evs : List PyData} {wt : List Str} {oa1 : OA}
theorem MbAt.taken (h : MbAt w CM CO H p a me cnt s evs wt) : ∀ b ∈ a.fp p, H b ≠ none := fun b hb z => by
  rcases List.mem_cons.mp hb with e | hb
  · rw [e, h.ob] at z; cases z
  · rcases List.mem_cons.mp hb with e | hb
    · obtain ⟨_, k, _⟩ := h.wa
      rw [e, k] at z; cases z
    · rcases List.mem_cons.mp hb with e | hb
      · obtain ⟨_, k, _⟩ := h.ev
        rw [e, k] at z; cases z
      · obtain ⟨o, k, _⟩ := h.od.taken b hb
        rw [k] at z; cases z
theorem MbAt.addEv (h : MbAt w CM CO H p a me cnt s evs wt) {vs : List V} {v : V} {e : PyData} (hl : H a.ev = some (.lst vs)) (tvs : TDs H vs evs) (tv : TD H v e) :
    MbAt w CM CO (upd H a.ev (.lst (vs ++ [v]))) p a me cnt s (evs ++ [e]) wt ∧ Fr (a.fp p) (a.fp p) H (upd H a.ev (.lst (vs ++ [v]))) := by
  have t : TupK H (upd H a.ev (.lst (vs ++ [v]))) := tupK_upd fun xs e => by rw [hl] at e; cases e
  have k : ∀ b, b ≠ a.ev → ∀ o, H b = some o → (upd H a.ev (.lst (vs ++ [v]))) b = some o := fun b n o h => by rw [upd_ne n]; exact h
  refine ⟨⟨k _ (ne_of h.ob hl (by intro z; cases z)) _ h.ob, h.me.mono t, h.cnt, h.vid.mono t, h.ms.mono t, h.od.mono (fun b hb o x => k b (fun z => h.d2 (z ▸ hb)) o x) t, h.wa.mono (k _ h.d1.symm) t, ⟨_, upd_same, ?_⟩, h.d1, h.d2, h.d3, h.d4⟩, fr_upd (by simp [MbA.fp]) hl (fun _ z => by cases z)⟩
  exact (tvs.mono t).append (.cons (tv.mono t) .nil)
theorem MbAt.order (h : MbAt w CM CO H p a me cnt s evs wt) (O1 : OAt w CO H1 a.od oa1 s1) (F1 : Fr (a.oa.fp a.od) (oa1.fp a.od) H H1) (e1 : s1.vid = s.vid) (e2 : s1.mems = s.mems) :
    MbAt w CM CO H1 p { a with oa := oa1 } me cnt s1 evs wt ∧ Fr (a.fp p) (({ a with oa := oa1 } : MbA).fp p) H H1 := by
  have no : ∀ b, H b ≠ none → b ∉ a.oa.fp a.od → b ∉ oa1.fp a.od := fun b hb n z => by
    rcases F1.n b z with q | q
    · exact n q
    · exact hb q
  obtain ⟨w1, hw, tw⟩ := h.wa
  obtain ⟨w2, he, te⟩ := h.ev
  refine ⟨⟨F1.k _ _ h.ob h.d4, h.me.mono F1.t, h.cnt, by rw [e1]; exact h.vid.mono F1.t, by rw [e2]; exact h.ms.mono F1.t, O1, ⟨w1, F1.k _ _ hw h.d3, tw.mono F1.t⟩, ⟨w2, F1.k _ _ he h.d2, te.mono F1.t⟩, h.d1, no _ (by rw [he]; simp) h.d2, no _ (by rw [hw]; simp) h.d3, no _ (by rw [h.ob]; simp) h.d4⟩, ?_⟩
  refine ⟨fun b o x n => F1.k b o x (fun z => n (by simp [MbA.fp, z])), fun b hb => ?_, F1.t, F1.s⟩
  have hb : b ∈ p :: a.wa :: a.ev :: oa1.fp a.od := hb
  rcases List.mem_cons.mp hb with e | hb
  · exact .inl (by rw [e]; simp [MbA.fp])
  · rcases List.mem_cons.mp hb with e | hb
    · exact .inl (by rw [e]; simp [MbA.fp])
    · rcases List.mem_cons.mp hb with e | hb
      · exact .inl (by rw [e]; simp [MbA.fp])
      · exact (F1.n b hb).imp (fun z => by simp [MbA.fp, z]) id
end
section
variable {P : Program} {w : World} {K : PySem.W.Frag} {mg : Str → Option Value} {base : Heap} {CM CB CP CO CV CW C CC CE CL CX : Addr}
abbrev s_Member_member : Stmt := inClass (top 56) 1
abbrev N_Member_member : List Str := ["self"]
abbrev P_Member_member : List Str := ["self"]
theorem sc_Member_member : FnScope N_Member_member P_Member_member (defScope s_Member_member) := ⟨rfl, rfl, rfl, by decide +kernel, rfl, by decide +kernel, by decide +kernel⟩
def sp_mmem (w : World) (CM CO : Addr) : Sp := fun vs H Q _ => ∃ (p : Addr) (a : MbA) (me : Mem) (cnt : Int) (s : OS) (evs : List PyData) (wt : List Str), vs = [.ref p] ∧ MbAt w CM CO H p a me cnt s evs wt ∧ Q a.vme H
theorem ok_mmem {f : Addr} {fd : FuncData} (T : TM K mg CM CB CP CO) (F : Fun K "member" "Member.member" s_Member_member f fd) : FnOk P w K mg base CX0 1 f fd P_Member_member (sp_mmem w CM CO) := by
  have nd := sc_Member_member.nd
  refine F.ok sc_Member_member (fun vs H Q E h => ?_) (fun cdv A outer s H vs Q E hr h => ?_)
  · obtain ⟨_, _, _, _, _, _, _, rfl, _⟩ := h
    rfl
  · obtain ⟨p, a, me, cnt, s, evs, wt, rfl, M, q⟩ := h
    have c1 := T.cl_Member
    refine ⟨_, (pss_one (ps_ret (pe_fld (pv 0) (by rfl)))), ?_⟩
    walk_at "rds"
    exact ⟨p, CM, a.dx, _, _, rfl, M.ob, c1, T.n_Member__me, rfl, q⟩
abbrev s_Member_view : Stmt := inClass (top 56) 2
abbrev N_Member_view : List Str := ["self"]
abbrev P_Member_view : List Str := ["self"]
theorem sc_Member_view : FnScope N_Member_view P_Member_view (defScope s_Member_view) := ⟨rfl, rfl, rfl, by decide +kernel, rfl, by decide +kernel, by decide +kernel⟩
def sp_mview (w : World) (CM CO : Addr) : Sp := fun vs H Q _ => ∃ (p : Addr) (a : MbA) (me : Mem) (cnt : Int) (s : OS) (evs : List PyData) (wt : List Str), vs = [.ref p] ∧ MbAt w CM CO H p a me cnt s evs wt ∧ ∀ t H', Same H H' → TD H' (.ref t) (.tuple [eV s.vid, eMs s.mems]) → Q (.ref t) H'
theorem ok_mview {f : Addr} {fd : FuncData} (T : TM K mg CM CB CP CO) (F : Fun K "view" "Member.view" s_Member_view f fd) : FnOk P w K mg base CX0 1 f fd P_Member_view (sp_mview w CM CO) := by
  have nd := sc_Member_view.nd
  refine F.ok sc_Member_view (fun vs H Q E h => ?_) (fun cdv A outer s H vs Q E hr h => ?_)
  · obtain ⟨_, _, _, _, _, _, _, rfl, _⟩ := h
    rfl
  · obtain ⟨p, a, me, cnt, s, evs, wt, rfl, M, q⟩ := h
    have hs := sl
    have c1 := T.cl_Member
    refine ⟨_, (pss_one (ps_ret (pe_tup (pa_cons (pe_fld (pv 0) (by rfl)) (pa_cons (pe_fld (pv 0) (by rfl)) pa_nil))))), ?_⟩
    walk_at "rds"
    refine ⟨p, CM, a.dx, _, _, rfl, M.ob, c1, T.n_Member__view_id, rfl, ?_⟩
    walk_at "rds"
    refine ⟨p, CM, a.dx, _, _, rfl, M.ob, c1, T.n_Member__members, rfl, ?_⟩
    refine ⟨by show 2 ≤ sizeLine; omega, fun t nt => ?_⟩
    have s1 := same_new nt (.tup [a.vvid, a.vms])
    exact q t _ s1 (.tup upd_same (by show 2 ≤ 100000; decide) (.cons (M.vid.same s1) (.cons (M.ms.same s1) .nil)))
abbrev s_Member_frozen : Stmt := inClass (top 56) 3
abbrev N_Member_frozen : List Str := ["self"]
abbrev P_Member_frozen : List Str := ["self"]
theorem sc_Member_frozen : FnScope N_Member_frozen P_Member_frozen (defScope s_Member_frozen) := ⟨rfl, rfl, rfl, by decide +kernel, rfl, by decide +kernel, by decide +kernel⟩
def sp_mfro (w : World) (CM CO : Addr) : Sp := fun vs H Q _ => ∃ (p : Addr) (a : MbA) (me : Mem) (cnt : Int) (s : OS) (evs : List PyData) (wt : List Str), vs = [.ref p] ∧ MbAt w CM CO H p a me cnt s evs wt ∧ Q (.bl a.fr) H
theorem ok_mfro {f : Addr} {fd : FuncData} (T : TM K mg CM CB CP CO) (F : Fun K "frozen" "Member.frozen" s_Member_frozen f fd) : FnOk P w K mg base CX0 1 f fd P_Member_frozen (sp_mfro w CM CO) := by
  have nd := sc_Member_frozen.nd
  refine F.ok sc_Member_frozen (fun vs H Q E h => ?_) (fun cdv A outer s H vs Q E hr h => ?_)
  · obtain ⟨_, _, _, _, _, _, _, rfl, _⟩ := h
    rfl
  · obtain ⟨p, a, me, cnt, s, evs, wt, rfl, M, q⟩ := h
    have c1 := T.cl_Member
    refine ⟨_, (pss_one (ps_ret (pe_fld (pv 0) (by rfl)))), ?_⟩
    walk_at "rds"
    exact ⟨p, CM, a.dx, _, _, rfl, M.ob, c1, T.n_Member__frozen, rfl, q⟩
abbrev s_Member_log : Stmt := inClass (top 56) 4
abbrev N_Member_log : List Str := ["self"]
abbrev P_Member_log : List Str := ["self"]
theorem sc_Member_log : FnScope N_Member_log P_Member_log (defScope s_Member_log) := ⟨rfl, rfl, rfl, by decide +kernel, rfl, by decide +kernel, by decide +kernel⟩
def sp_mlog (w : World) (CM CO : Addr) : Sp := fun vs H Q _ => ∃ (p : Addr) (a : MbA) (me : Mem) (cnt : Int) (s : OS) (evs : List PyData) (wt : List Str), vs = [.ref p] ∧ MbAt w CM CO H p a me cnt s evs wt ∧ s.log.length ≤ 100000 ∧ ∀ r H', Same H H' → TD H' (.ref r) (eGs s.log) → Q (.ref r) H'
theorem ok_mlog {f : Addr} {fd : FuncData} (T : TM K mg CM CB CP CO) (TO : To K mg CO CV) (m_Order_log : MethOk P w K mg base CX0 CO "log" P_Order_log 1 (sp_olog w CO)) (F : Fun K "log" "Member.log" s_Member_log f fd) : FnOk P w K mg base CX0 2 f fd P_Member_log (sp_mlog w CM CO) := by
  have nd := sc_Member_log.nd
  refine F.ok sc_Member_log (fun vs H Q E h => ?_) (fun cdv A outer s H vs Q E hr h => ?_)
  · obtain ⟨_, _, _, _, _, _, _, rfl, _⟩ := h
    rfl
  · obtain ⟨p, a, me, cnt, s, evs, wt, rfl, M, hl, q⟩ := h
    have c1 := T.cl_Member
    refine ⟨_, (pss_one (ps_ret (pmeth0 m_Order_log T.cl_Order (pe_fld (pv 0) (by rfl)) hr))), ?_⟩
    walk_at "rds"
    refine ⟨p, CM, a.dx, _, _, rfl, M.ob, c1, T.n_Member__order, rfl, ?_⟩
    exact ⟨a.od, a.oa.dx, _, rfl, M.od.ob, rfl, a.od, a.oa, s, rfl, M.od, hl, fun r H' s' t' => q r H' s' t'⟩
abbrev s_Member_waiting : Stmt := inClass (top 56) 5
abbrev N_Member_waiting : List Str := ["self"]
abbrev P_Member_waiting : List Str := ["self"]
theorem sc_Member_waiting : FnScope N_Member_waiting P_Member_waiting (defScope s_Member_waiting) := ⟨rfl, rfl, rfl, by decide +kernel, rfl, by decide +kernel, by decide +kernel⟩
def sp_mwait (w : World) (CM CO : Addr) : Sp := fun vs H Q _ => ∃ (p : Addr) (a : MbA) (me : Mem) (cnt : Int) (s : OS) (evs : List PyData) (wt : List Str), vs = [.ref p] ∧ MbAt w CM CO H p a me cnt s evs wt ∧ wt.length ≤ 100000 ∧ ∀ r H', Same H H' → TD H' (.ref r) (.tuple (wt.map PyData.str)) → Q (.ref r) H'
theorem ok_mwait {f : Addr} {fd : FuncData} (T : TM K mg CM CB CP CO) (F : Fun K "waiting" "Member.waiting" s_Member_waiting f fd) : FnOk P w K mg base CX0 1 f fd P_Member_waiting (sp_mwait w CM CO) := by
  have nd := sc_Member_waiting.nd
  refine F.ok sc_Member_waiting (fun vs H Q E h => ?_) (fun cdv A outer s H vs Q E hr h => ?_)
  · obtain ⟨_, _, _, _, _, _, _, rfl, _⟩ := h
    rfl
  · obtain ⟨p, a, me, cnt, s, evs, wt, rfl, M, hl, q⟩ := h
    have c1 := T.cl_Member
    obtain ⟨vs, hv, tv⟩ := M.wa
    have ll := tv.length
    rw [List.length_map] at ll
    refine ⟨_, (pss_one (ps_ret (pe_callTy call_tuple_of (by rfl) T.b_tuple (by decide +kernel) (pa_cons (pe_fld (pv 0) (by rfl)) pa_nil)))), ?_⟩
    walk_at "rds"
    refine ⟨p, CM, a.dx, _, _, rfl, M.ob, c1, T.n_Member__waiting, rfl, ?_⟩
    walk_at "rds"
    refine ⟨a.wa, _, rfl, .inl ⟨SqL.of hv, fun t nt => ?_⟩⟩
    exact q t _ (same_new nt _) (.tup upd_same (by omega) (tv.same (same_new nt _)))
abbrev s_Member_events : Stmt := inClass (top 56) 6
abbrev N_Member_events : List Str := ["self"]
abbrev P_Member_events : List Str := ["self"]
theorem sc_Member_events : FnScope N_Member_events P_Member_events (defScope s_Member_events) := ⟨rfl, rfl, rfl, by decide +kernel, rfl, by decide +kernel, by decide +kernel⟩
def sp_mevs (w : World) (CM CO : Addr) : Sp := fun vs H Q _ => ∃ (p : Addr) (a : MbA) (me : Mem) (cnt : Int) (s : OS) (evs : List PyData) (wt : List Str), vs = [.ref p] ∧ MbAt w CM CO H p a me cnt s evs wt ∧ ∀ r H', Same H H' → H r = none → LstAt H' r evs → Q (.ref r) H'
theorem ok_mevs {f : Addr} {fd : FuncData} (T : TM K mg CM CB CP CO) (F : Fun K "events" "Member.events" s_Member_events f fd) : FnOk P w K mg base CX0 1 f fd P_Member_events (sp_mevs w CM CO) := by
  have nd := sc_Member_events.nd
  refine F.ok sc_Member_events (fun vs H Q E h => ?_) (fun cdv A outer s H vs Q E hr h => ?_)
  · obtain ⟨_, _, _, _, _, _, _, rfl, _⟩ := h
    rfl
  · obtain ⟨p, a, me, cnt, s, evs, wt, rfl, M, q⟩ := h
    have c1 := T.cl_Member
    obtain ⟨vs, hv, tv⟩ := M.ev
    refine ⟨_, (pss_one (ps_ret (pe_callTy call_list_of (by rfl) T.b_list (by decide +kernel) (pa_cons (pe_fld (pv 0) (by rfl)) pa_nil)))), ?_⟩
    walk_at "rds"
    refine ⟨p, CM, a.dx, _, _, rfl, M.ob, c1, T.n_Member__events, rfl, ?_⟩
    walk_at "rds"
    refine ⟨a.ev, _, rfl, .inl (SqL.of hv), fun t nt => ?_⟩
    exact q t _ (same_new nt _) nt ⟨_, upd_same, tv.same (same_new nt _)⟩
abbrev s_Member__deliver : Stmt := inClass (top 56) 11
abbrev N_Member__deliver : List Str := ["self", "messages", "message"]
abbrev P_Member__deliver : List Str := ["self", "messages"]
theorem sc_Member__deliver : FnScope N_Member__deliver P_Member__deliver (defScope s_Member__deliver) := ⟨rfl, rfl, rfl, by decide +kernel, rfl, by decide +kernel, by decide +kernel⟩
def sp_mdel (w : World) (CM CO : Addr) : Sp := fun vs H Q _ => ∃ (p l : Addr) (a : MbA) (me : Mem) (cnt : Int) (s : OS) (evs : List PyData) (wt : List Str) (gs : List Msg), vs = [.ref p, .ref l] ∧ MbAt w CM CO H p a me cnt s evs wt ∧ LstAt H l (gs.map eG) ∧ l ∉ a.fp p ∧ evs.length + gs.length ≤ 100000 ∧
  ∀ H', MbAt w CM CO H' p a me cnt s (evs ++ gs.map (evDel s.vid)) wt → Fr (a.fp p) (a.fp p) H H' → Q .non H'
theorem ok_mdel {f : Addr} {fd : FuncData} (T : TM K mg CM CB CP CO) (F : Fun K "_deliver" "Member._deliver" s_Member__deliver f fd) : FnOk P w K mg base CX0 1 f fd P_Member__deliver (sp_mdel w CM CO) := by
  have nd := sc_Member__deliver.nd
  refine F.ok sc_Member__deliver (fun vs H Q E h => ?_) (fun cdv A outer s H vs Q E hr h => ?_)
  · obtain ⟨_, _, _, _, _, _, _, _, _, rfl, _⟩ := h
    rfl
  · obtain ⟨p, l, a, me, cnt, s, evs, wt, gs, rfl, M, ⟨us, hl, tl⟩, nl, len, q⟩ := h
    have hs := sl
    have c1 := T.cl_Member
    have lu := tl.length
    rw [List.length_map] at lu
    refine ⟨_, (pss_one (ps_for PassesOwn.never rfl (pi_list (pv 1)) (pg_name (i := 2) nd rfl (Or.inl rfl))
        (pss_one (ps_expr (pe_bm PySem.F.plainAttrs_list PySem.F.slot_list_append PySem.F.type_list_append mt_append (pe_fld (pv 0) (by rfl)) (pa_cons (pe_tup (pa_cons pe_str (pa_cons (pe_fld (pv 0) (by rfl)) (pa_cons (pv 2) pa_nil)))) pa_nil)))))), ?_⟩
    walk_at "rds"
    refine ⟨⟨_, SqL.of hl⟩, for_list (xs := us) (fun i σ H' => ∃ x2 : Option V, σ = [some (.ref p), some (.ref l), x2] ∧ MbAt w CM CO H' p a me cnt s (evs ++ (gs.take i).map (evDel s.vid)) wt ∧ Fr (a.fp p) (a.fp p) H H') ?_ ?_ ?_ ?_⟩
    · exact ⟨_, rfl, by simpa using M, Fr.refl _ _⟩
    · rintro i σ H' _ ⟨_, _, _, F'⟩
      exact SqL.of (F'.k _ _ hl nl)
    · rintro i y σ H' hi ⟨x2, rfl, M', F'⟩
      obtain ⟨d, hd, td⟩ := tl.at hi
      rw [List.getElem?_map] at hd
      obtain ⟨g, hg, rfl⟩ := Option.map_eq_some_iff.mp hd
      obtain ⟨vs, hv, tv⟩ := M'.ev
      have lv := tv.length
      rw [List.length_append, List.length_map, List.length_take] at lv
      walk_at "rds"
      refine ⟨p, CM, a.dx, _, _, rfl, M'.ob, c1, T.n_Member__events, rfl, ?_⟩
      refine ⟨.inl ⟨rfl, _, SqL.of hv⟩, ?_⟩
      walk_at "rds"
      refine ⟨p, CM, a.dx, _, _, rfl, M'.ob, c1, T.n_Member__view_id, rfl, ?_⟩
      walk_at "rds"
      refine ⟨by show 3 ≤ sizeLine; omega, fun t nt => ?_⟩
      have s1 := same_new nt (.tup [V.str (Str.ofString "deliver"), a.vvid, y])
      have ht : (upd H' t (.tup [V.str (Str.ofString "deliver"), a.vvid, y])) t = some _ := upd_same
      have M1 := M'.same s1
      have td1 := (td.mono F'.t).same s1
      have F1 := F'.trans (Fr.of s1)
      generalize upd H' t (.tup [V.str (Str.ofString "deliver"), a.vvid, y]) = H1 at *
      have te : TD H1 (.ref t) (evDel s.vid g) := .tup ht (by show 3 ≤ 100000; decide) (.cons (.str _) (.cons M1.vid (.cons td1 .nil)))
      refine ⟨a.ev, vs, _, rfl, rfl, s1 _ _ hv, by omega, ?_⟩
      obtain ⟨M2, F2⟩ := M1.addEv (s1 _ _ hv) (tv.same s1) te
      refine ⟨_, rfl, ?_, F1.trans F2⟩
      have e : (gs.take (i + 1)).map (evDel s.vid) = (gs.take i).map (evDel s.vid) ++ [evDel s.vid g] := by
        rw [List.take_succ, hg, List.map_append]; rfl
      rw [e, ← List.append_assoc]
      exact M2
    · rintro σ H' ⟨x2, rfl, M', F'⟩
      rw [lu, List.take_length] at M'
      exact q H' M' F'
end
end Mus

set_option maxRecDepth 100000
set_option maxHeartbeats 4000000
namespace Mus
open PySem L2 TL PySem.NumText
local macro_rules | `(tactic| walk_at "rd") => `(tactic| first
  | refine ⟨_, rfl, ?_⟩ | refine ⟨(True.intro : True), ?_⟩
  | refine ⟨_, _, rfl, rfl, (⟨by decide, by decide, by decide⟩ : CPow _ _), ?_⟩
  | refine ⟨_, _, rfl, rfl, (⟨by decide, by decide⟩ : CDiv _ _), ?_⟩
  | refine ⟨_, _, rfl, rfl, (by show (0 : Int) < _; decide), ?_⟩
  | refine ⟨_, _, rfl, rfl, ?_⟩ | refine ⟨rfl, ?_⟩ | refine iteT ?_ | refine iteF ?_ | refine ⟨_, _, rfl, ?_⟩ | refine .inl ⟨_, rfl, ?_⟩
  | refine ⟨_, _, _, _, _, rfl, (by assumption), (by assumption), (by assumption), rfl, ?_⟩ | refine ⟨_, _, _, _, rfl, rfl, SqT.of (by assumption), rfl, ?_⟩ | refine ⟨_, _, rfl, SqT.of (by assumption), rfl, ?_⟩
  | refine ⟨_, _, _, _, _, rfl, .ty _, Rp.ty (by assumption), kit_int _, ?_⟩ | refine ⟨_, _, _, _, _, rfl, .ty _, Rp.ty (by assumption), kit_bool _, ?_⟩
  | refine ⟨_, _, _, _, _, rfl, .ty _, Rp.ty (by assumption), kit_str _, ?_⟩ | refine ⟨_, _, _, _, _, rfl, .ty _, Rp.ty (by assumption), kit_tup _, ?_⟩)
local macro_rules | `(tactic| walk_at "cal") => `(tactic| first
  | refine ⟨_, _, _, _, _, rfl, (by assumption), ?_⟩ | refine ⟨_, _, _, _, _, rfl, (by assumption), (by assumption), ?_⟩)
local macro_rules | `(tactic| walk_at "sq") => `(tactic| first
  | refine ⟨_, _, rfl, Or.inr (SqT.of (by assumption)), ?_⟩ | refine ⟨_, _, _, _, rfl, rfl, SqT.of (by assumption), rfl, ?_⟩)
local macro_rules | `(tactic| walk_at "rds") => `(tactic| repeat first | walk_at "rd" | walk_at "cal" | walk_at "sq")
local macro_rules | `(tactic| walk_at "ze") => `(tactic| repeat first
  | exact zes_nil | exact ze_bl | exact ze_str | exact ze_non | apply zes_cons | apply ze_tup | apply ze_lst | apply ze_cat | exact di_c | exact di_v rfl | apply di_opC | apply di_op | apply di_neg | apply ze_i | (refine (⟨?_, ?_, ?_⟩ : CPow _ _) <;> decide) | exact Nat.le_of_ble_eq_true rfl | exact ze_varD rfl (by assumption))
local macro_rules | `(tactic| walk_at "rdz") => `(tactic| repeat (fail_if_success (first | show tLst _ _ _ _ | show tAsg (tLst _) _ _ _ _ | show tSeq (tAsg (tLst _) _) _ _ _ _)); first | walk_at "rd" | walk_at "cal" | walk_at "sq")
structure TR (K : PySem.W.Frag) (mg : Str → Option Value) (CM CB CP CO CL : Addr) : Prop extends TM K mg CM CB CP CO where
  g_BadLetter : mg "BadLetter" = some (.ref CL)
  m_LL : PySem.W.exmOne K (.ref CL) (.ref CL) = some true
theorem casV (s : OS) (z : Str) : (s.cast z).1.vid = s.vid := by
  unfold OS.cast
  dsimp only
  split <;> rfl
theorem casM (s : OS) (z : Str) : (s.cast z).1.mems = s.mems := by
  unfold OS.cast
  dsimp only
  split <;> rfl
theorem casL (s : OS) (z : Str) : (s.cast z).2.2.1.length ≤ 1 := by
  unfold OS.cast
  dsimp only
  split
  · exact Nat.le_refl _
  · exact Nat.zero_le _
section
variable {P : Program} {w : World} {K : PySem.W.Frag} {mg : Str → Option Value} {base : Heap} {CM CB CP CO CV CW C CC CE CL : Addr}
abbrev s_Member_cast : Stmt := inClass (top 56) 7
abbrev N_Member_cast : List Str := ["self", "payload", "index", "delivered", "letters"]
abbrev P_Member_cast : List Str := ["self", "payload"]
theorem sc_Member_cast : FnScope N_Member_cast P_Member_cast (defScope s_Member_cast) := ⟨rfl, rfl, rfl, by decide +kernel, rfl, by decide +kernel, by decide +kernel⟩
def sp_mcast (w : World) (CM CO CP : Addr) : Sp := fun vs H Q E => ∃ (q0 p : Addr) (a : MbA) (me : Mem) (cnt : Int) (s : OS) (evs : List PyData) (wt : List Str) (v : V) (d : PyData), vs = [.ref p, v] ∧ MbAt w CM CO H p a me cnt s evs wt ∧ Rp q0 H v d ∧ Her Ok d ∧ a.fr = false ∧ s.log.length ≤ 90000 ∧ s.pend.length ≤ 90000 ∧ s.mems.length ≤ 1000 ∧ evs.length ≤ 90000 ∧
  (isPay d = false → E (.ref CP) none H) ∧ (isPay d = true → ∀ z, d = .str z → ∀ H' a' r, MbAt w CM CO H' p a' me cnt (s.cast z).1 (evs ++ [evCast s.vid (s.cast z).2.1 z] ++ (s.cast z).2.2.1.map (evDel s.vid)) wt → a'.fr = false → a'.vme = a.vme → Fr (a.fp p) (a'.fp p) H H' → LstAt H' r ((s.cast z).2.2.2.map ePk) → H r = none → Q (.ref r) H')
theorem ok_mcast {f : Addr} {fd : FuncData} (T : TM K mg CM CB CP CO) (c_is_payload : DefOk P w K mg base CX0 "is_payload" P_is_payload 3 (spH1 isPay)) (m_Order_cast : MethOk P w K mg base CX0 CO "cast" P_Order_cast 3 (sp_ocast w CO)) (m_Member__deliver : MethOk P w K mg base CX0 CM "_deliver" P_Member__deliver 1 (sp_mdel w CM CO))
    (F : Fun K "cast" "Member.cast" s_Member_cast f fd) : FnOk P w K mg base (L2.CX P w) 4 f fd P_Member_cast (sp_mcast w CM CO CP) := by
  have nd := sc_Member_cast.nd
  refine F.okX sc_Member_cast (fun vs H Q E h => ?_) (fun cdv A outer s H vs Q E hr h => ?_)
  · obtain ⟨_, _, _, _, _, _, _, _, _, _, rfl, _⟩ := h
    rfl
  · obtain ⟨q0, p, a, me, cnt, s, evs, wt, v, d, rfl, M, rv, hd, hfr, bl, bp, bm, be, q1, q2⟩ := h
    have hs := sl
    have c1 := T.cl_Member
    refine ⟨_, (pss_cons (ps_if (pt_not (pt_val (pcall c_is_payload hr (pa_cons (pv 1) pa_nil))))
        (pss_one (ps_raise rfl (takes_of rfl rfl rfl rfl) (pmk_own0 PySem.F.excBase_ValueError T.x_BadPayload T.g_BadPayload T.k_BadPayload (raises_own T.b_BadPayload T.t_BadPayload))))
        pss_nil)
      (pss_cons (ps_if (pt_val (pe_fld (pv 0) (by rfl)))
        (pss_cons (ps_expr (pe_bm PySem.F.plainAttrs_list PySem.F.slot_list_append PySem.F.type_list_append mt_append (pe_fld (pv 0) (by rfl)) (pa_cons (pv 1) pa_nil)))
        (pss_one (ps_ret (pe_lst pa_nil))))
        pss_nil)
      (pss_cons (ps_asg (pmeth m_Order_cast T.cl_Order (pe_fld (pv 0) (by rfl)) hr (pa_cons (pv 1) pa_nil)) (pg_tup (by rfl) (pgs_cons (pg_name (i := 2) nd rfl (Or.inl rfl)) (pgs_cons (pg_name (i := 3) nd rfl (Or.inl rfl)) (pgs_cons (pg_name (i := 4) nd rfl (Or.inl rfl)) pgs_nil)))))
      (pss_cons (ps_expr (pe_bm PySem.F.plainAttrs_list PySem.F.slot_list_append PySem.F.type_list_append mt_append (pe_fld (pv 0) (by rfl)) (pa_cons (pe_tup (pa_cons pe_str (pa_cons (pe_fld (pv 0) (by rfl)) (pa_cons (pv 2) (pa_cons (pv 1) pa_nil))))) pa_nil)))
      (pss_cons (ps_expr (pmeth m_Member__deliver T.cl_Member (pv 0) hr (pa_cons (pv 3) pa_nil)))
      (pss_one (ps_ret (pv 4)))))))), ?_⟩
    refine ⟨_, rfl, q0, v, d, rfl, rv, hd, ?_⟩
    walk_at "rds"
    refine iB (fun hp => ?_) (fun hp => ?_)
    · have hp : isPay d = false := by simpa using hp
      walk_at "rds"
      exact q1 hp
    have hp : isPay d = true := by simpa using hp
    obtain ⟨z, rfl⟩ : ∃ z, d = .str z := by
      unfold isPay at hp
      split at hp
      · exact ⟨_, rfl⟩
      · cases hp
    cases rv
    have q2 := q2 hp z rfl
    walk_at "rds"
    refine ⟨p, CM, a.dx, _, _, rfl, M.ob, c1, T.n_Member__frozen, rfl, ?_⟩
    rw [hfr]
    walk_at "rds"
    refine ⟨p, CM, a.dx, _, _, rfl, M.ob, c1, T.n_Member__order, rfl, ?_⟩
    refine ⟨a.od, a.oa.dx, _, rfl, M.od.ob, rfl, _, rfl, a.od, a.oa, s, z, rfl, M.od, bl, bp, bm, fun t H1 oa1 l1 l2 O1 F1 ht N1 N2 hne => ?_⟩
    obtain ⟨M1, FM1⟩ := M.order O1 F1 (casV s z) (casM s z)
    have nout : ∀ y, H y = none → y ∉ oa1.fp a.od → y ∉ (({ a with oa := oa1 } : MbA).fp p) := fun y hy n z => by
      have z : y ∈ p :: a.wa :: a.ev :: oa1.fp a.od := z
      rcases List.mem_cons.mp z with e | z
      · exact M.taken p (by simp [MbA.fp]) (e ▸ hy)
      · rcases List.mem_cons.mp z with e | z
        · exact M.taken a.wa (by simp [MbA.fp]) (e ▸ hy)
        · rcases List.mem_cons.mp z with e | z
          · exact M.taken a.ev (by simp [MbA.fp]) (e ▸ hy)
          · exact n z
    obtain ⟨vs, hv, tv⟩ := M1.ev
    have lv := tv.length
    have hv : H1 a.ev = some (.lst vs) := hv
    walk_at "rds"
    refine ⟨p, CM, a.dx, _, _, rfl, M1.ob, c1, T.n_Member__events, rfl, ?_⟩
    refine ⟨.inl ⟨rfl, _, SqL.of hv⟩, ?_⟩
    walk_at "rds"
    refine ⟨p, CM, a.dx, _, _, rfl, M1.ob, c1, T.n_Member__view_id, rfl, ?_⟩
    walk_at "rds"
    refine ⟨by show 4 ≤ sizeLine; omega, fun t2 nt2 => ?_⟩
    have s2 := same_new nt2 (.tup [V.str (Str.ofString "cast"), a.vvid, V.int (s.cast z).2.1, V.str z])
    have ht2 : (upd H1 t2 (.tup [V.str (Str.ofString "cast"), a.vvid, V.int (s.cast z).2.1, V.str z])) t2 = some _ := upd_same
    have M2 := M1.same s2
    generalize upd H1 t2 (.tup [V.str (Str.ofString "cast"), a.vvid, V.int (s.cast z).2.1, V.str z]) = H2 at *
    have hv2 := s2 _ _ hv
    have te : TD H2 (.ref t2) (evCast s.vid (s.cast z).2.1 z) := .tup ht2 (by show 4 ≤ 100000; decide) (.cons (.str _) (.cons (by have := M2.vid; rw [casV] at this; exact this) (.cons (.int _) (.cons (.str _) .nil))))
    refine ⟨a.ev, vs, _, rfl, rfl, hv2, by omega, ?_⟩
    obtain ⟨M3, F3⟩ := M2.addEv hv2 (tv.same s2) te
    have F13 := FM1.trans ((Fr.of s2).trans F3)
    have F23 := (Fr.of (fp := (({ a with oa := oa1 } : MbA).fp p)) s2).trans F3
    have hM3 : MbAt w CM CO (upd H2 a.ev (.lst (vs ++ [.ref t2]))) p { a with oa := oa1 } me cnt (s.cast z).1 (evs ++ [evCast s.vid (s.cast z).2.1 z]) wt := M3
    have hF13 : Fr (a.fp p) (({ a with oa := oa1 } : MbA).fp p) H (upd H2 a.ev (.lst (vs ++ [.ref t2]))) := F13
    have hF23 : Fr (({ a with oa := oa1 } : MbA).fp p) (({ a with oa := oa1 } : MbA).fp p) H1 (upd H2 a.ev (.lst (vs ++ [.ref t2]))) := F23
    clear M3 F3 F13 F23 ht2 te
    generalize upd H2 a.ev (.lst (vs ++ [.ref t2])) = H3 at *
    walk_at "rds"
    have o1 := nout _ N1.new N1.out
    have o2 := nout _ N2.new N2.out
    obtain ⟨u1, hu1, tu1⟩ := N1.at_
    obtain ⟨u2, hu2, tu2⟩ := N2.at_
    refine ⟨p, a.dx, _, rfl, hM3.ob, rfl, _, rfl, p, l1, { a with oa := oa1 }, me, cnt, (s.cast z).1, _, wt, (s.cast z).2.2.1, rfl, hM3, ⟨u1, hF23.k _ _ hu1 o1, tu1.mono hF23.t⟩, o1, ?_, fun H5 M5 F5 => ?_⟩
    · have := casL s z
      rw [List.length_append, List.length_singleton]; omega
    walk_at "rds"
    refine q2 H5 { a with oa := oa1 } l2 (by have := M5; rw [casV] at this; exact this) hfr rfl (hF13.trans F5) ⟨u2, F5.k _ _ (hF23.k _ _ hu2 o2) o2, (tu2.mono hF23.t).mono F5.t⟩ N2.new
abbrev s_Member_receive : Stmt := inClass (top 56) 9
abbrev N_Member_receive : List Str := ["self", "letter", "view_id", "takers", "taker"]
abbrev P_Member_receive : List Str := ["self", "letter"]
theorem sc_Member_receive : FnScope N_Member_receive P_Member_receive (defScope s_Member_receive) := ⟨rfl, rfl, rfl, by decide +kernel, rfl, by decide +kernel, by decide +kernel⟩
def sp_mrecv (w : World) (CM CO : Addr) : Sp := fun vs H Q _ => ∃ (q0 p : Addr) (a : MbA) (me : Mem) (cnt : Int) (s : OS) (evs : List PyData) (wt : List Str) (v : V) (d : PyData), vs = [.ref p, v] ∧ MbAt w CM CO H p a me cnt s evs wt ∧ Rp q0 H v d ∧ Her Ok d ∧ isLet (.int cnt) d = false ∧
  ∀ r H', Same H H' → H r = none → H' r = some (.lst []) → Q (.ref r) H'
theorem ok_mrecv {f : Addr} {fd : FuncData} (T : TR K mg CM CB CP CO CL) (c_check_letter : DefOk P w K mg base (L2.CX P w) "check_letter" P_check_letter 10 (sp_chk CL))
    (F : Fun K "receive" "Member.receive" s_Member_receive f fd) : FnOk P w K mg base CX0 11 f fd P_Member_receive (sp_mrecv w CM CO) := by
  have nd := sc_Member_receive.nd
  refine F.ok sc_Member_receive (fun vs H Q E h => ?_) (fun cdv A outer s H vs Q E hr h => ?_)
  · obtain ⟨_, _, _, _, _, _, _, _, _, _, rfl, _⟩ := h
    rfl
  · obtain ⟨q0, p, a, me, cnt, s, evs, wt, v, d, rfl, M, rv, hd, hl, q⟩ := h
    have hs := sl
    have c1 := T.cl_Member
    obtain ⟨bm, eme, hbm⟩ := M.me.mem
    refine ⟨_, (pss_cons (ps_tryX rfl rfl takes0 (fun W pn xe tk _ => (pss_one (ps_expr (pcallA c_check_letter tk hr (pa_cons (pe_fld (pv 0) (by rfl)) (pa_cons (pe_ix ix_tup (pe_fld (pv 0) (by rfl)) pe_int (fun _ _ => rfl)) (pa_cons (pv 1) pa_nil)))))))
        (hd_one ⟨rfl, by decide, .inl T.g_BadLetter⟩ (fun a oe cls d pn hz hf => (pss_one (ps_ret (pe_lst pa_nil)))) .nil))
      (pss_cons ps_never
      (pss_cons ps_never
      (pss_cons ps_never
      (pss_cons ps_never
      (pss_cons ps_never
      (pss_one ps_never))))))), ?_⟩
    walk_at "rds"
    refine ⟨p, CM, a.dx, _, _, rfl, M.ob, c1, T.n_Member__count, rfl, ?_⟩
    walk_at "rds"
    refine ⟨p, CM, a.dx, _, _, rfl, M.ob, c1, T.n_Member__me, rfl, ?_⟩
    refine ⟨bm, _, _, .int me.1, eme, rfl, SqT.of hbm, rfl, ?_⟩
    walk_at "rds"
    rw [M.cnt]
    refine ⟨q0, .int cnt, .int me.1, v, .int cnt, .int me.1, d, rfl, .int _, .int _, rv, hd, (fun h => ?_), fun _ H1 s1 => ?_⟩
    · unfold chkL at h; rw [hl] at h; cases h
    refine ⟨true, T.m_LL, fun _ b nb => ?_, fun h => by cases h⟩
    walk_at "rds"
    refine ⟨by show 0 ≤ sizeLine; omega, fun r nr => ?_⟩
    exact q r _ (s1.trans (same_new nr _)) ((Gr.of (p := r) s1).s _ nr) upd_same
end
end Mus

set_option maxRecDepth 100000
set_option maxHeartbeats 4000000
/-! Torn texts of lives. -/
namespace Mus
open PySem L2 TL PySem.NumText
def full (n : Nat) : List Nat := if n = 0 then [] else lifeT n
def mix (a f k : Nat) : List Nat := (lifeT a).take k ++ (full f).drop k
theorem fold_lt : ∀ (d : List Nat) (acc : Nat), AllDigits d → d.foldl (fun acc c => acc * 10 + (c - 48)) acc < (acc + 1) * 10 ^ d.length := by
  intro d
  induction d with
  | nil => intro acc _; simp
  | cons c d ih =>
    intro acc h
    have hc := h.head
    have := ih (acc * 10 + (c - 48)) h.tail
    rw [List.foldl_cons, List.length_cons, Nat.pow_succ]
    have h2 : (acc * 10 + (c - 48) + 1) * 10 ^ d.length ≤ ((acc + 1) * 10) * 10 ^ d.length := Nat.mul_le_mul_right _ (by omega)
    have h3 : (acc + 1) * (10 ^ d.length * 10) = ((acc + 1) * 10) * 10 ^ d.length := by rw [Nat.mul_assoc, Nat.mul_comm 10]
    omega
theorem val_lt (d : List Nat) (h : AllDigits d) : digitsVal d < 10 ^ d.length := by
  have := fold_lt d 0 h
  rw [Nat.zero_add, Nat.one_mul] at this
  exact this
theorem num_mono {f a : Nat} (h : f ≤ a) : (numL f).length ≤ (numL a).length := by
  have h1 := val_lt (numL a) (numL_digits a)
  rw [numL_val] at h1
  exact numL_len (List.length_pos_iff.mpr (numL_ne a)) (by omega)
theorem lifeT_len (n : Nat) : (lifeT n).length = 2 * (numL n).length + 1 := by
  unfold lifeT
  rw [List.length_append, List.length_cons]; omega
theorem full_len {f a : Nat} (h : f ≤ a) : (full f).length ≤ (lifeT a).length := by
  unfold full
  split
  · exact Nat.zero_le _
  · rw [lifeT_len, lifeT_len]
    have := num_mono h
    omega
theorem mix_zero (a f : Nat) : mix a f 0 = full f := by unfold mix; simp
theorem mix_torn {a f : Nat} (h : f ≤ a) (j k : Nat) : (lifeT a).take k ++ (mix a f j).drop k = mix a f (max k j) := by
  have hl := full_len h
  unfold mix
  generalize lifeT a = N at hl ⊢
  generalize full f = F at hl ⊢
  rw [List.drop_append, List.length_take, List.drop_drop]
  by_cases hkj : k ≤ j
  · rw [Nat.max_eq_right hkj, ← List.append_assoc]
    have e1 : N.take k ++ (N.take j).drop k = N.take j := by
      have := List.take_append_drop k (N.take j)
      rwa [List.take_take, Nat.min_eq_left hkj] at this
    rw [e1]
    congr 1
    by_cases hn : k ≤ N.length
    · rw [show k - min j N.length = 0 by omega, Nat.add_zero]
    · rw [List.drop_eq_nil_of_le (by omega), List.drop_eq_nil_of_le (by omega)]
  · rw [Nat.max_eq_left (by omega), List.drop_eq_nil_of_le (by rw [List.length_take]; omega), List.nil_append]
    congr 1
    by_cases hn : j ≤ N.length
    · rw [show j + (k - min j N.length) = k by omega]
    · rw [List.drop_eq_nil_of_le (by omega), List.drop_eq_nil_of_le (by omega)]
theorem free_no {n : Nat} {l : List Nat} (h : 61 ∉ l) (e : l = lifeT n) : False := by
  apply h
  rw [e]
  unfold lifeT
  exact List.mem_append_right _ List.mem_cons_self
theorem split_free {d e r s : List Nat} (hd : 61 ∉ d) (he : 61 ∉ e) (h : d ++ 61 :: r = e ++ 61 :: s) : d = e ∧ r = s := by
  have t1 := take_free (r := r) hd
  rw [h, take_free he] at t1
  subst t1
  exact ⟨rfl, (List.cons.inj (List.append_cancel_left h)).2⟩
theorem num_free (n : Nat) : 61 ∉ numL n := dig_free (numL_digits n)
theorem mix_life {a f k : Nat} : lifeF (mix a f k) = 0 ∨ lifeF (mix a f k) = f ∨ (lifeF (mix a f k) = a ∧ mix a f k = lifeT a) := by
  by_cases h0 : lifeF (mix a f k) = 0
  · exact .inl h0
  right
  obtain ⟨n, e, h1, _, hn⟩ := lifeF_ne h0
  rw [hn]
  unfold mix at e
  by_cases hk : (numL a).length + 1 ≤ k
  · right
    have e1 : (lifeT a).take k = numL a ++ 61 :: (numL a).take (k - (numL a).length - 1) := by
      unfold lifeT
      rw [List.take_append, List.take_of_length_le (by omega), show k - (numL a).length = (k - (numL a).length - 1) + 1 by omega, List.take_succ_cons]
      rfl
    rw [e1, List.append_assoc, List.cons_append] at e
    have := split_free (num_free a) (num_free n) e
    have e2 := numL_inj this.1
    refine ⟨e2.symm, ?_⟩
    unfold mix
    rw [e1, List.append_assoc, List.cons_append, e]
    rw [e2]
  · left
    have e1 : (lifeT a).take k = (numL a).take k := by
      unfold lifeT
      rw [List.take_append, show k - (numL a).length = 0 by omega, List.take_zero, List.append_nil]
    have fr : 61 ∉ (numL a).take k := fun m => num_free a (List.mem_of_mem_take m)
    rw [e1] at e
    unfold full at e
    split at e
    · rw [List.drop_nil, List.append_nil] at e
      exact (free_no fr e).elim
    · unfold lifeT at e
      by_cases hg : k ≤ (numL f).length
      · rw [List.drop_append, show k - (numL f).length = 0 by omega, List.drop_zero, ← List.append_assoc] at e
        have fr2 : 61 ∉ (numL a).take k ++ (numL f).drop k := fun m => by
          rcases List.mem_append.mp m with m | m
          · exact fr m
          · exact num_free f (List.mem_of_mem_drop m)
        have := split_free fr2 (num_free n) e
        exact (numL_inj this.2).symm
      · exfalso
        rw [List.drop_append, List.drop_eq_nil_of_le (by omega), List.nil_append, show k - (numL f).length = (k - (numL f).length - 1) + 1 by omega, List.drop_succ_cons] at e
        refine free_no (n := n) ?_ e
        intro m
        rcases List.mem_append.mp m with m | m
        · exact fr m
        · exact num_free f (List.mem_of_mem_drop m)
theorem full_life {m : Nat} (h : m ≤ 1000000000000) : lifeF (full m) = m := by
  unfold full
  split
  · rename_i e; rw [e]; rfl
  · exact lifeF_T (by omega) h
/-- the two texts between two calls -/
def Mix (m : Nat) (t : List Nat) : Prop := ∃ f k, f ≤ m ∧ t = mix (m + 1) f k
def St2 (x y : List Nat) (m : Nat) : Prop := max (lifeF x) (lifeF y) = m ∧ if lifeF x ≤ lifeF y then Mix m x ∧ y = full m else Mix m y ∧ x = full m
theorem Mix.full {m f : Nat} (h : f ≤ m) : Mix m (full f) := ⟨f, 0, h, (mix_zero _ _).symm⟩
theorem st_first {x y : List Nat} {m : Nat} (hm : m ≤ 1000000000000) (h1 : Mix m x) (h2 : y = full m) (h3 : lifeF x ≤ m) : St2 x y m := by
  have e := full_life hm
  subst h2
  refine ⟨by rw [e]; omega, ?_⟩
  rw [if_pos (by rw [e]; exact h3)]
  exact ⟨h1, rfl⟩
theorem full_of {t : List Nat} {m : Nat} (h : lifeF t = m) (h0 : 1 ≤ m) : t = full m := by
  obtain ⟨n, e, _, _, hn⟩ := lifeF_ne (l := t) (by omega)
  unfold full
  rw [if_neg (by omega), e, show n = m by omega]
theorem st_second {x y : List Nat} {m : Nat} (hm : m ≤ 1000000000000) (h0 : 1 ≤ m) (h1 : Mix m y) (h2 : x = full m) (h3 : lifeF y ≤ m) : St2 x y m := by
  have e := full_life hm
  subst h2
  refine ⟨by rw [e]; omega, ?_⟩
  by_cases h : lifeF y = m
  · rw [if_pos (by rw [e, h]; exact Nat.le_refl _)]
    exact ⟨.full (Nat.le_refl _), full_of h h0⟩
  · rw [if_neg (by rw [e]; omega)]
    exact ⟨h1, rfl⟩
theorem full_succ (m : Nat) : full (m + 1) = lifeT (m + 1) := if_neg (by omega)
theorem st_full {x y : List Nat} {m : Nat} (hm : m + 1 ≤ 1000000000000) (h : St2 x y m) : if lifeF x ≤ lifeF y then St2 (lifeT (m + 1)) y (m + 1) else St2 x (lifeT (m + 1)) (m + 1) := by
  obtain ⟨_, h2⟩ := h
  by_cases hc : lifeF x ≤ lifeF y
  · rw [if_pos hc] at h2 ⊢
    rw [h2.2]
    exact st_second hm (by omega) (.full (by omega)) (full_succ m).symm (by rw [full_life (by omega)]; omega)
  · rw [if_neg hc] at h2 ⊢
    rw [h2.2]
    exact st_first hm (.full (by omega)) (full_succ m).symm (by rw [full_life (by omega)]; omega)
theorem st_torn {x y : List Nat} {m : Nat} (hm : m + 1 ≤ 1000000000000) (h : St2 x y m) (k : Nat) :
    if lifeF x ≤ lifeF y then ∃ m', (m' = m ∨ m' = m + 1) ∧ St2 ((lifeT (m + 1)).take k ++ x.drop k) y m' else ∃ m', (m' = m ∨ m' = m + 1) ∧ St2 x ((lifeT (m + 1)).take k ++ y.drop k) m' := by
  obtain ⟨h0, h2⟩ := h
  by_cases hc : lifeF x ≤ lifeF y
  · rw [if_pos hc] at h2 ⊢
    obtain ⟨⟨f, j, hf, rfl⟩, rfl⟩ := h2
    rw [mix_torn (by omega)]
    rcases mix_life (a := m + 1) (f := f) (k := max k j) with e | e | ⟨e, e2⟩
    · exact ⟨m, .inl rfl, st_first (by omega) ⟨f, _, hf, rfl⟩ rfl (by omega)⟩
    · exact ⟨m, .inl rfl, st_first (by omega) ⟨f, _, hf, rfl⟩ rfl (by omega)⟩
    · rw [e2]
      exact ⟨m + 1, .inr rfl, st_second hm (by omega) (.full (by omega)) (full_succ m).symm (by rw [full_life (by omega)]; omega)⟩
  · rw [if_neg hc] at h2 ⊢
    obtain ⟨⟨f, j, hf, rfl⟩, rfl⟩ := h2
    have m1 : 1 ≤ m := by rw [full_life (by omega)] at hc; omega
    rw [mix_torn (by omega)]
    rcases mix_life (a := m + 1) (f := f) (k := max k j) with e | e | ⟨e, e2⟩
    · exact ⟨m, .inl rfl, st_second (by omega) m1 ⟨f, _, hf, rfl⟩ rfl (by omega)⟩
    · exact ⟨m, .inl rfl, st_second (by omega) m1 ⟨f, _, hf, rfl⟩ rfl (by omega)⟩
    · rw [e2]
      exact ⟨m + 1, .inr rfl, st_first hm (.full (by omega)) (full_succ m).symm (by rw [full_life (by omega)]; omega)⟩
/-- two texts at the start -/
theorem st_start {a b : Nat} (ha : a ≤ 1000000000000) (hb : b ≤ 1000000000000) (h : 1 ≤ a ∨ 1 ≤ b ∨ (a = 0 ∧ b = 0)) : St2 (full a) (full b) (max a b) := by
  by_cases hc : a ≤ b
  · rw [Nat.max_eq_right hc]
    exact st_first hb (.full hc) rfl (by rw [full_life ha]; exact hc)
  · rw [Nat.max_eq_left (by omega)]
    exact st_second ha (by omega) (.full (by omega)) rfl (by rw [full_life hb]; omega)
end Mus

set_option maxRecDepth 100000
set_option maxHeartbeats 4000000
namespace Mus
open PySem L2 TL PySem.NumText
local macro_rules | `(tactic| walk_at "rd") => `(tactic| first
  | refine ⟨_, rfl, ?_⟩ | refine ⟨(True.intro : True), ?_⟩
  | refine ⟨_, _, rfl, rfl, (⟨by decide, by decide, by decide⟩ : CPow _ _), ?_⟩
  | refine ⟨_, _, rfl, rfl, (⟨by decide, by decide⟩ : CDiv _ _), ?_⟩
  | refine ⟨_, _, rfl, rfl, (by show (0 : Int) < _; decide), ?_⟩
  | refine ⟨_, _, rfl, rfl, ?_⟩ | refine ⟨rfl, ?_⟩ | refine iteT ?_ | refine iteF ?_ | refine ⟨_, _, rfl, ?_⟩ | refine .inl ⟨_, rfl, ?_⟩
  | refine ⟨_, _, _, _, _, rfl, (by assumption), (by assumption), (by assumption), rfl, ?_⟩ | refine ⟨_, _, _, _, rfl, rfl, SqT.of (by assumption), rfl, ?_⟩ | refine ⟨_, _, rfl, SqT.of (by assumption), rfl, ?_⟩
  | refine ⟨_, _, _, _, _, rfl, .ty _, Rp.ty (by assumption), kit_int _, ?_⟩ | refine ⟨_, _, _, _, _, rfl, .ty _, Rp.ty (by assumption), kit_bool _, ?_⟩
  | refine ⟨_, _, _, _, _, rfl, .ty _, Rp.ty (by assumption), kit_str _, ?_⟩ | refine ⟨_, _, _, _, _, rfl, .ty _, Rp.ty (by assumption), kit_tup _, ?_⟩)
local macro_rules | `(tactic| walk_at "cal") => `(tactic| first
  | refine ⟨_, _, _, _, _, rfl, (by assumption), ?_⟩ | refine ⟨_, _, _, _, _, rfl, (by assumption), (by assumption), ?_⟩)
local macro_rules | `(tactic| walk_at "sq") => `(tactic| first
  | refine ⟨_, _, rfl, Or.inr (SqT.of (by assumption)), ?_⟩ | refine ⟨_, _, _, _, rfl, rfl, SqT.of (by assumption), rfl, ?_⟩)
local macro_rules | `(tactic| walk_at "rds") => `(tactic| repeat first | walk_at "rd" | walk_at "cal" | walk_at "sq")
local macro_rules | `(tactic| walk_at "ze") => `(tactic| repeat first
  | exact zes_nil | exact ze_bl | exact ze_str | exact ze_non | apply zes_cons | apply ze_tup | apply ze_lst | apply ze_cat | exact di_c | exact di_v rfl | apply di_opC | apply di_op | apply di_neg | apply ze_i | (refine (⟨?_, ?_, ?_⟩ : CPow _ _) <;> decide) | exact Nat.le_of_ble_eq_true rfl | exact ze_varD rfl (by assumption))
local macro_rules | `(tactic| walk_at "rdz") => `(tactic| repeat (fail_if_success (first | show tLst _ _ _ _ | show tAsg (tLst _) _ _ _ _ | show tSeq (tAsg (tLst _) _) _ _ _ _)); first | walk_at "rd" | walk_at "cal" | walk_at "sq")
structure TL41 (K : PySem.W.Frag) (mg : Str → Option Value) (CM CB CP CO CL C CC CE : Addr) : Prop extends TR K mg CM CB CP CO CL where
  b_len : mg "len" = none
  b_isinstance : mg "isinstance" = none
  b_int : mg "int" = none
  b_bool : mg "bool" = none
  b_range : mg "range" = none
  b_min : mg "min" = none
  b_max : mg "max" = none
  b_abs : mg "abs" = none
  cl_Cells : L2.Cls K C
  g_DiskCrashed : mg "DiskCrashed" = some (.ref CC)
  m_BB : PySem.W.exmOne K (.ref CB) (.ref CB) = some true
  m_PP : PySem.W.exmOne K (.ref CP) (.ref CP) = some true
  m_CB : PySem.W.exmOne K (.ref CC) (.ref CB) = some false
  m_CC : PySem.W.exmOne K (.ref CC) (.ref CC) = some true
def eR (k : Int) : PyData := .tuple [.str "refused", .int k]
section
variable {P : Program} {w : World} {K : PySem.W.Frag} {mg : Str → Option Value} {base : Heap} {CM CB CP CO CV CW C CC CE CL : Addr}
def sp_cell20 (K : PySem.W.Frag) : Sp := fun vs H Q _ => ∃ (a : Addr) (ns : List Int) (k : Int), vs = [.ref a, .int k] ∧ 0 ≤ k ∧ SqL K H a (ns.map V.int) ∧ ∀ x, Q (.int x) H
abbrev s__law_cell : Stmt := top 61
abbrev N__law_cell : List Str := ["script", "k"]
abbrev P__law_cell : List Str := ["script", "k"]
theorem sc__law_cell : FnScope N__law_cell P__law_cell (defScope s__law_cell) := ⟨rfl, rfl, rfl, by decide +kernel, rfl, by decide +kernel, by decide +kernel⟩
theorem ok__law_cell {f : Addr} {fd : FuncData} (T : TL41 K mg CM CB CP CO CL C CC CE) (F : Fun K "_law_cell" "_law_cell" s__law_cell f fd) : FnOk P w K mg base CX0 (1) f fd P__law_cell (sp_cell20 K) := by
  have nd := sc__law_cell.nd
  refine F.ok sc__law_cell (fun vs H Q E h => ?_) (fun cdv A outer s H vs Q E hr h => ?_)
  · obtain ⟨_, _, _, rfl, _⟩ := h
    rfl
  · obtain ⟨a, ns, k, rfl, k0, hS, q⟩ := h
    refine ⟨_, (pss_cons (ps_if (pt_cmpR op_lt (pv 1) (pe_callB call_len_seq (by rfl) T.b_len (by decide +kernel) (pa_cons (pv 0) pa_nil)) (nomark _))
        (pss_one (ps_ret (pe_ix ix_list (pv 0) (pv 1) (fun _ _ => rfl))))
        pss_nil)
      (pss_one (ps_ret pe_int))), ?_⟩
    have hl : (ns.map V.int).length = ns.length := List.length_map _
    walk_at "rds"
    refine ⟨a, _, rfl, .inl hS, ?_⟩
    walk_at "rds"
    refine iB (fun h => ?_) (fun h => ?_)
    · have hk : k < (((ns.map V.int).length : Nat) : Int) := of_decide_eq_true h
      have hk2 : k.toNat < ns.length := by omega
      walk_at "rds"
      exact ⟨a, _, _, .int ns[k.toNat], rfl, rfl, hS, at_int k0 (by rw [List.getElem?_map, List.getElem?_eq_getElem hk2]; rfl), q _⟩
    · exact q _
abbrev s__law_good : Stmt := top 64
abbrev N__law_good : List Str := ["value", "least", "most"]
abbrev P__law_good : List Str := ["value", "least", "most"]
theorem sc__law_good : FnScope N__law_good P__law_good (defScope s__law_good) := ⟨rfl, rfl, rfl, by decide +kernel, rfl, by decide +kernel, by decide +kernel⟩
theorem ok_good {f : Addr} {fd : FuncData} (T : TL41 K mg CM CB CP CO CL C CC CE) (F : Fun K "_law_good" "_law_good" s__law_good f fd) : FnOk P w K mg base CX0 1 f fd P__law_good spI := by
  have nd := sc__law_good.nd
  refine F.ok sc__law_good (fun vs H Q E h => ?_) (fun cdv A outer s H vs Q E hr h => ?_)
  · obtain ⟨_, _, _, _, _, rfl, _⟩ := h
    rfl
  · obtain ⟨p, v, d, a, b, rfl, hd, q⟩ := h
    refine ⟨_, (pss_one (ps_ret (pe_and (pe_callB call_isi (by rfl) T.b_isinstance (by decide +kernel) (pa_cons (pv 0) (pa_cons (pe_ty "int" T.b_int) pa_nil))) (pe_and (pe_not (pe_callB call_isi (by rfl) T.b_isinstance (by decide +kernel) (pa_cons (pv 0) (pa_cons (pe_ty "bool" T.b_bool) pa_nil)))) (pe_and (pe_cmpR op_ge (pv 0) (pv 1) (nomark _)) (pe_one (pe_cmpR op_le (pv 0) (pv 2) (nomark _)))))))), ?_⟩
    have hd' := hd
    cases hd <;> walk_at "rds"
    case int =>
      refine iB (fun h => ?_) (fun h => ?_)
      · walk_at "rds"
        exact ansB q (by simp [isInt, h])
      · exact ansB q (by simp [isInt, h])
    all_goals exact q
abbrev s__law_made : Stmt := top 62
abbrev N__law_made : List Str := ["process", "count", "cells"]
abbrev P__law_made : List Str := ["process", "count", "cells"]
theorem sc__law_made : FnScope N__law_made P__law_made (defScope s__law_made) := ⟨rfl, rfl, rfl, by decide +kernel, rfl, by decide +kernel, by decide +kernel⟩
def sp_made (CM CC C : Addr) : Sp := fun vs H Q _ => ∃ (q0 pc l : Addr) (vp vc : V) (dp dc : PyData) (ts : Str × Str) (pas : Option Int) (keep : Int), vs = [vp, vc, .ref pc] ∧ Rp q0 H vp dp ∧ Rp q0 H vc dc ∧ CAt C H pc l ts false pas keep ∧ 0 ≤ keep ∧ ts.1.length ≤ 1000 ∧ ts.2.length ≤ 1000 ∧
  (isProc dc dp = false → ∀ t H', Same H H' → TD H' (.ref t) (eR 1) → Q (.ref t) H') ∧
  (isProc dc dp = true → ∀ z : Str, tl z = lifeT (nextL ts) →
    (pas = some 0 → ∀ t H', CAt C H' pc l (setT ts (cellL ts) (torn z (getT ts (cellL ts)) keep)) true (some 0) keep → Keeps pc l H H' → TD H' (.ref t) (eR 2) → Q (.ref t) H') ∧
    (pas ≠ some 0 → ∀ (i n : Int) v H', dp = .int i → dc = .int n → CAt C H' pc l (setT ts (cellL ts) z) false (pas.map (· - 1)) keep → Keeps pc l H H' → TD H' v (eM (i, (nextL ts : Nat))) → Q v H'))
theorem ok_made {f : Addr} {fd : FuncData} (T : TL41 K mg CM CB CP CO CL C CC CE) (k_Member : MkOkX P w K mg base CM "Member" P_Member___init__ 5 (sp_mini w CM CO CB C CC)) (m_Member_member : MethOk P w K mg base CX0 CM "member" P_Member_member 1 (sp_mmem w CM CO))
    (F : Fun K "_law_made" "_law_made" s__law_made f fd) : FnOk P w K mg base CX0 7 f fd P__law_made (sp_made CM CC C) := by
  have nd := sc__law_made.nd
  refine F.ok sc__law_made (fun vs H Q E h => ?_) (fun cdv A outer s H vs Q E hr h => ?_)
  · obtain ⟨_, _, _, _, _, _, _, _, _, _, rfl, _⟩ := h
    rfl
  · obtain ⟨q0, pc, l, vp, vc, dp, dc, ts, pas, keep, rfl, rvp, rvc, hc, k0, l1, l2, q1, q2⟩ := h
    have hs := sl
    obtain ⟨⟨dxc, hoc⟩, hlc⟩ := id hc
    refine ⟨_, (pss_one (ps_tryX rfl rfl takes0 (fun W pn xe tk _ => (pss_one (ps_ret (pmeth0 m_Member_member T.cl_Member (pmakeA k_Member tk hr (pa_cons (pv 0) (pa_cons (pv 1) (pa_cons (pv 2) pa_nil)))) hr))))
        (hd_one ⟨rfl, by decide, .inl T.g_BadMember⟩ (fun a oe cls d pn hz hf => (pss_one (ps_ret (pe_tup (pa_cons pe_str (pa_cons pe_int pa_nil)))))) (hd_one ⟨rfl, by decide, .inl T.g_DiskCrashed⟩ (fun a oe cls d pn hz hf => (pss_one (ps_ret (pe_tup (pa_cons pe_str (pa_cons pe_int pa_nil)))))) .nil)))), ?_⟩
    walk_at "rds"
    intro x dy nx ndy nxy
    have sa := same_new ndy (.own x)
    have nx2 : (upd H dy (.own x)) x = none := by rw [upd_ne nxy.symm]; exact nx
    have sb := same_new nx2 (.ins CM dy [])
    have sab := sa.trans sb
    have hx : (upd (upd H dy (.own x)) x (.ins CM dy [])) x = some (.ins CM dy []) := upd_same
    generalize upd (upd H dy (.own x)) x (.ins CM dy []) = H1 at *
    have xpc : x ≠ pc := (ne_of_none hoc nx).symm
    have xl : x ≠ l := (ne_of_none hlc nx).symm
    refine ⟨x, dy, q0, pc, l, vp, vc, dp, dc, ts, pas, keep, rfl, hx, rvp.mono (But.of sab), rvc.mono (But.of sab), hc.same sab, k0, l1, l2, (fun hp => ?_), fun hp z hz => ⟨fun hpa H2 hc2 kk => ?_, fun hpa i n H2 H3 a e1 e2 hc2 kk G fa M hfr => ?_⟩⟩
    · refine ⟨true, T.m_BB, fun _ b nb => ?_, fun h => by cases h⟩
      walk_at "rds"
      refine ⟨by show 2 ≤ sizeLine; omega, fun t nt => ?_⟩
      have s2 := same_new nt (.tup [V.str (Str.ofString "refused"), V.int 1])
      exact q1 hp t _ (sab.trans s2) (.tup upd_same (by show 2 ≤ 100000; decide) (.cons (.str _) (.cons (.int _) .nil)))
    · refine ⟨false, T.m_CB, fun h => (by cases h), fun _ => ⟨true, T.m_CC, fun _ b nb => ?_, fun h => by cases h⟩⟩
      walk_at "rds"
      refine ⟨by show 2 ≤ sizeLine; omega, fun t nt => ?_⟩
      have s2 := same_new nt (.tup [V.str (Str.ofString "refused"), V.int 2])
      exact (q2 hp z hz).1 hpa t _ (hc2.same s2) (fun b o h n1 n2 => s2 b o (kk b o (sab b o h) n1 n2)) (.tup upd_same (by show 2 ≤ 100000; decide) (.cons (.str _) (.cons (.int _) .nil)))
    · refine ⟨rfl, x, a.dx, _, rfl, M.ob, rfl, x, a, _, _, _, _, _, rfl, M, ?_⟩
      have hc3 : CAt C H3 pc l (setT ts (cellL ts) z) false (pas.map (· - 1)) keep := by
        obtain ⟨⟨dx2, ho2⟩, hl2⟩ := hc2
        exact ⟨⟨dx2, G.k _ _ ho2 xpc.symm⟩, G.k _ _ hl2 xl.symm⟩
      exact (q2 hp z hz).2 hpa i n a.vme H3 e1 e2 hc3 (fun b o h n1 n2 => G.k b o (kk b o (sab b o h) n1 n2) (ne_of_none h nx)) M.me
abbrev s__law_cast : Stmt := top 63
abbrev N__law_cast : List Str := ["member", "value"]
abbrev P__law_cast : List Str := ["member", "value"]
theorem sc__law_cast : FnScope N__law_cast P__law_cast (defScope s__law_cast) := ⟨rfl, rfl, rfl, by decide +kernel, rfl, by decide +kernel, by decide +kernel⟩
def sp_lcst (w : World) (CM CO : Addr) : Sp := fun vs H Q _ => ∃ (q0 p : Addr) (a : MbA) (me : Mem) (cnt : Int) (s : OS) (evs : List PyData) (wt : List Str) (v : V) (d : PyData), vs = [.ref p, v] ∧ MbAt w CM CO H p a me cnt s evs wt ∧ Rp q0 H v d ∧ Her Ok d ∧ a.fr = false ∧ s.log.length ≤ 90000 ∧ s.pend.length ≤ 90000 ∧ s.mems.length ≤ 1000 ∧ evs.length ≤ 90000 ∧
  isPay d = false ∧ ∀ t H', Same H H' → TD H' (.ref t) (eR 1) → Q (.ref t) H'
theorem ok_lcst {f : Addr} {fd : FuncData} (T : TL41 K mg CM CB CP CO CL C CC CE) (m_Member_cast : MethOk P w K mg base (L2.CX P w) CM "cast" P_Member_cast 4 (sp_mcast w CM CO CP))
    (F : Fun K "_law_cast" "_law_cast" s__law_cast f fd) : FnOk P w K mg base CX0 5 f fd P__law_cast (sp_lcst w CM CO) := by
  have nd := sc__law_cast.nd
  refine F.ok sc__law_cast (fun vs H Q E h => ?_) (fun cdv A outer s H vs Q E hr h => ?_)
  · obtain ⟨_, _, _, _, _, _, _, _, _, _, rfl, _⟩ := h
    rfl
  · obtain ⟨q0, p, a, me, cnt, s, evs, wt, v, d, rfl, M, rv, hd, hfr, bl, bp, bm, be, hp, q⟩ := h
    have hs := sl
    refine ⟨_, (pss_one (ps_tryX rfl rfl takes0 (fun W pn xe tk _ => (pss_one (ps_ret (pmethA m_Member_cast T.cl_Member tk (pv 0) hr (pa_cons (pv 1) pa_nil)))))
        (hd_one ⟨rfl, by decide, .inl T.g_BadPayload⟩ (fun a oe cls d pn hz hf => (pss_one (ps_ret (pe_tup (pa_cons pe_str (pa_cons pe_int pa_nil)))))) .nil))), ?_⟩
    walk_at "rds"
    refine ⟨p, a.dx, _, rfl, M.ob, rfl, ?_⟩
    walk_at "rds"
    refine ⟨q0, p, a, me, cnt, s, evs, wt, v, d, rfl, M, rv, hd, hfr, bl, bp, bm, be, (fun _ => ?_), fun h => by rw [hp] at h; cases h⟩
    refine ⟨true, T.m_PP, fun _ b nb => ?_, fun h => by cases h⟩
    walk_at "rds"
    refine ⟨by show 2 ≤ sizeLine; omega, fun t nt => ?_⟩
    have s2 := same_new nt (.tup [V.str (Str.ofString "refused"), V.int 1])
    exact q t _ s2 (.tup upd_same (by show 2 ≤ 100000; decide) (.cons (.str _) (.cons (.int _) .nil)))
end
end Mus

set_option maxRecDepth 100000
set_option maxHeartbeats 8000000
namespace Mus
open PySem L2 TL PySem.NumText
local macro_rules | `(tactic| walk_at "rd") => `(tactic| first
  | refine ⟨_, rfl, ?_⟩ | refine ⟨(True.intro : True), ?_⟩
  | refine ⟨_, _, rfl, rfl, (⟨by decide, by decide, by decide⟩ : CPow _ _), ?_⟩
  | refine ⟨_, _, rfl, rfl, (⟨by decide, by decide⟩ : CDiv _ _), ?_⟩
  | refine ⟨_, _, rfl, rfl, (by show (0 : Int) < _; decide), ?_⟩
  | refine ⟨_, _, rfl, rfl, ?_⟩ | refine ⟨rfl, ?_⟩ | refine iteT ?_ | refine iteF ?_ | refine ⟨_, _, rfl, ?_⟩ | refine .inl ⟨_, rfl, ?_⟩
  | refine ⟨_, _, _, _, _, rfl, (by assumption), (by assumption), (by assumption), rfl, ?_⟩ | refine ⟨_, _, _, _, rfl, rfl, SqT.of (by assumption), rfl, ?_⟩ | refine ⟨_, _, rfl, SqT.of (by assumption), rfl, ?_⟩
  | refine ⟨_, _, _, _, _, rfl, .ty _, Rp.ty (by assumption), kit_int _, ?_⟩ | refine ⟨_, _, _, _, _, rfl, .ty _, Rp.ty (by assumption), kit_bool _, ?_⟩
  | refine ⟨_, _, _, _, _, rfl, .ty _, Rp.ty (by assumption), kit_str _, ?_⟩ | refine ⟨_, _, _, _, _, rfl, .ty _, Rp.ty (by assumption), kit_tup _, ?_⟩)
local macro_rules | `(tactic| walk_at "cal") => `(tactic| first
  | refine ⟨_, _, _, _, _, rfl, (by assumption), ?_⟩ | refine ⟨_, _, _, _, _, rfl, (by assumption), (by assumption), ?_⟩)
local macro_rules | `(tactic| walk_at "sq") => `(tactic| first
  | refine ⟨_, _, rfl, Or.inr (SqT.of (by assumption)), ?_⟩ | refine ⟨_, _, _, _, rfl, rfl, SqT.of (by assumption), rfl, ?_⟩)
local macro_rules | `(tactic| walk_at "rds") => `(tactic| repeat first | walk_at "rd" | walk_at "cal" | walk_at "sq")
local macro_rules | `(tactic| walk_at "ze") => `(tactic| repeat first
  | exact zes_nil | exact ze_bl | exact ze_str | exact ze_non | apply zes_cons | apply ze_tup | apply ze_lst | apply ze_cat | exact di_c | exact di_v rfl | apply di_opC | apply di_op | apply di_neg | apply ze_i | (refine (⟨?_, ?_, ?_⟩ : CPow _ _) <;> decide) | exact Nat.le_of_ble_eq_true rfl | exact ze_varD rfl (by assumption))
local macro_rules | `(tactic| walk_at "rdz") => `(tactic| repeat (fail_if_success (first | show tLst _ _ _ _ | show tAsg (tLst _) _ _ _ _ | show tSeq (tAsg (tLst _) _) _ _ _ _)); first | walk_at "rd" | walk_at "cal" | walk_at "sq")
theorem tl_torn (a b : Str) {k : Int} (h : 0 ≤ k) : tl (torn a b k) = (tl a).take k.toNat ++ (tl b).drop k.toNat := by
  unfold torn
  rw [tl_append]
  have e1 : tl (cutS a none (some k)) = (tl a).take k.toNat := by
    show (a.cps.toList.drop 0).take (HT.sIx a.length a.length (some k) - 0) = _
    rw [sIx_pos _ h, List.drop_zero, Nat.sub_zero, len_tl]
    show (tl a).take _ = _
    rcases Nat.le_total k.toNat (tl a).length with h | h
    · rw [Nat.min_eq_left h]
    · rw [Nat.min_eq_right h, List.take_length, List.take_of_length_le h]
  have e2 : tl (cutS b (some k) none) = (tl b).drop k.toNat := by
    show (b.cps.toList.drop (HT.sIx b.length 0 (some k))).take (b.length - HT.sIx b.length 0 (some k)) = _
    rw [sIx_pos _ h, len_tl]
    show ((tl b).drop _).take _ = _
    rcases Nat.le_total k.toNat (tl b).length with h | h
    · rw [Nat.min_eq_left h, List.take_of_length_le (by rw [List.length_drop]; omega)]
    · rw [Nat.min_eq_right h, List.drop_of_length_le h, List.drop_of_length_le (Nat.le_refl _), List.take_nil]
  rw [e1, e2]
theorem sq_keeps {K : PySem.W.Frag} {C : Addr} {H H' : Hp} {a p l : Addr} {ns : List Int} {ts : Str × Str} {dead : Bool} {pas : Option Int} {kc : Int} (h : SqL K H a (ns.map V.int)) (c : CAt C H p l ts dead pas kc) (k : Keeps p l H H') : SqL K H' a (ns.map V.int) := by
  obtain ⟨⟨dx, ho⟩, hl⟩ := c
  rcases h with (h | ⟨o, h⟩) | h
  · refine .inl (.inl (k _ _ h (ne_of h ho (by intro z; cases z)) (ne_of h hl fun z => ?_)))
    injection z with z
    cases ns with
    | nil => cases z
    | cons n ns => rw [List.map_cons] at z; injection z with z; cases z
  · exact .inl (.inr ⟨o, k _ _ h (ne_of h ho (by intro z; cases z)) (ne_of h hl (by intro z; cases z))⟩)
  · exact .inr h
theorem next_fine {ts : Str × Str} {z : Str} (h1 : nextL ts ≤ 1000000000000) (hz : tl z = lifeT (nextL ts)) : nextL (setT ts (cellL ts) z) = nextL ts + 1 := by
  have n1 : 1 ≤ nextL ts := by unfold nextL; omega
  have e : lifeF (tl z) = nextL ts := by rw [hz]; exact lifeF_T n1 h1
  unfold cellL setT
  by_cases hc : lifeF (tl ts.1) ≤ lifeF (tl ts.2)
  · rw [if_pos hc, if_pos rfl]
    show max (lifeF (tl z)) (lifeF (tl ts.2)) + 1 = _
    rw [e]; unfold nextL at *; omega
  · rw [if_neg hc, if_neg (by decide)]
    show max (lifeF (tl ts.1)) (lifeF (tl z)) + 1 = _
    rw [e]; unfold nextL at *; omega
theorem torn0 (a b : Str) : tl (torn a b 0) = tl b := by
  rw [tl_torn _ _ (Int.le_refl 0)]; simp
theorem next_torn {ts : Str × Str} {z : Str} : nextL (setT ts (cellL ts) (torn z (getT ts (cellL ts)) 0)) = nextL ts := by
  unfold cellL setT getT
  by_cases hc : lifeF (tl ts.1) ≤ lifeF (tl ts.2)
  · rw [if_pos hc, if_pos rfl, if_pos rfl]
    show max (lifeF (tl (torn z ts.1 0))) (lifeF (tl ts.2)) + 1 = _
    rw [torn0]; rfl
  · rw [if_neg hc, if_neg (by decide), if_neg (by decide)]
    show max (lifeF (tl ts.1)) (lifeF (tl (torn z ts.2 0))) + 1 = _
    rw [torn0]; rfl
theorem len_life {z : Str} {n : Nat} (hn : n ≤ 1000000000001) (h : tl z = lifeT n) : z.length ≤ 1000 := by
  have h13 : (numL n).length ≤ 13 := numL_len (k := 13) (by decide) (by omega)
  rw [len_tl, h, lifeT_len]; omega
theorem len_set {ts : Str × Str} {i : Int} {z : Str} (h1 : ts.1.length ≤ 1000) (h2 : ts.2.length ≤ 1000) (h : z.length ≤ 1000) : (setT ts i z).1.length ≤ 1000 ∧ (setT ts i z).2.length ≤ 1000 := by
  unfold setT
  split
  · exact ⟨h, h2⟩
  · exact ⟨h1, h⟩
theorem len_torn0 {ts : Str × Str} {i : Int} {z : Str} (h1 : ts.1.length ≤ 1000) (h2 : ts.2.length ≤ 1000) : (torn z (getT ts i) 0).length ≤ 1000 := by
  rw [len_tl, torn0, ← len_tl]
  unfold getT
  split <;> assumption
theorem Keeps.tup {C : Addr} {H H' : Hp} {p l : Addr} {ts : Str × Str} {dead : Bool} {pas : Option Int} {kc : Int} (k : Keeps p l H H') (c : CAt C H p l ts dead pas kc) : TupK H H' := fun b xs e => by
  obtain ⟨⟨dx, ho⟩, hl⟩ := c
  exact k b _ e (ne_of e ho (by intro z; cases z)) (ne_of e hl (by intro z; cases z))
theorem CAt.nt {C : Addr} {H : Hp} {p l : Addr} {ts : Str × Str} {dead : Bool} {pas : Option Int} {kc : Int} (c : CAt C H p l ts dead pas kc) : ∀ xs, H p ≠ some (.tup xs) := fun xs e => by
  obtain ⟨⟨dx, ho⟩, hl⟩ := c
  rw [ho] at e; cases e
theorem eR_sh (k : Int) : SeqAt.shaped (eR k) = true := by
  have : PyData.strOk "refused" = true := by decide +kernel
  simp [eR, SeqAt.shaped, PyData.canLay0, PyData.canLayAll0, PyData.depth, PyData.depthAll, this]
theorem dp_lst {K : PySem.W.Frag} {H : Hp} {y : Addr} {ds : List PyData} (h : LstAt H y ds) : Dp K H (.ref y) (.list ds) := by
  obtain ⟨vs, h1, h2⟩ := h
  exact .lst (SqL.of h1) h2.dp
def odds (te : Addr) : List V := [.int (-1), .int 0, .int 1, .int 2, .int 11, .int 12, .int 13, .bl true, .bl false, .non, .str "1", .ref te]
theorem pick_odd {H : Hp} {te : Addr} (h : H te = some (.tup [])) {r : Int} (h0 : 0 ≤ r) (h1 : r < 12) : ∃ v d, atI (odds te) r = some v ∧ TD H v d := by
  have hm : r = 0 ∨ r = 1 ∨ r = 2 ∨ r = 3 ∨ r = 4 ∨ r = 5 ∨ r = 6 ∨ r = 7 ∨ r = 8 ∨ r = 9 ∨ r = 10 ∨ r = 11 := by omega
  rcases hm with rfl | rfl | rfl | rfl | rfl | rfl | rfl | rfl | rfl | rfl | rfl | rfl
  · exact ⟨_, _, rfl, .int _⟩
  · exact ⟨_, _, rfl, .int _⟩
  · exact ⟨_, _, rfl, .int _⟩
  · exact ⟨_, _, rfl, .int _⟩
  · exact ⟨_, _, rfl, .int _⟩
  · exact ⟨_, _, rfl, .int _⟩
  · exact ⟨_, _, rfl, .int _⟩
  · exact ⟨_, _, rfl, .bl _⟩
  · exact ⟨_, _, rfl, .bl _⟩
  · exact ⟨_, _, rfl, .non⟩
  · exact ⟨_, _, rfl, .str _⟩
  · exact ⟨_, _, rfl, .tup h (by show 0 ≤ 100000; decide) .nil⟩
theorem isInt_form {d : PyData} {a b : Int} (h : isInt d a b = true) : ∃ i, d = .int i := by
  unfold isInt at h
  split at h
  · exact ⟨_, rfl⟩
  · cases h
theorem proc_no {c d : PyData} (h : isInt c 1 12 = false) : isProc c d = false := by
  unfold isProc
  split
  · rename_i n
    have h : (decide (1 ≤ n) && decide (n ≤ 12)) = false := h
    rw [h]; rfl
  · rfl
theorem proc_yes {n : Int} {d : PyData} (h : isInt (.int n) 1 12 = true) : isProc (.int n) d = isInt d 0 (n - 1) := by
  have h : (decide (1 ≤ n) && decide (n ≤ 12)) = true := h
  show ((decide (1 ≤ n) && decide (n ≤ 12)) && isInt d 0 (n - 1)) = _
  rw [h]; rfl
theorem Keeps.refl (p l : Addr) (H : Hp) : Keeps p l H H := fun _ _ h _ _ => h
theorem Keeps.trans {p l : Addr} {H H1 H2 : Hp} (a : Keeps p l H H1) (b : Keeps p l H1 H2) : Keeps p l H H2 := fun c o h n1 n2 => b c o (a c o h n1 n2) n1 n2
theorem Keeps.of {p l : Addr} {H H' : Hp} (s : Same H H') : Keeps p l H H' := fun c o h _ _ => s c o h
structure L41 (K : PySem.W.Frag) (C sc pc l od te : Addr) (ns : List Int) (H : Hp) (ts : Str × Str) (m : Nat) : Prop where
  hS : SqL K H sc (ns.map V.int)
  hc : ∃ kc, 0 ≤ kc ∧ CAt C H pc l ts false none kc
  ho : H od = some (.lst (odds te))
  ht : H te = some (.tup [])
  nx : nextL ts = m + 1
  l1 : ts.1.length ≤ 1000
  l2 : ts.2.length ≤ 1000
theorem od_ne {C : Addr} {H : Hp} {pc l od te : Addr} {ts : Str × Str} {dead : Bool} {pas : Option Int} {kc : Int} (c : CAt C H pc l ts dead pas kc) (ho : H od = some (.lst (odds te))) : od ≠ pc ∧ od ≠ l := by
  obtain ⟨⟨dx, hp⟩, hl⟩ := c
  exact ⟨ne_of ho hp (by intro z; cases z), ne_of ho hl (by intro z; injection z with z; injection z with z; cases z)⟩
def sp_law (K : PySem.W.Frag) : Sp := fun vs H Q _ => ∃ (a : Addr) (ns : List Int), vs = [.ref a] ∧ SqL K H a (ns.map V.int) ∧ ns.length ≤ 63 ∧ ∀ H', Q (.bl true) H'
section
variable {P : Program} {w : World} {K : PySem.W.Frag} {mg : Str → Option Value} {base : Heap} {CM CB CP CO CV CW C CC CE CL : Addr}
abbrev s_law : Stmt := top 65
abbrev N_law : List Str := ["script", "odd", "cells", "life", "k", "cell", "process", "count", "due", "member", "before", "value", "letter"]
abbrev P_law : List Str := ["script"]
theorem sc_law : FnScope N_law P_law (defScope s_law) := ⟨rfl, rfl, rfl, by decide +kernel, rfl, by decide +kernel, by decide +kernel⟩
theorem ok_law {f : Addr} {fd : FuncData} (T : TL41 K mg CM CB CP CO CL C CC CE) (k_Cells : MkOk P w K mg base C "Cells" P_Cells___init__ 1 (sp_cinit C)) (c__law_cell : DefOk P w K mg base CX0 "_law_cell" P__law_cell 1 (sp_cell20 K)) (c__law_good : DefOk P w K mg base CX0 "_law_good" P__law_good 1 (spI)) (m_Cells_arm : MethOk P w K mg base CX0 C "arm" P_Cells_arm 1 (sp_arm C)) (m_Cells_crash : MethOk P w K mg base CX0 C "crash" P_Cells_crash 1 (sp_crash C))
    (c__law_made : DefOk P w K mg base CX0 "_law_made" P__law_made 7 (sp_made CM CC C)) (k_Member : MkOkX P w K mg base CM "Member" P_Member___init__ 5 (sp_mini w CM CO CB C CC)) (m_Member_view : MethOk P w K mg base CX0 CM "view" P_Member_view 1 (sp_mview w CM CO)) (m_Member_events : MethOk P w K mg base CX0 CM "events" P_Member_events 1 (sp_mevs w CM CO)) (m_Member_frozen : MethOk P w K mg base CX0 CM "frozen" P_Member_frozen 1 (sp_mfro w CM CO)) (m_Member_waiting : MethOk P w K mg base CX0 CM "waiting" P_Member_waiting 1 (sp_mwait w CM CO))
    (c__law_cast : DefOk P w K mg base CX0 "_law_cast" P__law_cast 5 (sp_lcst w CM CO)) (m_Member_receive : MethOk P w K mg base CX0 CM "receive" P_Member_receive 11 (sp_mrecv w CM CO)) (m_Member_cast : MethOk P w K mg base (L2.CX P w) CM "cast" P_Member_cast 4 (sp_mcast w CM CO CP)) (m_Member_log : MethOk P w K mg base CX0 CM "log" P_Member_log 2 (sp_mlog w CM CO)) (m_Member_member : MethOk P w K mg base CX0 CM "member" P_Member_member 1 (sp_mmem w CM CO))
    (F : Fun K "law" "law" s_law f fd) : FnOk P w K mg base CX0 13 f fd P_law (sp_law K) := by
  have nd := sc_law.nd
  refine F.ok sc_law (fun vs H Q E h => ?_) (fun cdv A outer s H vs Q E hr h => ?_)
  · obtain ⟨_, _, rfl, _⟩ := h
    rfl
  · obtain ⟨sc, ns, rfl, hS, h63, q⟩ := h
    have hs := sl
    have hu := hu_of hr
    have hlen : (ns.map V.int).length = ns.length := List.length_map _
    refine ⟨_, (pss_cons (ps_set (i := 1) nd rfl (Or.inl rfl) (pe_lst (pa_cons (pe_un un_neg pe_int) (pa_cons pe_int (pa_cons pe_int (pa_cons pe_int (pa_cons pe_int (pa_cons pe_int (pa_cons pe_int (pa_cons pe_bl (pa_cons pe_bl (pa_cons pe_non (pa_cons pe_str (pa_cons (pe_tup pa_nil) pa_nil))))))))))))))
      (pss_cons (ps_set (i := 2) nd rfl (Or.inl rfl) (pmake0 k_Cells hr))
      (pss_cons (ps_set (i := 3) nd rfl (Or.inl rfl) pe_int)
      (pss_cons (ps_for PassesOwn.never rfl (pi_range1 (by rfl) T.b_range (pa_cons (pe_callB (call_max2 rfl) (by rfl) T.b_max (by decide +kernel) (pa_cons pe_int (pa_cons (pe_callB (call_min2 rfl) (by rfl) T.b_min (by decide +kernel) (pa_cons pe_int (pa_cons (pe_callB call_len_seq (by rfl) T.b_len (by decide +kernel) (pa_cons (pv 0) pa_nil)) pa_nil))) pa_nil))) pa_nil)) (pg_name (i := 4) nd rfl (Or.inl rfl))
        (pss_cons (ps_set (i := 5) nd rfl (Or.inl rfl) (pe_callB call_abs (by rfl) T.b_abs (by decide +kernel) (pa_cons (pe_callTy call_int1 (by rfl) T.b_int (by decide +kernel) (pa_cons (pcall c__law_cell hr (pa_cons (pv 0) (pa_cons (pv 4) pa_nil))) pa_nil)) pa_nil)))
        (pss_cons (ps_set (i := 6) nd rfl (Or.inl rfl) (pe_op op_mod (pv 5) pe_int))
        (pss_cons (ps_set (i := 7) nd rfl (Or.inl rfl) (pe_op op_add pe_int (pe_op op_mod (pe_op op_fdiv (pv 5) pe_int) pe_int)))
        (C8.pss_cut (ps_if (pt_cmpR op_eq (pe_op op_mod (pe_op op_fdiv (pv 5) pe_int) pe_int) pe_int (nomark _))
          (pss_one (ps_set (i := 6) nd rfl (Or.inl rfl) (pe_ix ix_list (pv 1) (pe_op op_mod (pe_op op_fdiv (pv 5) pe_int) pe_int) (fun _ _ => rfl))))
          pss_nil)
        (C8.pss_cut (ps_if (pt_cmpR op_eq (pe_op op_mod (pe_op op_fdiv (pv 5) pe_int) pe_int) pe_int (nomark _))
          (pss_one (ps_set (i := 7) nd rfl (Or.inl rfl) (pe_ix ix_list (pv 1) (pe_op op_mod (pe_op op_fdiv (pv 5) pe_int) pe_int) (fun _ _ => rfl))))
          pss_nil)
        (pss_cons (ps_set (i := 8) nd rfl (Or.inl rfl) (pe_tup (pa_cons pe_str (pa_cons pe_int pa_nil))))
        (C8.pss_cut (ps_if (PW.pt (pw_and (pt_val (pcall c__law_good hr (pa_cons (pv 7) (pa_cons pe_int (pa_cons pe_int pa_nil))))) (pw_and1 (pt_val (pcall c__law_good hr (pa_cons (pv 6) (pa_cons pe_int (pa_cons (pe_op op_sub (pv 7) pe_int) pa_nil))))))))
          (pss_cons (ps_set (i := 8) nd rfl (Or.inl rfl) (pe_tup (pa_cons (pv 6) (pa_cons (pe_op op_add (pv 3) pe_int) pa_nil))))
          (pss_cons (ps_set (i := 3) nd rfl (Or.inl rfl) (pe_op op_add (pv 3) pe_int))
          (pss_one (ps_if (pt_cmpR op_eq (pe_op op_mod (pe_op op_fdiv (pv 5) pe_int) pe_int) pe_int (nomark _))
            (pss_cons (ps_expr (pmeth m_Cells_arm T.cl_Cells (pv 2) hr (pa_cons pe_int (pa_cons pe_int pa_nil))))
            (pss_cons (ps_set (i := 8) nd rfl (Or.inl rfl) (pe_tup (pa_cons pe_str (pa_cons pe_int pa_nil))))
            (pss_one (ps_set (i := 3) nd rfl (Or.inl rfl) (pe_op op_sub (pv 3) pe_int)))))
            pss_nil))))
          pss_nil)
        (pss_cons (ps_if (pt_cmpR (op_neD hr.units) (pcall c__law_made hr (pa_cons (pv 6) (pa_cons (pv 7) (pa_cons (pv 2) pa_nil)))) (pv 8) (nomark _))
          (pss_one (ps_ret pe_bl))
          pss_nil)
        (pss_one (ps_expr (pmeth0 m_Cells_crash T.cl_Cells (pv 2) hr))))))))))))
      (pss_cons (ps_set (i := 9) nd rfl (Or.inl rfl) (pmakeN k_Member takes0 hr (pa_cons pe_int (pa_cons pe_int (pa_cons (pv 2) pa_nil)))))
      (pss_cons (ps_set (i := 10) nd rfl (Or.inl rfl) (pe_tup (pa_cons (pmeth0 m_Member_view T.cl_Member (pv 9) hr) (pa_cons (pmeth0 m_Member_events T.cl_Member (pv 9) hr) (pa_cons (pmeth0 m_Member_frozen T.cl_Member (pv 9) hr) (pa_cons (pmeth0 m_Member_waiting T.cl_Member (pv 9) hr) pa_nil))))))
      (pss_cons (ps_for PassesOwn.never rfl (pi_list (pe_lst (pa_cons pe_non (pa_cons pe_int (pa_cons (pe_tup (pa_cons pe_str pa_nil)) (pa_cons pe_str (pa_cons (pe_op op_mul_strN pe_str pe_int) (pa_cons (pe_lst (pa_cons pe_str pa_nil)) (pa_cons pe_bl pa_nil))))))))) (pg_name (i := 11) nd rfl (Or.inl rfl))
        (pss_one (ps_if (pt_cmpR (op_neD hr.units) (pcall c__law_cast hr (pa_cons (pv 9) (pa_cons (pv 11) pa_nil))) (pe_tup (pa_cons pe_str (pa_cons pe_int pa_nil))) (nomark _))
          (pss_one (ps_ret pe_bl))
          pss_nil)))
      (pss_cons (ps_for PassesOwn.never rfl (pi_list (pe_lst (pa_cons pe_non (pa_cons pe_int (pa_cons (pe_tup pa_nil) (pa_cons (pe_tup (pa_cons pe_str pa_nil)) (pa_cons pe_str (pa_cons (pe_tup (pa_cons pe_str (pa_cons (pe_tup (pa_cons pe_int (pa_cons pe_int pa_nil))) pa_nil))) (pa_cons (pe_lst (pa_cons (pe_tup (pa_cons pe_str (pa_cons (pe_tup (pa_cons pe_int (pa_cons pe_int pa_nil))) (pa_cons (pe_tup (pa_cons pe_int (pa_cons (pe_tup (pa_cons pe_int (pa_cons pe_int pa_nil))) pa_nil))) (pa_cons pe_int (pa_cons pe_int pa_nil)))))) pa_nil)) (pa_cons (pe_tup (pa_cons pe_str (pa_cons (pe_tup (pa_cons pe_int (pa_cons pe_int pa_nil))) (pa_cons pe_int pa_nil)))) pa_nil)))))))))) (pg_name (i := 12) nd rfl (Or.inl rfl))
        (pss_one (ps_if (pt_cmpR (op_neD hr.units) (pmeth m_Member_receive T.cl_Member (pv 9) hr (pa_cons (pv 12) pa_nil)) (pe_lst pa_nil) (nomark _))
          (pss_one (ps_ret pe_bl))
          pss_nil)))
      (pss_cons (ps_if (pt_cmpR (op_neD hr.units) (pe_tup (pa_cons (pmeth0 m_Member_view T.cl_Member (pv 9) hr) (pa_cons (pmeth0 m_Member_events T.cl_Member (pv 9) hr) (pa_cons (pmeth0 m_Member_frozen T.cl_Member (pv 9) hr) (pa_cons (pmeth0 m_Member_waiting T.cl_Member (pv 9) hr) pa_nil))))) (pv 10) (nomark _))
        (pss_one (ps_ret pe_bl))
        pss_nil)
      (pss_one (ps_ret (pe_and (pe_cmpR (op_eqD hr.units) (pmethE m_Member_cast T.cl_Member takes0 (fun _ _ _ _ h => h) (pv 9) hr (pa_cons (pe_op op_mul_strN pe_str pe_int) pa_nil)) (pe_lst pa_nil) (nomark _)) (pe_one (pe_cmpR (op_eqD hr.units) (pmeth0 m_Member_log T.cl_Member (pv 9) hr) (pe_tup (pa_cons (pe_tup (pa_cons (pmeth0 m_Member_member T.cl_Member (pv 9) hr) (pa_cons pe_int (pa_cons (pe_op op_mul_strN pe_str pe_int) pa_nil)))) pa_nil)) (nomark _))))))))))))))), ?_⟩
    walk_at "rds"
    refine ⟨by show 0 ≤ sizeLine; omega, fun te nte => ?_⟩
    have s1 := same_new nte (.tup [])
    have hte : (upd H te (.tup [])) te = some (.tup []) := upd_same
    generalize upd H te (.tup []) = H1 at *
    refine ⟨by show 12 ≤ sizeLine; omega, fun od nod => ?_⟩
    have s2 := same_new nod (.lst (odds te))
    have hod : (upd H1 od (.lst (odds te))) od = some (.lst (odds te)) := upd_same
    change gName 1 _ _ (upd H1 od (.lst (odds te))) _
    generalize upd H1 od (.lst (odds te)) = H2 at *
    have s12 := s1.trans s2
    have hte2 := s2 _ _ hte
    intro pc dy nx ny nyx
    have upp : ∀ b, b ≠ pc → b ≠ dy → (upd (upd H2 dy (.own pc)) pc (.ins C dy [])) b = H2 b := fun b h1 h2 => by unfold upd; rw [if_neg h1, if_neg h2]
    refine ⟨pc, dy, rfl, upd_same, fun l H3 nl hc3 kk => ⟨rfl, ?_⟩⟩
    have s3 : Same H2 H3 := fun b o h => kk b o (by rw [upp b (ne_of_none h nx) (ne_of_none h ny)]; exact h) (ne_of_none h nx)
    have hS3 := (s12.trans s3).seq hS
    have L0 : L41 K C sc pc l od te ns H3 ("", "") 0 := ⟨hS3, ⟨_, Int.le_refl _, hc3⟩, s3 _ _ hod, s3 _ _ hte2, (by decide), (by decide), (by decide)⟩
    clear kk upp
    walk_at "rds"
    refine ⟨sc, _, rfl, .inl hS3, ?_⟩
    refine ⟨_, _, rfl, ?_⟩
    refine ⟨_, _, rfl, ?_⟩
    have hj : ∀ L : Int, 0 ≤ L → 0 ≤ (if (if L < 20 then L else 20) > 1 then (if L < 20 then L else 20) else 1) ∧ (if (if L < 20 then L else 20) > 1 then (if L < 20 then L else 20) else 1) ≤ 20 := by
      intro L h
      split <;> split <;> omega
    have hj' := hj (((ns.map V.int).length : Nat) : Int) (by omega)
    refine ⟨_, rfl, by omega, by omega, for_range (lo := 0) (fun i σ H' => ∃ (ts : Str × Str) (m : Nat) (x4 x5 x6 x7 x8 : Option V), σ = [some (.ref sc), some (.ref od), some (.ref pc), some (.int (m : Nat)), x4, x5, x6, x7, x8, none, none, none, none] ∧ L41 K C sc pc l od te ns H' ts m ∧ m ≤ i) ?_ ?_ ?_⟩
    · exact ⟨_, 0, _, _, _, _, _, rfl, L0, Nat.le_refl _⟩
    · clear L0 hS3 hc3 s3 nl
      rintro i σ H4 hi ⟨ts, m, x4, x5, x6, x7, x8, rfl, L, hmi⟩
      have hi20 : i < 20 := by omega
      obtain ⟨kc, hk0, hc⟩ := L.hc
      walk_at "rds"
      refine ⟨sc, ns, 0 + (i : Int), rfl, by omega, L.hS, fun c0 => ?_⟩
      walk_at "rds"
      have hc0 : 0 ≤ (if c0 < 0 then -c0 else c0) := by split <;> omega
      generalize (if c0 < 0 then -c0 else c0) = cell at *
      refine ⟨fun σ' H' => ∃ (vp : V) (dp : PyData) (vc : V) (dc : PyData), σ' = [some (.ref sc), some (.ref od), some (.ref pc), some (.int (m : Nat)), some (.int (0 + (i : Int))), some (.int cell), some vp, some vc, x8, none, none, none, none] ∧ H4 = H' ∧ TD H4 vp dp ∧ TD H4 vc dc, ?_, ?_⟩
      · walk_at "rds"
        refine iB (fun h1 => ?_) (fun h1 => ⟨_, _, _, _, rfl, rfl, .int _, .int _⟩)
        walk_at "rds"
        obtain ⟨vp, dp, hvp, tvp⟩ := pick_odd L.ht (r := cell / 27 % 12) (by omega) (by omega)
        refine ⟨od, _, _, vp, rfl, rfl, SqL.of L.ho, hvp, ?_⟩
        exact ⟨vp, dp, _, _, rfl, rfl, tvp, .int _⟩
      rintro _ _ ⟨vp, dp, vc, dc, rfl, rfl, tvp, tvc⟩
      refine ⟨fun σ' H' => ∃ (vp : V) (dp : PyData) (vc : V) (dc : PyData), σ' = [some (.ref sc), some (.ref od), some (.ref pc), some (.int (m : Nat)), some (.int (0 + (i : Int))), some (.int cell), some vp, some vc, x8, none, none, none, none] ∧ H4 = H' ∧ TD H4 vp dp ∧ TD H4 vc dc, ?_, ?_⟩
      · walk_at "rds"
        refine iB (fun h1 => ?_) (fun h1 => ⟨_, _, _, _, rfl, rfl, tvp, tvc⟩)
        walk_at "rds"
        obtain ⟨vq, dq, hvq, tvq⟩ := pick_odd L.ht (r := cell / 27 % 12) (by omega) (by omega)
        refine ⟨od, _, _, vq, rfl, rfl, SqL.of L.ho, hvq, ?_⟩
        exact ⟨vp, dp, vq, dq, rfl, rfl, tvp, tvq⟩
      clear tvp tvc vp dp vc dc
      rintro _ _ ⟨vp, dp, vc, dc, rfl, rfl, tvp, tvc⟩
      walk_at "rds"
      refine ⟨by show 2 ≤ sizeLine; omega, fun t0 n0 => ?_⟩
      have s5 := same_new n0 (.tup [V.str (Str.ofString "refused"), V.int 1])
      have ht0 : (upd H4 t0 (.tup [V.str (Str.ofString "refused"), V.int 1])) t0 = some _ := upd_same
      generalize upd H4 t0 (.tup [V.str (Str.ofString "refused"), V.int 1]) = H5 at *
      have hc5 := hc.same s5
      have tvp5 := tvp.same s5
      have tvc5 := tvc.same s5
      have rvp := tvp5.rp hc5.nt
      have rvc := tvc5.rp hc5.nt
      refine ⟨fun σ' H' => ∃ (vd : V) (due : PyData) (life : Int) (pas : Option Int) (kc : Int), σ' = [some (.ref sc), some (.ref od), some (.ref pc), some (.int life), some (.int (0 + (i : Int))), some (.int cell), some vp, some vc, some vd, none, none, none, none] ∧ 0 ≤ kc ∧ CAt C H' pc l ts false pas kc ∧ Keeps pc l H5 H' ∧ TD H' vd due ∧
        ((isProc dc dp = false ∧ pas = none ∧ due = eR 1 ∧ life = (m : Nat)) ∨ (isProc dc dp = true ∧ pas = some 0 ∧ kc = 0 ∧ due = eR 2 ∧ life = (m : Nat)) ∨ (isProc dc dp = true ∧ pas = none ∧ (∃ i, dp = .int i ∧ due = eM (i, (m : Int) + 1)) ∧ life = (m : Int) + 1)), ?_, ?_⟩
      · walk_at "rds"
        have due1 : TD H5 (.ref t0) (eR 1) := .tup ht0 (by show 2 ≤ 100000; decide) (.cons (.str _) (.cons (.int _) .nil))
        refine iB (fun hg => ?_) (fun hg => ?_)
        · obtain ⟨n, rfl⟩ := isInt_form hg
          cases tvc5
          walk_at "rds"
          refine iB (fun hg2 => ?_) (fun hg2 => ?_)
          · have hp : isProc (.int n) dp = true := (proc_yes hg).trans hg2
            obtain ⟨i2, rfl⟩ := isInt_form hg2
            cases tvp5
            walk_at "rds"
            refine ⟨by show 2 ≤ sizeLine; omega, fun t1 n1 => ?_⟩
            have s6 := same_new n1 (.tup [V.int i2, V.int ((m : Int) + 1)])
            have ht1 : (upd H5 t1 (.tup [V.int i2, V.int ((m : Int) + 1)])) t1 = some _ := upd_same
            generalize upd H5 t1 (.tup [V.int i2, V.int ((m : Int) + 1)]) = H6 at *
            have hc6 := hc5.same s6
            obtain ⟨⟨dxc, hoc⟩, hlc⟩ := id hc6
            walk_at "rds"
            refine iB (fun hg3 => ?_) (fun hg3 => ?_)
            · walk_at "rds"
              refine ⟨pc, dxc, _, rfl, hoc, rfl, ?_⟩
              walk_at "rds"
              refine ⟨pc, l, ts, false, none, kc, 0, 0, rfl, hc6, fun H7 hc7 kk7 => ?_⟩
              walk_at "rds"
              refine ⟨by show 2 ≤ sizeLine; omega, fun t2 n2 => ?_⟩
              have s8 := same_new n2 (.tup [V.str (Str.ofString "refused"), V.int 2])
              have ht2 : (upd H7 t2 (.tup [V.str (Str.ofString "refused"), V.int 2])) t2 = some _ := upd_same
              walk_at "rds"
              exact ⟨_, eR 2, _, some 0, 0, rfl, Int.le_refl _, hc7.same s8, ((Keeps.of s6).trans kk7).trans (Keeps.of s8), .tup ht2 (by show 2 ≤ 100000; decide) (.cons (.str _) (.cons (.int _) .nil)), .inr (.inl ⟨hp, rfl, rfl, rfl, by omega⟩)⟩
            · exact ⟨_, eM (i2, (m : Int) + 1), _, none, kc, rfl, hk0, hc6, Keeps.of s6, td_mem (m := (i2, (m : Int) + 1)) ht1, .inr (.inr ⟨hp, rfl, ⟨i2, rfl, rfl⟩, rfl⟩)⟩
          · have hp : isProc (.int n) dp = false := (proc_yes hg).trans hg2
            exact ⟨_, eR 1, _, none, kc, rfl, hk0, hc5, Keeps.refl _ _ _, due1, .inl ⟨hp, rfl, rfl, rfl⟩⟩
        · exact ⟨_, eR 1, _, none, kc, rfl, hk0, hc5, Keeps.refl _ _ _, due1, .inl ⟨proc_no hg, rfl, rfl, rfl⟩⟩
      · rintro _ H6 ⟨vd, due, life, pas, kc6, rfl, hk6, hc6, kk6, tvd, alt⟩
        have tk6 := kk6.tup hc5
        have tvp6 := tvp5.mono tk6
        have tvc6 := tvc5.mono tk6
        have k46 := (Keeps.of (p := pc) (l := l) s5).trans kk6
        have fin : ∀ (H8 : Hp) (ts8 : Str × Str) (m8 : Nat) (kc8 : Int), CAt C H8 pc l ts8 false none kc8 → 0 ≤ kc8 → Keeps pc l H6 H8 → nextL ts8 = m8 + 1 → ts8.1.length ≤ 1000 → ts8.2.length ≤ 1000 → L41 K C sc pc l od te ns H8 ts8 m8 := fun H8 ts8 m8 kc8 hc8 k8 kk8 e e1 e2 => by
          have k48 := k46.trans kk8
          have no := od_ne hc L.ho
          exact ⟨sq_keeps L.hS hc k48, ⟨_, k8, hc8⟩, k48 _ _ L.ho no.1 no.2, k48.tup hc _ _ L.ht, e, e1, e2⟩
        have mb : nextL ts ≤ 1000000000000 := by rw [L.nx]; omega
        walk_at "rds"
        refine ⟨pc, pc, l, vp, vc, dp, dc, ts, pas, kc6, rfl, tvp6.rp hc6.nt, tvc6.rp hc6.nt, hc6, hk6, L.l1, L.l2, (fun hp t H7 s7 t7 => ?_), fun hp z hz => ⟨fun hpa t H7 hc7 kk7 t7 => ?_, fun hpa i2 n v H7 e1 e2 hc7 kk7 t7 => ?_⟩⟩
        · rcases alt with ⟨_, rfl, rfl, rfl⟩ | ⟨h, _⟩ | ⟨h, _⟩
          · have hc7 := hc6.same s7
            obtain ⟨⟨dxc, hoc⟩, hlc⟩ := id hc7
            walk_at "rds"
            refine ⟨_, _, t7.dp, (tvd.same s7).dp, eR_sh 1, eR_sh 1, ?_⟩
            rw [SeqAt.eqv_refl _ (SeqAt.canLay_of_shaped (eR_sh 1))]
            walk_at "rds"
            refine ⟨pc, dxc, _, rfl, hoc, rfl, ?_⟩
            walk_at "rds"
            refine ⟨pc, l, ts, false, none, kc6, rfl, hc7, fun H8 hc8 kk8 => ?_⟩
            exact ⟨ts, m, _, _, _, _, _, rfl, fin H8 ts m kc6 hc8 hk6 ((Keeps.of s7).trans kk8) L.nx L.l1 L.l2, by omega⟩
          · rw [hp] at h; cases h
          · rw [hp] at h; cases h
        · rcases alt with ⟨h, _⟩ | ⟨_, rfl, rfl, rfl, rfl⟩ | ⟨_, h, _⟩
          · rw [hp] at h; cases h
          · obtain ⟨⟨dxc, hoc⟩, hlc⟩ := id hc7
            have tk7 := kk7.tup hc6
            walk_at "rds"
            refine ⟨_, _, t7.dp, (tvd.mono tk7).dp, eR_sh 2, eR_sh 2, ?_⟩
            rw [SeqAt.eqv_refl _ (SeqAt.canLay_of_shaped (eR_sh 2))]
            walk_at "rds"
            refine ⟨pc, dxc, _, rfl, hoc, rfl, ?_⟩
            walk_at "rds"
            refine ⟨pc, l, _, true, some 0, 0, rfl, hc7, fun H8 hc8 kk8 => ?_⟩
            have ll := len_set (i := cellL ts) (z := torn z (getT ts (cellL ts)) 0) L.l1 L.l2 (len_torn0 L.l1 L.l2)
            exact ⟨_, m, _, _, _, _, _, rfl, fin H8 _ m 0 hc8 hk6 (kk7.trans kk8) (next_torn.trans L.nx) ll.1 ll.2, by omega⟩
          · rw [hpa] at h; cases h
        · rcases alt with ⟨h, _⟩ | ⟨_, h, _⟩ | ⟨_, rfl, ⟨i3, e3, rfl⟩, rfl⟩
          · rw [hp] at h; cases h
          · exact absurd h hpa
          · rw [e1] at e3
            cases e3
            obtain ⟨⟨dxc, hoc⟩, hlc⟩ := id hc7
            have tk7 := kk7.tup hc6
            have en : ((nextL ts : Nat) : Int) = (m : Int) + 1 := by rw [L.nx]; omega
            rw [en] at t7
            have sh := (eM_lay (i2, (m : Int) + 1)).2.2
            walk_at "rds"
            refine ⟨_, _, t7.dp, (tvd.mono tk7).dp, sh, sh, ?_⟩
            rw [SeqAt.eqv_refl _ (SeqAt.canLay_of_shaped sh)]
            walk_at "rds"
            refine ⟨pc, dxc, _, rfl, hoc, rfl, ?_⟩
            walk_at "rds"
            refine ⟨pc, l, _, false, none, kc6, rfl, hc7, fun H8 hc8 kk8 => ?_⟩
            have ll := len_set (i := cellL ts) (z := z) L.l1 L.l2 (len_life (by rw [L.nx]; omega) hz)
            exact ⟨_, m + 1, _, _, _, _, _, rfl, fin H8 _ (m + 1) kc6 hc8 hk6 (kk7.trans kk8) (by rw [next_fine mb hz, L.nx]) ll.1 ll.2, by omega⟩
    · rintro σ H4 ⟨ts, m, x4, x5, x6, x7, x8, rfl, L, hmi⟩
      clear L0 hS3 hc3 s3 nl
      obtain ⟨kc, hk0, hc⟩ := L.hc
      walk_at "rds"
      intro x dy nx ndy nxy
      have sa := same_new ndy (.own x)
      have nx2 : (upd H4 dy (.own x)) x = none := by rw [upd_ne nxy.symm]; exact nx
      have sb := same_new nx2 (.ins CM dy [])
      have sab := sa.trans sb
      have hx : (upd (upd H4 dy (.own x)) x (.ins CM dy [])) x = some (.ins CM dy []) := upd_same
      generalize upd (upd H4 dy (.own x)) x (.ins CM dy []) = H5 at *
      refine ⟨x, dy, pc, pc, l, .int 0, .int 2, .int 0, .int 2, ts, none, kc, rfl, hx, .int _, .int _, hc.same sab, hk0, L.l1, L.l2, (fun h => absurd h (by decide)), fun _ z hz => ⟨fun h => (by cases h), fun _ i n H6 H7 a e1 e2 hc6 kk6 G fa M hfr => ⟨rfl, ?_⟩⟩⟩
      cases e1
      cases e2
      clear hc6 kk6 G fa hz
      generalize hme : (((0 : Int), ((nextL ts : Nat) : Int)) : Mem) = me0 at *
      walk_at "rds"
      refine ⟨x, a.dx, _, rfl, M.ob, rfl, x, a, _, _, _, _, _, rfl, M, fun t8 H8 s8 d8 => ?_⟩
      have M8 := M.same s8
      walk_at "rds"
      refine ⟨x, a.dx, _, rfl, M8.ob, rfl, x, a, _, _, _, _, _, rfl, M8, fun r9 H9 s9 nr9 lr9 => ?_⟩
      have M9 := M8.same s9
      walk_at "rds"
      refine ⟨x, a.dx, _, rfl, M9.ob, rfl, x, a, _, _, _, _, _, rfl, M9, ?_⟩
      walk_at "rds"
      refine ⟨x, a.dx, _, rfl, M9.ob, rfl, x, a, _, _, _, _, _, rfl, M9, (by decide), fun r10 H10 s10 d10 => ?_⟩
      rw [hfr]
      refine ⟨by show 4 ≤ sizeLine; omega, fun tb ntb => ?_⟩
      have s11 := same_new ntb (.tup [.ref t8, .ref r9, .bl false, .ref r10])
      have htb : (upd H10 tb (.tup [.ref t8, .ref r9, .bl false, .ref r10])) tb = some _ := upd_same
      generalize upd H10 tb (.tup [.ref t8, .ref r9, .bl false, .ref r10]) = H11 at *
      have M11 := (M9.same s10).same s11
      have d8b := d8.same (s9.trans (s10.trans s11))
      have d10b := d10.same s11
      have lr9b := lr9.mono (fun o h => (s10.trans s11) _ _ h) (TupK.of (s10.trans s11))
      clear d8 d10 lr9 M M8 M9
      walk_at "rds"
      have kv := Same.rfl' H11
      refine ⟨by show 1 ≤ sizeLine; omega, fun q1 nq1 => ?_⟩
      have sq1 := same_new nq1 (.tup [V.str (Str.ofString "a")])
      have xq1 : q1 ≠ x := (ne_of_none M11.ob nq1).symm
      have rq1 : Rp x (upd H11 q1 (.tup [V.str (Str.ofString "a")])) (.ref q1) (.tuple [.str "a"]) := .tup upd_same xq1 (by show 1 ≤ 100000; decide) (.cons (.str _) (.nil))
      have obq1 := sq1 _ _ M11.ob
      generalize upd H11 q1 (.tup [V.str (Str.ofString "a")]) = D1_v at *
      have kv := kv.trans sq1
      walk_at "rds"
      refine ⟨by decide, by decide, by decide, by decide, fun z31 hz31 => ?_⟩
      refine ⟨by show 1 ≤ sizeLine; omega, fun q2 nq2 => ?_⟩
      have sq2 := same_new nq2 (.lst [V.str (Str.ofString "x")])
      have xq2 : q2 ≠ x := (ne_of_none obq1 nq2).symm
      have rq2 : Rp x (upd D1_v q2 (.lst [V.str (Str.ofString "x")])) (.ref q2) (.list [.str "x"]) := .lst upd_same xq2 (.cons (.str _) (.nil))
      have obq2 := sq2 _ _ obq1
      generalize upd D1_v q2 (.lst [V.str (Str.ofString "x")]) = D2_v at *
      have rq1 := rq1.mono (But.of sq2)
      have kv := kv.trans sq2
      refine ⟨by show 7 ≤ sizeLine; omega, fun lv nlv => ?_⟩
      have slv := same_new nlv (.lst [V.non, V.int 7, .ref q1, .str (Str.ofString "a\nb"), .str z31, .ref q2, .bl true])
      have hlv : (upd D2_v lv (.lst [V.non, V.int 7, .ref q1, .str (Str.ofString "a\nb"), .str z31, .ref q2, .bl true])) lv = some _ := upd_same
      have l31 : z31.length = 31 := by rw [len_tl, hz31]; decide +kernel
      have o31 : Ok z31 := ⟨by omega, by rw [hz31]; decide +kernel⟩
      have oa : Ok (Str.ofString "a") := ⟨by decide, by decide +kernel⟩
      have oab : Ok (Str.ofString "a\nb") := ⟨by decide, by decide +kernel⟩
      have hall : ∀ y ∈ [V.non, V.int 7, .ref q1, .str (Str.ofString "a\nb"), .str z31, .ref q2, .bl true], ∃ d, Rp x D2_v y d ∧ Her Ok d ∧ isPay d = false ∧ (y = .ref q1 → True) := fun y hy => by
        rcases List.mem_cons.mp hy with rfl | hy
        · exact ⟨_, .non, .non, rfl, fun _ => trivial⟩
        rcases List.mem_cons.mp hy with rfl | hy
        · exact ⟨_, .int _, .int _, rfl, fun _ => trivial⟩
        rcases List.mem_cons.mp hy with rfl | hy
        · exact ⟨_, rq1, .tup (fun d m => by rw [List.mem_singleton.mp m]; exact .str oa), rfl, fun _ => trivial⟩
        rcases List.mem_cons.mp hy with rfl | hy
        · exact ⟨_, .str _, .str oab, by decide +kernel, fun _ => trivial⟩
        rcases List.mem_cons.mp hy with rfl | hy
        · exact ⟨_, .str _, .str o31, by show (decide (z31.length ≤ 30) && _) = false; rw [l31]; rfl, fun _ => trivial⟩
        rcases List.mem_cons.mp hy with rfl | hy
        · exact ⟨_, rq2, .lst _, rfl, fun _ => trivial⟩
        rw [List.mem_singleton.mp hy]
        exact ⟨_, .bl _, .bl _, rfl, fun _ => trivial⟩
      have kv := kv.trans slv
      generalize hxs : [V.non, V.int 7, .ref q1, .str (Str.ofString "a\nb"), .str z31, .ref q2, .bl true] = xs at *
      have hallv : ∀ y ∈ xs, ∃ d, Rp x (upd D2_v lv (.lst xs)) y d ∧ Her Ok d ∧ isPay d = false := fun y hy => by
        obtain ⟨d, r, h1, h2, _⟩ := hall y hy
        exact ⟨d, r.mono (But.of slv), h1, h2⟩
      clear hall rq1 rq2 slv
      generalize upd D2_v lv (.lst xs) = H12 at *
      have M12 := M11.same kv
      have hr := hr
      refine ⟨lv, rfl, ⟨_, SqL.of hlv⟩, for_list (xs := xs) (fun i σ H' => ∃ x11 : Option V, σ = [some (.ref sc), some (.ref od), some (.ref pc), some (.int (m : Nat)), x4, x5, x6, x7, x8, some (.ref x), some (.ref tb), x11, none] ∧ Same H12 H') ?_ ?_ ?_ ?_⟩
      · exact ⟨_, rfl, Same.rfl' _⟩
      · rintro i σ H' _ ⟨_, _, s'⟩
        exact SqL.of (s' _ _ hlv)
      · rintro i y σ H' hi ⟨x11, rfl, s'⟩
        obtain ⟨d, rd, hd, hpy⟩ := hallv y (List.mem_of_getElem? hi)
        have M' := M12.same s'
        walk_at "rds"
        refine ⟨x, x, a, me0, 2, _, _, _, y, d, rfl, M', rd.mono (But.of s'), hd, hfr, Nat.zero_le _, Nat.zero_le _, (by show 1 ≤ 1000; decide), (by show 1 ≤ 90000; decide), hpy, fun t H13 s13 t13 => ?_⟩
        walk_at "rds"
        refine ⟨by show 2 ≤ sizeLine; omega, fun t2 n2 => ?_⟩
        have s14 := same_new n2 (.tup [V.str (Str.ofString "refused"), V.int 1])
        have t14 : TD (upd H13 t2 (.tup [V.str (Str.ofString "refused"), V.int 1])) (.ref t2) (eR 1) := .tup upd_same (by show 2 ≤ 100000; decide) (.cons (.str _) (.cons (.int _) .nil))
        have t13b := t13.same s14
        generalize upd H13 t2 (.tup [V.str (Str.ofString "refused"), V.int 1]) = H14 at *
        refine ⟨_, _, t13b.dp, t14.dp, eR_sh 1, eR_sh 1, ?_⟩
        rw [SeqAt.eqv_refl _ (SeqAt.canLay_of_shaped (eR_sh 1))]
        walk_at "rds"
        exact s'.trans (s13.trans s14)
      rintro σ HB ⟨x11, rfl, sB⟩
      clear hallv
      have MB := M12.same sB
      have k11B := kv.trans sB
      clear hlv sB
      have kw := Same.rfl' HB
      walk_at "rds"
      refine ⟨by show 0 ≤ sizeLine; omega, fun p1 np1 => ?_⟩
      have sp1 := same_new np1 (.tup [])
      have xp1 : p1 ≠ x := (ne_of_none MB.ob np1).symm
      have rp1 : Rp x (upd HB p1 (.tup [])) (.ref p1) (.tuple []) := .tup upd_same xp1 (by show 0 ≤ 100000; decide) (.nil)
      have obp1 := sp1 _ _ MB.ob
      generalize upd HB p1 (.tup []) = D1_w at *
      have kw := kw.trans sp1
      walk_at "rds"
      refine ⟨by show 1 ≤ sizeLine; omega, fun p2 np2 => ?_⟩
      have sp2 := same_new np2 (.tup [V.str (Str.ofString "here")])
      have xp2 : p2 ≠ x := (ne_of_none obp1 np2).symm
      have rp2 : Rp x (upd D1_w p2 (.tup [V.str (Str.ofString "here")])) (.ref p2) (.tuple [.str "here"]) := .tup upd_same xp2 (by show 1 ≤ 100000; decide) (.cons (.str _) (.nil))
      have obp2 := sp2 _ _ obp1
      generalize upd D1_w p2 (.tup [V.str (Str.ofString "here")]) = D2_w at *
      have rp1 := rp1.mono (But.of sp2)
      have kw := kw.trans sp2
      walk_at "rds"
      refine ⟨by show 2 ≤ sizeLine; omega, fun p3 np3 => ?_⟩
      have sp3 := same_new np3 (.tup [V.int 1, V.int 1])
      have xp3 : p3 ≠ x := (ne_of_none obp2 np3).symm
      have rp3 : Rp x (upd D2_w p3 (.tup [V.int 1, V.int 1])) (.ref p3) (.tuple [.int 1, .int 1]) := .tup upd_same xp3 (by show 2 ≤ 100000; decide) (.cons (.int _) (.cons (.int _) (.nil)))
      have obp3 := sp3 _ _ obp2
      generalize upd D2_w p3 (.tup [V.int 1, V.int 1]) = D3_w at *
      have rp1 := rp1.mono (But.of sp3)
      have rp2 := rp2.mono (But.of sp3)
      have kw := kw.trans sp3
      refine ⟨by show 2 ≤ sizeLine; omega, fun p4 np4 => ?_⟩
      have sp4 := same_new np4 (.tup [V.str (Str.ofString "cast"), V.ref p3])
      have xp4 : p4 ≠ x := (ne_of_none obp3 np4).symm
      have rp4 : Rp x (upd D3_w p4 (.tup [V.str (Str.ofString "cast"), V.ref p3])) (.ref p4) (.tuple [.str "cast", .tuple [.int 1, .int 1]]) := .tup upd_same xp4 (by show 2 ≤ 100000; decide) (.cons (.str _) (.cons ((rp3).mono (But.of sp4)) (.nil)))
      have obp4 := sp4 _ _ obp3
      generalize upd D3_w p4 (.tup [V.str (Str.ofString "cast"), V.ref p3]) = D4_w at *
      have rp1 := rp1.mono (But.of sp4)
      have rp2 := rp2.mono (But.of sp4)
      have rp3 := rp3.mono (But.of sp4)
      have kw := kw.trans sp4
      walk_at "rds"
      refine ⟨by show 2 ≤ sizeLine; omega, fun p5 np5 => ?_⟩
      have sp5 := same_new np5 (.tup [V.int 1, V.int 1])
      have xp5 : p5 ≠ x := (ne_of_none obp4 np5).symm
      have rp5 : Rp x (upd D4_w p5 (.tup [V.int 1, V.int 1])) (.ref p5) (.tuple [.int 1, .int 1]) := .tup upd_same xp5 (by show 2 ≤ 100000; decide) (.cons (.int _) (.cons (.int _) (.nil)))
      have obp5 := sp5 _ _ obp4
      generalize upd D4_w p5 (.tup [V.int 1, V.int 1]) = D5_w at *
      have rp1 := rp1.mono (But.of sp5)
      have rp2 := rp2.mono (But.of sp5)
      have rp3 := rp3.mono (But.of sp5)
      have rp4 := rp4.mono (But.of sp5)
      have kw := kw.trans sp5
      walk_at "rds"
      refine ⟨by show 2 ≤ sizeLine; omega, fun p6 np6 => ?_⟩
      have sp6 := same_new np6 (.tup [V.int 1, V.int 1])
      have xp6 : p6 ≠ x := (ne_of_none obp5 np6).symm
      have rp6 : Rp x (upd D5_w p6 (.tup [V.int 1, V.int 1])) (.ref p6) (.tuple [.int 1, .int 1]) := .tup upd_same xp6 (by show 2 ≤ 100000; decide) (.cons (.int _) (.cons (.int _) (.nil)))
      have obp6 := sp6 _ _ obp5
      generalize upd D5_w p6 (.tup [V.int 1, V.int 1]) = D6_w at *
      have rp1 := rp1.mono (But.of sp6)
      have rp2 := rp2.mono (But.of sp6)
      have rp3 := rp3.mono (But.of sp6)
      have rp4 := rp4.mono (But.of sp6)
      have rp5 := rp5.mono (But.of sp6)
      have kw := kw.trans sp6
      refine ⟨by show 2 ≤ sizeLine; omega, fun p7 np7 => ?_⟩
      have sp7 := same_new np7 (.tup [V.int 0, V.ref p6])
      have xp7 : p7 ≠ x := (ne_of_none obp6 np7).symm
      have rp7 : Rp x (upd D6_w p7 (.tup [V.int 0, V.ref p6])) (.ref p7) (.tuple [.int 0, .tuple [.int 1, .int 1]]) := .tup upd_same xp7 (by show 2 ≤ 100000; decide) (.cons (.int _) (.cons ((rp6).mono (But.of sp7)) (.nil)))
      have obp7 := sp7 _ _ obp6
      generalize upd D6_w p7 (.tup [V.int 0, V.ref p6]) = D7_w at *
      have rp1 := rp1.mono (But.of sp7)
      have rp2 := rp2.mono (But.of sp7)
      have rp3 := rp3.mono (But.of sp7)
      have rp4 := rp4.mono (But.of sp7)
      have rp5 := rp5.mono (But.of sp7)
      have rp6 := rp6.mono (But.of sp7)
      have kw := kw.trans sp7
      walk_at "rds"
      refine ⟨by show 5 ≤ sizeLine; omega, fun p8 np8 => ?_⟩
      have sp8 := same_new np8 (.tup [V.str (Str.ofString "here"), V.ref p5, V.ref p7, V.int 0, V.int 0])
      have xp8 : p8 ≠ x := (ne_of_none obp7 np8).symm
      have rp8 : Rp x (upd D7_w p8 (.tup [V.str (Str.ofString "here"), V.ref p5, V.ref p7, V.int 0, V.int 0])) (.ref p8) (.tuple [.str "here", .tuple [.int 1, .int 1], .tuple [.int 0, .tuple [.int 1, .int 1]], .int 0, .int 0]) := .tup upd_same xp8 (by show 5 ≤ 100000; decide) (.cons (.str _) (.cons ((rp5).mono (But.of sp8)) (.cons ((rp7).mono (But.of sp8)) (.cons (.int _) (.cons (.int _) (.nil))))))
      have obp8 := sp8 _ _ obp7
      generalize upd D7_w p8 (.tup [V.str (Str.ofString "here"), V.ref p5, V.ref p7, V.int 0, V.int 0]) = D8_w at *
      have rp1 := rp1.mono (But.of sp8)
      have rp2 := rp2.mono (But.of sp8)
      have rp3 := rp3.mono (But.of sp8)
      have rp4 := rp4.mono (But.of sp8)
      have rp5 := rp5.mono (But.of sp8)
      have rp6 := rp6.mono (But.of sp8)
      have rp7 := rp7.mono (But.of sp8)
      have kw := kw.trans sp8
      refine ⟨by show 1 ≤ sizeLine; omega, fun p9 np9 => ?_⟩
      have sp9 := same_new np9 (.lst [V.ref p8])
      have xp9 : p9 ≠ x := (ne_of_none obp8 np9).symm
      have rp9 : Rp x (upd D8_w p9 (.lst [V.ref p8])) (.ref p9) (.list [.tuple [.str "here", .tuple [.int 1, .int 1], .tuple [.int 0, .tuple [.int 1, .int 1]], .int 0, .int 0]]) := .lst upd_same xp9 (.cons ((rp8).mono (But.of sp9)) (.nil))
      have obp9 := sp9 _ _ obp8
      generalize upd D8_w p9 (.lst [V.ref p8]) = D9_w at *
      have rp1 := rp1.mono (But.of sp9)
      have rp2 := rp2.mono (But.of sp9)
      have rp3 := rp3.mono (But.of sp9)
      have rp4 := rp4.mono (But.of sp9)
      have rp5 := rp5.mono (But.of sp9)
      have rp6 := rp6.mono (But.of sp9)
      have rp7 := rp7.mono (But.of sp9)
      have rp8 := rp8.mono (But.of sp9)
      have kw := kw.trans sp9
      walk_at "rds"
      refine ⟨by show 2 ≤ sizeLine; omega, fun pa npa => ?_⟩
      have spa := same_new npa (.tup [V.int 1, V.int 1])
      have xpa : pa ≠ x := (ne_of_none obp9 npa).symm
      have rpa : Rp x (upd D9_w pa (.tup [V.int 1, V.int 1])) (.ref pa) (.tuple [.int 1, .int 1]) := .tup upd_same xpa (by show 2 ≤ 100000; decide) (.cons (.int _) (.cons (.int _) (.nil)))
      have obpa := spa _ _ obp9
      generalize upd D9_w pa (.tup [V.int 1, V.int 1]) = D10_w at *
      have rp1 := rp1.mono (But.of spa)
      have rp2 := rp2.mono (But.of spa)
      have rp3 := rp3.mono (But.of spa)
      have rp4 := rp4.mono (But.of spa)
      have rp5 := rp5.mono (But.of spa)
      have rp6 := rp6.mono (But.of spa)
      have rp7 := rp7.mono (But.of spa)
      have rp8 := rp8.mono (But.of spa)
      have rp9 := rp9.mono (But.of spa)
      have kw := kw.trans spa
      walk_at "rds"
      refine ⟨by show 3 ≤ sizeLine; omega, fun pb npb => ?_⟩
      have spb := same_new npb (.tup [V.str (Str.ofString "hello"), V.ref pa, V.int 3])
      have xpb : pb ≠ x := (ne_of_none obpa npb).symm
      have rpb : Rp x (upd D10_w pb (.tup [V.str (Str.ofString "hello"), V.ref pa, V.int 3])) (.ref pb) (.tuple [.str "hello", .tuple [.int 1, .int 1], .int 3]) := .tup upd_same xpb (by show 3 ≤ 100000; decide) (.cons (.str _) (.cons ((rpa).mono (But.of spb)) (.cons (.int _) (.nil))))
      have obpb := spb _ _ obpa
      generalize upd D10_w pb (.tup [V.str (Str.ofString "hello"), V.ref pa, V.int 3]) = D11_w at *
      have rp1 := rp1.mono (But.of spb)
      have rp2 := rp2.mono (But.of spb)
      have rp3 := rp3.mono (But.of spb)
      have rp4 := rp4.mono (But.of spb)
      have rp5 := rp5.mono (But.of spb)
      have rp6 := rp6.mono (But.of spb)
      have rp7 := rp7.mono (But.of spb)
      have rp8 := rp8.mono (But.of spb)
      have rp9 := rp9.mono (But.of spb)
      have rpa := rpa.mono (But.of spb)
      have kw := kw.trans spb
      refine ⟨by show 8 ≤ sizeLine; omega, fun lw nlw => ?_⟩
      have slw := same_new nlw (.lst [V.non, V.int 7, .ref p1, .ref p2, .str (Str.ofString "here"), .ref p4, .ref p9, .ref pb])
      have hlw : (upd D11_w lw (.lst [V.non, V.int 7, .ref p1, .ref p2, .str (Str.ofString "here"), .ref p4, .ref p9, .ref pb])) lw = some _ := upd_same
      have oh : Ok (Str.ofString "here") := ⟨by decide, by decide +kernel⟩
      have oc : Ok (Str.ofString "cast") := ⟨by decide, by decide +kernel⟩
      have ol : Ok (Str.ofString "hello") := ⟨by decide, by decide +kernel⟩
      have h11 : Her Ok (.tuple [.int 1, .int 1]) := .tup fun d m => by
        rcases List.mem_cons.mp m with rfl | m
        · exact .int _
        · rw [List.mem_singleton.mp m]; exact .int _
      have hall : ∀ y ∈ [V.non, V.int 7, .ref p1, .ref p2, .str (Str.ofString "here"), .ref p4, .ref p9, .ref pb], ∃ d, Rp x D11_w y d ∧ Her Ok d ∧ isLet (.int 2) d = false := fun y hy => by
        rcases List.mem_cons.mp hy with rfl | hy
        · exact ⟨_, .non, .non, rfl⟩
        rcases List.mem_cons.mp hy with rfl | hy
        · exact ⟨_, .int _, .int _, rfl⟩
        rcases List.mem_cons.mp hy with rfl | hy
        · exact ⟨_, rp1, .tup (fun d m => nomatch m), rfl⟩
        rcases List.mem_cons.mp hy with rfl | hy
        · exact ⟨_, rp2, .tup (fun d m => by rw [List.mem_singleton.mp m]; exact .str oh), by decide +kernel⟩
        rcases List.mem_cons.mp hy with rfl | hy
        · exact ⟨_, .str _, .str oh, rfl⟩
        rcases List.mem_cons.mp hy with rfl | hy
        · refine ⟨_, rp4, .tup (fun d m => ?_), by decide +kernel⟩
          rcases List.mem_cons.mp m with rfl | m
          · exact .str oc
          · rw [List.mem_singleton.mp m]; exact h11
        rcases List.mem_cons.mp hy with rfl | hy
        · exact ⟨_, rp9, .lst _, rfl⟩
        rw [List.mem_singleton.mp hy]
        refine ⟨_, rpb, .tup (fun d m => ?_), by decide +kernel⟩
        rcases List.mem_cons.mp m with rfl | m
        · exact .str ol
        rcases List.mem_cons.mp m with rfl | m
        · exact h11
        rw [List.mem_singleton.mp m]; exact .int _
      have kw := kw.trans slw
      generalize [V.non, V.int 7, .ref p1, .ref p2, .str (Str.ofString "here"), .ref p4, .ref p9, .ref pb] = ys at *
      have hallw : ∀ y ∈ ys, ∃ d, Rp x (upd D11_w lw (.lst ys)) y d ∧ Her Ok d ∧ isLet (.int 2) d = false := fun y hy => by
        obtain ⟨d, r, h1, h2⟩ := hall y hy
        exact ⟨d, r.mono (But.of slw), h1, h2⟩
      clear hall slw rp1 rp2 rp3 rp4 rp5 rp6 rp7 rp8 rp9 rpa rpb
      generalize upd D11_w lw (.lst ys) = H15 at *
      have M15 := MB.same kw
      refine ⟨lw, rfl, ⟨_, SqL.of hlw⟩, for_list (xs := ys) (fun i σ H' => ∃ x12 : Option V, σ = [some (.ref sc), some (.ref od), some (.ref pc), some (.int (m : Nat)), x4, x5, x6, x7, x8, some (.ref x), some (.ref tb), x11, x12] ∧ Same H15 H') ?_ ?_ ?_ ?_⟩
      · exact ⟨_, rfl, Same.rfl' _⟩
      · rintro i σ H' _ ⟨_, _, s'⟩
        exact SqL.of (s' _ _ hlw)
      · rintro i y σ H' hi ⟨x12, rfl, s'⟩
        obtain ⟨d, rd, hd, hpy⟩ := hallw y (List.mem_of_getElem? hi)
        have M' := M15.same s'
        walk_at "rds"
        refine ⟨x, a.dx, _, rfl, M'.ob, rfl, ?_⟩
        walk_at "rds"
        refine ⟨x, x, a, me0, 2, _, _, _, y, d, rfl, M', rd.mono (But.of s'), hd, hpy, fun r H16 s16 nr hr16 => ?_⟩
        refine ⟨by show 0 ≤ sizeLine; omega, fun t2 n2 => ?_⟩
        have s17 := same_new n2 (.lst [])
        refine ⟨.list [], .list [], .lst (SqL.of (s17 _ _ hr16)) .nil, .lst (SqL.of upd_same) .nil, rfl, rfl, ?_⟩
        walk_at "rds"
        exact s'.trans (s16.trans s17)
      rintro σ HC ⟨x12, rfl, sC⟩
      have MC := M15.same sC
      have k11C := (k11B.trans kw).trans sC
      clear hallw hlw sC
      walk_at "rds"
      refine ⟨x, a.dx, _, rfl, MC.ob, rfl, x, a, _, _, _, _, _, rfl, MC, fun u8 E8 z8 f8 => ?_⟩
      have MD8 := MC.same z8
      walk_at "rds"
      refine ⟨x, a.dx, _, rfl, MD8.ob, rfl, x, a, _, _, _, _, _, rfl, MD8, fun u9 E9 z9 mu9 g9 => ?_⟩
      have MD9 := MD8.same z9
      walk_at "rds"
      refine ⟨x, a.dx, _, rfl, MD9.ob, rfl, x, a, _, _, _, _, _, rfl, MD9, ?_⟩
      walk_at "rds"
      refine ⟨x, a.dx, _, rfl, MD9.ob, rfl, x, a, _, _, _, _, _, rfl, MD9, (by decide), fun u10 E10 z10 f10 => ?_⟩
      rw [hfr]
      refine ⟨by show 4 ≤ sizeLine; omega, fun tc ntc => ?_⟩
      have z11 := same_new ntc (.tup [.ref u8, .ref u9, .bl false, .ref u10])
      have htc : (upd E10 tc (.tup [.ref u8, .ref u9, .bl false, .ref u10])) tc = some _ := upd_same
      generalize upd E10 tc (.tup [.ref u8, .ref u9, .bl false, .ref u10]) = E11 at *
      have zz := z9.trans (z10.trans z11)
      have zzz := z10.trans z11
      have kE := k11C.trans (z8.trans zz)
      have ME := (MD9.same z10).same z11
      have okview : PyData.strOk "view" = true := by decide +kernel
      have shD : SeqAt.shaped (.tuple [.tuple [eV (0, me0), eMs [me0]], .list [evView (0, me0) [me0]], .bool false, .tuple []]) = true := by
        simp [SeqAt.shaped, evView, eV, eM, eMs, PyData.canLay0, PyData.canLayAll0, PyData.depth, PyData.depthAll, okview]
      walk_at "rds"
      refine ⟨.tuple [.tuple [eV (0, me0), eMs [me0]], .list [evView (0, me0) [me0]], .bool false, .tuple []], .tuple [.tuple [eV (0, me0), eMs [me0]], .list [evView (0, me0) [me0]], .bool false, .tuple []],
        .tup (SqT.of htc) (.cons (f8.same zz).dp (.cons (dp_lst (g9.mono (fun o h => zzz _ _ h) (TupK.of zzz))) (.cons (.bl _) (.cons (f10.same z11).dp .nil)))),
        .tup (SqT.of (kE _ _ htb)) (.cons (d8b.same kE).dp (.cons (dp_lst (lr9b.mono (fun o h => kE _ _ h) (TupK.of kE))) (.cons (.bl _) (.cons (d10b.same kE).dp .nil)))), shD, shD, ?_⟩
      rw [SeqAt.eqv_refl _ (SeqAt.canLay_of_shaped shD)]
      walk_at "rds"
      clear zz zzz f8 g9 f10 d8b lr9b d10b htb htc
      refine ⟨x, a.dx, _, rfl, ME.ob, rfl, ?_⟩
      walk_at "rds"
      refine ⟨by decide, by decide, by decide, by decide, fun z30 hz30 => ?_⟩
      have l30 : z30.length = 30 := by rw [len_tl, hz30]; decide +kernel
      have o30 : Ok z30 := ⟨by omega, by rw [hz30]; decide +kernel⟩
      have p30 : isPay (.str z30) = true := by show (decide (z30.length ≤ 30) && (tl z30).all prB) = true; rw [l30, hz30]; decide +kernel
      have y30 : PyData.strOk z30 = true := by
        show z30.cps.all _ = true
        rw [← Array.all_toList]
        show (tl z30).all _ = true
        rw [hz30]; decide +kernel
      refine ⟨x, x, a, me0, 2, _, _, _, .str z30, .str z30, rfl, ME, .str _, .str o30, hfr, Nat.zero_le _, Nat.zero_le _, (by show 1 ≤ 1000; decide), (by show 1 ≤ 90000; decide), (fun h => by rw [p30] at h; cases h), fun _ z2 e2 E12 a2 r2 M12' hfr2 hv2 F12 lr2 nr2 => ?_⟩
      cases e2
      have epk : ((OS.new me0 (0, me0) [me0] me0).cast z30).2.2.2 = [] := by simp [OS.cast, OS.new, OS.decide, OS.ords, OS.others]
      have elog : ((OS.new me0 (0, me0) [me0] me0).cast z30).1.log = [(me0, 1, z30)] := by simp [OS.cast, OS.new, OS.decide, OS.deliver]
      rw [epk] at lr2
      refine ⟨by show 0 ≤ sizeLine; omega, fun r3 n3 => ?_⟩
      have s13 := same_new n3 (.lst [])
      refine ⟨.list [], .list [], dp_lst (lr2.mono (fun o h => s13 _ _ h) (TupK.of s13)), .lst (SqL.of upd_same) .nil, rfl, rfl, ?_⟩
      have M13 := M12'.same s13
      generalize upd E12 r3 (.lst []) = E13 at *
      walk_at "rds"
      refine ⟨x, a2.dx, _, rfl, M13.ob, rfl, x, a2, _, _, _, _, _, rfl, M13, (by rw [elog]; show 1 ≤ 100000; decide), fun r4 E14 z14 f14 => ?_⟩
      have M14 := M13.same z14
      rw [elog] at f14
      walk_at "rds"
      refine ⟨x, a2.dx, _, rfl, M14.ob, rfl, x, a2, _, _, _, _, _, rfl, M14, ?_⟩
      walk_at "rds"
      refine ⟨by decide, by decide, by decide, by decide, fun z30b hz30b => ?_⟩
      have ezz : z30b = z30 := ext_tl (hz30b.trans hz30.symm)
      subst ezz
      refine ⟨by show 3 ≤ sizeLine; omega, fun t5 n5 => ?_⟩
      have s5 := same_new n5 (.tup [a2.vme, V.int 1, V.str z30b])
      have h5 : (upd E14 t5 (.tup [a2.vme, V.int 1, V.str z30b])) t5 = some _ := upd_same
      generalize upd E14 t5 (.tup [a2.vme, V.int 1, V.str z30b]) = E15 at *
      refine ⟨by show 1 ≤ sizeLine; omega, fun t6 n6 => ?_⟩
      have s6 := same_new n6 (.tup [.ref t5])
      have s56 := s5.trans s6
      have td6 : TD (upd E15 t6 (.tup [.ref t5])) (.ref t6) (eGs [(me0, 1, z30b)]) := .tup upd_same (by show 1 ≤ 100000; decide) (.cons (td_msg (g := (me0, 1, z30b)) (s6 _ _ h5) (M14.me.same s56)) .nil)
      have shG : SeqAt.shaped (eGs [(me0, 1, z30b)]) = true := by
        simp [SeqAt.shaped, eGs, eG, eM, PyData.canLay0, PyData.canLayAll0, PyData.depth, PyData.depthAll, y30]
      refine ⟨_, _, (f14.same s56).dp, td6.dp, shG, shG, ?_⟩
      rw [SeqAt.eqv_refl _ (SeqAt.canLay_of_shaped shG)]
      exact q _
end
end Mus

set_option maxRecDepth 100000
set_option maxHeartbeats 4000000
namespace Mus
open PySem L2
structure Tz (K : PySem.W.Frag) (mg : Str → Option Value) (CL CMu CO CV C CC CE CW CM CB CP : Addr) : Prop extends Tl K mg CL CMu, To K mg CO CV, Tc K mg C CC CE, Tw K mg CW, TL41 K mg CM CB CP CO CL C CC CE
def at_mk {K : PySem.W.Frag} {h : Heap} {mg : Str → Option Value} {x : Str} {ps : List Str} {st : Stmt} {f : Addr} {oc : Value} {od an : Option Addr} {osl : Array (Option Value)} {kV dc pm cd ct : Value} (X : K.In h) (G : h.Ns mainGlobals mg) (a : PySem.W.nsIn K mainGlobals x = some (some (.ref f)))
    (l : K.lookup f = some ⟨oc, od, .func (PySem.W.fnOf x x (defArgs st) (defBody st) (defScope st) .none kV dc pm an cd ct), osl⟩) (c : PySem.W.codeIn K cd x = true) (k : PySem.W.keepIn K (.ref f) = true)
    (hb : ∀ (kV doc pm : Value) (an : Option Addr) (cdv ct : Value) (us : List Value), us.length = ps.length → bindArgs (PySem.W.fnOf x x (defArgs st) (defBody st) (defScope st) .none kV doc pm an cdv ct) ⟨us, []⟩ = pure (ps.zip us)) : DefAt K mg x ps st :=
  ⟨f, _, fun_mk (st := st) l c k, PySem.W.mg_of X G a, (fun_mk (st := st) l c k).binds hb⟩
def meth_mk {K : PySem.W.Frag} {C : Addr} {x qual : Str} {ps : List Str} {st : Stmt} {f : Addr} {oc : Value} {od an : Option Addr} {osl : Array (Option Value)} {kV dc pm cd ct : Value} (a : PySem.W.findIn K (.ref C) x = some (some (.ref f))) (i : PySem.W.isFn K (.ref f) = true)
    (l : K.lookup f = some ⟨oc, od, .func (PySem.W.fnOf x qual (defArgs st) (defBody st) (defScope st) .none kV dc pm an cd ct), osl⟩) (c : PySem.W.codeIn K cd qual = true) (k : PySem.W.keepIn K (.ref f) = true)
    (hb : ∀ (kV doc pm : Value) (an : Option Addr) (cdv ct : Value) (us : List Value), us.length = ps.length → bindArgs (PySem.W.fnOf x qual (defArgs st) (defBody st) (defScope st) .none kV doc pm an cdv ct) ⟨us, []⟩ = pure (ps.zip us)) : MethAt K C x qual ps st :=
  ⟨f, _, fun_mk (st := st) l c k, ⟨a, i, k⟩, (fun_mk (st := st) l c k).binds hb⟩
theorem walk_ofX {l : PySem.W.OpenLaw} {n k : Nat} {q : Program} {loose : List Str} {XP : (Str → Option Value) → Heap → Prop} {YP : World → Heap → Prop} {d : DefRec} {K : Params → PySem.W.Frag} {sp : World → Sp} {x : Str}
    (most : l.most = some n) (few : n ≤ sizeLine) (nod : d.params.defaults = []) (room : Room k callerA) (kin : ∀ (w : World) (h : Heap), YP w h → (K w.params).In h)
    (F : ∀ (w : World) (mg : Str → Option Value) (at1 : Addr) (h : Heap), (K w.params).In h → h.Ns mainGlobals mg → XP mg h → mg d.name = some (.ref at1) →
      ∃ fd : FuncData, (∀ (s : Shared) (u : Value), BindsTo s fd ⟨[u], []⟩ [(x, u)]) ∧ ∀ base : Heap, (K w.params).In base → base.Ns mainGlobals mg → FnOk l.prog w (K w.params) mg base CX0 k at1 fd [x] (sp w))
    (hsp : ∀ (w : World) (H : Hp) (a : Addr) (ns : List Int), ns.length ≤ n → Only H → SqL (K w.params) H a (ns.map V.int) → sp w [.ref a] H (fun v _ => v = .bl true) fun _ _ _ => False) :
    PySem.W.WalkO q loose XP YP l.row.toRowW d [] (fun f vs => PySem.call f vs) := by
  refine Att.attach_call most nod fun w sb sc mg mB at1 o pm1 cd1 doc1 a vs ns G Y ho1 hd1 hc1 hm1 ob1 in1 ln1 hg1 => ?_
  have inK := kin w _ Y
  obtain ⟨fd, bnd, pr⟩ := F w mg at1 _ inK G.T.g G.X hm1
  exact law_call inK G.T.g G.T.b G.T.builtins G.T.nolimit hg1 ob1 in1 (Nat.le_trans ln1 few) room pr bnd (fun H hO hS => hsp w H a ns ln1 hO hS) fun H e s' z => z
theorem loose_int {n : Str} {i : Int} {mg : Str → Option Value} {h : Heap} (x : PySem.W.LooseAre [(n, PySem.W.WData.int i)] mg h) : ∃ t, mg n = some (.int i t) := by
  obtain ⟨v, h1, h2⟩ := x.val _ (List.mem_singleton.mpr rfl)
  cases h2
  exact ⟨_, h1⟩
theorem all_mk {l : PySem.W.OpenLaw} {w : World} {K : PySem.W.Frag} {h : Heap} {mg : Str → Option Value} {fa : Addr} (X : K.In h) (G : h.Ns mainGlobals mg) (hfa : mg "law" = some (.ref fa)) (hL0 : ∃ t, mg "MOST_NUMBER" = some (.int 1000000000000 t))
    {C_Order : Addr}
    {C_Cells : Addr}
    {C_Watch : Addr}
    {C_Member : Addr}
    {C_BadLetter : Addr}
    {C_BadView : Addr}
    {C_BadMember : Addr}
    {C_BadPayload : Addr}
    {C_DiskCrashed : Addr}
    {C_DiskError : Addr}
    {odx_Order___init__ anx_Order___init__ : Option Addr} {slx_Order___init__ : Array (Option Value)} {ocx_Order___init__ kVx_Order___init__ dcx_Order___init__ pmx_Order___init__ cdx_Order___init__ ctx_Order___init__ : Value} {fx_Order___init__ : Addr}
    {odx_Order_cast anx_Order_cast : Option Addr} {slx_Order_cast : Array (Option Value)} {ocx_Order_cast kVx_Order_cast dcx_Order_cast pmx_Order_cast cdx_Order_cast ctx_Order_cast : Value} {fx_Order_cast : Addr}
    {odx_Order_log anx_Order_log : Option Addr} {slx_Order_log : Array (Option Value)} {ocx_Order_log kVx_Order_log dcx_Order_log pmx_Order_log cdx_Order_log ctx_Order_log : Value} {fx_Order_log : Addr}
    {odx_Order__decide anx_Order__decide : Option Addr} {slx_Order__decide : Array (Option Value)} {ocx_Order__decide kVx_Order__decide dcx_Order__decide pmx_Order__decide cdx_Order__decide ctx_Order__decide : Value} {fx_Order__decide : Addr}
    {odx_Order__deliver anx_Order__deliver : Option Addr} {slx_Order__deliver : Array (Option Value)} {ocx_Order__deliver kVx_Order__deliver dcx_Order__deliver pmx_Order__deliver cdx_Order__deliver ctx_Order__deliver : Value} {fx_Order__deliver : Addr}
    {odx_Order__others anx_Order__others : Option Addr} {slx_Order__others : Array (Option Value)} {ocx_Order__others kVx_Order__others dcx_Order__others pmx_Order__others cdx_Order__others ctx_Order__others : Value} {fx_Order__others : Addr}
    {odx_Order__cast_letter anx_Order__cast_letter : Option Addr} {slx_Order__cast_letter : Array (Option Value)} {ocx_Order__cast_letter kVx_Order__cast_letter dcx_Order__cast_letter pmx_Order__cast_letter cdx_Order__cast_letter ctx_Order__cast_letter : Value} {fx_Order__cast_letter : Addr}
    {odx_Order__order_letter anx_Order__order_letter : Option Addr} {slx_Order__order_letter : Array (Option Value)} {ocx_Order__order_letter kVx_Order__order_letter dcx_Order__order_letter pmx_Order__order_letter cdx_Order__order_letter ctx_Order__order_letter : Value} {fx_Order__order_letter : Addr}
    {odx_Watch___init__ anx_Watch___init__ : Option Addr} {slx_Watch___init__ : Array (Option Value)} {ocx_Watch___init__ kVx_Watch___init__ dcx_Watch___init__ pmx_Watch___init__ cdx_Watch___init__ ctx_Watch___init__ : Value} {fx_Watch___init__ : Addr}
    {odx_Member___init__ anx_Member___init__ : Option Addr} {slx_Member___init__ : Array (Option Value)} {ocx_Member___init__ kVx_Member___init__ dcx_Member___init__ pmx_Member___init__ cdx_Member___init__ ctx_Member___init__ : Value} {fx_Member___init__ : Addr}
    {odx_Member_member anx_Member_member : Option Addr} {slx_Member_member : Array (Option Value)} {ocx_Member_member kVx_Member_member dcx_Member_member pmx_Member_member cdx_Member_member ctx_Member_member : Value} {fx_Member_member : Addr}
    {odx_Member_view anx_Member_view : Option Addr} {slx_Member_view : Array (Option Value)} {ocx_Member_view kVx_Member_view dcx_Member_view pmx_Member_view cdx_Member_view ctx_Member_view : Value} {fx_Member_view : Addr}
    {odx_Member_frozen anx_Member_frozen : Option Addr} {slx_Member_frozen : Array (Option Value)} {ocx_Member_frozen kVx_Member_frozen dcx_Member_frozen pmx_Member_frozen cdx_Member_frozen ctx_Member_frozen : Value} {fx_Member_frozen : Addr}
    {odx_Member_log anx_Member_log : Option Addr} {slx_Member_log : Array (Option Value)} {ocx_Member_log kVx_Member_log dcx_Member_log pmx_Member_log cdx_Member_log ctx_Member_log : Value} {fx_Member_log : Addr}
    {odx_Member_waiting anx_Member_waiting : Option Addr} {slx_Member_waiting : Array (Option Value)} {ocx_Member_waiting kVx_Member_waiting dcx_Member_waiting pmx_Member_waiting cdx_Member_waiting ctx_Member_waiting : Value} {fx_Member_waiting : Addr}
    {odx_Member_events anx_Member_events : Option Addr} {slx_Member_events : Array (Option Value)} {ocx_Member_events kVx_Member_events dcx_Member_events pmx_Member_events cdx_Member_events ctx_Member_events : Value} {fx_Member_events : Addr}
    {odx_Member_cast anx_Member_cast : Option Addr} {slx_Member_cast : Array (Option Value)} {ocx_Member_cast kVx_Member_cast dcx_Member_cast pmx_Member_cast cdx_Member_cast ctx_Member_cast : Value} {fx_Member_cast : Addr}
    {odx_Member_receive anx_Member_receive : Option Addr} {slx_Member_receive : Array (Option Value)} {ocx_Member_receive kVx_Member_receive dcx_Member_receive pmx_Member_receive cdx_Member_receive ctx_Member_receive : Value} {fx_Member_receive : Addr}
    {odx_Member__enter anx_Member__enter : Option Addr} {slx_Member__enter : Array (Option Value)} {ocx_Member__enter kVx_Member__enter dcx_Member__enter pmx_Member__enter cdx_Member__enter ctx_Member__enter : Value} {fx_Member__enter : Addr}
    {odx_Member__deliver anx_Member__deliver : Option Addr} {slx_Member__deliver : Array (Option Value)} {ocx_Member__deliver kVx_Member__deliver dcx_Member__deliver pmx_Member__deliver cdx_Member__deliver ctx_Member__deliver : Value} {fx_Member__deliver : Addr}
    {odx_Cells___init__ anx_Cells___init__ : Option Addr} {slx_Cells___init__ : Array (Option Value)} {ocx_Cells___init__ kVx_Cells___init__ dcx_Cells___init__ pmx_Cells___init__ cdx_Cells___init__ ctx_Cells___init__ : Value} {fx_Cells___init__ : Addr}
    {odx_Cells_read anx_Cells_read : Option Addr} {slx_Cells_read : Array (Option Value)} {ocx_Cells_read kVx_Cells_read dcx_Cells_read pmx_Cells_read cdx_Cells_read ctx_Cells_read : Value} {fx_Cells_read : Addr}
    {odx_Cells_write anx_Cells_write : Option Addr} {slx_Cells_write : Array (Option Value)} {ocx_Cells_write kVx_Cells_write dcx_Cells_write pmx_Cells_write cdx_Cells_write ctx_Cells_write : Value} {fx_Cells_write : Addr}
    {odx_Cells_arm anx_Cells_arm : Option Addr} {slx_Cells_arm : Array (Option Value)} {ocx_Cells_arm kVx_Cells_arm dcx_Cells_arm pmx_Cells_arm cdx_Cells_arm ctx_Cells_arm : Value} {fx_Cells_arm : Addr}
    {odx_Cells_crash anx_Cells_crash : Option Addr} {slx_Cells_crash : Array (Option Value)} {ocx_Cells_crash kVx_Cells_crash dcx_Cells_crash pmx_Cells_crash cdx_Cells_crash ctx_Cells_crash : Value} {fx_Cells_crash : Addr}
    {odx_Cells__check anx_Cells__check : Option Addr} {slx_Cells__check : Array (Option Value)} {ocx_Cells__check kVx_Cells__check dcx_Cells__check pmx_Cells__check cdx_Cells__check ctx_Cells__check : Value} {fx_Cells__check : Addr}
    {D__CHECKS : Addr} {es__CHECKS : Array DictEntry} {nE__CHECKS : Nat}
    {C_MusterError : Addr}
    {odx_is_printable anx_is_printable : Option Addr} {slx_is_printable : Array (Option Value)} {ocx_is_printable kVx_is_printable dcx_is_printable pmx_is_printable cdx_is_printable ctx_is_printable : Value} {fx_is_printable : Addr}
    {odx__is_printable_character anx__is_printable_character : Option Addr} {slx__is_printable_character : Array (Option Value)} {ocx__is_printable_character kVx__is_printable_character dcx__is_printable_character pmx__is_printable_character cdx__is_printable_character ctx__is_printable_character : Value} {fx__is_printable_character : Addr}
    {odx_is_integer anx_is_integer : Option Addr} {slx_is_integer : Array (Option Value)} {ocx_is_integer kVx_is_integer dcx_is_integer pmx_is_integer cdx_is_integer ctx_is_integer : Value} {fx_is_integer : Addr}
    {odx_is_process anx_is_process : Option Addr} {slx_is_process : Array (Option Value)} {ocx_is_process kVx_is_process dcx_is_process pmx_is_process cdx_is_process ctx_is_process : Value} {fx_is_process : Addr}
    {odx_is_member anx_is_member : Option Addr} {slx_is_member : Array (Option Value)} {ocx_is_member kVx_is_member dcx_is_member pmx_is_member cdx_is_member ctx_is_member : Value} {fx_is_member : Addr}
    {odx_is_members anx_is_members : Option Addr} {slx_is_members : Array (Option Value)} {ocx_is_members kVx_is_members dcx_is_members pmx_is_members cdx_is_members ctx_is_members : Value} {fx_is_members : Addr}
    {odx_is_view_id anx_is_view_id : Option Addr} {slx_is_view_id : Array (Option Value)} {ocx_is_view_id kVx_is_view_id dcx_is_view_id pmx_is_view_id cdx_is_view_id ctx_is_view_id : Value} {fx_is_view_id : Addr}
    {odx_is_payload anx_is_payload : Option Addr} {slx_is_payload : Array (Option Value)} {ocx_is_payload kVx_is_payload dcx_is_payload pmx_is_payload cdx_is_payload ctx_is_payload : Value} {fx_is_payload : Addr}
    {odx_is_message anx_is_message : Option Addr} {slx_is_message : Array (Option Value)} {ocx_is_message kVx_is_message dcx_is_message pmx_is_message cdx_is_message ctx_is_message : Value} {fx_is_message : Addr}
    {odx_is_log anx_is_log : Option Addr} {slx_is_log : Array (Option Value)} {ocx_is_log kVx_is_log dcx_is_log pmx_is_log cdx_is_log ctx_is_log : Value} {fx_is_log : Addr}
    {odx_last_index anx_last_index : Option Addr} {slx_last_index : Array (Option Value)} {ocx_last_index kVx_last_index dcx_last_index pmx_last_index cdx_last_index ctx_last_index : Value} {fx_last_index : Addr}
    {odx_is_pending anx_is_pending : Option Addr} {slx_is_pending : Array (Option Value)} {ocx_is_pending kVx_is_pending dcx_is_pending pmx_is_pending cdx_is_pending ctx_is_pending : Value} {fx_is_pending : Addr}
    {odx__is_pending_cast anx__is_pending_cast : Option Addr} {slx__is_pending_cast : Array (Option Value)} {ocx__is_pending_cast kVx__is_pending_cast dcx__is_pending_cast pmx__is_pending_cast cdx__is_pending_cast ctx__is_pending_cast : Value} {fx__is_pending_cast : Addr}
    {odx__is_here anx__is_here : Option Addr} {slx__is_here : Array (Option Value)} {ocx__is_here kVx__is_here dcx__is_here pmx__is_here cdx__is_here ctx__is_here : Value} {fx__is_here : Addr}
    {odx__is_cast anx__is_cast : Option Addr} {slx__is_cast : Array (Option Value)} {ocx__is_cast kVx__is_cast dcx__is_cast pmx__is_cast cdx__is_cast ctx__is_cast : Value} {fx__is_cast : Addr}
    {odx__is_order anx__is_order : Option Addr} {slx__is_order : Array (Option Value)} {ocx__is_order kVx__is_order dcx__is_order pmx__is_order cdx__is_order ctx__is_order : Value} {fx__is_order : Addr}
    {odx__is_propose anx__is_propose : Option Addr} {slx__is_propose : Array (Option Value)} {ocx__is_propose kVx__is_propose dcx__is_propose pmx__is_propose cdx__is_propose ctx__is_propose : Value} {fx__is_propose : Addr}
    {odx__is_state anx__is_state : Option Addr} {slx__is_state : Array (Option Value)} {ocx__is_state kVx__is_state dcx__is_state pmx__is_state cdx__is_state ctx__is_state : Value} {fx__is_state : Addr}
    {odx__is_install anx__is_install : Option Addr} {slx__is_install : Array (Option Value)} {ocx__is_install kVx__is_install dcx__is_install pmx__is_install cdx__is_install ctx__is_install : Value} {fx__is_install : Addr}
    {odx__is_higher anx__is_higher : Option Addr} {slx__is_higher : Array (Option Value)} {ocx__is_higher kVx__is_higher dcx__is_higher pmx__is_higher cdx__is_higher ctx__is_higher : Value} {fx__is_higher : Addr}
    {odx__is_place anx__is_place : Option Addr} {slx__is_place : Array (Option Value)} {ocx__is_place kVx__is_place dcx__is_place pmx__is_place cdx__is_place ctx__is_place : Value} {fx__is_place : Addr}
    {odx__is_finals anx__is_finals : Option Addr} {slx__is_finals : Array (Option Value)} {ocx__is_finals kVx__is_finals dcx__is_finals pmx__is_finals cdx__is_finals ctx__is_finals : Value} {fx__is_finals : Addr}
    {odx__is_final anx__is_final : Option Addr} {slx__is_final : Array (Option Value)} {ocx__is_final kVx__is_final dcx__is_final pmx__is_final cdx__is_final ctx__is_final : Value} {fx__is_final : Addr}
    {odx_is_letter anx_is_letter : Option Addr} {slx_is_letter : Array (Option Value)} {ocx_is_letter kVx_is_letter dcx_is_letter pmx_is_letter cdx_is_letter ctx_is_letter : Value} {fx_is_letter : Addr}
    {odx_check_letter anx_check_letter : Option Addr} {slx_check_letter : Array (Option Value)} {ocx_check_letter kVx_check_letter dcx_check_letter pmx_check_letter cdx_check_letter ctx_check_letter : Value} {fx_check_letter : Addr}
    {odx_life_text anx_life_text : Option Addr} {slx_life_text : Array (Option Value)} {ocx_life_text kVx_life_text dcx_life_text pmx_life_text cdx_life_text ctx_life_text : Value} {fx_life_text : Addr}
    {odx_life_of anx_life_of : Option Addr} {slx_life_of : Array (Option Value)} {ocx_life_of kVx_life_of dcx_life_of pmx_life_of cdx_life_of ctx_life_of : Value} {fx_life_of : Addr}
    {odx__are_digits anx__are_digits : Option Addr} {slx__are_digits : Array (Option Value)} {ocx__are_digits kVx__are_digits dcx__are_digits pmx__are_digits cdx__are_digits ctx__are_digits : Value} {fx__are_digits : Addr}
    {odx_next_life anx_next_life : Option Addr} {slx_next_life : Array (Option Value)} {ocx_next_life kVx_next_life dcx_next_life pmx_next_life cdx_next_life ctx_next_life : Value} {fx_next_life : Addr}
    {odx__law_cell anx__law_cell : Option Addr} {slx__law_cell : Array (Option Value)} {ocx__law_cell kVx__law_cell dcx__law_cell pmx__law_cell cdx__law_cell ctx__law_cell : Value} {fx__law_cell : Addr}
    {odx__law_made anx__law_made : Option Addr} {slx__law_made : Array (Option Value)} {ocx__law_made kVx__law_made dcx__law_made pmx__law_made cdx__law_made ctx__law_made : Value} {fx__law_made : Addr}
    {odx__law_cast anx__law_cast : Option Addr} {slx__law_cast : Array (Option Value)} {ocx__law_cast kVx__law_cast dcx__law_cast pmx__law_cast cdx__law_cast ctx__law_cast : Value} {fx__law_cast : Addr}
    {odx__law_good anx__law_good : Option Addr} {slx__law_good : Array (Option Value)} {ocx__law_good kVx__law_good dcx__law_good pmx__law_good cdx__law_good ctx__law_good : Value} {fx__law_good : Addr}
    {odx_law anx_law : Option Addr} {slx_law : Array (Option Value)} {ocx_law kVx_law dcx_law pmx_law cdx_law ctx_law : Value} {fx_law : Addr}
    {t_REFUSED_CODE : Tok}
    {tMOST_PROCESSES : Tok}
    {tMOST_PAYLOAD : Tok}
    {tWINDOW : Tok}
    {tSILENCE : Tok}
    (aC_Order : PySem.W.nsIn K mainGlobals "Order" = some (some (.ref C_Order)))
    (aC_Cells : PySem.W.nsIn K mainGlobals "Cells" = some (some (.ref C_Cells)))
    (aC_Watch : PySem.W.nsIn K mainGlobals "Watch" = some (some (.ref C_Watch)))
    (aC_Member : PySem.W.nsIn K mainGlobals "Member" = some (some (.ref C_Member)))
    (aC_BadLetter : PySem.W.nsIn K mainGlobals "BadLetter" = some (some (.ref C_BadLetter)))
    (aC_BadView : PySem.W.nsIn K mainGlobals "BadView" = some (some (.ref C_BadView)))
    (aC_BadMember : PySem.W.nsIn K mainGlobals "BadMember" = some (some (.ref C_BadMember)))
    (aC_BadPayload : PySem.W.nsIn K mainGlobals "BadPayload" = some (some (.ref C_BadPayload)))
    (aC_DiskCrashed : PySem.W.nsIn K mainGlobals "DiskCrashed" = some (some (.ref C_DiskCrashed)))
    (aC_DiskError : PySem.W.nsIn K mainGlobals "DiskError" = some (some (.ref C_DiskError)))
    (pg_Order : PySem.W.plainGet K C_Order Str.empty = true)
    (hd_Order : PySem.W.hasDictIn K C_Order = true)
    (po_Order : PySem.W.plainOver K C_Order = true)
    (sa_Order : PySem.W.findIn K (.ref C_Order) "__setattr__" = some (some (.builtin "object.__setattr__")))
    (mk_Order : PySem.W.makesIn K C_Order = true)
    (kc_Order : PySem.W.keepIn K (.ref C_Order) = true)
    (n_Order__me : PySem.W.findIn K (.ref C_Order) "_me" = some none)
    (n_Order__view_id : PySem.W.findIn K (.ref C_Order) "_view_id" = some none)
    (n_Order__members : PySem.W.findIn K (.ref C_Order) "_members" = some none)
    (n_Order__founder : PySem.W.findIn K (.ref C_Order) "_founder" = some none)
    (n_Order__log : PySem.W.findIn K (.ref C_Order) "_log" = some none)
    (n_Order__last_indexes : PySem.W.findIn K (.ref C_Order) "_last_indexes" = some none)
    (n_Order__casts : PySem.W.findIn K (.ref C_Order) "_casts" = some none)
    (n_Order__pending : PySem.W.findIn K (.ref C_Order) "_pending" = some none)
    (n_Order__kept : PySem.W.findIn K (.ref C_Order) "_kept" = some none)
    (n_Order__told : PySem.W.findIn K (.ref C_Order) "_told" = some none)
    (pg_Cells : PySem.W.plainGet K C_Cells Str.empty = true)
    (hd_Cells : PySem.W.hasDictIn K C_Cells = true)
    (po_Cells : PySem.W.plainOver K C_Cells = true)
    (sa_Cells : PySem.W.findIn K (.ref C_Cells) "__setattr__" = some (some (.builtin "object.__setattr__")))
    (mk_Cells : PySem.W.makesIn K C_Cells = true)
    (kc_Cells : PySem.W.keepIn K (.ref C_Cells) = true)
    (n_Cells__texts : PySem.W.findIn K (.ref C_Cells) "_texts" = some none)
    (n_Cells__has_crashed : PySem.W.findIn K (.ref C_Cells) "_has_crashed" = some none)
    (n_Cells__passing : PySem.W.findIn K (.ref C_Cells) "_passing" = some none)
    (n_Cells__keep : PySem.W.findIn K (.ref C_Cells) "_keep" = some none)
    (pg_Watch : PySem.W.plainGet K C_Watch Str.empty = true)
    (hd_Watch : PySem.W.hasDictIn K C_Watch = true)
    (po_Watch : PySem.W.plainOver K C_Watch = true)
    (sa_Watch : PySem.W.findIn K (.ref C_Watch) "__setattr__" = some (some (.builtin "object.__setattr__")))
    (mk_Watch : PySem.W.makesIn K C_Watch = true)
    (kc_Watch : PySem.W.keepIn K (.ref C_Watch) = true)
    (n_Watch__me : PySem.W.findIn K (.ref C_Watch) "_me" = some none)
    (n_Watch__lives : PySem.W.findIn K (.ref C_Watch) "_lives" = some none)
    (n_Watch__ages : PySem.W.findIn K (.ref C_Watch) "_ages" = some none)
    (pg_Member : PySem.W.plainGet K C_Member Str.empty = true)
    (hd_Member : PySem.W.hasDictIn K C_Member = true)
    (po_Member : PySem.W.plainOver K C_Member = true)
    (sa_Member : PySem.W.findIn K (.ref C_Member) "__setattr__" = some (some (.builtin "object.__setattr__")))
    (mk_Member : PySem.W.makesIn K C_Member = true)
    (kc_Member : PySem.W.keepIn K (.ref C_Member) = true)
    (n_Member__me : PySem.W.findIn K (.ref C_Member) "_me" = some none)
    (n_Member__count : PySem.W.findIn K (.ref C_Member) "_count" = some none)
    (n_Member__watch : PySem.W.findIn K (.ref C_Member) "_watch" = some none)
    (n_Member__promised : PySem.W.findIn K (.ref C_Member) "_promised" = some none)
    (n_Member__greatest_number : PySem.W.findIn K (.ref C_Member) "_greatest_number" = some none)
    (n_Member__attempt : PySem.W.findIn K (.ref C_Member) "_attempt" = some none)
    (n_Member__waiting : PySem.W.findIn K (.ref C_Member) "_waiting" = some none)
    (n_Member__events : PySem.W.findIn K (.ref C_Member) "_events" = some none)
    (n_Member__view_id : PySem.W.findIn K (.ref C_Member) "_view_id" = some none)
    (n_Member__members : PySem.W.findIn K (.ref C_Member) "_members" = some none)
    (n_Member__order : PySem.W.findIn K (.ref C_Member) "_order" = some none)
    (n_Member__led_by : PySem.W.findIn K (.ref C_Member) "_led_by" = some none)
    (n_Member__seen : PySem.W.findIn K (.ref C_Member) "_seen" = some none)
    (n_Member__has_strayed : PySem.W.findIn K (.ref C_Member) "_has_strayed" = some none)
    (n_Member__frozen : PySem.W.findIn K (.ref C_Member) "_frozen" = some none)
    (ax_Order___init__ : PySem.W.findIn K (.ref C_Order) "__init__" = some (some (.ref fx_Order___init__)))
    (ix_Order___init__ : PySem.W.isFn K (.ref fx_Order___init__) = true)
    (lx_Order___init__ : K.lookup fx_Order___init__ = some ⟨ocx_Order___init__, odx_Order___init__, .func (PySem.W.fnOf "__init__" "Order.__init__" (defArgs s_Order___init__) (defBody s_Order___init__) (defScope s_Order___init__) .none kVx_Order___init__ dcx_Order___init__ pmx_Order___init__ anx_Order___init__ cdx_Order___init__ ctx_Order___init__), slx_Order___init__⟩)
    (cx_Order___init__ : PySem.W.codeIn K cdx_Order___init__ "Order.__init__" = true)
    (kx_Order___init__ : PySem.W.keepIn K (.ref fx_Order___init__) = true)
    (ax_Order_cast : PySem.W.findIn K (.ref C_Order) "cast" = some (some (.ref fx_Order_cast)))
    (ix_Order_cast : PySem.W.isFn K (.ref fx_Order_cast) = true)
    (lx_Order_cast : K.lookup fx_Order_cast = some ⟨ocx_Order_cast, odx_Order_cast, .func (PySem.W.fnOf "cast" "Order.cast" (defArgs s_Order_cast) (defBody s_Order_cast) (defScope s_Order_cast) .none kVx_Order_cast dcx_Order_cast pmx_Order_cast anx_Order_cast cdx_Order_cast ctx_Order_cast), slx_Order_cast⟩)
    (cx_Order_cast : PySem.W.codeIn K cdx_Order_cast "Order.cast" = true)
    (kx_Order_cast : PySem.W.keepIn K (.ref fx_Order_cast) = true)
    (ax_Order_log : PySem.W.findIn K (.ref C_Order) "log" = some (some (.ref fx_Order_log)))
    (ix_Order_log : PySem.W.isFn K (.ref fx_Order_log) = true)
    (lx_Order_log : K.lookup fx_Order_log = some ⟨ocx_Order_log, odx_Order_log, .func (PySem.W.fnOf "log" "Order.log" (defArgs s_Order_log) (defBody s_Order_log) (defScope s_Order_log) .none kVx_Order_log dcx_Order_log pmx_Order_log anx_Order_log cdx_Order_log ctx_Order_log), slx_Order_log⟩)
    (cx_Order_log : PySem.W.codeIn K cdx_Order_log "Order.log" = true)
    (kx_Order_log : PySem.W.keepIn K (.ref fx_Order_log) = true)
    (ax_Order__decide : PySem.W.findIn K (.ref C_Order) "_decide" = some (some (.ref fx_Order__decide)))
    (ix_Order__decide : PySem.W.isFn K (.ref fx_Order__decide) = true)
    (lx_Order__decide : K.lookup fx_Order__decide = some ⟨ocx_Order__decide, odx_Order__decide, .func (PySem.W.fnOf "_decide" "Order._decide" (defArgs s_Order__decide) (defBody s_Order__decide) (defScope s_Order__decide) .none kVx_Order__decide dcx_Order__decide pmx_Order__decide anx_Order__decide cdx_Order__decide ctx_Order__decide), slx_Order__decide⟩)
    (cx_Order__decide : PySem.W.codeIn K cdx_Order__decide "Order._decide" = true)
    (kx_Order__decide : PySem.W.keepIn K (.ref fx_Order__decide) = true)
    (ax_Order__deliver : PySem.W.findIn K (.ref C_Order) "_deliver" = some (some (.ref fx_Order__deliver)))
    (ix_Order__deliver : PySem.W.isFn K (.ref fx_Order__deliver) = true)
    (lx_Order__deliver : K.lookup fx_Order__deliver = some ⟨ocx_Order__deliver, odx_Order__deliver, .func (PySem.W.fnOf "_deliver" "Order._deliver" (defArgs s_Order__deliver) (defBody s_Order__deliver) (defScope s_Order__deliver) .none kVx_Order__deliver dcx_Order__deliver pmx_Order__deliver anx_Order__deliver cdx_Order__deliver ctx_Order__deliver), slx_Order__deliver⟩)
    (cx_Order__deliver : PySem.W.codeIn K cdx_Order__deliver "Order._deliver" = true)
    (kx_Order__deliver : PySem.W.keepIn K (.ref fx_Order__deliver) = true)
    (ax_Order__others : PySem.W.findIn K (.ref C_Order) "_others" = some (some (.ref fx_Order__others)))
    (ix_Order__others : PySem.W.isFn K (.ref fx_Order__others) = true)
    (lx_Order__others : K.lookup fx_Order__others = some ⟨ocx_Order__others, odx_Order__others, .func (PySem.W.fnOf "_others" "Order._others" (defArgs s_Order__others) (defBody s_Order__others) (defScope s_Order__others) .none kVx_Order__others dcx_Order__others pmx_Order__others anx_Order__others cdx_Order__others ctx_Order__others), slx_Order__others⟩)
    (cx_Order__others : PySem.W.codeIn K cdx_Order__others "Order._others" = true)
    (kx_Order__others : PySem.W.keepIn K (.ref fx_Order__others) = true)
    (ax_Order__cast_letter : PySem.W.findIn K (.ref C_Order) "_cast_letter" = some (some (.ref fx_Order__cast_letter)))
    (ix_Order__cast_letter : PySem.W.isFn K (.ref fx_Order__cast_letter) = true)
    (lx_Order__cast_letter : K.lookup fx_Order__cast_letter = some ⟨ocx_Order__cast_letter, odx_Order__cast_letter, .func (PySem.W.fnOf "_cast_letter" "Order._cast_letter" (defArgs s_Order__cast_letter) (defBody s_Order__cast_letter) (defScope s_Order__cast_letter) .none kVx_Order__cast_letter dcx_Order__cast_letter pmx_Order__cast_letter anx_Order__cast_letter cdx_Order__cast_letter ctx_Order__cast_letter), slx_Order__cast_letter⟩)
    (cx_Order__cast_letter : PySem.W.codeIn K cdx_Order__cast_letter "Order._cast_letter" = true)
    (kx_Order__cast_letter : PySem.W.keepIn K (.ref fx_Order__cast_letter) = true)
    (ax_Order__order_letter : PySem.W.findIn K (.ref C_Order) "_order_letter" = some (some (.ref fx_Order__order_letter)))
    (ix_Order__order_letter : PySem.W.isFn K (.ref fx_Order__order_letter) = true)
    (lx_Order__order_letter : K.lookup fx_Order__order_letter = some ⟨ocx_Order__order_letter, odx_Order__order_letter, .func (PySem.W.fnOf "_order_letter" "Order._order_letter" (defArgs s_Order__order_letter) (defBody s_Order__order_letter) (defScope s_Order__order_letter) .none kVx_Order__order_letter dcx_Order__order_letter pmx_Order__order_letter anx_Order__order_letter cdx_Order__order_letter ctx_Order__order_letter), slx_Order__order_letter⟩)
    (cx_Order__order_letter : PySem.W.codeIn K cdx_Order__order_letter "Order._order_letter" = true)
    (kx_Order__order_letter : PySem.W.keepIn K (.ref fx_Order__order_letter) = true)
    (ax_Watch___init__ : PySem.W.findIn K (.ref C_Watch) "__init__" = some (some (.ref fx_Watch___init__)))
    (ix_Watch___init__ : PySem.W.isFn K (.ref fx_Watch___init__) = true)
    (lx_Watch___init__ : K.lookup fx_Watch___init__ = some ⟨ocx_Watch___init__, odx_Watch___init__, .func (PySem.W.fnOf "__init__" "Watch.__init__" (defArgs s_Watch___init__) (defBody s_Watch___init__) (defScope s_Watch___init__) .none kVx_Watch___init__ dcx_Watch___init__ pmx_Watch___init__ anx_Watch___init__ cdx_Watch___init__ ctx_Watch___init__), slx_Watch___init__⟩)
    (cx_Watch___init__ : PySem.W.codeIn K cdx_Watch___init__ "Watch.__init__" = true)
    (kx_Watch___init__ : PySem.W.keepIn K (.ref fx_Watch___init__) = true)
    (ax_Member___init__ : PySem.W.findIn K (.ref C_Member) "__init__" = some (some (.ref fx_Member___init__)))
    (ix_Member___init__ : PySem.W.isFn K (.ref fx_Member___init__) = true)
    (lx_Member___init__ : K.lookup fx_Member___init__ = some ⟨ocx_Member___init__, odx_Member___init__, .func (PySem.W.fnOf "__init__" "Member.__init__" (defArgs s_Member___init__) (defBody s_Member___init__) (defScope s_Member___init__) .none kVx_Member___init__ dcx_Member___init__ pmx_Member___init__ anx_Member___init__ cdx_Member___init__ ctx_Member___init__), slx_Member___init__⟩)
    (cx_Member___init__ : PySem.W.codeIn K cdx_Member___init__ "Member.__init__" = true)
    (kx_Member___init__ : PySem.W.keepIn K (.ref fx_Member___init__) = true)
    (ax_Member_member : PySem.W.findIn K (.ref C_Member) "member" = some (some (.ref fx_Member_member)))
    (ix_Member_member : PySem.W.isFn K (.ref fx_Member_member) = true)
    (lx_Member_member : K.lookup fx_Member_member = some ⟨ocx_Member_member, odx_Member_member, .func (PySem.W.fnOf "member" "Member.member" (defArgs s_Member_member) (defBody s_Member_member) (defScope s_Member_member) .none kVx_Member_member dcx_Member_member pmx_Member_member anx_Member_member cdx_Member_member ctx_Member_member), slx_Member_member⟩)
    (cx_Member_member : PySem.W.codeIn K cdx_Member_member "Member.member" = true)
    (kx_Member_member : PySem.W.keepIn K (.ref fx_Member_member) = true)
    (ax_Member_view : PySem.W.findIn K (.ref C_Member) "view" = some (some (.ref fx_Member_view)))
    (ix_Member_view : PySem.W.isFn K (.ref fx_Member_view) = true)
    (lx_Member_view : K.lookup fx_Member_view = some ⟨ocx_Member_view, odx_Member_view, .func (PySem.W.fnOf "view" "Member.view" (defArgs s_Member_view) (defBody s_Member_view) (defScope s_Member_view) .none kVx_Member_view dcx_Member_view pmx_Member_view anx_Member_view cdx_Member_view ctx_Member_view), slx_Member_view⟩)
    (cx_Member_view : PySem.W.codeIn K cdx_Member_view "Member.view" = true)
    (kx_Member_view : PySem.W.keepIn K (.ref fx_Member_view) = true)
    (ax_Member_frozen : PySem.W.findIn K (.ref C_Member) "frozen" = some (some (.ref fx_Member_frozen)))
    (ix_Member_frozen : PySem.W.isFn K (.ref fx_Member_frozen) = true)
    (lx_Member_frozen : K.lookup fx_Member_frozen = some ⟨ocx_Member_frozen, odx_Member_frozen, .func (PySem.W.fnOf "frozen" "Member.frozen" (defArgs s_Member_frozen) (defBody s_Member_frozen) (defScope s_Member_frozen) .none kVx_Member_frozen dcx_Member_frozen pmx_Member_frozen anx_Member_frozen cdx_Member_frozen ctx_Member_frozen), slx_Member_frozen⟩)
    (cx_Member_frozen : PySem.W.codeIn K cdx_Member_frozen "Member.frozen" = true)
    (kx_Member_frozen : PySem.W.keepIn K (.ref fx_Member_frozen) = true)
    (ax_Member_log : PySem.W.findIn K (.ref C_Member) "log" = some (some (.ref fx_Member_log)))
    (ix_Member_log : PySem.W.isFn K (.ref fx_Member_log) = true)
    (lx_Member_log : K.lookup fx_Member_log = some ⟨ocx_Member_log, odx_Member_log, .func (PySem.W.fnOf "log" "Member.log" (defArgs s_Member_log) (defBody s_Member_log) (defScope s_Member_log) .none kVx_Member_log dcx_Member_log pmx_Member_log anx_Member_log cdx_Member_log ctx_Member_log), slx_Member_log⟩)
    (cx_Member_log : PySem.W.codeIn K cdx_Member_log "Member.log" = true)
    (kx_Member_log : PySem.W.keepIn K (.ref fx_Member_log) = true)
    (ax_Member_waiting : PySem.W.findIn K (.ref C_Member) "waiting" = some (some (.ref fx_Member_waiting)))
    (ix_Member_waiting : PySem.W.isFn K (.ref fx_Member_waiting) = true)
    (lx_Member_waiting : K.lookup fx_Member_waiting = some ⟨ocx_Member_waiting, odx_Member_waiting, .func (PySem.W.fnOf "waiting" "Member.waiting" (defArgs s_Member_waiting) (defBody s_Member_waiting) (defScope s_Member_waiting) .none kVx_Member_waiting dcx_Member_waiting pmx_Member_waiting anx_Member_waiting cdx_Member_waiting ctx_Member_waiting), slx_Member_waiting⟩)
    (cx_Member_waiting : PySem.W.codeIn K cdx_Member_waiting "Member.waiting" = true)
    (kx_Member_waiting : PySem.W.keepIn K (.ref fx_Member_waiting) = true)
    (ax_Member_events : PySem.W.findIn K (.ref C_Member) "events" = some (some (.ref fx_Member_events)))
    (ix_Member_events : PySem.W.isFn K (.ref fx_Member_events) = true)
    (lx_Member_events : K.lookup fx_Member_events = some ⟨ocx_Member_events, odx_Member_events, .func (PySem.W.fnOf "events" "Member.events" (defArgs s_Member_events) (defBody s_Member_events) (defScope s_Member_events) .none kVx_Member_events dcx_Member_events pmx_Member_events anx_Member_events cdx_Member_events ctx_Member_events), slx_Member_events⟩)
    (cx_Member_events : PySem.W.codeIn K cdx_Member_events "Member.events" = true)
    (kx_Member_events : PySem.W.keepIn K (.ref fx_Member_events) = true)
    (ax_Member_cast : PySem.W.findIn K (.ref C_Member) "cast" = some (some (.ref fx_Member_cast)))
    (ix_Member_cast : PySem.W.isFn K (.ref fx_Member_cast) = true)
    (lx_Member_cast : K.lookup fx_Member_cast = some ⟨ocx_Member_cast, odx_Member_cast, .func (PySem.W.fnOf "cast" "Member.cast" (defArgs s_Member_cast) (defBody s_Member_cast) (defScope s_Member_cast) .none kVx_Member_cast dcx_Member_cast pmx_Member_cast anx_Member_cast cdx_Member_cast ctx_Member_cast), slx_Member_cast⟩)
    (cx_Member_cast : PySem.W.codeIn K cdx_Member_cast "Member.cast" = true)
    (kx_Member_cast : PySem.W.keepIn K (.ref fx_Member_cast) = true)
    (ax_Member_receive : PySem.W.findIn K (.ref C_Member) "receive" = some (some (.ref fx_Member_receive)))
    (ix_Member_receive : PySem.W.isFn K (.ref fx_Member_receive) = true)
    (lx_Member_receive : K.lookup fx_Member_receive = some ⟨ocx_Member_receive, odx_Member_receive, .func (PySem.W.fnOf "receive" "Member.receive" (defArgs s_Member_receive) (defBody s_Member_receive) (defScope s_Member_receive) .none kVx_Member_receive dcx_Member_receive pmx_Member_receive anx_Member_receive cdx_Member_receive ctx_Member_receive), slx_Member_receive⟩)
    (cx_Member_receive : PySem.W.codeIn K cdx_Member_receive "Member.receive" = true)
    (kx_Member_receive : PySem.W.keepIn K (.ref fx_Member_receive) = true)
    (ax_Member__enter : PySem.W.findIn K (.ref C_Member) "_enter" = some (some (.ref fx_Member__enter)))
    (ix_Member__enter : PySem.W.isFn K (.ref fx_Member__enter) = true)
    (lx_Member__enter : K.lookup fx_Member__enter = some ⟨ocx_Member__enter, odx_Member__enter, .func (PySem.W.fnOf "_enter" "Member._enter" (defArgs s_Member__enter) (defBody s_Member__enter) (defScope s_Member__enter) .none kVx_Member__enter dcx_Member__enter pmx_Member__enter anx_Member__enter cdx_Member__enter ctx_Member__enter), slx_Member__enter⟩)
    (cx_Member__enter : PySem.W.codeIn K cdx_Member__enter "Member._enter" = true)
    (kx_Member__enter : PySem.W.keepIn K (.ref fx_Member__enter) = true)
    (ax_Member__deliver : PySem.W.findIn K (.ref C_Member) "_deliver" = some (some (.ref fx_Member__deliver)))
    (ix_Member__deliver : PySem.W.isFn K (.ref fx_Member__deliver) = true)
    (lx_Member__deliver : K.lookup fx_Member__deliver = some ⟨ocx_Member__deliver, odx_Member__deliver, .func (PySem.W.fnOf "_deliver" "Member._deliver" (defArgs s_Member__deliver) (defBody s_Member__deliver) (defScope s_Member__deliver) .none kVx_Member__deliver dcx_Member__deliver pmx_Member__deliver anx_Member__deliver cdx_Member__deliver ctx_Member__deliver), slx_Member__deliver⟩)
    (cx_Member__deliver : PySem.W.codeIn K cdx_Member__deliver "Member._deliver" = true)
    (kx_Member__deliver : PySem.W.keepIn K (.ref fx_Member__deliver) = true)
    (ax_Cells___init__ : PySem.W.findIn K (.ref C_Cells) "__init__" = some (some (.ref fx_Cells___init__)))
    (ix_Cells___init__ : PySem.W.isFn K (.ref fx_Cells___init__) = true)
    (lx_Cells___init__ : K.lookup fx_Cells___init__ = some ⟨ocx_Cells___init__, odx_Cells___init__, .func (PySem.W.fnOf "__init__" "Cells.__init__" (defArgs s_Cells___init__) (defBody s_Cells___init__) (defScope s_Cells___init__) .none kVx_Cells___init__ dcx_Cells___init__ pmx_Cells___init__ anx_Cells___init__ cdx_Cells___init__ ctx_Cells___init__), slx_Cells___init__⟩)
    (cx_Cells___init__ : PySem.W.codeIn K cdx_Cells___init__ "Cells.__init__" = true)
    (kx_Cells___init__ : PySem.W.keepIn K (.ref fx_Cells___init__) = true)
    (ax_Cells_read : PySem.W.findIn K (.ref C_Cells) "read" = some (some (.ref fx_Cells_read)))
    (ix_Cells_read : PySem.W.isFn K (.ref fx_Cells_read) = true)
    (lx_Cells_read : K.lookup fx_Cells_read = some ⟨ocx_Cells_read, odx_Cells_read, .func (PySem.W.fnOf "read" "Cells.read" (defArgs s_Cells_read) (defBody s_Cells_read) (defScope s_Cells_read) .none kVx_Cells_read dcx_Cells_read pmx_Cells_read anx_Cells_read cdx_Cells_read ctx_Cells_read), slx_Cells_read⟩)
    (cx_Cells_read : PySem.W.codeIn K cdx_Cells_read "Cells.read" = true)
    (kx_Cells_read : PySem.W.keepIn K (.ref fx_Cells_read) = true)
    (ax_Cells_write : PySem.W.findIn K (.ref C_Cells) "write" = some (some (.ref fx_Cells_write)))
    (ix_Cells_write : PySem.W.isFn K (.ref fx_Cells_write) = true)
    (lx_Cells_write : K.lookup fx_Cells_write = some ⟨ocx_Cells_write, odx_Cells_write, .func (PySem.W.fnOf "write" "Cells.write" (defArgs s_Cells_write) (defBody s_Cells_write) (defScope s_Cells_write) .none kVx_Cells_write dcx_Cells_write pmx_Cells_write anx_Cells_write cdx_Cells_write ctx_Cells_write), slx_Cells_write⟩)
    (cx_Cells_write : PySem.W.codeIn K cdx_Cells_write "Cells.write" = true)
    (kx_Cells_write : PySem.W.keepIn K (.ref fx_Cells_write) = true)
    (ax_Cells_arm : PySem.W.findIn K (.ref C_Cells) "arm" = some (some (.ref fx_Cells_arm)))
    (ix_Cells_arm : PySem.W.isFn K (.ref fx_Cells_arm) = true)
    (lx_Cells_arm : K.lookup fx_Cells_arm = some ⟨ocx_Cells_arm, odx_Cells_arm, .func (PySem.W.fnOf "arm" "Cells.arm" (defArgs s_Cells_arm) (defBody s_Cells_arm) (defScope s_Cells_arm) .none kVx_Cells_arm dcx_Cells_arm pmx_Cells_arm anx_Cells_arm cdx_Cells_arm ctx_Cells_arm), slx_Cells_arm⟩)
    (cx_Cells_arm : PySem.W.codeIn K cdx_Cells_arm "Cells.arm" = true)
    (kx_Cells_arm : PySem.W.keepIn K (.ref fx_Cells_arm) = true)
    (ax_Cells_crash : PySem.W.findIn K (.ref C_Cells) "crash" = some (some (.ref fx_Cells_crash)))
    (ix_Cells_crash : PySem.W.isFn K (.ref fx_Cells_crash) = true)
    (lx_Cells_crash : K.lookup fx_Cells_crash = some ⟨ocx_Cells_crash, odx_Cells_crash, .func (PySem.W.fnOf "crash" "Cells.crash" (defArgs s_Cells_crash) (defBody s_Cells_crash) (defScope s_Cells_crash) .none kVx_Cells_crash dcx_Cells_crash pmx_Cells_crash anx_Cells_crash cdx_Cells_crash ctx_Cells_crash), slx_Cells_crash⟩)
    (cx_Cells_crash : PySem.W.codeIn K cdx_Cells_crash "Cells.crash" = true)
    (kx_Cells_crash : PySem.W.keepIn K (.ref fx_Cells_crash) = true)
    (ax_Cells__check : PySem.W.findIn K (.ref C_Cells) "_check" = some (some (.ref fx_Cells__check)))
    (ix_Cells__check : PySem.W.isFn K (.ref fx_Cells__check) = true)
    (lx_Cells__check : K.lookup fx_Cells__check = some ⟨ocx_Cells__check, odx_Cells__check, .func (PySem.W.fnOf "_check" "Cells._check" (defArgs s_Cells__check) (defBody s_Cells__check) (defScope s_Cells__check) .none kVx_Cells__check dcx_Cells__check pmx_Cells__check anx_Cells__check cdx_Cells__check ctx_Cells__check), slx_Cells__check⟩)
    (cx_Cells__check : PySem.W.codeIn K cdx_Cells__check "Cells._check" = true)
    (kx_Cells__check : PySem.W.keepIn K (.ref fx_Cells__check) = true)
    (x_BadLetter : PySem.W.excIn K C_BadLetter [.type "ValueError", .type "Exception", .type "BaseException", .type "object"] "ValueError.__new__" = true)
    (k_BadLetter : PySem.W.keepIn K (.ref C_BadLetter) = true)
    (b_BadLetter : PySem.W.subIn K (.ref C_BadLetter) (.type "BaseException") = some true)
    (t_BadLetter : PySem.W.typeIn K (.ref C_BadLetter) = some (.type "type"))
    (x_BadView : PySem.W.excIn K C_BadView [.type "ValueError", .type "Exception", .type "BaseException", .type "object"] "ValueError.__new__" = true)
    (k_BadView : PySem.W.keepIn K (.ref C_BadView) = true)
    (b_BadView : PySem.W.subIn K (.ref C_BadView) (.type "BaseException") = some true)
    (t_BadView : PySem.W.typeIn K (.ref C_BadView) = some (.type "type"))
    (x_BadMember : PySem.W.excIn K C_BadMember [.type "ValueError", .type "Exception", .type "BaseException", .type "object"] "ValueError.__new__" = true)
    (k_BadMember : PySem.W.keepIn K (.ref C_BadMember) = true)
    (b_BadMember : PySem.W.subIn K (.ref C_BadMember) (.type "BaseException") = some true)
    (t_BadMember : PySem.W.typeIn K (.ref C_BadMember) = some (.type "type"))
    (x_BadPayload : PySem.W.excIn K C_BadPayload [.type "ValueError", .type "Exception", .type "BaseException", .type "object"] "ValueError.__new__" = true)
    (k_BadPayload : PySem.W.keepIn K (.ref C_BadPayload) = true)
    (b_BadPayload : PySem.W.subIn K (.ref C_BadPayload) (.type "BaseException") = some true)
    (t_BadPayload : PySem.W.typeIn K (.ref C_BadPayload) = some (.type "type"))
    (x_DiskCrashed : PySem.W.excIn K C_DiskCrashed [.type "ValueError", .type "Exception", .type "BaseException", .type "object"] "ValueError.__new__" = true)
    (k_DiskCrashed : PySem.W.keepIn K (.ref C_DiskCrashed) = true)
    (b_DiskCrashed : PySem.W.subIn K (.ref C_DiskCrashed) (.type "BaseException") = some true)
    (t_DiskCrashed : PySem.W.typeIn K (.ref C_DiskCrashed) = some (.type "type"))
    (x_DiskError : PySem.W.excIn K C_DiskError [.type "ValueError", .type "Exception", .type "BaseException", .type "object"] "ValueError.__new__" = true)
    (k_DiskError : PySem.W.keepIn K (.ref C_DiskError) = true)
    (b_DiskError : PySem.W.subIn K (.ref C_DiskError) (.type "BaseException") = some true)
    (t_DiskError : PySem.W.typeIn K (.ref C_DiskError) = some (.type "type"))
    (aD__CHECKS : PySem.W.nsIn K mainGlobals "_CHECKS" = some (some (.ref D__CHECKS)))
    (lD__CHECKS : K.lookup D__CHECKS = some ⟨.type "dict", none, .dict es__CHECKS nE__CHECKS, #[]⟩)
    (kD__CHECKS : PySem.W.KeysLit w.params es__CHECKS.toList)
    (zD__CHECKS : (D__CHECKS == sysModules) = false)
    (e0__CHECKS : PySem.W.nsIn K D__CHECKS "here" = some (some (.ref fx__is_here)))
    (e1__CHECKS : PySem.W.nsIn K D__CHECKS "cast" = some (some (.ref fx__is_cast)))
    (e2__CHECKS : PySem.W.nsIn K D__CHECKS "order" = some (some (.ref fx__is_order)))
    (e3__CHECKS : PySem.W.nsIn K D__CHECKS "propose" = some (some (.ref fx__is_propose)))
    (e4__CHECKS : PySem.W.nsIn K D__CHECKS "state" = some (some (.ref fx__is_state)))
    (e5__CHECKS : PySem.W.nsIn K D__CHECKS "install" = some (some (.ref fx__is_install)))
    (e6__CHECKS : PySem.W.nsIn K D__CHECKS "higher" = some (some (.ref fx__is_higher)))
    (aC_MusterError : PySem.W.nsIn K mainGlobals "MusterError" = some (some (.ref C_MusterError)))
    (kt : es__CHECKS.toList.map keyT = sevens.map some)
    (m_LM : PySem.W.exmOne K (.ref C_BadLetter) (.ref C_MusterError) = some true)
    (u_LL : PySem.W.kitOne K (.ref C_BadLetter) (.ref C_BadLetter) = some true)
    (eg : PySem.W.findIn K (.ref C_BadLetter) "__getattribute__" = some (some (.builtin "BaseException.__getattribute__")))
    (ek : PySem.W.findIn K (.ref C_BadLetter) "__getattr__" = some none)
    (es_ : PySem.W.subIn K (.ref C_BadLetter) (.type "BaseException") = some true)
    (ed : PySem.W.hasDictIn K C_BadLetter = true)
    (ea : PySem.W.findIn K (.ref C_BadLetter) "__class__" = some (some (.builtin "object.__class__")))
    (en : PySem.W.specialIn K (.builtin "object.__class__") "__get__" = some (some (.builtin "getset_descriptor.__get__")))
    (et : PySem.W.takesIn K (.builtin "object.__class__") = some true)
    (em : PySem.W.mroIn K C_BadLetter (.type "object") = some true)
    (m_VV : PySem.W.exmOne K (.ref C_BadView) (.ref C_BadView) = some true)
    (m_LL : PySem.W.exmOne K (.ref C_BadLetter) (.ref C_BadLetter) = some true)
    (m_BB : PySem.W.exmOne K (.ref C_BadMember) (.ref C_BadMember) = some true)
    (m_PP : PySem.W.exmOne K (.ref C_BadPayload) (.ref C_BadPayload) = some true)
    (m_CB : PySem.W.exmOne K (.ref C_DiskCrashed) (.ref C_BadMember) = some false)
    (m_CC : PySem.W.exmOne K (.ref C_DiskCrashed) (.ref C_DiskCrashed) = some true)
    (m_EC : PySem.W.exmOne K (.ref C_DiskError) (.ref C_DiskCrashed) = some false)
    (m_EE : PySem.W.exmOne K (.ref C_DiskError) (.ref C_DiskError) = some true)
    (ax_is_printable : PySem.W.nsIn K mainGlobals "is_printable" = some (some (.ref fx_is_printable)))
    (lx_is_printable : K.lookup fx_is_printable = some ⟨ocx_is_printable, odx_is_printable, .func (PySem.W.fnOf "is_printable" "is_printable" (defArgs s_is_printable) (defBody s_is_printable) (defScope s_is_printable) .none kVx_is_printable dcx_is_printable pmx_is_printable anx_is_printable cdx_is_printable ctx_is_printable), slx_is_printable⟩)
    (cx_is_printable : PySem.W.codeIn K cdx_is_printable "is_printable" = true)
    (kx_is_printable : PySem.W.keepIn K (.ref fx_is_printable) = true)
    (ax__is_printable_character : PySem.W.nsIn K mainGlobals "_is_printable_character" = some (some (.ref fx__is_printable_character)))
    (lx__is_printable_character : K.lookup fx__is_printable_character = some ⟨ocx__is_printable_character, odx__is_printable_character, .func (PySem.W.fnOf "_is_printable_character" "_is_printable_character" (defArgs s__is_printable_character) (defBody s__is_printable_character) (defScope s__is_printable_character) .none kVx__is_printable_character dcx__is_printable_character pmx__is_printable_character anx__is_printable_character cdx__is_printable_character ctx__is_printable_character), slx__is_printable_character⟩)
    (cx__is_printable_character : PySem.W.codeIn K cdx__is_printable_character "_is_printable_character" = true)
    (kx__is_printable_character : PySem.W.keepIn K (.ref fx__is_printable_character) = true)
    (ax_is_integer : PySem.W.nsIn K mainGlobals "is_integer" = some (some (.ref fx_is_integer)))
    (lx_is_integer : K.lookup fx_is_integer = some ⟨ocx_is_integer, odx_is_integer, .func (PySem.W.fnOf "is_integer" "is_integer" (defArgs s_is_integer) (defBody s_is_integer) (defScope s_is_integer) .none kVx_is_integer dcx_is_integer pmx_is_integer anx_is_integer cdx_is_integer ctx_is_integer), slx_is_integer⟩)
    (cx_is_integer : PySem.W.codeIn K cdx_is_integer "is_integer" = true)
    (kx_is_integer : PySem.W.keepIn K (.ref fx_is_integer) = true)
    (ax_is_process : PySem.W.nsIn K mainGlobals "is_process" = some (some (.ref fx_is_process)))
    (lx_is_process : K.lookup fx_is_process = some ⟨ocx_is_process, odx_is_process, .func (PySem.W.fnOf "is_process" "is_process" (defArgs s_is_process) (defBody s_is_process) (defScope s_is_process) .none kVx_is_process dcx_is_process pmx_is_process anx_is_process cdx_is_process ctx_is_process), slx_is_process⟩)
    (cx_is_process : PySem.W.codeIn K cdx_is_process "is_process" = true)
    (kx_is_process : PySem.W.keepIn K (.ref fx_is_process) = true)
    (ax_is_member : PySem.W.nsIn K mainGlobals "is_member" = some (some (.ref fx_is_member)))
    (lx_is_member : K.lookup fx_is_member = some ⟨ocx_is_member, odx_is_member, .func (PySem.W.fnOf "is_member" "is_member" (defArgs s_is_member) (defBody s_is_member) (defScope s_is_member) .none kVx_is_member dcx_is_member pmx_is_member anx_is_member cdx_is_member ctx_is_member), slx_is_member⟩)
    (cx_is_member : PySem.W.codeIn K cdx_is_member "is_member" = true)
    (kx_is_member : PySem.W.keepIn K (.ref fx_is_member) = true)
    (ax_is_members : PySem.W.nsIn K mainGlobals "is_members" = some (some (.ref fx_is_members)))
    (lx_is_members : K.lookup fx_is_members = some ⟨ocx_is_members, odx_is_members, .func (PySem.W.fnOf "is_members" "is_members" (defArgs s_is_members) (defBody s_is_members) (defScope s_is_members) .none kVx_is_members dcx_is_members pmx_is_members anx_is_members cdx_is_members ctx_is_members), slx_is_members⟩)
    (cx_is_members : PySem.W.codeIn K cdx_is_members "is_members" = true)
    (kx_is_members : PySem.W.keepIn K (.ref fx_is_members) = true)
    (ax_is_view_id : PySem.W.nsIn K mainGlobals "is_view_id" = some (some (.ref fx_is_view_id)))
    (lx_is_view_id : K.lookup fx_is_view_id = some ⟨ocx_is_view_id, odx_is_view_id, .func (PySem.W.fnOf "is_view_id" "is_view_id" (defArgs s_is_view_id) (defBody s_is_view_id) (defScope s_is_view_id) .none kVx_is_view_id dcx_is_view_id pmx_is_view_id anx_is_view_id cdx_is_view_id ctx_is_view_id), slx_is_view_id⟩)
    (cx_is_view_id : PySem.W.codeIn K cdx_is_view_id "is_view_id" = true)
    (kx_is_view_id : PySem.W.keepIn K (.ref fx_is_view_id) = true)
    (ax_is_payload : PySem.W.nsIn K mainGlobals "is_payload" = some (some (.ref fx_is_payload)))
    (lx_is_payload : K.lookup fx_is_payload = some ⟨ocx_is_payload, odx_is_payload, .func (PySem.W.fnOf "is_payload" "is_payload" (defArgs s_is_payload) (defBody s_is_payload) (defScope s_is_payload) .none kVx_is_payload dcx_is_payload pmx_is_payload anx_is_payload cdx_is_payload ctx_is_payload), slx_is_payload⟩)
    (cx_is_payload : PySem.W.codeIn K cdx_is_payload "is_payload" = true)
    (kx_is_payload : PySem.W.keepIn K (.ref fx_is_payload) = true)
    (ax_is_message : PySem.W.nsIn K mainGlobals "is_message" = some (some (.ref fx_is_message)))
    (lx_is_message : K.lookup fx_is_message = some ⟨ocx_is_message, odx_is_message, .func (PySem.W.fnOf "is_message" "is_message" (defArgs s_is_message) (defBody s_is_message) (defScope s_is_message) .none kVx_is_message dcx_is_message pmx_is_message anx_is_message cdx_is_message ctx_is_message), slx_is_message⟩)
    (cx_is_message : PySem.W.codeIn K cdx_is_message "is_message" = true)
    (kx_is_message : PySem.W.keepIn K (.ref fx_is_message) = true)
    (ax_is_log : PySem.W.nsIn K mainGlobals "is_log" = some (some (.ref fx_is_log)))
    (lx_is_log : K.lookup fx_is_log = some ⟨ocx_is_log, odx_is_log, .func (PySem.W.fnOf "is_log" "is_log" (defArgs s_is_log) (defBody s_is_log) (defScope s_is_log) .none kVx_is_log dcx_is_log pmx_is_log anx_is_log cdx_is_log ctx_is_log), slx_is_log⟩)
    (cx_is_log : PySem.W.codeIn K cdx_is_log "is_log" = true)
    (kx_is_log : PySem.W.keepIn K (.ref fx_is_log) = true)
    (ax_last_index : PySem.W.nsIn K mainGlobals "last_index" = some (some (.ref fx_last_index)))
    (lx_last_index : K.lookup fx_last_index = some ⟨ocx_last_index, odx_last_index, .func (PySem.W.fnOf "last_index" "last_index" (defArgs s_last_index) (defBody s_last_index) (defScope s_last_index) .none kVx_last_index dcx_last_index pmx_last_index anx_last_index cdx_last_index ctx_last_index), slx_last_index⟩)
    (cx_last_index : PySem.W.codeIn K cdx_last_index "last_index" = true)
    (kx_last_index : PySem.W.keepIn K (.ref fx_last_index) = true)
    (ax_is_pending : PySem.W.nsIn K mainGlobals "is_pending" = some (some (.ref fx_is_pending)))
    (lx_is_pending : K.lookup fx_is_pending = some ⟨ocx_is_pending, odx_is_pending, .func (PySem.W.fnOf "is_pending" "is_pending" (defArgs s_is_pending) (defBody s_is_pending) (defScope s_is_pending) .none kVx_is_pending dcx_is_pending pmx_is_pending anx_is_pending cdx_is_pending ctx_is_pending), slx_is_pending⟩)
    (cx_is_pending : PySem.W.codeIn K cdx_is_pending "is_pending" = true)
    (kx_is_pending : PySem.W.keepIn K (.ref fx_is_pending) = true)
    (ax__is_pending_cast : PySem.W.nsIn K mainGlobals "_is_pending_cast" = some (some (.ref fx__is_pending_cast)))
    (lx__is_pending_cast : K.lookup fx__is_pending_cast = some ⟨ocx__is_pending_cast, odx__is_pending_cast, .func (PySem.W.fnOf "_is_pending_cast" "_is_pending_cast" (defArgs s__is_pending_cast) (defBody s__is_pending_cast) (defScope s__is_pending_cast) .none kVx__is_pending_cast dcx__is_pending_cast pmx__is_pending_cast anx__is_pending_cast cdx__is_pending_cast ctx__is_pending_cast), slx__is_pending_cast⟩)
    (cx__is_pending_cast : PySem.W.codeIn K cdx__is_pending_cast "_is_pending_cast" = true)
    (kx__is_pending_cast : PySem.W.keepIn K (.ref fx__is_pending_cast) = true)
    (ax__is_here : PySem.W.nsIn K mainGlobals "_is_here" = some (some (.ref fx__is_here)))
    (lx__is_here : K.lookup fx__is_here = some ⟨ocx__is_here, odx__is_here, .func (PySem.W.fnOf "_is_here" "_is_here" (defArgs s__is_here) (defBody s__is_here) (defScope s__is_here) .none kVx__is_here dcx__is_here pmx__is_here anx__is_here cdx__is_here ctx__is_here), slx__is_here⟩)
    (cx__is_here : PySem.W.codeIn K cdx__is_here "_is_here" = true)
    (kx__is_here : PySem.W.keepIn K (.ref fx__is_here) = true)
    (ax__is_cast : PySem.W.nsIn K mainGlobals "_is_cast" = some (some (.ref fx__is_cast)))
    (lx__is_cast : K.lookup fx__is_cast = some ⟨ocx__is_cast, odx__is_cast, .func (PySem.W.fnOf "_is_cast" "_is_cast" (defArgs s__is_cast) (defBody s__is_cast) (defScope s__is_cast) .none kVx__is_cast dcx__is_cast pmx__is_cast anx__is_cast cdx__is_cast ctx__is_cast), slx__is_cast⟩)
    (cx__is_cast : PySem.W.codeIn K cdx__is_cast "_is_cast" = true)
    (kx__is_cast : PySem.W.keepIn K (.ref fx__is_cast) = true)
    (ax__is_order : PySem.W.nsIn K mainGlobals "_is_order" = some (some (.ref fx__is_order)))
    (lx__is_order : K.lookup fx__is_order = some ⟨ocx__is_order, odx__is_order, .func (PySem.W.fnOf "_is_order" "_is_order" (defArgs s__is_order) (defBody s__is_order) (defScope s__is_order) .none kVx__is_order dcx__is_order pmx__is_order anx__is_order cdx__is_order ctx__is_order), slx__is_order⟩)
    (cx__is_order : PySem.W.codeIn K cdx__is_order "_is_order" = true)
    (kx__is_order : PySem.W.keepIn K (.ref fx__is_order) = true)
    (ax__is_propose : PySem.W.nsIn K mainGlobals "_is_propose" = some (some (.ref fx__is_propose)))
    (lx__is_propose : K.lookup fx__is_propose = some ⟨ocx__is_propose, odx__is_propose, .func (PySem.W.fnOf "_is_propose" "_is_propose" (defArgs s__is_propose) (defBody s__is_propose) (defScope s__is_propose) .none kVx__is_propose dcx__is_propose pmx__is_propose anx__is_propose cdx__is_propose ctx__is_propose), slx__is_propose⟩)
    (cx__is_propose : PySem.W.codeIn K cdx__is_propose "_is_propose" = true)
    (kx__is_propose : PySem.W.keepIn K (.ref fx__is_propose) = true)
    (ax__is_state : PySem.W.nsIn K mainGlobals "_is_state" = some (some (.ref fx__is_state)))
    (lx__is_state : K.lookup fx__is_state = some ⟨ocx__is_state, odx__is_state, .func (PySem.W.fnOf "_is_state" "_is_state" (defArgs s__is_state) (defBody s__is_state) (defScope s__is_state) .none kVx__is_state dcx__is_state pmx__is_state anx__is_state cdx__is_state ctx__is_state), slx__is_state⟩)
    (cx__is_state : PySem.W.codeIn K cdx__is_state "_is_state" = true)
    (kx__is_state : PySem.W.keepIn K (.ref fx__is_state) = true)
    (ax__is_install : PySem.W.nsIn K mainGlobals "_is_install" = some (some (.ref fx__is_install)))
    (lx__is_install : K.lookup fx__is_install = some ⟨ocx__is_install, odx__is_install, .func (PySem.W.fnOf "_is_install" "_is_install" (defArgs s__is_install) (defBody s__is_install) (defScope s__is_install) .none kVx__is_install dcx__is_install pmx__is_install anx__is_install cdx__is_install ctx__is_install), slx__is_install⟩)
    (cx__is_install : PySem.W.codeIn K cdx__is_install "_is_install" = true)
    (kx__is_install : PySem.W.keepIn K (.ref fx__is_install) = true)
    (ax__is_higher : PySem.W.nsIn K mainGlobals "_is_higher" = some (some (.ref fx__is_higher)))
    (lx__is_higher : K.lookup fx__is_higher = some ⟨ocx__is_higher, odx__is_higher, .func (PySem.W.fnOf "_is_higher" "_is_higher" (defArgs s__is_higher) (defBody s__is_higher) (defScope s__is_higher) .none kVx__is_higher dcx__is_higher pmx__is_higher anx__is_higher cdx__is_higher ctx__is_higher), slx__is_higher⟩)
    (cx__is_higher : PySem.W.codeIn K cdx__is_higher "_is_higher" = true)
    (kx__is_higher : PySem.W.keepIn K (.ref fx__is_higher) = true)
    (ax__is_place : PySem.W.nsIn K mainGlobals "_is_place" = some (some (.ref fx__is_place)))
    (lx__is_place : K.lookup fx__is_place = some ⟨ocx__is_place, odx__is_place, .func (PySem.W.fnOf "_is_place" "_is_place" (defArgs s__is_place) (defBody s__is_place) (defScope s__is_place) .none kVx__is_place dcx__is_place pmx__is_place anx__is_place cdx__is_place ctx__is_place), slx__is_place⟩)
    (cx__is_place : PySem.W.codeIn K cdx__is_place "_is_place" = true)
    (kx__is_place : PySem.W.keepIn K (.ref fx__is_place) = true)
    (ax__is_finals : PySem.W.nsIn K mainGlobals "_is_finals" = some (some (.ref fx__is_finals)))
    (lx__is_finals : K.lookup fx__is_finals = some ⟨ocx__is_finals, odx__is_finals, .func (PySem.W.fnOf "_is_finals" "_is_finals" (defArgs s__is_finals) (defBody s__is_finals) (defScope s__is_finals) .none kVx__is_finals dcx__is_finals pmx__is_finals anx__is_finals cdx__is_finals ctx__is_finals), slx__is_finals⟩)
    (cx__is_finals : PySem.W.codeIn K cdx__is_finals "_is_finals" = true)
    (kx__is_finals : PySem.W.keepIn K (.ref fx__is_finals) = true)
    (ax__is_final : PySem.W.nsIn K mainGlobals "_is_final" = some (some (.ref fx__is_final)))
    (lx__is_final : K.lookup fx__is_final = some ⟨ocx__is_final, odx__is_final, .func (PySem.W.fnOf "_is_final" "_is_final" (defArgs s__is_final) (defBody s__is_final) (defScope s__is_final) .none kVx__is_final dcx__is_final pmx__is_final anx__is_final cdx__is_final ctx__is_final), slx__is_final⟩)
    (cx__is_final : PySem.W.codeIn K cdx__is_final "_is_final" = true)
    (kx__is_final : PySem.W.keepIn K (.ref fx__is_final) = true)
    (ax_is_letter : PySem.W.nsIn K mainGlobals "is_letter" = some (some (.ref fx_is_letter)))
    (lx_is_letter : K.lookup fx_is_letter = some ⟨ocx_is_letter, odx_is_letter, .func (PySem.W.fnOf "is_letter" "is_letter" (defArgs s_is_letter) (defBody s_is_letter) (defScope s_is_letter) .none kVx_is_letter dcx_is_letter pmx_is_letter anx_is_letter cdx_is_letter ctx_is_letter), slx_is_letter⟩)
    (cx_is_letter : PySem.W.codeIn K cdx_is_letter "is_letter" = true)
    (kx_is_letter : PySem.W.keepIn K (.ref fx_is_letter) = true)
    (ax_check_letter : PySem.W.nsIn K mainGlobals "check_letter" = some (some (.ref fx_check_letter)))
    (lx_check_letter : K.lookup fx_check_letter = some ⟨ocx_check_letter, odx_check_letter, .func (PySem.W.fnOf "check_letter" "check_letter" (defArgs s_check_letter) (defBody s_check_letter) (defScope s_check_letter) .none kVx_check_letter dcx_check_letter pmx_check_letter anx_check_letter cdx_check_letter ctx_check_letter), slx_check_letter⟩)
    (cx_check_letter : PySem.W.codeIn K cdx_check_letter "check_letter" = true)
    (kx_check_letter : PySem.W.keepIn K (.ref fx_check_letter) = true)
    (ax_life_text : PySem.W.nsIn K mainGlobals "life_text" = some (some (.ref fx_life_text)))
    (lx_life_text : K.lookup fx_life_text = some ⟨ocx_life_text, odx_life_text, .func (PySem.W.fnOf "life_text" "life_text" (defArgs s_life_text) (defBody s_life_text) (defScope s_life_text) .none kVx_life_text dcx_life_text pmx_life_text anx_life_text cdx_life_text ctx_life_text), slx_life_text⟩)
    (cx_life_text : PySem.W.codeIn K cdx_life_text "life_text" = true)
    (kx_life_text : PySem.W.keepIn K (.ref fx_life_text) = true)
    (ax_life_of : PySem.W.nsIn K mainGlobals "life_of" = some (some (.ref fx_life_of)))
    (lx_life_of : K.lookup fx_life_of = some ⟨ocx_life_of, odx_life_of, .func (PySem.W.fnOf "life_of" "life_of" (defArgs s_life_of) (defBody s_life_of) (defScope s_life_of) .none kVx_life_of dcx_life_of pmx_life_of anx_life_of cdx_life_of ctx_life_of), slx_life_of⟩)
    (cx_life_of : PySem.W.codeIn K cdx_life_of "life_of" = true)
    (kx_life_of : PySem.W.keepIn K (.ref fx_life_of) = true)
    (ax__are_digits : PySem.W.nsIn K mainGlobals "_are_digits" = some (some (.ref fx__are_digits)))
    (lx__are_digits : K.lookup fx__are_digits = some ⟨ocx__are_digits, odx__are_digits, .func (PySem.W.fnOf "_are_digits" "_are_digits" (defArgs s__are_digits) (defBody s__are_digits) (defScope s__are_digits) .none kVx__are_digits dcx__are_digits pmx__are_digits anx__are_digits cdx__are_digits ctx__are_digits), slx__are_digits⟩)
    (cx__are_digits : PySem.W.codeIn K cdx__are_digits "_are_digits" = true)
    (kx__are_digits : PySem.W.keepIn K (.ref fx__are_digits) = true)
    (ax_next_life : PySem.W.nsIn K mainGlobals "next_life" = some (some (.ref fx_next_life)))
    (lx_next_life : K.lookup fx_next_life = some ⟨ocx_next_life, odx_next_life, .func (PySem.W.fnOf "next_life" "next_life" (defArgs s_next_life) (defBody s_next_life) (defScope s_next_life) .none kVx_next_life dcx_next_life pmx_next_life anx_next_life cdx_next_life ctx_next_life), slx_next_life⟩)
    (cx_next_life : PySem.W.codeIn K cdx_next_life "next_life" = true)
    (kx_next_life : PySem.W.keepIn K (.ref fx_next_life) = true)
    (ax__law_cell : PySem.W.nsIn K mainGlobals "_law_cell" = some (some (.ref fx__law_cell)))
    (lx__law_cell : K.lookup fx__law_cell = some ⟨ocx__law_cell, odx__law_cell, .func (PySem.W.fnOf "_law_cell" "_law_cell" (defArgs s__law_cell) (defBody s__law_cell) (defScope s__law_cell) .none kVx__law_cell dcx__law_cell pmx__law_cell anx__law_cell cdx__law_cell ctx__law_cell), slx__law_cell⟩)
    (cx__law_cell : PySem.W.codeIn K cdx__law_cell "_law_cell" = true)
    (kx__law_cell : PySem.W.keepIn K (.ref fx__law_cell) = true)
    (ax__law_made : PySem.W.nsIn K mainGlobals "_law_made" = some (some (.ref fx__law_made)))
    (lx__law_made : K.lookup fx__law_made = some ⟨ocx__law_made, odx__law_made, .func (PySem.W.fnOf "_law_made" "_law_made" (defArgs s__law_made) (defBody s__law_made) (defScope s__law_made) .none kVx__law_made dcx__law_made pmx__law_made anx__law_made cdx__law_made ctx__law_made), slx__law_made⟩)
    (cx__law_made : PySem.W.codeIn K cdx__law_made "_law_made" = true)
    (kx__law_made : PySem.W.keepIn K (.ref fx__law_made) = true)
    (ax__law_cast : PySem.W.nsIn K mainGlobals "_law_cast" = some (some (.ref fx__law_cast)))
    (lx__law_cast : K.lookup fx__law_cast = some ⟨ocx__law_cast, odx__law_cast, .func (PySem.W.fnOf "_law_cast" "_law_cast" (defArgs s__law_cast) (defBody s__law_cast) (defScope s__law_cast) .none kVx__law_cast dcx__law_cast pmx__law_cast anx__law_cast cdx__law_cast ctx__law_cast), slx__law_cast⟩)
    (cx__law_cast : PySem.W.codeIn K cdx__law_cast "_law_cast" = true)
    (kx__law_cast : PySem.W.keepIn K (.ref fx__law_cast) = true)
    (ax__law_good : PySem.W.nsIn K mainGlobals "_law_good" = some (some (.ref fx__law_good)))
    (lx__law_good : K.lookup fx__law_good = some ⟨ocx__law_good, odx__law_good, .func (PySem.W.fnOf "_law_good" "_law_good" (defArgs s__law_good) (defBody s__law_good) (defScope s__law_good) .none kVx__law_good dcx__law_good pmx__law_good anx__law_good cdx__law_good ctx__law_good), slx__law_good⟩)
    (cx__law_good : PySem.W.codeIn K cdx__law_good "_law_good" = true)
    (kx__law_good : PySem.W.keepIn K (.ref fx__law_good) = true)
    (ax_law : PySem.W.nsIn K mainGlobals "law" = some (some (.ref fx_law)))
    (lx_law : K.lookup fx_law = some ⟨ocx_law, odx_law, .func (PySem.W.fnOf "law" "law" (defArgs s_law) (defBody s_law) (defScope s_law) .none kVx_law dcx_law pmx_law anx_law cdx_law ctx_law), slx_law⟩)
    (cx_law : PySem.W.codeIn K cdx_law "law" = true)
    (kx_law : PySem.W.keepIn K (.ref fx_law) = true)
    (v_REFUSED_CODE : PySem.W.nsIn K mainGlobals "_REFUSED_CODE" = some (some (.int 37 t_REFUSED_CODE)))
    (vMOST_PROCESSES : PySem.W.nsIn K mainGlobals "MOST_PROCESSES" = some (some (.int 12 tMOST_PROCESSES)))
    (vMOST_PAYLOAD : PySem.W.nsIn K mainGlobals "MOST_PAYLOAD" = some (some (.int 30 tMOST_PAYLOAD)))
    (vWINDOW : PySem.W.nsIn K mainGlobals "WINDOW" = some (some (.int 16 tWINDOW)))
    (vSILENCE : PySem.W.nsIn K mainGlobals "SILENCE" = some (some (.int 4 tSILENCE)))
    (zlen : PySem.W.nsIn K mainGlobals "len" = some none)
    (zisinstance : PySem.W.nsIn K mainGlobals "isinstance" = some none)
    (zint : PySem.W.nsIn K mainGlobals "int" = some none)
    (zbool : PySem.W.nsIn K mainGlobals "bool" = some none)
    (zstr : PySem.W.nsIn K mainGlobals "str" = some none)
    (ztuple : PySem.W.nsIn K mainGlobals "tuple" = some none)
    (zlist : PySem.W.nsIn K mainGlobals "list" = some none)
    (zrange : PySem.W.nsIn K mainGlobals "range" = some none)
    (zmin : PySem.W.nsIn K mainGlobals "min" = some none)
    (zmax : PySem.W.nsIn K mainGlobals "max" = some none)
    (zabs : PySem.W.nsIn K mainGlobals "abs" = some none)
    (zsorted : PySem.W.nsIn K mainGlobals "sorted" = some none)
    (zord : PySem.W.nsIn K mainGlobals "ord" = some none)
    (zenumerate : PySem.W.nsIn K mainGlobals "enumerate" = some none) :
    ∃ fd : FuncData, (∀ (s : Shared) (v : Value), BindsTo s fd ⟨[v], []⟩ [("script", v)]) ∧ ∀ base : Heap, K.In base → base.Ns mainGlobals mg → FnOk l.prog w K mg base CX0 13 fa fd ["script"] (sp_law K) := by
  have e := hfa.symm.trans (PySem.W.mg_of X G ax_law)
  cases e
  have T : Tz K mg C_BadLetter C_MusterError C_Order C_BadView C_Cells C_DiskCrashed C_DiskError C_Watch C_Member C_BadMember C_BadPayload := {
    b_len := PySem.W.mg_none_of X G zlen
    b_isinstance := PySem.W.mg_none_of X G zisinstance
    b_int := PySem.W.mg_none_of X G zint
    b_bool := PySem.W.mg_none_of X G zbool
    b_str := PySem.W.mg_none_of X G zstr
    b_tuple := PySem.W.mg_none_of X G ztuple
    b_list := PySem.W.mg_none_of X G zlist
    b_range := PySem.W.mg_none_of X G zrange
    b_min := PySem.W.mg_none_of X G zmin
    b_max := PySem.W.mg_none_of X G zmax
    b_abs := PySem.W.mg_none_of X G zabs
    b_sorted := PySem.W.mg_none_of X G zsorted
    b_ord := PySem.W.mg_none_of X G zord
    b_enumerate := PySem.W.mg_none_of X G zenumerate
    c__REFUSED_CODE := ⟨_, PySem.W.mg_of X G v_REFUSED_CODE⟩
    c_MOST_PROCESSES := ⟨_, PySem.W.mg_of X G vMOST_PROCESSES⟩
    c_MOST_PAYLOAD := ⟨_, PySem.W.mg_of X G vMOST_PAYLOAD⟩
    c_WINDOW := ⟨_, PySem.W.mg_of X G vWINDOW⟩
    c_SILENCE := ⟨_, PySem.W.mg_of X G vSILENCE⟩
    c_MOST_NUMBER := hL0
    g_Order := PySem.W.mg_of X G aC_Order
    cl_Order := ⟨pg_Order, hd_Order, po_Order, sa_Order⟩
    n_Order__me := n_Order__me
    n_Order__view_id := n_Order__view_id
    n_Order__members := n_Order__members
    n_Order__founder := n_Order__founder
    n_Order__log := n_Order__log
    n_Order__last_indexes := n_Order__last_indexes
    n_Order__casts := n_Order__casts
    n_Order__pending := n_Order__pending
    n_Order__kept := n_Order__kept
    n_Order__told := n_Order__told
    g_Cells := PySem.W.mg_of X G aC_Cells
    cl_Cells := ⟨pg_Cells, hd_Cells, po_Cells, sa_Cells⟩
    n_Cells__texts := n_Cells__texts
    n_Cells__has_crashed := n_Cells__has_crashed
    n_Cells__passing := n_Cells__passing
    n_Cells__keep := n_Cells__keep
    g_Watch := PySem.W.mg_of X G aC_Watch
    cl_Watch := ⟨pg_Watch, hd_Watch, po_Watch, sa_Watch⟩
    n_Watch__me := n_Watch__me
    n_Watch__lives := n_Watch__lives
    n_Watch__ages := n_Watch__ages
    g_Member := PySem.W.mg_of X G aC_Member
    cl_Member := ⟨pg_Member, hd_Member, po_Member, sa_Member⟩
    n_Member__me := n_Member__me
    n_Member__count := n_Member__count
    n_Member__watch := n_Member__watch
    n_Member__promised := n_Member__promised
    n_Member__greatest_number := n_Member__greatest_number
    n_Member__attempt := n_Member__attempt
    n_Member__waiting := n_Member__waiting
    n_Member__events := n_Member__events
    n_Member__view_id := n_Member__view_id
    n_Member__members := n_Member__members
    n_Member__order := n_Member__order
    n_Member__led_by := n_Member__led_by
    n_Member__seen := n_Member__seen
    n_Member__has_strayed := n_Member__has_strayed
    n_Member__frozen := n_Member__frozen
    g_BadLetter := PySem.W.mg_of X G aC_BadLetter
    x_BadLetter := x_BadLetter
    k_BadLetter := k_BadLetter
    b_BadLetter := b_BadLetter
    t_BadLetter := t_BadLetter
    g_BadView := PySem.W.mg_of X G aC_BadView
    x_BadView := x_BadView
    k_BadView := k_BadView
    b_BadView := b_BadView
    t_BadView := t_BadView
    g_BadMember := PySem.W.mg_of X G aC_BadMember
    x_BadMember := x_BadMember
    k_BadMember := k_BadMember
    b_BadMember := b_BadMember
    t_BadMember := t_BadMember
    g_BadPayload := PySem.W.mg_of X G aC_BadPayload
    x_BadPayload := x_BadPayload
    k_BadPayload := k_BadPayload
    b_BadPayload := b_BadPayload
    t_BadPayload := t_BadPayload
    g_DiskCrashed := PySem.W.mg_of X G aC_DiskCrashed
    x_DiskCrashed := x_DiskCrashed
    k_DiskCrashed := k_DiskCrashed
    b_DiskCrashed := b_DiskCrashed
    t_DiskCrashed := t_DiskCrashed
    g_DiskError := PySem.W.mg_of X G aC_DiskError
    x_DiskError := x_DiskError
    k_DiskError := k_DiskError
    b_DiskError := b_DiskError
    t_DiskError := t_DiskError
    g_MusterError := PySem.W.mg_of X G aC_MusterError
    m_LM := m_LM
    u_LL := u_LL
    e_LL := ⟨eg, ek, es_, ed, ea, en, et, em⟩
    m_VV := m_VV
    m_LL := m_LL
    m_BB := m_BB
    m_PP := m_PP
    m_CB := m_CB
    m_CC := m_CC
    m_EC := m_EC
    m_EE := m_EE }
  let a_Order___init__ : MethAt K C_Order "__init__" "Order.__init__" P_Order___init__ s_Order___init__ := meth_mk ax_Order___init__ ix_Order___init__ lx_Order___init__ cx_Order___init__ kx_Order___init__ fun _ _ _ _ _ _ us hl => match us, hl with | [_, _, _, _], _ => rfl
  let a_Order_cast : MethAt K C_Order "cast" "Order.cast" P_Order_cast s_Order_cast := meth_mk ax_Order_cast ix_Order_cast lx_Order_cast cx_Order_cast kx_Order_cast fun _ _ _ _ _ _ us hl => match us, hl with | [_, _], _ => rfl
  let a_Order_log : MethAt K C_Order "log" "Order.log" P_Order_log s_Order_log := meth_mk ax_Order_log ix_Order_log lx_Order_log cx_Order_log kx_Order_log fun _ _ _ _ _ _ us hl => match us, hl with | [_], _ => rfl
  let a_Order__decide : MethAt K C_Order "_decide" "Order._decide" P_Order__decide s_Order__decide := meth_mk ax_Order__decide ix_Order__decide lx_Order__decide cx_Order__decide kx_Order__decide fun _ _ _ _ _ _ us hl => match us, hl with | [_, _], _ => rfl
  let a_Order__deliver : MethAt K C_Order "_deliver" "Order._deliver" P_Order__deliver s_Order__deliver := meth_mk ax_Order__deliver ix_Order__deliver lx_Order__deliver cx_Order__deliver kx_Order__deliver fun _ _ _ _ _ _ us hl => match us, hl with | [_, _], _ => rfl
  let a_Order__others : MethAt K C_Order "_others" "Order._others" P_Order__others s_Order__others := meth_mk ax_Order__others ix_Order__others lx_Order__others cx_Order__others kx_Order__others fun _ _ _ _ _ _ us hl => match us, hl with | [_], _ => rfl
  let a_Order__cast_letter : MethAt K C_Order "_cast_letter" "Order._cast_letter" P_Order__cast_letter s_Order__cast_letter := meth_mk ax_Order__cast_letter ix_Order__cast_letter lx_Order__cast_letter cx_Order__cast_letter kx_Order__cast_letter fun _ _ _ _ _ _ us hl => match us, hl with | [_, _, _], _ => rfl
  let a_Order__order_letter : MethAt K C_Order "_order_letter" "Order._order_letter" P_Order__order_letter s_Order__order_letter := meth_mk ax_Order__order_letter ix_Order__order_letter lx_Order__order_letter cx_Order__order_letter kx_Order__order_letter fun _ _ _ _ _ _ us hl => match us, hl with | [_, _, _, _], _ => rfl
  let a_Watch___init__ : MethAt K C_Watch "__init__" "Watch.__init__" P_Watch___init__ s_Watch___init__ := meth_mk ax_Watch___init__ ix_Watch___init__ lx_Watch___init__ cx_Watch___init__ kx_Watch___init__ fun _ _ _ _ _ _ us hl => match us, hl with | [_, _], _ => rfl
  let a_Member___init__ : MethAt K C_Member "__init__" "Member.__init__" P_Member___init__ s_Member___init__ := meth_mk ax_Member___init__ ix_Member___init__ lx_Member___init__ cx_Member___init__ kx_Member___init__ fun _ _ _ _ _ _ us hl => match us, hl with | [_, _, _, _], _ => rfl
  let a_Member_member : MethAt K C_Member "member" "Member.member" P_Member_member s_Member_member := meth_mk ax_Member_member ix_Member_member lx_Member_member cx_Member_member kx_Member_member fun _ _ _ _ _ _ us hl => match us, hl with | [_], _ => rfl
  let a_Member_view : MethAt K C_Member "view" "Member.view" P_Member_view s_Member_view := meth_mk ax_Member_view ix_Member_view lx_Member_view cx_Member_view kx_Member_view fun _ _ _ _ _ _ us hl => match us, hl with | [_], _ => rfl
  let a_Member_frozen : MethAt K C_Member "frozen" "Member.frozen" P_Member_frozen s_Member_frozen := meth_mk ax_Member_frozen ix_Member_frozen lx_Member_frozen cx_Member_frozen kx_Member_frozen fun _ _ _ _ _ _ us hl => match us, hl with | [_], _ => rfl
  let a_Member_log : MethAt K C_Member "log" "Member.log" P_Member_log s_Member_log := meth_mk ax_Member_log ix_Member_log lx_Member_log cx_Member_log kx_Member_log fun _ _ _ _ _ _ us hl => match us, hl with | [_], _ => rfl
  let a_Member_waiting : MethAt K C_Member "waiting" "Member.waiting" P_Member_waiting s_Member_waiting := meth_mk ax_Member_waiting ix_Member_waiting lx_Member_waiting cx_Member_waiting kx_Member_waiting fun _ _ _ _ _ _ us hl => match us, hl with | [_], _ => rfl
  let a_Member_events : MethAt K C_Member "events" "Member.events" P_Member_events s_Member_events := meth_mk ax_Member_events ix_Member_events lx_Member_events cx_Member_events kx_Member_events fun _ _ _ _ _ _ us hl => match us, hl with | [_], _ => rfl
  let a_Member_cast : MethAt K C_Member "cast" "Member.cast" P_Member_cast s_Member_cast := meth_mk ax_Member_cast ix_Member_cast lx_Member_cast cx_Member_cast kx_Member_cast fun _ _ _ _ _ _ us hl => match us, hl with | [_, _], _ => rfl
  let a_Member_receive : MethAt K C_Member "receive" "Member.receive" P_Member_receive s_Member_receive := meth_mk ax_Member_receive ix_Member_receive lx_Member_receive cx_Member_receive kx_Member_receive fun _ _ _ _ _ _ us hl => match us, hl with | [_, _], _ => rfl
  let a_Member__enter : MethAt K C_Member "_enter" "Member._enter" P_Member__enter s_Member__enter := meth_mk ax_Member__enter ix_Member__enter lx_Member__enter cx_Member__enter kx_Member__enter fun _ _ _ _ _ _ us hl => match us, hl with | [_, _, _, _], _ => rfl
  let a_Member__deliver : MethAt K C_Member "_deliver" "Member._deliver" P_Member__deliver s_Member__deliver := meth_mk ax_Member__deliver ix_Member__deliver lx_Member__deliver cx_Member__deliver kx_Member__deliver fun _ _ _ _ _ _ us hl => match us, hl with | [_, _], _ => rfl
  let a_Cells___init__ : MethAt K C_Cells "__init__" "Cells.__init__" P_Cells___init__ s_Cells___init__ := meth_mk ax_Cells___init__ ix_Cells___init__ lx_Cells___init__ cx_Cells___init__ kx_Cells___init__ fun _ _ _ _ _ _ us hl => match us, hl with | [_], _ => rfl
  let a_Cells_read : MethAt K C_Cells "read" "Cells.read" P_Cells_read s_Cells_read := meth_mk ax_Cells_read ix_Cells_read lx_Cells_read cx_Cells_read kx_Cells_read fun _ _ _ _ _ _ us hl => match us, hl with | [_, _], _ => rfl
  let a_Cells_write : MethAt K C_Cells "write" "Cells.write" P_Cells_write s_Cells_write := meth_mk ax_Cells_write ix_Cells_write lx_Cells_write cx_Cells_write kx_Cells_write fun _ _ _ _ _ _ us hl => match us, hl with | [_, _, _], _ => rfl
  let a_Cells_arm : MethAt K C_Cells "arm" "Cells.arm" P_Cells_arm s_Cells_arm := meth_mk ax_Cells_arm ix_Cells_arm lx_Cells_arm cx_Cells_arm kx_Cells_arm fun _ _ _ _ _ _ us hl => match us, hl with | [_, _, _], _ => rfl
  let a_Cells_crash : MethAt K C_Cells "crash" "Cells.crash" P_Cells_crash s_Cells_crash := meth_mk ax_Cells_crash ix_Cells_crash lx_Cells_crash cx_Cells_crash kx_Cells_crash fun _ _ _ _ _ _ us hl => match us, hl with | [_], _ => rfl
  let a_Cells__check : MethAt K C_Cells "_check" "Cells._check" P_Cells__check s_Cells__check := meth_mk ax_Cells__check ix_Cells__check lx_Cells__check cx_Cells__check kx_Cells__check fun _ _ _ _ _ _ us hl => match us, hl with | [_, _, _], _ => rfl
  let a_is_printable : DefAt K mg "is_printable" P_is_printable s_is_printable := at_mk X G ax_is_printable lx_is_printable cx_is_printable kx_is_printable fun _ _ _ _ _ _ us hl => match us, hl with | [_], _ => rfl
  let a__is_printable_character : DefAt K mg "_is_printable_character" P__is_printable_character s__is_printable_character := at_mk X G ax__is_printable_character lx__is_printable_character cx__is_printable_character kx__is_printable_character fun _ _ _ _ _ _ us hl => match us, hl with | [_], _ => rfl
  let a_is_integer : DefAt K mg "is_integer" P_is_integer s_is_integer := at_mk X G ax_is_integer lx_is_integer cx_is_integer kx_is_integer fun _ _ _ _ _ _ us hl => match us, hl with | [_, _, _], _ => rfl
  let a_is_process : DefAt K mg "is_process" P_is_process s_is_process := at_mk X G ax_is_process lx_is_process cx_is_process kx_is_process fun _ _ _ _ _ _ us hl => match us, hl with | [_, _], _ => rfl
  let a_is_member : DefAt K mg "is_member" P_is_member s_is_member := at_mk X G ax_is_member lx_is_member cx_is_member kx_is_member fun _ _ _ _ _ _ us hl => match us, hl with | [_, _], _ => rfl
  let a_is_members : DefAt K mg "is_members" P_is_members s_is_members := at_mk X G ax_is_members lx_is_members cx_is_members kx_is_members fun _ _ _ _ _ _ us hl => match us, hl with | [_, _], _ => rfl
  let a_is_view_id : DefAt K mg "is_view_id" P_is_view_id s_is_view_id := at_mk X G ax_is_view_id lx_is_view_id cx_is_view_id kx_is_view_id fun _ _ _ _ _ _ us hl => match us, hl with | [_, _], _ => rfl
  let a_is_payload : DefAt K mg "is_payload" P_is_payload s_is_payload := at_mk X G ax_is_payload lx_is_payload cx_is_payload kx_is_payload fun _ _ _ _ _ _ us hl => match us, hl with | [_], _ => rfl
  let a_is_message : DefAt K mg "is_message" P_is_message s_is_message := at_mk X G ax_is_message lx_is_message cx_is_message kx_is_message fun _ _ _ _ _ _ us hl => match us, hl with | [_, _], _ => rfl
  let a_is_log : DefAt K mg "is_log" P_is_log s_is_log := at_mk X G ax_is_log lx_is_log cx_is_log kx_is_log fun _ _ _ _ _ _ us hl => match us, hl with | [_, _], _ => rfl
  let a_last_index : DefAt K mg "last_index" P_last_index s_last_index := at_mk X G ax_last_index lx_last_index cx_last_index kx_last_index fun _ _ _ _ _ _ us hl => match us, hl with | [_, _], _ => rfl
  let a_is_pending : DefAt K mg "is_pending" P_is_pending s_is_pending := at_mk X G ax_is_pending lx_is_pending cx_is_pending kx_is_pending fun _ _ _ _ _ _ us hl => match us, hl with | [_], _ => rfl
  let a__is_pending_cast : DefAt K mg "_is_pending_cast" P__is_pending_cast s__is_pending_cast := at_mk X G ax__is_pending_cast lx__is_pending_cast cx__is_pending_cast kx__is_pending_cast fun _ _ _ _ _ _ us hl => match us, hl with | [_], _ => rfl
  let a__is_here : DefAt K mg "_is_here" P__is_here s__is_here := at_mk X G ax__is_here lx__is_here cx__is_here kx__is_here fun _ _ _ _ _ _ us hl => match us, hl with | [_, _], _ => rfl
  let a__is_cast : DefAt K mg "_is_cast" P__is_cast s__is_cast := at_mk X G ax__is_cast lx__is_cast cx__is_cast kx__is_cast fun _ _ _ _ _ _ us hl => match us, hl with | [_, _], _ => rfl
  let a__is_order : DefAt K mg "_is_order" P__is_order s__is_order := at_mk X G ax__is_order lx__is_order cx__is_order kx__is_order fun _ _ _ _ _ _ us hl => match us, hl with | [_, _], _ => rfl
  let a__is_propose : DefAt K mg "_is_propose" P__is_propose s__is_propose := at_mk X G ax__is_propose lx__is_propose cx__is_propose kx__is_propose fun _ _ _ _ _ _ us hl => match us, hl with | [_, _], _ => rfl
  let a__is_state : DefAt K mg "_is_state" P__is_state s__is_state := at_mk X G ax__is_state lx__is_state cx__is_state kx__is_state fun _ _ _ _ _ _ us hl => match us, hl with | [_, _], _ => rfl
  let a__is_install : DefAt K mg "_is_install" P__is_install s__is_install := at_mk X G ax__is_install lx__is_install cx__is_install kx__is_install fun _ _ _ _ _ _ us hl => match us, hl with | [_, _], _ => rfl
  let a__is_higher : DefAt K mg "_is_higher" P__is_higher s__is_higher := at_mk X G ax__is_higher lx__is_higher cx__is_higher kx__is_higher fun _ _ _ _ _ _ us hl => match us, hl with | [_, _], _ => rfl
  let a__is_place : DefAt K mg "_is_place" P__is_place s__is_place := at_mk X G ax__is_place lx__is_place cx__is_place kx__is_place fun _ _ _ _ _ _ us hl => match us, hl with | [_], _ => rfl
  let a__is_finals : DefAt K mg "_is_finals" P__is_finals s__is_finals := at_mk X G ax__is_finals lx__is_finals cx__is_finals kx__is_finals fun _ _ _ _ _ _ us hl => match us, hl with | [_, _], _ => rfl
  let a__is_final : DefAt K mg "_is_final" P__is_final s__is_final := at_mk X G ax__is_final lx__is_final cx__is_final kx__is_final fun _ _ _ _ _ _ us hl => match us, hl with | [_, _], _ => rfl
  let a_is_letter : DefAt K mg "is_letter" P_is_letter s_is_letter := at_mk X G ax_is_letter lx_is_letter cx_is_letter kx_is_letter fun _ _ _ _ _ _ us hl => match us, hl with | [_, _], _ => rfl
  let a_check_letter : DefAt K mg "check_letter" P_check_letter s_check_letter := at_mk X G ax_check_letter lx_check_letter cx_check_letter kx_check_letter fun _ _ _ _ _ _ us hl => match us, hl with | [_, _, _], _ => rfl
  let a_life_text : DefAt K mg "life_text" P_life_text s_life_text := at_mk X G ax_life_text lx_life_text cx_life_text kx_life_text fun _ _ _ _ _ _ us hl => match us, hl with | [_], _ => rfl
  let a_life_of : DefAt K mg "life_of" P_life_of s_life_of := at_mk X G ax_life_of lx_life_of cx_life_of kx_life_of fun _ _ _ _ _ _ us hl => match us, hl with | [_], _ => rfl
  let a__are_digits : DefAt K mg "_are_digits" P__are_digits s__are_digits := at_mk X G ax__are_digits lx__are_digits cx__are_digits kx__are_digits fun _ _ _ _ _ _ us hl => match us, hl with | [_], _ => rfl
  let a_next_life : DefAt K mg "next_life" P_next_life s_next_life := at_mk X G ax_next_life lx_next_life cx_next_life kx_next_life fun _ _ _ _ _ _ us hl => match us, hl with | [_], _ => rfl
  let a__law_cell : DefAt K mg "_law_cell" P__law_cell s__law_cell := at_mk X G ax__law_cell lx__law_cell cx__law_cell kx__law_cell fun _ _ _ _ _ _ us hl => match us, hl with | [_, _], _ => rfl
  let a__law_made : DefAt K mg "_law_made" P__law_made s__law_made := at_mk X G ax__law_made lx__law_made cx__law_made kx__law_made fun _ _ _ _ _ _ us hl => match us, hl with | [_, _, _], _ => rfl
  let a__law_cast : DefAt K mg "_law_cast" P__law_cast s__law_cast := at_mk X G ax__law_cast lx__law_cast cx__law_cast kx__law_cast fun _ _ _ _ _ _ us hl => match us, hl with | [_, _], _ => rfl
  let a__law_good : DefAt K mg "_law_good" P__law_good s__law_good := at_mk X G ax__law_good lx__law_good cx__law_good kx__law_good fun _ _ _ _ _ _ us hl => match us, hl with | [_, _, _], _ => rfl
  have F_law := fun_mk (st := s_law) lx_law cx_law kx_law
  refine ⟨PySem.W.fnOf "law" "law" (defArgs s_law) (defBody s_law) (defScope s_law) .none kVx_law dcx_law pmx_law anx_law cdx_law ctx_law, fun s v => .of_eq rfl, fun base _ _ => ?_⟩
  have CH : Ch w K mg D__CHECKS fx__is_here fx__is_cast fx__is_order fx__is_propose fx__is_state fx__is_install fx__is_higher := { g__CHECKS := PySem.W.mg_of X G aD__CHECKS, D := ⟨_, _, lD__CHECKS, kD__CHECKS, zD__CHECKS⟩, no := fun z hz => kd_none lD__CHECKS kt hz, eh := e0__CHECKS, ec := e1__CHECKS, eo := e2__CHECKS, ep := e3__CHECKS, es := e4__CHECKS, ei := e5__CHECKS, eg := e6__CHECKS }
  let c_is_integer : DefOk l.prog w K mg base CX0 "is_integer" P_is_integer (1) ((spI)) := a_is_integer.ok fun F => ok_is_integer T.toTl.toTx F
  let c_is_process : DefOk l.prog w K mg base CX0 "is_process" P_is_process (2) ((spB2 isProc)) := a_is_process.ok fun F => ok_is_process T.toTl.toTx c_is_integer F
  let c_is_member : DefOk l.prog w K mg base CX0 "is_member" P_is_member (3) ((spB2 isMem)) := a_is_member.ok fun F => ok_is_member T.toTl.toTx c_is_integer c_is_process F
  let c_is_view_id : DefOk l.prog w K mg base CX0 "is_view_id" P_is_view_id (4) ((spB2 isVid)) := a_is_view_id.ok fun F => ok_is_view_id T.toTl.toTx c_is_integer c_is_member F
  have Hh : Held l.prog w K mg base 8 fx__is_here (spRest rHere) := ⟨⟨a__is_here.fd, P__is_here, ok__is_here T.toTl.toTx c_is_integer c_is_view_id a__is_here.F, kx__is_here, a__is_here.b⟩⟩
  let c__is_place : DefOk l.prog w K mg base CX0 "_is_place" P__is_place (2) ((spB1 isPlc)) := a__is_place.ok fun F => ok__is_place T.toTl.toTx c_is_integer F
  let c__is_printable_character : DefOk l.prog w K mg base CX0 "_is_printable_character" P__is_printable_character (1) ((sp__is_printable_character)) := a__is_printable_character.ok fun F => ok__is_printable_character T.toTl.toTx F
  let c_is_printable : DefOk l.prog w K mg base CX0 "is_printable" P_is_printable (2) ((sp_is_printable)) := a_is_printable.ok fun F => ok_is_printable T.toTl.toTx c__is_printable_character F
  let c_is_payload : DefOk l.prog w K mg base CX0 "is_payload" P_is_payload (3) ((spH1 isPay)) := a_is_payload.ok fun F => ok_is_payload T.toTl.toTx c_is_printable F
  have Hc : Held l.prog w K mg base 8 fx__is_cast (spRest (fun _ => rCast)) := ⟨⟨a__is_cast.fd, P__is_cast, ok__is_cast T.toTl.toTx c__is_place c_is_payload a__is_cast.F, kx__is_cast, a__is_cast.b⟩⟩
  let c_is_message : DefOk l.prog w K mg base CX0 "is_message" P_is_message (4) ((spH2 isMsg)) := a_is_message.ok fun F => ok_is_message T.toTl.toTx c_is_integer c_is_member c_is_payload F
  have Ho : Held l.prog w K mg base 8 fx__is_order (spRest rOrder) := ⟨⟨a__is_order.fd, P__is_order, ok__is_order T.toTl.toTx c__is_place c_is_message a__is_order.F, kx__is_order, a__is_order.b⟩⟩
  let c_is_members : DefOk l.prog w K mg base CX0 "is_members" P_is_members (4) ((spB2 isMems)) := a_is_members.ok fun F => ok_is_members T.toTl.toTx c_is_member F
  have Hp : Held l.prog w K mg base 8 fx__is_propose (spRest rPropose) := ⟨⟨a__is_propose.fd, P__is_propose, ok__is_propose T.toTl.toTx c_is_members a__is_propose.F, kx__is_propose, a__is_propose.b⟩⟩
  let c_is_log : DefOk l.prog w K mg base CX0 "is_log" P_is_log (5) ((spHS2 isLog)) := a_is_log.ok fun F => ok_is_log T.toTl.toTx c_is_message F
  let c__is_pending_cast : DefOk l.prog w K mg base CX0 "_is_pending_cast" P__is_pending_cast (4) ((spH1 isCast)) := a__is_pending_cast.ok fun F => ok__is_pending_cast T.toTl.toTx c_is_integer c_is_payload F
  let c_is_pending : DefOk l.prog w K mg base CX0 "is_pending" P_is_pending (5) ((spHS1 isPend)) := a_is_pending.ok fun F => ok_is_pending T.toTl.toTx c__is_pending_cast F
  let c_last_index : DefOk l.prog w K mg base CX0 "last_index" P_last_index (1) ((sp_last)) := a_last_index.ok fun F => ok_last_index T.toTl.toTx F
  have Hs : Held l.prog w K mg base 8 fx__is_state (spRest rState) := ⟨⟨a__is_state.fd, P__is_state, ok__is_state T.toTl.toTx c_is_view_id c_is_log c_is_pending c_last_index a__is_state.F, kx__is_state, a__is_state.b⟩⟩
  let c__is_final : DefOk l.prog w K mg base CX0 "_is_final" P__is_final (6) ((spHS2 isFin)) := a__is_final.ok fun F => ok__is_final T.toTl.toTx c_is_view_id c_is_log F
  let c__is_finals : DefOk l.prog w K mg base CX0 "_is_finals" P__is_finals (7) ((spHS2 isFins)) := a__is_finals.ok fun F => ok__is_finals T.toTl.toTx c__is_final F
  have Hi : Held l.prog w K mg base 8 fx__is_install (spRest rInstall) := ⟨⟨a__is_install.fd, P__is_install, ok__is_install T.toTl.toTx c_is_members c__is_finals a__is_install.F, kx__is_install, a__is_install.b⟩⟩
  have Hg : Held l.prog w K mg base 8 fx__is_higher (spRest rHigher) := ⟨⟨a__is_higher.fd, P__is_higher, ok__is_higher T.toTl.toTx c_is_view_id a__is_higher.F, kx__is_higher, a__is_higher.b⟩⟩
  let k_Order : MkOkX l.prog w K mg base C_Order "Order" P_Order___init__ 1 (sp_oini w C_Order C_BadView) := a_Order___init__.mkX mk_Order kc_Order T.g_Order fun F => ok_oini T.toTo F
  let k_Cells : MkOk l.prog w K mg base C_Cells "Cells" P_Cells___init__ 1 (sp_cinit C_Cells) := a_Cells___init__.mk' mk_Cells kc_Cells T.g_Cells fun F => ok_cinit T.toTc F
  let k_Watch : MkOk l.prog w K mg base C_Watch "Watch" P_Watch___init__ 1 (sp_winit C_Watch) := a_Watch___init__.mk' mk_Watch kc_Watch T.g_Watch fun F => ok_winit T.toTw F
  let m_Cells__check : MethOk l.prog w K mg base (L2.CX l.prog w) C_Cells "_check" P_Cells__check 2 ((sp_check C_Cells C_DiskCrashed C_DiskError)) := a_Cells__check.ok fun F => ok_check T.toTc c_is_integer F
  let m_Cells_read : MethOk l.prog w K mg base (L2.CX l.prog w) C_Cells "read" P_Cells_read 3 ((sp_read C_Cells C_DiskCrashed C_DiskError)) := a_Cells_read.ok fun F => ok_read T.toTc m_Cells__check F
  let m_Cells_write : MethOk l.prog w K mg base (L2.CX l.prog w) C_Cells "write" P_Cells_write 3 ((sp_write C_Cells C_DiskCrashed C_DiskError)) := a_Cells_write.ok fun F => ok_write T.toTc m_Cells__check F
  let c_life_text : DefOk l.prog w K mg base CX0 "life_text" P_life_text (1) ((sp_life_text)) := a_life_text.ok fun F => ok_life_text T.toTc F
  let c__are_digits : DefOk l.prog w K mg base CX0 "_are_digits" P__are_digits (1) ((sp_digits)) := a__are_digits.ok fun F => ok__are_digits T.toTc F
  let c_life_of : DefOk l.prog w K mg base CX0 "life_of" P_life_of (2) ((sp_life_of)) := a_life_of.ok fun F => ok_life_of T.toTc c_life_text c__are_digits F
  let c_next_life : DefOk l.prog w K mg base (L2.CX l.prog w) "next_life" P_next_life 4 ((sp_next C_Cells C_DiskCrashed)) := a_next_life.ok fun F => ok_next_life T.toTc m_Cells_read m_Cells_write c_life_text c_life_of F
  let m_Member__enter : MethOk l.prog w K mg base CX0 C_Member "_enter" P_Member__enter 3 ((sp_enter w C_Member C_Order)) := a_Member__enter.ok fun F => ok_enter T.toTL41.toTR.toTM k_Order F
  let k_Member : MkOkX l.prog w K mg base C_Member "Member" P_Member___init__ 5 (sp_mini w C_Member C_Order C_BadMember C_Cells C_DiskCrashed) := a_Member___init__.mkX mk_Member kc_Member T.g_Member fun F => ok_mini T.toTL41.toTR.toTM c_is_process c_next_life k_Watch m_Member__enter F
  let c__law_cell : DefOk l.prog w K mg base CX0 "_law_cell" P__law_cell (1) ((sp_cell20 K)) := a__law_cell.ok fun F => ok__law_cell T.toTL41 F
  let c__law_good : DefOk l.prog w K mg base CX0 "_law_good" P__law_good 1 (spI) := a__law_good.ok fun F => ok_good T.toTL41 F
  let m_Cells_arm : MethOk l.prog w K mg base CX0 C_Cells "arm" P_Cells_arm 1 ((sp_arm C_Cells)) := a_Cells_arm.ok fun F => ok_arm T.toTc F
  let m_Cells_crash : MethOk l.prog w K mg base CX0 C_Cells "crash" P_Cells_crash 1 ((sp_crash C_Cells)) := a_Cells_crash.ok fun F => ok_crash T.toTc F
  let m_Member_member : MethOk l.prog w K mg base CX0 C_Member "member" P_Member_member 1 ((sp_mmem w C_Member C_Order)) := a_Member_member.ok fun F => ok_mmem T.toTL41.toTR.toTM F
  let c__law_made : DefOk l.prog w K mg base CX0 "_law_made" P__law_made 7 ((sp_made C_Member C_DiskCrashed C_Cells)) := a__law_made.ok fun F => ok_made T.toTL41 k_Member m_Member_member F
  let m_Member_view : MethOk l.prog w K mg base CX0 C_Member "view" P_Member_view 1 ((sp_mview w C_Member C_Order)) := a_Member_view.ok fun F => ok_mview T.toTL41.toTR.toTM F
  let m_Member_events : MethOk l.prog w K mg base CX0 C_Member "events" P_Member_events 1 ((sp_mevs w C_Member C_Order)) := a_Member_events.ok fun F => ok_mevs T.toTL41.toTR.toTM F
  let m_Member_frozen : MethOk l.prog w K mg base CX0 C_Member "frozen" P_Member_frozen 1 ((sp_mfro w C_Member C_Order)) := a_Member_frozen.ok fun F => ok_mfro T.toTL41.toTR.toTM F
  let m_Member_waiting : MethOk l.prog w K mg base CX0 C_Member "waiting" P_Member_waiting 1 ((sp_mwait w C_Member C_Order)) := a_Member_waiting.ok fun F => ok_mwait T.toTL41.toTR.toTM F
  let m_Order__deliver : MethOk l.prog w K mg base CX0 C_Order "_deliver" P_Order__deliver 1 ((sp_del w C_Order)) := a_Order__deliver.ok fun F => ok_del T.toTo F
  let m_Order__others : MethOk l.prog w K mg base CX0 C_Order "_others" P_Order__others 1 ((sp_oth C_Order)) := a_Order__others.ok fun F => ok_oth T.toTo F
  let m_Order__order_letter : MethOk l.prog w K mg base CX0 C_Order "_order_letter" P_Order__order_letter 1 ((sp_ordl C_Order)) := a_Order__order_letter.ok fun F => ok_ordl T.toTo F
  let m_Order__decide : MethOk l.prog w K mg base CX0 C_Order "_decide" P_Order__decide 2 ((sp_dec w C_Order)) := a_Order__decide.ok fun F => ok_dec T.toTo m_Order__deliver m_Order__others m_Order__order_letter F
  let m_Order__cast_letter : MethOk l.prog w K mg base CX0 C_Order "_cast_letter" P_Order__cast_letter 1 ((sp_casl C_Order)) := a_Order__cast_letter.ok fun F => ok_casl T.toTo F
  let m_Order_cast : MethOk l.prog w K mg base CX0 C_Order "cast" P_Order_cast 3 ((sp_ocast w C_Order)) := a_Order_cast.ok fun F => ok_ocast T.toTo m_Order__decide m_Order__cast_letter F
  let m_Member__deliver : MethOk l.prog w K mg base CX0 C_Member "_deliver" P_Member__deliver 1 ((sp_mdel w C_Member C_Order)) := a_Member__deliver.ok fun F => ok_mdel T.toTL41.toTR.toTM F
  let m_Member_cast : MethOk l.prog w K mg base (L2.CX l.prog w) C_Member "cast" P_Member_cast 4 ((sp_mcast w C_Member C_Order C_BadPayload)) := a_Member_cast.ok fun F => ok_mcast T.toTL41.toTR.toTM c_is_payload m_Order_cast m_Member__deliver F
  let c__law_cast : DefOk l.prog w K mg base CX0 "_law_cast" P__law_cast 5 ((sp_lcst w C_Member C_Order)) := a__law_cast.ok fun F => ok_lcst T.toTL41 m_Member_cast F
  let c_is_letter : DefOk l.prog w K mg base CX0 "is_letter" P_is_letter 9 ((spHS2 isLet)) := a_is_letter.ok fun F => ok_is_letter T.toTl.toTx CH c_is_member c_is_view_id Hh Hc Ho Hp Hs Hi Hg F
  let c_check_letter : DefOk l.prog w K mg base (L2.CX l.prog w) "check_letter" P_check_letter 10 ((sp_chk C_BadLetter)) := a_check_letter.ok fun F => ok_check_letter T.toTl c_is_letter c_is_process F
  let m_Member_receive : MethOk l.prog w K mg base CX0 C_Member "receive" P_Member_receive 11 ((sp_mrecv w C_Member C_Order)) := a_Member_receive.ok fun F => ok_mrecv T.toTL41.toTR c_check_letter F
  let m_Order_log : MethOk l.prog w K mg base CX0 C_Order "log" P_Order_log 1 ((sp_olog w C_Order)) := a_Order_log.ok fun F => ok_olog T.toTo F
  let m_Member_log : MethOk l.prog w K mg base CX0 C_Member "log" P_Member_log 2 ((sp_mlog w C_Member C_Order)) := a_Member_log.ok fun F => ok_mlog T.toTL41.toTR.toTM T.toTo m_Order_log F
  exact ok_law T.toTL41 k_Cells c__law_cell c__law_good m_Cells_arm m_Cells_crash c__law_made k_Member m_Member_view m_Member_events m_Member_frozen m_Member_waiting c__law_cast m_Member_receive m_Member_cast m_Member_log m_Member_member F_law
end Mus

set_option maxRecDepth 100000
set_option maxHeartbeats 4000000
namespace Mus
open PySem PySem.Spec PyProof.Rows L2
/-! ### the head, by one run -/
def intB (K : PySem.W.Frag) (x : Str) (i : Int) : Bool := match PySem.W.nsIn K mainGlobals x with
  | some (some (.int j _)) => decide (j = i)
  | _ => false
theorem intB_ok {K : PySem.W.Frag} {x : Str} {i : Int} (c : intB K x i = true) : ∃ t, PySem.W.nsIn K mainGlobals x = some (some (.int i t)) := by
  unfold intB at c
  split at c
  · rename_i j t e
    have ej : j = i := of_decide_eq_true c
    exact ⟨t, by rw [e, ej]⟩
  · cases c
def ExP0 (K : PySem.W.Frag) : Prop := (PySem.W.nsIn K mainGlobals "Order" = some (some (.ref (He.ga K "Order")))) ∧ (PySem.W.nsIn K mainGlobals "Cells" = some (some (.ref (He.ga K "Cells")))) ∧ (PySem.W.nsIn K mainGlobals "Watch" = some (some (.ref (He.ga K "Watch")))) ∧ (PySem.W.nsIn K mainGlobals "Member" = some (some (.ref (He.ga K "Member")))) ∧ (PySem.W.nsIn K mainGlobals "BadLetter" = some (some (.ref (He.ga K "BadLetter")))) ∧ (PySem.W.nsIn K mainGlobals "BadView" = some (some (.ref (He.ga K "BadView")))) ∧ (PySem.W.nsIn K mainGlobals "BadMember" = some (some (.ref (He.ga K "BadMember")))) ∧ (PySem.W.nsIn K mainGlobals "BadPayload" = some (some (.ref (He.ga K "BadPayload")))) ∧ (PySem.W.nsIn K mainGlobals "DiskCrashed" = some (some (.ref (He.ga K "DiskCrashed")))) ∧ (PySem.W.nsIn K mainGlobals "DiskError" = some (some (.ref (He.ga K "DiskError")))) ∧ (PySem.W.plainGet K (He.ga K "Order") Str.empty = true) ∧ (PySem.W.hasDictIn K (He.ga K "Order") = true)
instance (K : PySem.W.Frag) : Decidable (ExP0 K) := by unfold ExP0; infer_instance
def ExP1 (K : PySem.W.Frag) : Prop := (PySem.W.plainOver K (He.ga K "Order") = true) ∧ (PySem.W.findIn K (.ref (He.ga K "Order")) "__setattr__" = some (some (.builtin "object.__setattr__"))) ∧ (PySem.W.makesIn K (He.ga K "Order") = true) ∧ (PySem.W.keepIn K (.ref (He.ga K "Order")) = true) ∧ (PySem.W.findIn K (.ref (He.ga K "Order")) "_me" = some none) ∧ (PySem.W.findIn K (.ref (He.ga K "Order")) "_view_id" = some none) ∧ (PySem.W.findIn K (.ref (He.ga K "Order")) "_members" = some none) ∧ (PySem.W.findIn K (.ref (He.ga K "Order")) "_founder" = some none) ∧ (PySem.W.findIn K (.ref (He.ga K "Order")) "_log" = some none) ∧ (PySem.W.findIn K (.ref (He.ga K "Order")) "_last_indexes" = some none) ∧ (PySem.W.findIn K (.ref (He.ga K "Order")) "_casts" = some none) ∧ (PySem.W.findIn K (.ref (He.ga K "Order")) "_pending" = some none)
instance (K : PySem.W.Frag) : Decidable (ExP1 K) := by unfold ExP1; infer_instance
def ExP2 (K : PySem.W.Frag) : Prop := (PySem.W.findIn K (.ref (He.ga K "Order")) "_kept" = some none) ∧ (PySem.W.findIn K (.ref (He.ga K "Order")) "_told" = some none) ∧ (PySem.W.plainGet K (He.ga K "Cells") Str.empty = true) ∧ (PySem.W.hasDictIn K (He.ga K "Cells") = true) ∧ (PySem.W.plainOver K (He.ga K "Cells") = true) ∧ (PySem.W.findIn K (.ref (He.ga K "Cells")) "__setattr__" = some (some (.builtin "object.__setattr__"))) ∧ (PySem.W.makesIn K (He.ga K "Cells") = true) ∧ (PySem.W.keepIn K (.ref (He.ga K "Cells")) = true) ∧ (PySem.W.findIn K (.ref (He.ga K "Cells")) "_texts" = some none) ∧ (PySem.W.findIn K (.ref (He.ga K "Cells")) "_has_crashed" = some none) ∧ (PySem.W.findIn K (.ref (He.ga K "Cells")) "_passing" = some none) ∧ (PySem.W.findIn K (.ref (He.ga K "Cells")) "_keep" = some none)
instance (K : PySem.W.Frag) : Decidable (ExP2 K) := by unfold ExP2; infer_instance
def ExP3 (K : PySem.W.Frag) : Prop := (PySem.W.plainGet K (He.ga K "Watch") Str.empty = true) ∧ (PySem.W.hasDictIn K (He.ga K "Watch") = true) ∧ (PySem.W.plainOver K (He.ga K "Watch") = true) ∧ (PySem.W.findIn K (.ref (He.ga K "Watch")) "__setattr__" = some (some (.builtin "object.__setattr__"))) ∧ (PySem.W.makesIn K (He.ga K "Watch") = true) ∧ (PySem.W.keepIn K (.ref (He.ga K "Watch")) = true) ∧ (PySem.W.findIn K (.ref (He.ga K "Watch")) "_me" = some none) ∧ (PySem.W.findIn K (.ref (He.ga K "Watch")) "_lives" = some none) ∧ (PySem.W.findIn K (.ref (He.ga K "Watch")) "_ages" = some none) ∧ (PySem.W.plainGet K (He.ga K "Member") Str.empty = true) ∧ (PySem.W.hasDictIn K (He.ga K "Member") = true) ∧ (PySem.W.plainOver K (He.ga K "Member") = true)
instance (K : PySem.W.Frag) : Decidable (ExP3 K) := by unfold ExP3; infer_instance
def ExP4 (K : PySem.W.Frag) : Prop := (PySem.W.findIn K (.ref (He.ga K "Member")) "__setattr__" = some (some (.builtin "object.__setattr__"))) ∧ (PySem.W.makesIn K (He.ga K "Member") = true) ∧ (PySem.W.keepIn K (.ref (He.ga K "Member")) = true) ∧ (PySem.W.findIn K (.ref (He.ga K "Member")) "_me" = some none) ∧ (PySem.W.findIn K (.ref (He.ga K "Member")) "_count" = some none) ∧ (PySem.W.findIn K (.ref (He.ga K "Member")) "_watch" = some none) ∧ (PySem.W.findIn K (.ref (He.ga K "Member")) "_promised" = some none) ∧ (PySem.W.findIn K (.ref (He.ga K "Member")) "_greatest_number" = some none) ∧ (PySem.W.findIn K (.ref (He.ga K "Member")) "_attempt" = some none) ∧ (PySem.W.findIn K (.ref (He.ga K "Member")) "_waiting" = some none) ∧ (PySem.W.findIn K (.ref (He.ga K "Member")) "_events" = some none) ∧ (PySem.W.findIn K (.ref (He.ga K "Member")) "_view_id" = some none)
instance (K : PySem.W.Frag) : Decidable (ExP4 K) := by unfold ExP4; infer_instance
def ExP5 (K : PySem.W.Frag) : Prop := (PySem.W.findIn K (.ref (He.ga K "Member")) "_members" = some none) ∧ (PySem.W.findIn K (.ref (He.ga K "Member")) "_order" = some none) ∧ (PySem.W.findIn K (.ref (He.ga K "Member")) "_led_by" = some none) ∧ (PySem.W.findIn K (.ref (He.ga K "Member")) "_seen" = some none) ∧ (PySem.W.findIn K (.ref (He.ga K "Member")) "_has_strayed" = some none) ∧ (PySem.W.findIn K (.ref (He.ga K "Member")) "_frozen" = some none) ∧ (PySem.W.findIn K (.ref (He.ga K "Order")) "__init__" = some (some (.ref (He.fAd K ("Order", some "__init__"))))) ∧ (PySem.W.isFn K (.ref (He.fAd K ("Order", some "__init__"))) = true) ∧ (PySem.W.findIn K (.ref (He.ga K "Order")) "cast" = some (some (.ref (He.fAd K ("Order", some "cast"))))) ∧ (PySem.W.isFn K (.ref (He.fAd K ("Order", some "cast"))) = true) ∧ (PySem.W.findIn K (.ref (He.ga K "Order")) "log" = some (some (.ref (He.fAd K ("Order", some "log"))))) ∧ (PySem.W.isFn K (.ref (He.fAd K ("Order", some "log"))) = true)
instance (K : PySem.W.Frag) : Decidable (ExP5 K) := by unfold ExP5; infer_instance
def ExP6 (K : PySem.W.Frag) : Prop := (PySem.W.findIn K (.ref (He.ga K "Order")) "_decide" = some (some (.ref (He.fAd K ("Order", some "_decide"))))) ∧ (PySem.W.isFn K (.ref (He.fAd K ("Order", some "_decide"))) = true) ∧ (PySem.W.findIn K (.ref (He.ga K "Order")) "_deliver" = some (some (.ref (He.fAd K ("Order", some "_deliver"))))) ∧ (PySem.W.isFn K (.ref (He.fAd K ("Order", some "_deliver"))) = true) ∧ (PySem.W.findIn K (.ref (He.ga K "Order")) "_others" = some (some (.ref (He.fAd K ("Order", some "_others"))))) ∧ (PySem.W.isFn K (.ref (He.fAd K ("Order", some "_others"))) = true) ∧ (PySem.W.findIn K (.ref (He.ga K "Order")) "_cast_letter" = some (some (.ref (He.fAd K ("Order", some "_cast_letter"))))) ∧ (PySem.W.isFn K (.ref (He.fAd K ("Order", some "_cast_letter"))) = true) ∧ (PySem.W.findIn K (.ref (He.ga K "Order")) "_order_letter" = some (some (.ref (He.fAd K ("Order", some "_order_letter"))))) ∧ (PySem.W.isFn K (.ref (He.fAd K ("Order", some "_order_letter"))) = true) ∧ (PySem.W.findIn K (.ref (He.ga K "Watch")) "__init__" = some (some (.ref (He.fAd K ("Watch", some "__init__"))))) ∧ (PySem.W.isFn K (.ref (He.fAd K ("Watch", some "__init__"))) = true)
instance (K : PySem.W.Frag) : Decidable (ExP6 K) := by unfold ExP6; infer_instance
def ExP7 (K : PySem.W.Frag) : Prop := (PySem.W.findIn K (.ref (He.ga K "Member")) "__init__" = some (some (.ref (He.fAd K ("Member", some "__init__"))))) ∧ (PySem.W.isFn K (.ref (He.fAd K ("Member", some "__init__"))) = true) ∧ (PySem.W.findIn K (.ref (He.ga K "Member")) "member" = some (some (.ref (He.fAd K ("Member", some "member"))))) ∧ (PySem.W.isFn K (.ref (He.fAd K ("Member", some "member"))) = true) ∧ (PySem.W.findIn K (.ref (He.ga K "Member")) "view" = some (some (.ref (He.fAd K ("Member", some "view"))))) ∧ (PySem.W.isFn K (.ref (He.fAd K ("Member", some "view"))) = true) ∧ (PySem.W.findIn K (.ref (He.ga K "Member")) "frozen" = some (some (.ref (He.fAd K ("Member", some "frozen"))))) ∧ (PySem.W.isFn K (.ref (He.fAd K ("Member", some "frozen"))) = true) ∧ (PySem.W.findIn K (.ref (He.ga K "Member")) "log" = some (some (.ref (He.fAd K ("Member", some "log"))))) ∧ (PySem.W.isFn K (.ref (He.fAd K ("Member", some "log"))) = true) ∧ (PySem.W.findIn K (.ref (He.ga K "Member")) "waiting" = some (some (.ref (He.fAd K ("Member", some "waiting"))))) ∧ (PySem.W.isFn K (.ref (He.fAd K ("Member", some "waiting"))) = true)
instance (K : PySem.W.Frag) : Decidable (ExP7 K) := by unfold ExP7; infer_instance
def ExP8 (K : PySem.W.Frag) : Prop := (PySem.W.findIn K (.ref (He.ga K "Member")) "events" = some (some (.ref (He.fAd K ("Member", some "events"))))) ∧ (PySem.W.isFn K (.ref (He.fAd K ("Member", some "events"))) = true) ∧ (PySem.W.findIn K (.ref (He.ga K "Member")) "cast" = some (some (.ref (He.fAd K ("Member", some "cast"))))) ∧ (PySem.W.isFn K (.ref (He.fAd K ("Member", some "cast"))) = true) ∧ (PySem.W.findIn K (.ref (He.ga K "Member")) "receive" = some (some (.ref (He.fAd K ("Member", some "receive"))))) ∧ (PySem.W.isFn K (.ref (He.fAd K ("Member", some "receive"))) = true) ∧ (PySem.W.findIn K (.ref (He.ga K "Member")) "_enter" = some (some (.ref (He.fAd K ("Member", some "_enter"))))) ∧ (PySem.W.isFn K (.ref (He.fAd K ("Member", some "_enter"))) = true) ∧ (PySem.W.findIn K (.ref (He.ga K "Member")) "_deliver" = some (some (.ref (He.fAd K ("Member", some "_deliver"))))) ∧ (PySem.W.isFn K (.ref (He.fAd K ("Member", some "_deliver"))) = true) ∧ (PySem.W.findIn K (.ref (He.ga K "Cells")) "__init__" = some (some (.ref (He.fAd K ("Cells", some "__init__"))))) ∧ (PySem.W.isFn K (.ref (He.fAd K ("Cells", some "__init__"))) = true)
instance (K : PySem.W.Frag) : Decidable (ExP8 K) := by unfold ExP8; infer_instance
def ExP9 (K : PySem.W.Frag) : Prop := (PySem.W.findIn K (.ref (He.ga K "Cells")) "read" = some (some (.ref (He.fAd K ("Cells", some "read"))))) ∧ (PySem.W.isFn K (.ref (He.fAd K ("Cells", some "read"))) = true) ∧ (PySem.W.findIn K (.ref (He.ga K "Cells")) "write" = some (some (.ref (He.fAd K ("Cells", some "write"))))) ∧ (PySem.W.isFn K (.ref (He.fAd K ("Cells", some "write"))) = true) ∧ (PySem.W.findIn K (.ref (He.ga K "Cells")) "arm" = some (some (.ref (He.fAd K ("Cells", some "arm"))))) ∧ (PySem.W.isFn K (.ref (He.fAd K ("Cells", some "arm"))) = true) ∧ (PySem.W.findIn K (.ref (He.ga K "Cells")) "crash" = some (some (.ref (He.fAd K ("Cells", some "crash"))))) ∧ (PySem.W.isFn K (.ref (He.fAd K ("Cells", some "crash"))) = true) ∧ (PySem.W.findIn K (.ref (He.ga K "Cells")) "_check" = some (some (.ref (He.fAd K ("Cells", some "_check"))))) ∧ (PySem.W.isFn K (.ref (He.fAd K ("Cells", some "_check"))) = true) ∧ (PySem.W.excIn K (He.ga K "BadLetter") [.type "ValueError", .type "Exception", .type "BaseException", .type "object"] "ValueError.__new__" = true) ∧ (PySem.W.keepIn K (.ref (He.ga K "BadLetter")) = true)
instance (K : PySem.W.Frag) : Decidable (ExP9 K) := by unfold ExP9; infer_instance
def ExP10 (K : PySem.W.Frag) : Prop := (PySem.W.subIn K (.ref (He.ga K "BadLetter")) (.type "BaseException") = some true) ∧ (PySem.W.typeIn K (.ref (He.ga K "BadLetter")) = some (.type "type")) ∧ (PySem.W.excIn K (He.ga K "BadView") [.type "ValueError", .type "Exception", .type "BaseException", .type "object"] "ValueError.__new__" = true) ∧ (PySem.W.keepIn K (.ref (He.ga K "BadView")) = true) ∧ (PySem.W.subIn K (.ref (He.ga K "BadView")) (.type "BaseException") = some true) ∧ (PySem.W.typeIn K (.ref (He.ga K "BadView")) = some (.type "type")) ∧ (PySem.W.excIn K (He.ga K "BadMember") [.type "ValueError", .type "Exception", .type "BaseException", .type "object"] "ValueError.__new__" = true) ∧ (PySem.W.keepIn K (.ref (He.ga K "BadMember")) = true) ∧ (PySem.W.subIn K (.ref (He.ga K "BadMember")) (.type "BaseException") = some true) ∧ (PySem.W.typeIn K (.ref (He.ga K "BadMember")) = some (.type "type")) ∧ (PySem.W.excIn K (He.ga K "BadPayload") [.type "ValueError", .type "Exception", .type "BaseException", .type "object"] "ValueError.__new__" = true) ∧ (PySem.W.keepIn K (.ref (He.ga K "BadPayload")) = true)
instance (K : PySem.W.Frag) : Decidable (ExP10 K) := by unfold ExP10; infer_instance
def ExP11 (K : PySem.W.Frag) : Prop := (PySem.W.subIn K (.ref (He.ga K "BadPayload")) (.type "BaseException") = some true) ∧ (PySem.W.typeIn K (.ref (He.ga K "BadPayload")) = some (.type "type")) ∧ (PySem.W.excIn K (He.ga K "DiskCrashed") [.type "ValueError", .type "Exception", .type "BaseException", .type "object"] "ValueError.__new__" = true) ∧ (PySem.W.keepIn K (.ref (He.ga K "DiskCrashed")) = true) ∧ (PySem.W.subIn K (.ref (He.ga K "DiskCrashed")) (.type "BaseException") = some true) ∧ (PySem.W.typeIn K (.ref (He.ga K "DiskCrashed")) = some (.type "type")) ∧ (PySem.W.excIn K (He.ga K "DiskError") [.type "ValueError", .type "Exception", .type "BaseException", .type "object"] "ValueError.__new__" = true) ∧ (PySem.W.keepIn K (.ref (He.ga K "DiskError")) = true) ∧ (PySem.W.subIn K (.ref (He.ga K "DiskError")) (.type "BaseException") = some true) ∧ (PySem.W.typeIn K (.ref (He.ga K "DiskError")) = some (.type "type")) ∧ (PySem.W.nsIn K mainGlobals "_CHECKS" = some (some (.ref (He.ga K "_CHECKS")))) ∧ (PySem.W.nsIn K (He.ga K "_CHECKS") "here" = some (some (.ref (He.fAd K ("_is_here", none)))))
instance (K : PySem.W.Frag) : Decidable (ExP11 K) := by unfold ExP11; infer_instance
def ExP12 (K : PySem.W.Frag) : Prop := (PySem.W.nsIn K (He.ga K "_CHECKS") "cast" = some (some (.ref (He.fAd K ("_is_cast", none))))) ∧ (PySem.W.nsIn K (He.ga K "_CHECKS") "order" = some (some (.ref (He.fAd K ("_is_order", none))))) ∧ (PySem.W.nsIn K (He.ga K "_CHECKS") "propose" = some (some (.ref (He.fAd K ("_is_propose", none))))) ∧ (PySem.W.nsIn K (He.ga K "_CHECKS") "state" = some (some (.ref (He.fAd K ("_is_state", none))))) ∧ (PySem.W.nsIn K (He.ga K "_CHECKS") "install" = some (some (.ref (He.fAd K ("_is_install", none))))) ∧ (PySem.W.nsIn K (He.ga K "_CHECKS") "higher" = some (some (.ref (He.fAd K ("_is_higher", none))))) ∧ (PySem.W.nsIn K mainGlobals "MusterError" = some (some (.ref (He.ga K "MusterError")))) ∧ (PySem.W.exmOne K (.ref (He.ga K "BadLetter")) (.ref (He.ga K "MusterError")) = some true) ∧ (PySem.W.kitOne K (.ref (He.ga K "BadLetter")) (.ref (He.ga K "BadLetter")) = some true) ∧ (PySem.W.findIn K (.ref (He.ga K "BadLetter")) "__getattribute__" = some (some (.builtin "BaseException.__getattribute__"))) ∧ (PySem.W.findIn K (.ref (He.ga K "BadLetter")) "__getattr__" = some none) ∧ (PySem.W.subIn K (.ref (He.ga K "BadLetter")) (.type "BaseException") = some true)
instance (K : PySem.W.Frag) : Decidable (ExP12 K) := by unfold ExP12; infer_instance
def ExP13 (K : PySem.W.Frag) : Prop := (PySem.W.hasDictIn K (He.ga K "BadLetter") = true) ∧ (PySem.W.findIn K (.ref (He.ga K "BadLetter")) "__class__" = some (some (.builtin "object.__class__"))) ∧ (PySem.W.specialIn K (.builtin "object.__class__") "__get__" = some (some (.builtin "getset_descriptor.__get__"))) ∧ (PySem.W.takesIn K (.builtin "object.__class__") = some true) ∧ (PySem.W.mroIn K (He.ga K "BadLetter") (.type "object") = some true) ∧ (PySem.W.exmOne K (.ref (He.ga K "BadView")) (.ref (He.ga K "BadView")) = some true) ∧ (PySem.W.exmOne K (.ref (He.ga K "BadLetter")) (.ref (He.ga K "BadLetter")) = some true) ∧ (PySem.W.exmOne K (.ref (He.ga K "BadMember")) (.ref (He.ga K "BadMember")) = some true) ∧ (PySem.W.exmOne K (.ref (He.ga K "BadPayload")) (.ref (He.ga K "BadPayload")) = some true) ∧ (PySem.W.exmOne K (.ref (He.ga K "DiskCrashed")) (.ref (He.ga K "BadMember")) = some false) ∧ (PySem.W.exmOne K (.ref (He.ga K "DiskCrashed")) (.ref (He.ga K "DiskCrashed")) = some true) ∧ (PySem.W.exmOne K (.ref (He.ga K "DiskError")) (.ref (He.ga K "DiskCrashed")) = some false)
instance (K : PySem.W.Frag) : Decidable (ExP13 K) := by unfold ExP13; infer_instance
def ExP14 (K : PySem.W.Frag) : Prop := (PySem.W.exmOne K (.ref (He.ga K "DiskError")) (.ref (He.ga K "DiskError")) = some true) ∧ (PySem.W.nsIn K mainGlobals "is_printable" = some (some (.ref (He.fAd K ("is_printable", none))))) ∧ (PySem.W.nsIn K mainGlobals "_is_printable_character" = some (some (.ref (He.fAd K ("_is_printable_character", none))))) ∧ (PySem.W.nsIn K mainGlobals "is_integer" = some (some (.ref (He.fAd K ("is_integer", none))))) ∧ (PySem.W.nsIn K mainGlobals "is_process" = some (some (.ref (He.fAd K ("is_process", none))))) ∧ (PySem.W.nsIn K mainGlobals "is_member" = some (some (.ref (He.fAd K ("is_member", none))))) ∧ (PySem.W.nsIn K mainGlobals "is_members" = some (some (.ref (He.fAd K ("is_members", none))))) ∧ (PySem.W.nsIn K mainGlobals "is_view_id" = some (some (.ref (He.fAd K ("is_view_id", none))))) ∧ (PySem.W.nsIn K mainGlobals "is_payload" = some (some (.ref (He.fAd K ("is_payload", none))))) ∧ (PySem.W.nsIn K mainGlobals "is_message" = some (some (.ref (He.fAd K ("is_message", none))))) ∧ (PySem.W.nsIn K mainGlobals "is_log" = some (some (.ref (He.fAd K ("is_log", none))))) ∧ (PySem.W.nsIn K mainGlobals "last_index" = some (some (.ref (He.fAd K ("last_index", none)))))
instance (K : PySem.W.Frag) : Decidable (ExP14 K) := by unfold ExP14; infer_instance
def ExP15 (K : PySem.W.Frag) : Prop := (PySem.W.nsIn K mainGlobals "is_pending" = some (some (.ref (He.fAd K ("is_pending", none))))) ∧ (PySem.W.nsIn K mainGlobals "_is_pending_cast" = some (some (.ref (He.fAd K ("_is_pending_cast", none))))) ∧ (PySem.W.nsIn K mainGlobals "_is_here" = some (some (.ref (He.fAd K ("_is_here", none))))) ∧ (PySem.W.nsIn K mainGlobals "_is_cast" = some (some (.ref (He.fAd K ("_is_cast", none))))) ∧ (PySem.W.nsIn K mainGlobals "_is_order" = some (some (.ref (He.fAd K ("_is_order", none))))) ∧ (PySem.W.nsIn K mainGlobals "_is_propose" = some (some (.ref (He.fAd K ("_is_propose", none))))) ∧ (PySem.W.nsIn K mainGlobals "_is_state" = some (some (.ref (He.fAd K ("_is_state", none))))) ∧ (PySem.W.nsIn K mainGlobals "_is_install" = some (some (.ref (He.fAd K ("_is_install", none))))) ∧ (PySem.W.nsIn K mainGlobals "_is_higher" = some (some (.ref (He.fAd K ("_is_higher", none))))) ∧ (PySem.W.nsIn K mainGlobals "_is_place" = some (some (.ref (He.fAd K ("_is_place", none))))) ∧ (PySem.W.nsIn K mainGlobals "_is_finals" = some (some (.ref (He.fAd K ("_is_finals", none))))) ∧ (PySem.W.nsIn K mainGlobals "_is_final" = some (some (.ref (He.fAd K ("_is_final", none)))))
instance (K : PySem.W.Frag) : Decidable (ExP15 K) := by unfold ExP15; infer_instance
def ExP16 (K : PySem.W.Frag) : Prop := (PySem.W.nsIn K mainGlobals "is_letter" = some (some (.ref (He.fAd K ("is_letter", none))))) ∧ (PySem.W.nsIn K mainGlobals "check_letter" = some (some (.ref (He.fAd K ("check_letter", none))))) ∧ (PySem.W.nsIn K mainGlobals "life_text" = some (some (.ref (He.fAd K ("life_text", none))))) ∧ (PySem.W.nsIn K mainGlobals "life_of" = some (some (.ref (He.fAd K ("life_of", none))))) ∧ (PySem.W.nsIn K mainGlobals "_are_digits" = some (some (.ref (He.fAd K ("_are_digits", none))))) ∧ (PySem.W.nsIn K mainGlobals "next_life" = some (some (.ref (He.fAd K ("next_life", none))))) ∧ (PySem.W.nsIn K mainGlobals "_law_cell" = some (some (.ref (He.fAd K ("_law_cell", none))))) ∧ (PySem.W.nsIn K mainGlobals "_law_made" = some (some (.ref (He.fAd K ("_law_made", none))))) ∧ (PySem.W.nsIn K mainGlobals "_law_cast" = some (some (.ref (He.fAd K ("_law_cast", none))))) ∧ (PySem.W.nsIn K mainGlobals "_law_good" = some (some (.ref (He.fAd K ("_law_good", none))))) ∧ (PySem.W.nsIn K mainGlobals "law" = some (some (.ref (He.fAd K ("law", none))))) ∧ (PySem.W.nsIn K mainGlobals "len" = some none)
instance (K : PySem.W.Frag) : Decidable (ExP16 K) := by unfold ExP16; infer_instance
def ExP17 (K : PySem.W.Frag) : Prop := (PySem.W.nsIn K mainGlobals "isinstance" = some none) ∧ (PySem.W.nsIn K mainGlobals "int" = some none) ∧ (PySem.W.nsIn K mainGlobals "bool" = some none) ∧ (PySem.W.nsIn K mainGlobals "str" = some none) ∧ (PySem.W.nsIn K mainGlobals "tuple" = some none) ∧ (PySem.W.nsIn K mainGlobals "list" = some none) ∧ (PySem.W.nsIn K mainGlobals "range" = some none) ∧ (PySem.W.nsIn K mainGlobals "min" = some none) ∧ (PySem.W.nsIn K mainGlobals "max" = some none) ∧ (PySem.W.nsIn K mainGlobals "abs" = some none) ∧ (PySem.W.nsIn K mainGlobals "sorted" = some none) ∧ (PySem.W.nsIn K mainGlobals "ord" = some none)
instance (K : PySem.W.Frag) : Decidable (ExP17 K) := by unfold ExP17; infer_instance
def ExP18 (K : PySem.W.Frag) : Prop := (PySem.W.nsIn K mainGlobals "enumerate" = some none)
instance (K : PySem.W.Frag) : Decidable (ExP18 K) := by unfold ExP18; infer_instance
def hEx (K : PySem.W.Frag) : Bool := decide (ExP0 K) && (decide (ExP1 K) && (decide (ExP2 K) && (decide (ExP3 K) && (decide (ExP4 K) && (decide (ExP5 K) && (decide (ExP6 K) && (decide (ExP7 K) && (decide (ExP8 K) && (decide (ExP9 K) && (decide (ExP10 K) && (decide (ExP11 K) && (decide (ExP12 K) && (decide (ExP13 K) && (decide (ExP14 K) && (decide (ExP15 K) && (decide (ExP16 K) && (decide (ExP17 K) && (decide (ExP18 K) && ([(("_REFUSED_CODE" : Str), (37 : Int)), (("MOST_PROCESSES" : Str), (12 : Int)), (("MOST_PAYLOAD" : Str), (30 : Int)), (("WINDOW" : Str), (16 : Int)), (("SILENCE" : Str), (4 : Int)), (("MOST_NUMBER" : Str), (1000000000000 : Int))].all fun q => intB K q.1 q.2)))))))))))))))))))
def hFn0 : List He.DefD := [⟨("Order", some "__init__"), "__init__", "Order.__init__", defArgs s_Order___init__, defBody s_Order___init__, defScope s_Order___init__, [], []⟩, ⟨("Order", some "cast"), "cast", "Order.cast", defArgs s_Order_cast, defBody s_Order_cast, defScope s_Order_cast, [], []⟩, ⟨("Order", some "log"), "log", "Order.log", defArgs s_Order_log, defBody s_Order_log, defScope s_Order_log, [], []⟩, ⟨("Order", some "_decide"), "_decide", "Order._decide", defArgs s_Order__decide, defBody s_Order__decide, defScope s_Order__decide, [], []⟩, ⟨("Order", some "_deliver"), "_deliver", "Order._deliver", defArgs s_Order__deliver, defBody s_Order__deliver, defScope s_Order__deliver, [], []⟩, ⟨("Order", some "_others"), "_others", "Order._others", defArgs s_Order__others, defBody s_Order__others, defScope s_Order__others, [], []⟩, ⟨("Order", some "_cast_letter"), "_cast_letter", "Order._cast_letter", defArgs s_Order__cast_letter, defBody s_Order__cast_letter, defScope s_Order__cast_letter, [], []⟩, ⟨("Order", some "_order_letter"), "_order_letter", "Order._order_letter", defArgs s_Order__order_letter, defBody s_Order__order_letter, defScope s_Order__order_letter, [], []⟩, ⟨("Watch", some "__init__"), "__init__", "Watch.__init__", defArgs s_Watch___init__, defBody s_Watch___init__, defScope s_Watch___init__, [], []⟩, ⟨("Member", some "__init__"), "__init__", "Member.__init__", defArgs s_Member___init__, defBody s_Member___init__, defScope s_Member___init__, [], []⟩, ⟨("Member", some "member"), "member", "Member.member", defArgs s_Member_member, defBody s_Member_member, defScope s_Member_member, [], []⟩, ⟨("Member", some "view"), "view", "Member.view", defArgs s_Member_view, defBody s_Member_view, defScope s_Member_view, [], []⟩, ⟨("Member", some "frozen"), "frozen", "Member.frozen", defArgs s_Member_frozen, defBody s_Member_frozen, defScope s_Member_frozen, [], []⟩, ⟨("Member", some "log"), "log", "Member.log", defArgs s_Member_log, defBody s_Member_log, defScope s_Member_log, [], []⟩, ⟨("Member", some "waiting"), "waiting", "Member.waiting", defArgs s_Member_waiting, defBody s_Member_waiting, defScope s_Member_waiting, [], []⟩, ⟨("Member", some "events"), "events", "Member.events", defArgs s_Member_events, defBody s_Member_events, defScope s_Member_events, [], []⟩, ⟨("Member", some "cast"), "cast", "Member.cast", defArgs s_Member_cast, defBody s_Member_cast, defScope s_Member_cast, [], []⟩, ⟨("Member", some "receive"), "receive", "Member.receive", defArgs s_Member_receive, defBody s_Member_receive, defScope s_Member_receive, [], []⟩, ⟨("Member", some "_enter"), "_enter", "Member._enter", defArgs s_Member__enter, defBody s_Member__enter, defScope s_Member__enter, [], []⟩, ⟨("Member", some "_deliver"), "_deliver", "Member._deliver", defArgs s_Member__deliver, defBody s_Member__deliver, defScope s_Member__deliver, [], []⟩, ⟨("Cells", some "__init__"), "__init__", "Cells.__init__", defArgs s_Cells___init__, defBody s_Cells___init__, defScope s_Cells___init__, [], []⟩, ⟨("Cells", some "read"), "read", "Cells.read", defArgs s_Cells_read, defBody s_Cells_read, defScope s_Cells_read, [], []⟩, ⟨("Cells", some "write"), "write", "Cells.write", defArgs s_Cells_write, defBody s_Cells_write, defScope s_Cells_write, [], []⟩, ⟨("Cells", some "arm"), "arm", "Cells.arm", defArgs s_Cells_arm, defBody s_Cells_arm, defScope s_Cells_arm, [], []⟩, ⟨("Cells", some "crash"), "crash", "Cells.crash", defArgs s_Cells_crash, defBody s_Cells_crash, defScope s_Cells_crash, [], []⟩, ⟨("Cells", some "_check"), "_check", "Cells._check", defArgs s_Cells__check, defBody s_Cells__check, defScope s_Cells__check, [], []⟩, ⟨("is_printable", none), "is_printable", "is_printable", defArgs s_is_printable, defBody s_is_printable, defScope s_is_printable, [], []⟩, ⟨("_is_printable_character", none), "_is_printable_character", "_is_printable_character", defArgs s__is_printable_character, defBody s__is_printable_character, defScope s__is_printable_character, [], []⟩, ⟨("is_integer", none), "is_integer", "is_integer", defArgs s_is_integer, defBody s_is_integer, defScope s_is_integer, [], []⟩, ⟨("is_process", none), "is_process", "is_process", defArgs s_is_process, defBody s_is_process, defScope s_is_process, [], []⟩]
def hFn1 : List He.DefD := [⟨("is_member", none), "is_member", "is_member", defArgs s_is_member, defBody s_is_member, defScope s_is_member, [], []⟩, ⟨("is_members", none), "is_members", "is_members", defArgs s_is_members, defBody s_is_members, defScope s_is_members, [], []⟩, ⟨("is_view_id", none), "is_view_id", "is_view_id", defArgs s_is_view_id, defBody s_is_view_id, defScope s_is_view_id, [], []⟩, ⟨("is_payload", none), "is_payload", "is_payload", defArgs s_is_payload, defBody s_is_payload, defScope s_is_payload, [], []⟩, ⟨("is_message", none), "is_message", "is_message", defArgs s_is_message, defBody s_is_message, defScope s_is_message, [], []⟩, ⟨("is_log", none), "is_log", "is_log", defArgs s_is_log, defBody s_is_log, defScope s_is_log, [], []⟩, ⟨("last_index", none), "last_index", "last_index", defArgs s_last_index, defBody s_last_index, defScope s_last_index, [], []⟩, ⟨("is_pending", none), "is_pending", "is_pending", defArgs s_is_pending, defBody s_is_pending, defScope s_is_pending, [], []⟩, ⟨("_is_pending_cast", none), "_is_pending_cast", "_is_pending_cast", defArgs s__is_pending_cast, defBody s__is_pending_cast, defScope s__is_pending_cast, [], []⟩, ⟨("_is_here", none), "_is_here", "_is_here", defArgs s__is_here, defBody s__is_here, defScope s__is_here, [], []⟩, ⟨("_is_cast", none), "_is_cast", "_is_cast", defArgs s__is_cast, defBody s__is_cast, defScope s__is_cast, [], []⟩, ⟨("_is_order", none), "_is_order", "_is_order", defArgs s__is_order, defBody s__is_order, defScope s__is_order, [], []⟩, ⟨("_is_propose", none), "_is_propose", "_is_propose", defArgs s__is_propose, defBody s__is_propose, defScope s__is_propose, [], []⟩, ⟨("_is_state", none), "_is_state", "_is_state", defArgs s__is_state, defBody s__is_state, defScope s__is_state, [], []⟩, ⟨("_is_install", none), "_is_install", "_is_install", defArgs s__is_install, defBody s__is_install, defScope s__is_install, [], []⟩, ⟨("_is_higher", none), "_is_higher", "_is_higher", defArgs s__is_higher, defBody s__is_higher, defScope s__is_higher, [], []⟩, ⟨("_is_place", none), "_is_place", "_is_place", defArgs s__is_place, defBody s__is_place, defScope s__is_place, [], []⟩, ⟨("_is_finals", none), "_is_finals", "_is_finals", defArgs s__is_finals, defBody s__is_finals, defScope s__is_finals, [], []⟩, ⟨("_is_final", none), "_is_final", "_is_final", defArgs s__is_final, defBody s__is_final, defScope s__is_final, [], []⟩, ⟨("is_letter", none), "is_letter", "is_letter", defArgs s_is_letter, defBody s_is_letter, defScope s_is_letter, [], []⟩, ⟨("check_letter", none), "check_letter", "check_letter", defArgs s_check_letter, defBody s_check_letter, defScope s_check_letter, [], []⟩, ⟨("life_text", none), "life_text", "life_text", defArgs s_life_text, defBody s_life_text, defScope s_life_text, [], []⟩, ⟨("life_of", none), "life_of", "life_of", defArgs s_life_of, defBody s_life_of, defScope s_life_of, [], []⟩, ⟨("_are_digits", none), "_are_digits", "_are_digits", defArgs s__are_digits, defBody s__are_digits, defScope s__are_digits, [], []⟩, ⟨("next_life", none), "next_life", "next_life", defArgs s_next_life, defBody s_next_life, defScope s_next_life, [], []⟩, ⟨("_law_cell", none), "_law_cell", "_law_cell", defArgs s__law_cell, defBody s__law_cell, defScope s__law_cell, [], []⟩, ⟨("_law_made", none), "_law_made", "_law_made", defArgs s__law_made, defBody s__law_made, defScope s__law_made, [], []⟩, ⟨("_law_cast", none), "_law_cast", "_law_cast", defArgs s__law_cast, defBody s__law_cast, defScope s__law_cast, [], []⟩, ⟨("_law_good", none), "_law_good", "_law_good", defArgs s__law_good, defBody s__law_good, defScope s__law_good, [], []⟩, ⟨("law", none), "law", "law", defArgs s_law, defBody s_law, defScope s_law, [], []⟩]
def hFn : List He.DefD := hFn0 ++ (hFn1)
def hTs : List He.Tab := [((fun K => He.ga K "_CHECKS"), sevens)]
def hNm0 : List PySem.Str := ["MusterError", "BadPayload", "BadLetter", "BadMember", "BadView", "DiskError", "DiskCrashed", "MOST_PROCESSES", "MOST_NUMBER", "MOST_PAYLOAD", "_REFUSED_CODE", "is_printable", "_is_printable_character", "is_integer", "is_process", "is_member", "is_members", "is_view_id", "is_payload", "is_message", "is_log", "last_index", "is_pending", "_is_pending_cast", "_is_here", "_is_cast", "_is_order", "_is_propose", "_is_state", "_is_install"]
def hNm1 : List PySem.Str := ["_is_higher", "_is_place", "_is_finals", "_is_final", "_CHECKS", "is_letter", "check_letter", "Attempt", "rest_of", "life_text", "life_of", "_are_digits", "next_life", "WINDOW", "Order", "SILENCE", "Watch", "Member", "_view_ids_in", "Cells", "_law_cell", "_law_made", "_law_cast", "_law_good"]
def hNm : List PySem.Str := hNm0 ++ (hNm1)
abbrev hR : PySem.W.OpenRow := PySem.W.OpenLaw.row PySem.Challenge.rw_mustercall_k41_members_that_are_none
def hAs0 : List Addr := [3, 24, 37, 49, 61, 73, 85, 97, 106, 113, 120, 127, 134, 141, 148, 155, 162, 169, 176, 183, 190, 197, 204, 211, 218, 225, 232, 239, 246, 253, 260, 261, 268, 275, 339, 346]
def hAs1 : List Addr := [353, 360, 472, 519, 768, 829, 840, 847, 854, 861, 868, 23, 36, 48, 60, 72, 84, 96, 105, 112, 119, 126, 133, 140, 147, 154, 161, 168, 175, 182, 189, 196, 203, 210, 217, 224]
def hAs2 : List Addr := [231, 238, 245, 252, 259, 267, 274, 338, 345, 352, 359, 471, 518, 767, 828, 839, 846, 853, 860, 867, 374, 381, 407, 426, 445, 450, 462, 469, 490, 537, 544, 551, 558, 565, 572, 579]
def hAs3 : List Addr := [586, 600, 607, 614, 791, 798, 805, 812, 819, 826, 373, 380, 406, 425, 444, 449, 461, 468, 489, 536, 543, 550, 557, 564, 571, 578, 585, 599, 606, 613, 790, 797, 804, 811, 818, 825]
def hAs : List Addr := hAs0 ++ (hAs1 ++ (hAs2 ++ (hAs3)))
/-- what is looked at: the defs, the tables, the facts, of the objects at hAs -/
def hobs (g : Addr → Option Obj) : He.AlX := (He.obsT [] hFn hTs (He.frG g hAs), hEx (He.frG g hAs))
def hSays (w : World) (h : Heap) : Prop := ∃ K : PySem.W.Frag, K.In h ∧ (He.SaysT [] hFn hTs w K ∧ hEx K = true)
def hk : PySem.W.Hook := { α := He.AlX, obs := fun s => hobs s.heap.get?, val := fun w => (He.valT hFn hTs w, true), says := hSays, of := fun w s e => ⟨He.frG s.heap.get? hAs, He.frG_in, (Prod.mk.inj e).1, (Prod.mk.inj e).2⟩, keeps := fun w h h' y z => y.elim fun K y => ⟨K, y.1.keeps z, y.2⟩ }
abbrev hq : Program := PySem.W.view hR.prog [65]
def hob (s : PySem.W.SharedT) : He.AlX := hobs (HandSHeadRun.getT s)
theorem hob_eq (s : PySem.W.SharedT) : hob s = hk.obs s.abs := congrArg hobs (funext (HandSHeadRun.getT_eq s))
end Mus

set_option maxRecDepth 100000
set_option maxHeartbeats 4000000
namespace Mus
open PySem PySem.Spec PyProof.Rows L2
theorem hrunF (w : World) : HandSHeadRun.RunEq hR hq hk hob 8000 hNm (w.withFollow "special-get-raises" false) := by
  intro os
  kernel_rfl
theorem hrunT (w : World) : HandSHeadRun.RunEq hR hq hk hob 8000 hNm (w.withFollow "special-get-raises" true) := by
  intro os
  kernel_rfl
theorem hrun (w : World) : HandSHeadRun.RunEq hR hq hk hob 8000 hNm w := PySem.W.byRow2 "special-get-raises" (P := fun w => HandSHeadRun.RunEq hR hq hk hob 8000 hNm w) hrunF hrunT w
end Mus

set_option maxRecDepth 100000
set_option maxHeartbeats 4000000
namespace Mus
open PySem PySem.Spec PyProof.Rows L2
theorem fx {K : PySem.W.Frag} (c : He.SaysD [] hFn K) (i : Nat) {d : He.DefD} (h : hFn[i]? = some d) (hd : d.dfl = []) : ∃ (oc : Value) (od an : Option Addr) (sl : Array (Option Value)) (kV dc pm cd ct : Value), K.lookup (He.fAd K d.at_) = some ⟨oc, od, .func (PySem.W.fnOf d.name d.qual d.params d.body d.scope .none kV dc pm an cd ct), sl⟩ ∧ PySem.W.codeIn K cd d.qual = true ∧ PySem.W.keepIn K (.ref (He.fAd K d.at_)) = true := by
  obtain ⟨fd, F⟩ := c.def_ i h
  obtain ⟨oc, od, dV, kV, dc, pm, an, cd, ct, sl, rfl, lk, hc, hD, _⟩ := F.ex
  rcases hD with ⟨_, rfl⟩ | ⟨e, _⟩
  · exact ⟨oc, od, an, sl, kV, dc, pm, cd, ct, lk, hc, F.kp⟩
  · exact absurd (by unfold He.DefD.dvs; rw [hd]; rfl) e
theorem kt_of {K : PySem.W.Frag} {a : Addr} {es : Array DictEntry} {n : Nat} {ks : List Str} {Pm : Params} (h : He.dicW K a = some (He.keysIn Pm ks)) (lk : K.lookup a = some ⟨.type "dict", none, .dict es n, #[]⟩) (z : (a == sysModules) = false) : es.toList.map keyT = ks.map some := by
  have h2 : es.toList.map He.keyOf = He.keysIn Pm ks := by
    unfold He.dicW at h
    rw [lk] at h
    simpa [z] using h
  have h3 : es.toList.map keyT = (es.toList.map He.keyOf).map (Option.map (·.1)) := by
    rw [List.map_map]
    refine List.map_congr_left fun e _ => ?_
    unfold keyT
    show _ = Option.map (·.1) (He.keyOf e)
    unfold He.keyOf
    generalize e.key = v
    cases v <;> rfl
  rw [h3, h2]
  unfold He.keysIn
  rw [List.map_map]
  rfl
theorem hfacts {l : PySem.W.OpenLaw} {w : World} {K : PySem.W.Frag} {h : Heap} {mg : Str → Option Value} {fa : Addr} (X : K.In h) (G : h.Ns mainGlobals mg) (hfa : mg "law" = some (.ref fa)) (c : He.SaysT [] hFn hTs w K) (cm : hEx K = true) :
    ∃ fd : FuncData, (∀ (s : Shared) (v : Value), BindsTo s fd ⟨[v], []⟩ [("script", v)]) ∧ ∀ base : Heap, K.In base → base.Ns mainGlobals mg → FnOk l.prog w K mg base CX0 13 fa fd ["script"] (sp_law K) := by
  unfold hEx at cm
  obtain ⟨z0, cm⟩ := He.ba cm
  obtain ⟨aC_Order, aC_Cells, aC_Watch, aC_Member, aC_BadLetter, aC_BadView, aC_BadMember, aC_BadPayload, aC_DiskCrashed, aC_DiskError, pg_Order, hd_Order⟩ := of_decide_eq_true z0
  obtain ⟨z0, cm⟩ := He.ba cm
  obtain ⟨po_Order, sa_Order, mk_Order, kc_Order, n_Order__me, n_Order__view_id, n_Order__members, n_Order__founder, n_Order__log, n_Order__last_indexes, n_Order__casts, n_Order__pending⟩ := of_decide_eq_true z0
  obtain ⟨z0, cm⟩ := He.ba cm
  obtain ⟨n_Order__kept, n_Order__told, pg_Cells, hd_Cells, po_Cells, sa_Cells, mk_Cells, kc_Cells, n_Cells__texts, n_Cells__has_crashed, n_Cells__passing, n_Cells__keep⟩ := of_decide_eq_true z0
  obtain ⟨z0, cm⟩ := He.ba cm
  obtain ⟨pg_Watch, hd_Watch, po_Watch, sa_Watch, mk_Watch, kc_Watch, n_Watch__me, n_Watch__lives, n_Watch__ages, pg_Member, hd_Member, po_Member⟩ := of_decide_eq_true z0
  obtain ⟨z0, cm⟩ := He.ba cm
  obtain ⟨sa_Member, mk_Member, kc_Member, n_Member__me, n_Member__count, n_Member__watch, n_Member__promised, n_Member__greatest_number, n_Member__attempt, n_Member__waiting, n_Member__events, n_Member__view_id⟩ := of_decide_eq_true z0
  obtain ⟨z0, cm⟩ := He.ba cm
  obtain ⟨n_Member__members, n_Member__order, n_Member__led_by, n_Member__seen, n_Member__has_strayed, n_Member__frozen, ax_Order___init__, ix_Order___init__, ax_Order_cast, ix_Order_cast, ax_Order_log, ix_Order_log⟩ := of_decide_eq_true z0
  obtain ⟨z0, cm⟩ := He.ba cm
  obtain ⟨ax_Order__decide, ix_Order__decide, ax_Order__deliver, ix_Order__deliver, ax_Order__others, ix_Order__others, ax_Order__cast_letter, ix_Order__cast_letter, ax_Order__order_letter, ix_Order__order_letter, ax_Watch___init__, ix_Watch___init__⟩ := of_decide_eq_true z0
  obtain ⟨z0, cm⟩ := He.ba cm
  obtain ⟨ax_Member___init__, ix_Member___init__, ax_Member_member, ix_Member_member, ax_Member_view, ix_Member_view, ax_Member_frozen, ix_Member_frozen, ax_Member_log, ix_Member_log, ax_Member_waiting, ix_Member_waiting⟩ := of_decide_eq_true z0
  obtain ⟨z0, cm⟩ := He.ba cm
  obtain ⟨ax_Member_events, ix_Member_events, ax_Member_cast, ix_Member_cast, ax_Member_receive, ix_Member_receive, ax_Member__enter, ix_Member__enter, ax_Member__deliver, ix_Member__deliver, ax_Cells___init__, ix_Cells___init__⟩ := of_decide_eq_true z0
  obtain ⟨z0, cm⟩ := He.ba cm
  obtain ⟨ax_Cells_read, ix_Cells_read, ax_Cells_write, ix_Cells_write, ax_Cells_arm, ix_Cells_arm, ax_Cells_crash, ix_Cells_crash, ax_Cells__check, ix_Cells__check, x_BadLetter, k_BadLetter⟩ := of_decide_eq_true z0
  obtain ⟨z0, cm⟩ := He.ba cm
  obtain ⟨b_BadLetter, t_BadLetter, x_BadView, k_BadView, b_BadView, t_BadView, x_BadMember, k_BadMember, b_BadMember, t_BadMember, x_BadPayload, k_BadPayload⟩ := of_decide_eq_true z0
  obtain ⟨z0, cm⟩ := He.ba cm
  obtain ⟨b_BadPayload, t_BadPayload, x_DiskCrashed, k_DiskCrashed, b_DiskCrashed, t_DiskCrashed, x_DiskError, k_DiskError, b_DiskError, t_DiskError, aD__CHECKS, e0__CHECKS⟩ := of_decide_eq_true z0
  obtain ⟨z0, cm⟩ := He.ba cm
  obtain ⟨e1__CHECKS, e2__CHECKS, e3__CHECKS, e4__CHECKS, e5__CHECKS, e6__CHECKS, aC_MusterError, m_LM, u_LL, eg, ek, es_⟩ := of_decide_eq_true z0
  obtain ⟨z0, cm⟩ := He.ba cm
  obtain ⟨ed, ea, en, et, em, m_VV, m_LL, m_BB, m_PP, m_CB, m_CC, m_EC⟩ := of_decide_eq_true z0
  obtain ⟨z0, cm⟩ := He.ba cm
  obtain ⟨m_EE, ax_is_printable, ax__is_printable_character, ax_is_integer, ax_is_process, ax_is_member, ax_is_members, ax_is_view_id, ax_is_payload, ax_is_message, ax_is_log, ax_last_index⟩ := of_decide_eq_true z0
  obtain ⟨z0, cm⟩ := He.ba cm
  obtain ⟨ax_is_pending, ax__is_pending_cast, ax__is_here, ax__is_cast, ax__is_order, ax__is_propose, ax__is_state, ax__is_install, ax__is_higher, ax__is_place, ax__is_finals, ax__is_final⟩ := of_decide_eq_true z0
  obtain ⟨z0, cm⟩ := He.ba cm
  obtain ⟨ax_is_letter, ax_check_letter, ax_life_text, ax_life_of, ax__are_digits, ax_next_life, ax__law_cell, ax__law_made, ax__law_cast, ax__law_good, ax_law, zlen⟩ := of_decide_eq_true z0
  obtain ⟨z0, cm⟩ := He.ba cm
  obtain ⟨zisinstance, zint, zbool, zstr, ztuple, zlist, zrange, zmin, zmax, zabs, zsorted, zord⟩ := of_decide_eq_true z0
  obtain ⟨z0, cm⟩ := He.ba cm
  have zenumerate := of_decide_eq_true z0
  have ci := List.all_eq_true.mp cm
  obtain ⟨t_v_REFUSED_CODE, i_v_REFUSED_CODE⟩ := intB_ok (ci ("_REFUSED_CODE", 37) (by simp))
  obtain ⟨t_vMOST_PROCESSES, i_vMOST_PROCESSES⟩ := intB_ok (ci ("MOST_PROCESSES", 12) (by simp))
  obtain ⟨t_vMOST_PAYLOAD, i_vMOST_PAYLOAD⟩ := intB_ok (ci ("MOST_PAYLOAD", 30) (by simp))
  obtain ⟨t_vWINDOW, i_vWINDOW⟩ := intB_ok (ci ("WINDOW", 16) (by simp))
  obtain ⟨t_vSILENCE, i_vSILENCE⟩ := intB_ok (ci ("SILENCE", 4) (by simp))
  obtain ⟨t_hL0, i_hL0⟩ := intB_ok (ci ("MOST_NUMBER", 1000000000000) (by simp))
  obtain ⟨_, _, _, _, _, _, _, _, _, lx_Order___init__, cx_Order___init__, kx_Order___init__⟩ := fx c.d 0 (d := ⟨("Order", some "__init__"), "__init__", "Order.__init__", defArgs s_Order___init__, defBody s_Order___init__, defScope s_Order___init__, [], []⟩) rfl rfl
  obtain ⟨_, _, _, _, _, _, _, _, _, lx_Order_cast, cx_Order_cast, kx_Order_cast⟩ := fx c.d 1 (d := ⟨("Order", some "cast"), "cast", "Order.cast", defArgs s_Order_cast, defBody s_Order_cast, defScope s_Order_cast, [], []⟩) rfl rfl
  obtain ⟨_, _, _, _, _, _, _, _, _, lx_Order_log, cx_Order_log, kx_Order_log⟩ := fx c.d 2 (d := ⟨("Order", some "log"), "log", "Order.log", defArgs s_Order_log, defBody s_Order_log, defScope s_Order_log, [], []⟩) rfl rfl
  obtain ⟨_, _, _, _, _, _, _, _, _, lx_Order__decide, cx_Order__decide, kx_Order__decide⟩ := fx c.d 3 (d := ⟨("Order", some "_decide"), "_decide", "Order._decide", defArgs s_Order__decide, defBody s_Order__decide, defScope s_Order__decide, [], []⟩) rfl rfl
  obtain ⟨_, _, _, _, _, _, _, _, _, lx_Order__deliver, cx_Order__deliver, kx_Order__deliver⟩ := fx c.d 4 (d := ⟨("Order", some "_deliver"), "_deliver", "Order._deliver", defArgs s_Order__deliver, defBody s_Order__deliver, defScope s_Order__deliver, [], []⟩) rfl rfl
  obtain ⟨_, _, _, _, _, _, _, _, _, lx_Order__others, cx_Order__others, kx_Order__others⟩ := fx c.d 5 (d := ⟨("Order", some "_others"), "_others", "Order._others", defArgs s_Order__others, defBody s_Order__others, defScope s_Order__others, [], []⟩) rfl rfl
  obtain ⟨_, _, _, _, _, _, _, _, _, lx_Order__cast_letter, cx_Order__cast_letter, kx_Order__cast_letter⟩ := fx c.d 6 (d := ⟨("Order", some "_cast_letter"), "_cast_letter", "Order._cast_letter", defArgs s_Order__cast_letter, defBody s_Order__cast_letter, defScope s_Order__cast_letter, [], []⟩) rfl rfl
  obtain ⟨_, _, _, _, _, _, _, _, _, lx_Order__order_letter, cx_Order__order_letter, kx_Order__order_letter⟩ := fx c.d 7 (d := ⟨("Order", some "_order_letter"), "_order_letter", "Order._order_letter", defArgs s_Order__order_letter, defBody s_Order__order_letter, defScope s_Order__order_letter, [], []⟩) rfl rfl
  obtain ⟨_, _, _, _, _, _, _, _, _, lx_Watch___init__, cx_Watch___init__, kx_Watch___init__⟩ := fx c.d 8 (d := ⟨("Watch", some "__init__"), "__init__", "Watch.__init__", defArgs s_Watch___init__, defBody s_Watch___init__, defScope s_Watch___init__, [], []⟩) rfl rfl
  obtain ⟨_, _, _, _, _, _, _, _, _, lx_Member___init__, cx_Member___init__, kx_Member___init__⟩ := fx c.d 9 (d := ⟨("Member", some "__init__"), "__init__", "Member.__init__", defArgs s_Member___init__, defBody s_Member___init__, defScope s_Member___init__, [], []⟩) rfl rfl
  obtain ⟨_, _, _, _, _, _, _, _, _, lx_Member_member, cx_Member_member, kx_Member_member⟩ := fx c.d 10 (d := ⟨("Member", some "member"), "member", "Member.member", defArgs s_Member_member, defBody s_Member_member, defScope s_Member_member, [], []⟩) rfl rfl
  obtain ⟨_, _, _, _, _, _, _, _, _, lx_Member_view, cx_Member_view, kx_Member_view⟩ := fx c.d 11 (d := ⟨("Member", some "view"), "view", "Member.view", defArgs s_Member_view, defBody s_Member_view, defScope s_Member_view, [], []⟩) rfl rfl
  obtain ⟨_, _, _, _, _, _, _, _, _, lx_Member_frozen, cx_Member_frozen, kx_Member_frozen⟩ := fx c.d 12 (d := ⟨("Member", some "frozen"), "frozen", "Member.frozen", defArgs s_Member_frozen, defBody s_Member_frozen, defScope s_Member_frozen, [], []⟩) rfl rfl
  obtain ⟨_, _, _, _, _, _, _, _, _, lx_Member_log, cx_Member_log, kx_Member_log⟩ := fx c.d 13 (d := ⟨("Member", some "log"), "log", "Member.log", defArgs s_Member_log, defBody s_Member_log, defScope s_Member_log, [], []⟩) rfl rfl
  obtain ⟨_, _, _, _, _, _, _, _, _, lx_Member_waiting, cx_Member_waiting, kx_Member_waiting⟩ := fx c.d 14 (d := ⟨("Member", some "waiting"), "waiting", "Member.waiting", defArgs s_Member_waiting, defBody s_Member_waiting, defScope s_Member_waiting, [], []⟩) rfl rfl
  obtain ⟨_, _, _, _, _, _, _, _, _, lx_Member_events, cx_Member_events, kx_Member_events⟩ := fx c.d 15 (d := ⟨("Member", some "events"), "events", "Member.events", defArgs s_Member_events, defBody s_Member_events, defScope s_Member_events, [], []⟩) rfl rfl
  obtain ⟨_, _, _, _, _, _, _, _, _, lx_Member_cast, cx_Member_cast, kx_Member_cast⟩ := fx c.d 16 (d := ⟨("Member", some "cast"), "cast", "Member.cast", defArgs s_Member_cast, defBody s_Member_cast, defScope s_Member_cast, [], []⟩) rfl rfl
  obtain ⟨_, _, _, _, _, _, _, _, _, lx_Member_receive, cx_Member_receive, kx_Member_receive⟩ := fx c.d 17 (d := ⟨("Member", some "receive"), "receive", "Member.receive", defArgs s_Member_receive, defBody s_Member_receive, defScope s_Member_receive, [], []⟩) rfl rfl
  obtain ⟨_, _, _, _, _, _, _, _, _, lx_Member__enter, cx_Member__enter, kx_Member__enter⟩ := fx c.d 18 (d := ⟨("Member", some "_enter"), "_enter", "Member._enter", defArgs s_Member__enter, defBody s_Member__enter, defScope s_Member__enter, [], []⟩) rfl rfl
  obtain ⟨_, _, _, _, _, _, _, _, _, lx_Member__deliver, cx_Member__deliver, kx_Member__deliver⟩ := fx c.d 19 (d := ⟨("Member", some "_deliver"), "_deliver", "Member._deliver", defArgs s_Member__deliver, defBody s_Member__deliver, defScope s_Member__deliver, [], []⟩) rfl rfl
  obtain ⟨_, _, _, _, _, _, _, _, _, lx_Cells___init__, cx_Cells___init__, kx_Cells___init__⟩ := fx c.d 20 (d := ⟨("Cells", some "__init__"), "__init__", "Cells.__init__", defArgs s_Cells___init__, defBody s_Cells___init__, defScope s_Cells___init__, [], []⟩) rfl rfl
  obtain ⟨_, _, _, _, _, _, _, _, _, lx_Cells_read, cx_Cells_read, kx_Cells_read⟩ := fx c.d 21 (d := ⟨("Cells", some "read"), "read", "Cells.read", defArgs s_Cells_read, defBody s_Cells_read, defScope s_Cells_read, [], []⟩) rfl rfl
  obtain ⟨_, _, _, _, _, _, _, _, _, lx_Cells_write, cx_Cells_write, kx_Cells_write⟩ := fx c.d 22 (d := ⟨("Cells", some "write"), "write", "Cells.write", defArgs s_Cells_write, defBody s_Cells_write, defScope s_Cells_write, [], []⟩) rfl rfl
  obtain ⟨_, _, _, _, _, _, _, _, _, lx_Cells_arm, cx_Cells_arm, kx_Cells_arm⟩ := fx c.d 23 (d := ⟨("Cells", some "arm"), "arm", "Cells.arm", defArgs s_Cells_arm, defBody s_Cells_arm, defScope s_Cells_arm, [], []⟩) rfl rfl
  obtain ⟨_, _, _, _, _, _, _, _, _, lx_Cells_crash, cx_Cells_crash, kx_Cells_crash⟩ := fx c.d 24 (d := ⟨("Cells", some "crash"), "crash", "Cells.crash", defArgs s_Cells_crash, defBody s_Cells_crash, defScope s_Cells_crash, [], []⟩) rfl rfl
  obtain ⟨_, _, _, _, _, _, _, _, _, lx_Cells__check, cx_Cells__check, kx_Cells__check⟩ := fx c.d 25 (d := ⟨("Cells", some "_check"), "_check", "Cells._check", defArgs s_Cells__check, defBody s_Cells__check, defScope s_Cells__check, [], []⟩) rfl rfl
  obtain ⟨_, _, _, _, _, _, _, _, _, lx_is_printable, cx_is_printable, kx_is_printable⟩ := fx c.d 26 (d := ⟨("is_printable", none), "is_printable", "is_printable", defArgs s_is_printable, defBody s_is_printable, defScope s_is_printable, [], []⟩) rfl rfl
  obtain ⟨_, _, _, _, _, _, _, _, _, lx__is_printable_character, cx__is_printable_character, kx__is_printable_character⟩ := fx c.d 27 (d := ⟨("_is_printable_character", none), "_is_printable_character", "_is_printable_character", defArgs s__is_printable_character, defBody s__is_printable_character, defScope s__is_printable_character, [], []⟩) rfl rfl
  obtain ⟨_, _, _, _, _, _, _, _, _, lx_is_integer, cx_is_integer, kx_is_integer⟩ := fx c.d 28 (d := ⟨("is_integer", none), "is_integer", "is_integer", defArgs s_is_integer, defBody s_is_integer, defScope s_is_integer, [], []⟩) rfl rfl
  obtain ⟨_, _, _, _, _, _, _, _, _, lx_is_process, cx_is_process, kx_is_process⟩ := fx c.d 29 (d := ⟨("is_process", none), "is_process", "is_process", defArgs s_is_process, defBody s_is_process, defScope s_is_process, [], []⟩) rfl rfl
  obtain ⟨_, _, _, _, _, _, _, _, _, lx_is_member, cx_is_member, kx_is_member⟩ := fx c.d 30 (d := ⟨("is_member", none), "is_member", "is_member", defArgs s_is_member, defBody s_is_member, defScope s_is_member, [], []⟩) rfl rfl
  obtain ⟨_, _, _, _, _, _, _, _, _, lx_is_members, cx_is_members, kx_is_members⟩ := fx c.d 31 (d := ⟨("is_members", none), "is_members", "is_members", defArgs s_is_members, defBody s_is_members, defScope s_is_members, [], []⟩) rfl rfl
  obtain ⟨_, _, _, _, _, _, _, _, _, lx_is_view_id, cx_is_view_id, kx_is_view_id⟩ := fx c.d 32 (d := ⟨("is_view_id", none), "is_view_id", "is_view_id", defArgs s_is_view_id, defBody s_is_view_id, defScope s_is_view_id, [], []⟩) rfl rfl
  obtain ⟨_, _, _, _, _, _, _, _, _, lx_is_payload, cx_is_payload, kx_is_payload⟩ := fx c.d 33 (d := ⟨("is_payload", none), "is_payload", "is_payload", defArgs s_is_payload, defBody s_is_payload, defScope s_is_payload, [], []⟩) rfl rfl
  obtain ⟨_, _, _, _, _, _, _, _, _, lx_is_message, cx_is_message, kx_is_message⟩ := fx c.d 34 (d := ⟨("is_message", none), "is_message", "is_message", defArgs s_is_message, defBody s_is_message, defScope s_is_message, [], []⟩) rfl rfl
  obtain ⟨_, _, _, _, _, _, _, _, _, lx_is_log, cx_is_log, kx_is_log⟩ := fx c.d 35 (d := ⟨("is_log", none), "is_log", "is_log", defArgs s_is_log, defBody s_is_log, defScope s_is_log, [], []⟩) rfl rfl
  obtain ⟨_, _, _, _, _, _, _, _, _, lx_last_index, cx_last_index, kx_last_index⟩ := fx c.d 36 (d := ⟨("last_index", none), "last_index", "last_index", defArgs s_last_index, defBody s_last_index, defScope s_last_index, [], []⟩) rfl rfl
  obtain ⟨_, _, _, _, _, _, _, _, _, lx_is_pending, cx_is_pending, kx_is_pending⟩ := fx c.d 37 (d := ⟨("is_pending", none), "is_pending", "is_pending", defArgs s_is_pending, defBody s_is_pending, defScope s_is_pending, [], []⟩) rfl rfl
  obtain ⟨_, _, _, _, _, _, _, _, _, lx__is_pending_cast, cx__is_pending_cast, kx__is_pending_cast⟩ := fx c.d 38 (d := ⟨("_is_pending_cast", none), "_is_pending_cast", "_is_pending_cast", defArgs s__is_pending_cast, defBody s__is_pending_cast, defScope s__is_pending_cast, [], []⟩) rfl rfl
  obtain ⟨_, _, _, _, _, _, _, _, _, lx__is_here, cx__is_here, kx__is_here⟩ := fx c.d 39 (d := ⟨("_is_here", none), "_is_here", "_is_here", defArgs s__is_here, defBody s__is_here, defScope s__is_here, [], []⟩) rfl rfl
  obtain ⟨_, _, _, _, _, _, _, _, _, lx__is_cast, cx__is_cast, kx__is_cast⟩ := fx c.d 40 (d := ⟨("_is_cast", none), "_is_cast", "_is_cast", defArgs s__is_cast, defBody s__is_cast, defScope s__is_cast, [], []⟩) rfl rfl
  obtain ⟨_, _, _, _, _, _, _, _, _, lx__is_order, cx__is_order, kx__is_order⟩ := fx c.d 41 (d := ⟨("_is_order", none), "_is_order", "_is_order", defArgs s__is_order, defBody s__is_order, defScope s__is_order, [], []⟩) rfl rfl
  obtain ⟨_, _, _, _, _, _, _, _, _, lx__is_propose, cx__is_propose, kx__is_propose⟩ := fx c.d 42 (d := ⟨("_is_propose", none), "_is_propose", "_is_propose", defArgs s__is_propose, defBody s__is_propose, defScope s__is_propose, [], []⟩) rfl rfl
  obtain ⟨_, _, _, _, _, _, _, _, _, lx__is_state, cx__is_state, kx__is_state⟩ := fx c.d 43 (d := ⟨("_is_state", none), "_is_state", "_is_state", defArgs s__is_state, defBody s__is_state, defScope s__is_state, [], []⟩) rfl rfl
  obtain ⟨_, _, _, _, _, _, _, _, _, lx__is_install, cx__is_install, kx__is_install⟩ := fx c.d 44 (d := ⟨("_is_install", none), "_is_install", "_is_install", defArgs s__is_install, defBody s__is_install, defScope s__is_install, [], []⟩) rfl rfl
  obtain ⟨_, _, _, _, _, _, _, _, _, lx__is_higher, cx__is_higher, kx__is_higher⟩ := fx c.d 45 (d := ⟨("_is_higher", none), "_is_higher", "_is_higher", defArgs s__is_higher, defBody s__is_higher, defScope s__is_higher, [], []⟩) rfl rfl
  obtain ⟨_, _, _, _, _, _, _, _, _, lx__is_place, cx__is_place, kx__is_place⟩ := fx c.d 46 (d := ⟨("_is_place", none), "_is_place", "_is_place", defArgs s__is_place, defBody s__is_place, defScope s__is_place, [], []⟩) rfl rfl
  obtain ⟨_, _, _, _, _, _, _, _, _, lx__is_finals, cx__is_finals, kx__is_finals⟩ := fx c.d 47 (d := ⟨("_is_finals", none), "_is_finals", "_is_finals", defArgs s__is_finals, defBody s__is_finals, defScope s__is_finals, [], []⟩) rfl rfl
  obtain ⟨_, _, _, _, _, _, _, _, _, lx__is_final, cx__is_final, kx__is_final⟩ := fx c.d 48 (d := ⟨("_is_final", none), "_is_final", "_is_final", defArgs s__is_final, defBody s__is_final, defScope s__is_final, [], []⟩) rfl rfl
  obtain ⟨_, _, _, _, _, _, _, _, _, lx_is_letter, cx_is_letter, kx_is_letter⟩ := fx c.d 49 (d := ⟨("is_letter", none), "is_letter", "is_letter", defArgs s_is_letter, defBody s_is_letter, defScope s_is_letter, [], []⟩) rfl rfl
  obtain ⟨_, _, _, _, _, _, _, _, _, lx_check_letter, cx_check_letter, kx_check_letter⟩ := fx c.d 50 (d := ⟨("check_letter", none), "check_letter", "check_letter", defArgs s_check_letter, defBody s_check_letter, defScope s_check_letter, [], []⟩) rfl rfl
  obtain ⟨_, _, _, _, _, _, _, _, _, lx_life_text, cx_life_text, kx_life_text⟩ := fx c.d 51 (d := ⟨("life_text", none), "life_text", "life_text", defArgs s_life_text, defBody s_life_text, defScope s_life_text, [], []⟩) rfl rfl
  obtain ⟨_, _, _, _, _, _, _, _, _, lx_life_of, cx_life_of, kx_life_of⟩ := fx c.d 52 (d := ⟨("life_of", none), "life_of", "life_of", defArgs s_life_of, defBody s_life_of, defScope s_life_of, [], []⟩) rfl rfl
  obtain ⟨_, _, _, _, _, _, _, _, _, lx__are_digits, cx__are_digits, kx__are_digits⟩ := fx c.d 53 (d := ⟨("_are_digits", none), "_are_digits", "_are_digits", defArgs s__are_digits, defBody s__are_digits, defScope s__are_digits, [], []⟩) rfl rfl
  obtain ⟨_, _, _, _, _, _, _, _, _, lx_next_life, cx_next_life, kx_next_life⟩ := fx c.d 54 (d := ⟨("next_life", none), "next_life", "next_life", defArgs s_next_life, defBody s_next_life, defScope s_next_life, [], []⟩) rfl rfl
  obtain ⟨_, _, _, _, _, _, _, _, _, lx__law_cell, cx__law_cell, kx__law_cell⟩ := fx c.d 55 (d := ⟨("_law_cell", none), "_law_cell", "_law_cell", defArgs s__law_cell, defBody s__law_cell, defScope s__law_cell, [], []⟩) rfl rfl
  obtain ⟨_, _, _, _, _, _, _, _, _, lx__law_made, cx__law_made, kx__law_made⟩ := fx c.d 56 (d := ⟨("_law_made", none), "_law_made", "_law_made", defArgs s__law_made, defBody s__law_made, defScope s__law_made, [], []⟩) rfl rfl
  obtain ⟨_, _, _, _, _, _, _, _, _, lx__law_cast, cx__law_cast, kx__law_cast⟩ := fx c.d 57 (d := ⟨("_law_cast", none), "_law_cast", "_law_cast", defArgs s__law_cast, defBody s__law_cast, defScope s__law_cast, [], []⟩) rfl rfl
  obtain ⟨_, _, _, _, _, _, _, _, _, lx__law_good, cx__law_good, kx__law_good⟩ := fx c.d 58 (d := ⟨("_law_good", none), "_law_good", "_law_good", defArgs s__law_good, defBody s__law_good, defScope s__law_good, [], []⟩) rfl rfl
  obtain ⟨_, _, _, _, _, _, _, _, _, lx_law, cx_law, kx_law⟩ := fx c.d 59 (d := ⟨("law", none), "law", "law", defArgs s_law, defBody s_law, defScope s_law, [], []⟩) rfl rfl
  obtain ⟨es__CHECKS, nE__CHECKS, KD__CHECKS⟩ := c.tab 0 (t := ((fun K => He.ga K "_CHECKS"), sevens)) rfl
  have lD__CHECKS := KD__CHECKS.at_
  have kD__CHECKS := KD__CHECKS.lit
  have zD__CHECKS := KD__CHECKS.low
  have tb__CHECKS : He.dicW K (He.ga K "_CHECKS") = some (He.keysIn w.params sevens) := by
    have e : hTs.map (fun t => He.dicW K (t.1 K)) = hTs.map fun t => some (He.keysIn w.params t.2) := congrArg (fun z : He.AlT => z.2) c
    have e2 : (hTs.map fun t => He.dicW K (t.1 K))[0]? = (hTs.map fun t => some (He.keysIn w.params t.2))[0]? := by rw [e]
    exact Option.some.inj e2
  have kt := kt_of tb__CHECKS lD__CHECKS zD__CHECKS
  exact all_mk X G hfa ⟨_, PySem.W.mg_of X G i_hL0⟩ aC_Order aC_Cells aC_Watch aC_Member aC_BadLetter aC_BadView aC_BadMember aC_BadPayload aC_DiskCrashed aC_DiskError pg_Order hd_Order po_Order sa_Order mk_Order kc_Order n_Order__me n_Order__view_id n_Order__members n_Order__founder n_Order__log n_Order__last_indexes n_Order__casts n_Order__pending n_Order__kept n_Order__told pg_Cells hd_Cells po_Cells sa_Cells mk_Cells kc_Cells n_Cells__texts n_Cells__has_crashed n_Cells__passing n_Cells__keep pg_Watch hd_Watch po_Watch sa_Watch mk_Watch kc_Watch n_Watch__me n_Watch__lives n_Watch__ages pg_Member hd_Member po_Member sa_Member mk_Member kc_Member n_Member__me n_Member__count n_Member__watch n_Member__promised n_Member__greatest_number n_Member__attempt n_Member__waiting n_Member__events n_Member__view_id n_Member__members n_Member__order n_Member__led_by n_Member__seen n_Member__has_strayed n_Member__frozen ax_Order___init__ ix_Order___init__ lx_Order___init__ cx_Order___init__ kx_Order___init__ ax_Order_cast ix_Order_cast lx_Order_cast cx_Order_cast kx_Order_cast ax_Order_log ix_Order_log lx_Order_log cx_Order_log kx_Order_log ax_Order__decide ix_Order__decide lx_Order__decide cx_Order__decide kx_Order__decide ax_Order__deliver ix_Order__deliver lx_Order__deliver cx_Order__deliver kx_Order__deliver ax_Order__others ix_Order__others lx_Order__others cx_Order__others kx_Order__others ax_Order__cast_letter ix_Order__cast_letter lx_Order__cast_letter cx_Order__cast_letter kx_Order__cast_letter ax_Order__order_letter ix_Order__order_letter lx_Order__order_letter cx_Order__order_letter kx_Order__order_letter ax_Watch___init__ ix_Watch___init__ lx_Watch___init__ cx_Watch___init__ kx_Watch___init__ ax_Member___init__ ix_Member___init__ lx_Member___init__ cx_Member___init__ kx_Member___init__ ax_Member_member ix_Member_member lx_Member_member cx_Member_member kx_Member_member ax_Member_view ix_Member_view lx_Member_view cx_Member_view kx_Member_view ax_Member_frozen ix_Member_frozen lx_Member_frozen cx_Member_frozen kx_Member_frozen ax_Member_log ix_Member_log lx_Member_log cx_Member_log kx_Member_log ax_Member_waiting ix_Member_waiting lx_Member_waiting cx_Member_waiting kx_Member_waiting ax_Member_events ix_Member_events lx_Member_events cx_Member_events kx_Member_events ax_Member_cast ix_Member_cast lx_Member_cast cx_Member_cast kx_Member_cast ax_Member_receive ix_Member_receive lx_Member_receive cx_Member_receive kx_Member_receive ax_Member__enter ix_Member__enter lx_Member__enter cx_Member__enter kx_Member__enter ax_Member__deliver ix_Member__deliver lx_Member__deliver cx_Member__deliver kx_Member__deliver ax_Cells___init__ ix_Cells___init__ lx_Cells___init__ cx_Cells___init__ kx_Cells___init__ ax_Cells_read ix_Cells_read lx_Cells_read cx_Cells_read kx_Cells_read ax_Cells_write ix_Cells_write lx_Cells_write cx_Cells_write kx_Cells_write ax_Cells_arm ix_Cells_arm lx_Cells_arm cx_Cells_arm kx_Cells_arm ax_Cells_crash ix_Cells_crash lx_Cells_crash cx_Cells_crash kx_Cells_crash ax_Cells__check ix_Cells__check lx_Cells__check cx_Cells__check kx_Cells__check x_BadLetter k_BadLetter b_BadLetter t_BadLetter x_BadView k_BadView b_BadView t_BadView x_BadMember k_BadMember b_BadMember t_BadMember x_BadPayload k_BadPayload b_BadPayload t_BadPayload x_DiskCrashed k_DiskCrashed b_DiskCrashed t_DiskCrashed x_DiskError k_DiskError b_DiskError t_DiskError aD__CHECKS lD__CHECKS kD__CHECKS zD__CHECKS e0__CHECKS e1__CHECKS e2__CHECKS e3__CHECKS e4__CHECKS e5__CHECKS e6__CHECKS aC_MusterError kt m_LM u_LL eg ek es_ ed ea en et em m_VV m_LL m_BB m_PP m_CB m_CC m_EC m_EE ax_is_printable lx_is_printable cx_is_printable kx_is_printable ax__is_printable_character lx__is_printable_character cx__is_printable_character kx__is_printable_character ax_is_integer lx_is_integer cx_is_integer kx_is_integer ax_is_process lx_is_process cx_is_process kx_is_process ax_is_member lx_is_member cx_is_member kx_is_member ax_is_members lx_is_members cx_is_members kx_is_members ax_is_view_id lx_is_view_id cx_is_view_id kx_is_view_id ax_is_payload lx_is_payload cx_is_payload kx_is_payload ax_is_message lx_is_message cx_is_message kx_is_message ax_is_log lx_is_log cx_is_log kx_is_log ax_last_index lx_last_index cx_last_index kx_last_index ax_is_pending lx_is_pending cx_is_pending kx_is_pending ax__is_pending_cast lx__is_pending_cast cx__is_pending_cast kx__is_pending_cast ax__is_here lx__is_here cx__is_here kx__is_here ax__is_cast lx__is_cast cx__is_cast kx__is_cast ax__is_order lx__is_order cx__is_order kx__is_order ax__is_propose lx__is_propose cx__is_propose kx__is_propose ax__is_state lx__is_state cx__is_state kx__is_state ax__is_install lx__is_install cx__is_install kx__is_install ax__is_higher lx__is_higher cx__is_higher kx__is_higher ax__is_place lx__is_place cx__is_place kx__is_place ax__is_finals lx__is_finals cx__is_finals kx__is_finals ax__is_final lx__is_final cx__is_final kx__is_final ax_is_letter lx_is_letter cx_is_letter kx_is_letter ax_check_letter lx_check_letter cx_check_letter kx_check_letter ax_life_text lx_life_text cx_life_text kx_life_text ax_life_of lx_life_of cx_life_of kx_life_of ax__are_digits lx__are_digits cx__are_digits kx__are_digits ax_next_life lx_next_life cx_next_life kx_next_life ax__law_cell lx__law_cell cx__law_cell kx__law_cell ax__law_made lx__law_made cx__law_made kx__law_made ax__law_cast lx__law_cast cx__law_cast kx__law_cast ax__law_good lx__law_good cx__law_good kx__law_good ax_law lx_law cx_law kx_law i_v_REFUSED_CODE i_vMOST_PROCESSES i_vMOST_PAYLOAD i_vWINDOW i_vSILENCE zlen zisinstance zint zbool zstr ztuple zlist zrange zmin zmax zabs zsorted zord zenumerate
end Mus
open PySem PySem.W PySem.Calls PyProof.Rows
set_option maxHeartbeats 0 in
theorem PySem.Challenge.cw_mustercall_k41_members_that_are_none_holds : PySem.Challenge.rw_mustercall_k41_members_that_are_none.Holds := by
  w_on; o_law
  refine HandSHeadRun.head_any (r := OpenLaw.row PySem.Challenge.rw_mustercall_k41_members_that_are_none) (q := view (OpenLaw.row PySem.Challenge.rw_mustercall_k41_members_that_are_none).prog [65]) (H := Mus.hk) (ob := Mus.hob) (M := 8000) (loose := Mus.hNm) (d := HandSHeadRun.topDef (OpenLaw.row PySem.Challenge.rw_mustercall_k41_members_that_are_none).prog 65) (kwd := []) Mus.hob_eq
    (by kernel_rfl) (fun s => by kernel_rfl) Mus.hrun (by kernel_rfl) (by kernel_rfl) (by kernel_rfl) (by rfl) (by first | assumption | decide +kernel) (by decide +kernel) ⟨rfl, rfl, rfl, rfl, rfl, by decide +kernel⟩ ?hw ?hc
  case hw => w_witness2
  case hc =>
    refine L2.walk_ofE (l := PySem.Challenge.rw_mustercall_k41_members_that_are_none) (n := 63) (k := 13) (x := "script") (CX := L2.CX0) rfl (by decide) (by kernel_rfl) ⟨rfl, by decide, by decide⟩ ?F (fun _ _ _ _ z => z)
    intro w mg fa h Y G hmg0
    obtain ⟨K, KX, c, cm⟩ := Y
    have hmg : mg ("law" : PySem.Str) = some (.ref fa) := by
      have e : (HandSHeadRun.topDef (OpenLaw.row PySem.Challenge.rw_mustercall_k41_members_that_are_none).prog 65).name = ("law" : PySem.Str) := by kernel_rfl
      rw [← e]
      exact hmg0
    obtain ⟨fd, hb, hF⟩ := Mus.hfacts (l := PySem.Challenge.rw_mustercall_k41_members_that_are_none) (w := w) KX G hmg c cm
    exact ⟨K, fd, Mus.sp_law K, KX, hb, fun H a ns hl _ hS => ⟨a, ns, rfl, hS, hl, fun _ => rfl⟩, hF⟩

