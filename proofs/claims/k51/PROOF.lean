import PyProof.Rows.All
import Wide.All
import OpenK.AllK
import Wide.FinOn
import HandS.Base
import HandS.Call
import HandS.List
import HandS.Comp
import HandS.Ends
import HandS.Iter
import HandS.Text
import HandS.Words
import HandS.WordsList
import HandS.Wide
import HandS.IsInst
import HandS.TupAny
import HandS.Dict
import HandS.WordsDict
import HandS.Conv
import HandS.More
import HandS.Codes
import HandS.SortRule
import HandS.Walk
import HandS.Exc
import HandS.ExcOwn
import HandS.TryOnly
import HandS.WordsExc
import HandS.ExcInit
import HandS.ExcField
import HandS.TryMany
import HandS.ExcIs
import KE.SortData
import KE.SortUse
import HandS.SortOrd
import KE.KeyNested
import KE.KDictKeyed
import HandS.Deep
import KE.DataCmp
import HandS.AnyAll
import PyProof.WalksMore
import HandS.TupLe
import HandS.EndTab
import HandS.HeadWalk
import KE.KNestM
import HandS.Defaults
import HandS.Head0
import HandS.Head1
import HandS.Head2
import HandS.HeadEnd
import HandS.HeadHook1
import HandS.HeadHook2
import HandS.HeadHook3
import HandS.HeadHook4
import PySem.Challenge.RW_mustercall_k51_parted_networks
set_option Elab.async false
set_option linter.all false
set_option maxRecDepth 100000
set_option maxHeartbeats 4000000
/-! What my proofs share: a def with its promise as one thing, small rules, heaps. -/
namespace Mus
open PySem L2
/-- a def of the text that keeps a promise, and all that a call of it asks -/
structure DefOk (P : Program) (w : World) (K : PySem.W.Frag) (mg : Str → Option Value) (base : Heap) (CX : CXT) (x : Str) (ps : List Str) (k : Nat) (sp : Sp) where
  f : Addr
  fd : FuncData
  G : FnOk P w K mg base CX k f fd ps sp
  m : mg x = some (.ref f)
  kp : PySem.W.keepIn K (.ref f) = true
  b : Binds K fd ps []
def DefOk.mono {P : Program} {w : World} {K : PySem.W.Frag} {mg : Str → Option Value} {base : Heap} {CX : CXT} {x : Str} {ps : List Str} {j k : Nat} {sp : Sp} (c : DefOk P w K mg base CX x ps j sp) (h : j ≤ k) : DefOk P w K mg base CX x ps k sp :=
  ⟨c.f, c.fd, c.G.mono h, c.m, c.kp, c.b⟩
/-- a def of the text as the top left it: no promise yet -/
structure DefAt (K : PySem.W.Frag) (mg : Str → Option Value) (x : Str) (ps : List Str) (st : Stmt) where
  f : Addr
  fd : FuncData
  F : Fun K x x st f fd
  m : mg x = some (.ref f)
  b : Binds K fd ps []
def DefAt.ok {P : Program} {w : World} {K : PySem.W.Frag} {mg : Str → Option Value} {base : Heap} {CX : CXT} {x : Str} {ps : List Str} {st : Stmt} {k : Nat} {sp : Sp} (d : DefAt K mg x ps st) (h : ∀ {f : Addr} {fd : FuncData}, Fun K x x st f fd → FnOk P w K mg base CX k f fd ps sp) : DefOk P w K mg base CX x ps k sp :=
  ⟨d.f, d.fd, h d.F, d.m, d.F.kp, d.b⟩
section
variable {X : Cx}
theorem pcall {x : Str} {ps : List Str} {j k : Nat} {sp : Sp} {e : Expr} {es : List Expr} {t : TA} {p pos : Pos} (c : DefOk X.prog X.w X.K X.mg X.base CX0 x ps j sp) (hr : Room k X.A) (ha : PA X (e :: es) t) (hj : j ≤ k := by first | decide | omega) (hg : Gl X x := by rfl)
    (db0 : (x == ("__debug__" : Str)) = false := by decide) (st0 : starEach (e :: es) X.env = (false, eval e X.env) :: starEach es X.env := by rfl) (pl0 : (backTo pos (starEach es X.env)).any (·.1) = false := by rfl) :
    PE X (.Call (.Name x p) (e :: es) [] pos) (tCall sp [] E0 t) := pe_call c.G (hr.mono hj) hg c.m c.kp c.b .nil pass0 ha db0 st0 pl0
/-- a text n times -/
theorem op_mul_str : OpR X (binaryOp .Mult) (fun x y H Q => ∃ (z : Str) (n : Int), x = .str z ∧ y = .int n ∧ 2 ≤ n ∧ n ≤ 1000 ∧ 1 ≤ z.length ∧ z.length ≤ 1000 ∧ ∀ r : Str, TL.tl r = (List.replicate n.toNat (TL.tl z)).flatten → Q (.str r) H) := by
  intro pins s σ H x y v u Q I rx ry h
  obtain ⟨z, n, rfl, rfl, h2, h3, h4, h5, q⟩ := h
  obtain ⟨t, rfl⟩ := rx
  obtain ⟨t', rfl⟩ := ry
  have n1 : ¬ n < 1 := by omega
  have n2 : ¬ (n == 1 || z.length == 0) = true := by
    rw [Bool.or_eq_true, beq_iff_eq, beq_iff_eq]; omega
  have hr : (decide (n < -(2 ^ 63 : Int)) || decide (n ≥ 2 ^ 63)) = false := by
    rw [decide_eq_false (by omega), decide_eq_false (by omega)]; rfl
  have hm : z.length * n.toNat ≤ 1000 * 1000 := Nat.mul_le_mul h5 (by omega)
  have hl : Builtin.Str.tooLong (z.length * n.toNat) = false := by
    unfold Builtin.Str.tooLong
    have e : sizeLine = 16777216 := sizeLine_eq
    rw [decide_eq_false (by omega)]
  have hb : ¬ ((z.length : Int) > (2 ^ 63 - 1) / n) := by
    have : (1000 : Int) ≤ (2 ^ 63 - 1) / n := by
      rw [Int.le_ediv_iff_mul_le (by omega)]
      omega
    omega
  refine PySem.P.mul_str hr (fun _ _ => hb) (fun _ _ => hl) ?_
  rw [if_neg n1, if_neg n2]
  have hf : ∀ (k : Nat) (acc : Array Nat), ((List.replicate k z.cps).foldl (· ++ ·) acc).toList = acc.toList ++ (List.replicate k z.cps.toList).flatten := by
    intro k
    induction k with
    | zero => intro acc; simp
    | succ k ih =>
      intro acc
      rw [List.replicate_succ, List.foldl_cons, ih, List.replicate_succ, List.flatten_cons, Array.toList_append, List.append_assoc]
  have hr : TL.tl (⟨(List.replicate n.toNat z.cps).foldl (· ++ ·) #[]⟩ : Str) = (List.replicate n.toNat (TL.tl z)).flatten := by
    show ((List.replicate n.toNat z.cps).foldl (· ++ ·) #[]).toList = _
    rw [hf]; rfl
  have hlen : (⟨(List.replicate n.toNat z.cps).foldl (· ++ ·) #[]⟩ : Str).length ≤ sizeLine := by
    rw [TL.len_tl, hr]
    have e : sizeLine = 16777216 := sizeLine_eq
    have z2 : ((List.replicate n.toNat (TL.tl z)).flatten).length = z.length * n.toNat := by
      rw [TL.len_tl]
      generalize n.toNat = k
      induction k with
      | zero => rfl
      | succ k ih => rw [List.replicate_succ, List.flatten_cons, List.length_append, ih, Nat.mul_succ, Nat.add_comm]
    omega
  exact ⟨hlen, .str _, H, I.tok _, ⟨_, rfl⟩, q _ hr⟩
/-- for c in a text -/
theorem for_str {z : Str} {g : TG} {tb : TS} {D : Ends} {σ : St} {H : Hp} (Pv : Nat → St → Hp → Prop) (h0 : Pv 0 σ H)
    (hs : ∀ i c σ H, (TL.tl z)[i]? = some c → Pv i σ H → g (.str ⟨#[c]⟩) σ H fun σ2 H2 => tb { D with nx := Pv (i + 1), ct := Pv (i + 1), bk := D.nx } σ2 H2) (hd : ∀ σ H, Pv (TL.tl z).length σ H → D.nx σ H) :
    ∃ W : Nat → Nat → St → Hp → Prop, (∃ m, W 0 m σ H) ∧ ∀ i m σ H, W i m σ H →
      ((Its z).stop i H ∧ D.nx σ H) ∨ ((Its z).go i H ∧ ∃ N : St → Hp → Prop, (∀ σ' H', N σ' H' → ∃ m', m' < m ∧ W (i + 1) m' σ' H') ∧ ∀ x H', (Its z).yld i H x H' → g x σ H' fun σ2 H2 => tb { D with nx := N, ct := N, bk := D.nx } σ2 H2) := by
  have hl : (TL.tl z).length = z.cps.size := Array.length_toList
  refine ⟨fun i m σ H => m = (TL.tl z).length - i ∧ i ≤ (TL.tl z).length ∧ Pv i σ H, ⟨(TL.tl z).length, rfl, Nat.zero_le _, h0⟩, ?_⟩
  rintro i m σ H ⟨rfl, le1, pv1⟩
  by_cases lt1 : i < (TL.tl z).length
  · refine .inr ⟨(by show i < z.cps.size; omega), Pv (i + 1), fun σ' H' p' => ⟨(TL.tl z).length - (i + 1), by omega, rfl, lt1, p'⟩, fun x H' y => ?_⟩
    obtain ⟨e, c, hc, ex⟩ := y
    subst e
    subst ex
    exact hs i c σ H' (by rw [Array.getElem?_toList]; exact hc) pv1
  · have e : i = (TL.tl z).length := by omega
    subst e
    exact .inl ⟨(by show z.cps.size ≤ _; omega), hd σ H pv1⟩
end
/-! ### heaps -/
/-- all but what stands at p is as it was -/
def But (p : Addr) (H H' : Hp) : Prop := ∀ b o, H b = some o → b ≠ p → H' b = some o
theorem But.refl (p : Addr) (H : Hp) : But p H H := fun _ _ h _ => h
theorem But.trans {p : Addr} {H H1 H2 : Hp} (a : But p H H1) (b : But p H1 H2) : But p H H2 := fun c o h n => b c o (a c o h n) n
theorem But.of {p : Addr} {H H' : Hp} (a : Same H H') : But p H H' := fun c o h _ => a c o h
theorem same_new {H : Hp} {p : Addr} (h : H p = none) (o : HO) : Same H (upd H p o) := fun b u q => by rw [upd_ne (ne_of_none q h)]; exact q
theorem but_upd {H : Hp} {p : Addr} (o : HO) : But p H (upd H p o) := fun b u q n => by rw [upd_ne n]; exact q
theorem same_seqT {K : PySem.W.Frag} {H H' : Hp} {a : Addr} {xs : List V} (e : Same H H') (h : SqT K H a xs) : SqT K H' a xs := by
  rcases h with (h | ⟨o, h⟩) | h
  · exact .inl (.inl (e _ _ h))
  · exact .inl (.inr ⟨o, e _ _ h⟩)
  · exact .inr h
/-- tuples stay where only a list may change -/
theorem But.seqT {K : PySem.W.Frag} {H H' : Hp} {p a : Addr} {xs ys : List V} (e : But p H H') (hp : H p = some (.lst ys)) (h : SqT K H a xs) : SqT K H' a xs := by
  rcases h with (h | ⟨o, h⟩) | h
  · exact .inl (.inl (e _ _ h (ne_of h hp (by intro z; cases z))))
  · exact .inl (.inr ⟨o, e _ _ h (ne_of h hp (by intro z; cases z))⟩)
  · exact .inr h
theorem But.seqL {K : PySem.W.Frag} {H H' : Hp} {p a : Addr} {xs : List V} (e : But p H H') (hp : a ≠ p) (h : SqL K H a xs) : SqL K H' a xs := by
  rcases h with (h | ⟨o, h⟩) | h
  · exact .inl (.inl (e _ _ h hp))
  · exact .inl (.inr ⟨o, e _ _ h hp⟩)
  · exact .inr h
end Mus

set_option maxRecDepth 100000
set_option maxHeartbeats 4000000
/-! Plain data of any kind in the heap, beside one list (the bag, at p) that changes. -/
namespace Mus
open PySem L2
theorem sl : sizeLine = 16777216 := sizeLine_eq
theorem dT {p : Prop} [Decidable p] {A B : Prop} (h : p) (a : A) : if decide p = true then A else B := by
  rw [decide_eq_true h]; exact iteT a
theorem dF {p : Prop} [Decidable p] {A B : Prop} (h : ¬ p) (b : B) : if decide p = true then A else B := by
  rw [decide_eq_false h]; exact iteF b
theorem nT {p : Prop} [Decidable p] {A B : Prop} (h : ¬ p) (a : A) : if (!decide p) = true then A else B := by
  rw [decide_eq_false h]; exact iteT a
theorem nF {p : Prop} [Decidable p] {A B : Prop} (h : p) (b : B) : if (!decide p) = true then A else B := by
  rw [decide_eq_true h]; exact iteF b
theorem at_int {α : Type} {xs : List α} {i : Int} {v : α} (h0 : 0 ≤ i) (h : xs[i.toNat]? = some v) : atI xs i = some v := by
  have e : i = ((i.toNat : Nat) : Int) := by omega
  rw [e]
  exact atI_nat h
theorem pe_const {X : Cx} {x : Str} {i : Int} {pos : Pos} (hm : ∃ t, X.mg x = some (.int i t)) (hg : Gl X x := by rfl) (hd : (x == ("__debug__" : Str)) = false := by decide) : PE X (.Name x pos) (tC (.int i)) := by
  obtain ⟨t, h⟩ := hm
  exact pe_glob hg h ⟨t, rfl⟩ hd
theorem pe_ty {X : Cx} {x : Str} {pos : Pos} (n : String) (hm : X.mg x = none) (hv : bootBuiltins x = some (.type n) := by decide +kernel) (hg : Gl X x := by rfl) (hn : x ≠ "__name__" := by decide) (hd : (x == ("__debug__" : Str)) = false := by decide) : PE X (.Name x pos) (tC (.ty n)) := pe_bltn hg hm hv rfl hn hd
theorem pe_cls {X : Cx} {x : Str} {C : Addr} {pos : Pos} (hm : X.mg x = some (.ref C)) (hg : Gl X x := by rfl) (hd : (x == ("__debug__" : Str)) = false := by decide) : PE X (.Name x pos) (tC (.ref C)) := pe_glob (v := .ref C) hg hm rfl hd
mutual
/-- the value v stands for the data d, all of it tracked and none of it at p -/
inductive Rp (p : Addr) (H : Hp) : V → PyData → Prop
  | non : Rp p H .non .none
  | bl (b : Bool) : Rp p H (.bl b) (.bool b)
  | int (i : Int) : Rp p H (.int i) (.int i)
  | str (x : Str) : Rp p H (.str x) (.str x)
  | lst {a : Addr} {xs : List V} {ds : List PyData} : H a = some (.lst xs) → a ≠ p → Rps p H xs ds → Rp p H (.ref a) (.list ds)
  | tup {a : Addr} {xs : List V} {ds : List PyData} : H a = some (.tup xs) → a ≠ p → xs.length ≤ 100000 → Rps p H xs ds → Rp p H (.ref a) (.tuple ds)
inductive Rps (p : Addr) (H : Hp) : List V → List PyData → Prop
  | nil : Rps p H [] []
  | cons {v : V} {vs : List V} {d : PyData} {ds : List PyData} : Rp p H v d → Rps p H vs ds → Rps p H (v :: vs) (d :: ds)
end
mutual
theorem Rp.mono {p : Addr} {H H' : Hp} (k : But p H H') : ∀ {v : V} {d : PyData}, Rp p H v d → Rp p H' v d
  | _, _, .non => .non
  | _, _, .bl b => .bl b
  | _, _, .int i => .int i
  | _, _, .str x => .str x
  | _, _, .lst h n r => .lst (k _ _ h n) n (Rps.mono k r)
  | _, _, .tup h n l r => .tup (k _ _ h n) n l (Rps.mono k r)
theorem Rps.mono {p : Addr} {H H' : Hp} (k : But p H H') : ∀ {vs : List V} {ds : List PyData}, Rps p H vs ds → Rps p H' vs ds
  | _, _, .nil => .nil
  | _, _, .cons a b => .cons (Rp.mono k a) (Rps.mono k b)
end
mutual
theorem Rp.dp {p : Addr} {K : PySem.W.Frag} {H : Hp} : ∀ {v : V} {d : PyData}, Rp p H v d → Dp K H v d
  | _, _, .non => .non
  | _, _, .bl b => .bl b
  | _, _, .int i => .int i
  | _, _, .str x => .str x
  | _, _, .lst h n r => .lst (SqL.of h) (Rps.dp r)
  | _, _, .tup h n _ r => .tup (SqT.of h) (Rps.dp r)
theorem Rps.dp {p : Addr} {K : PySem.W.Frag} {H : Hp} : ∀ {vs : List V} {ds : List PyData}, Rps p H vs ds → DpAll K H vs ds
  | _, _, .nil => .nil
  | _, _, .cons a b => .cons (Rp.dp a) (Rps.dp b)
end
theorem Rp.same {p : Addr} {H H' : Hp} {v : V} {d : PyData} (k : Same H H') (h : Rp p H v d) : Rp p H' v d := h.mono (But.of k)
theorem Rps.same {p : Addr} {H H' : Hp} {vs : List V} {ds : List PyData} (k : Same H H') (h : Rps p H vs ds) : Rps p H' vs ds := h.mono (But.of k)
theorem Rps.length {p : Addr} {H : Hp} : ∀ {vs : List V} {ds : List PyData}, Rps p H vs ds → vs.length = ds.length
  | _, _, .nil => rfl
  | _, _, .cons _ r => by rw [List.length_cons, List.length_cons, Rps.length r]
theorem Rps.at {p : Addr} {H : Hp} : ∀ {vs : List V} {ds : List PyData} {i : Nat} {v : V}, Rps p H vs ds → vs[i]? = some v → ∃ d, ds[i]? = some d ∧ Rp p H v d
  | _, _, i, v, .nil, h => by simp at h
  | _, _, 0, v, .cons a _, h => by cases h; exact ⟨_, rfl, a⟩
  | _, _, i + 1, v, .cons _ r, h => Rps.at (i := i) r (by simpa using h)
theorem Rps.get {p : Addr} {H : Hp} : ∀ {vs : List V} {ds : List PyData} {i : Nat} {d : PyData}, Rps p H vs ds → ds[i]? = some d → ∃ v, vs[i]? = some v ∧ Rp p H v d
  | _, _, i, v, .nil, h => by simp at h
  | _, _, 0, v, .cons a _, h => by cases h; exact ⟨_, rfl, a⟩
  | _, _, i + 1, v, .cons _ r, h => Rps.get (i := i) r (by simpa using h)
theorem Rps.append {p : Addr} {H : Hp} : ∀ {vs ws : List V} {ds es : List PyData}, Rps p H vs ds → Rps p H ws es → Rps p H (vs ++ ws) (ds ++ es)
  | _, _, _, _, .nil, r => r
  | _, _, _, _, .cons a q, r => .cons a (Rps.append q r)
theorem Rps.take {p : Addr} {H : Hp} : ∀ {vs : List V} {ds : List PyData} (n : Nat), Rps p H vs ds → Rps p H (vs.take n) (ds.take n)
  | _, _, 0, _ => .nil
  | _, _, n + 1, .nil => .nil
  | _, _, n + 1, .cons a q => .cons a (Rps.take n q)
theorem Rps.drop {p : Addr} {H : Hp} : ∀ {vs : List V} {ds : List PyData} (n : Nat), Rps p H vs ds → Rps p H (vs.drop n) (ds.drop n)
  | _, _, 0, r => r
  | _, _, n + 1, .nil => .nil
  | _, _, n + 1, .cons a q => Rps.drop n q
/-! ### classes of data -/
def tyD : PyData → Value
  | .none => .type "NoneType" | .bool _ => .type "bool" | .int _ => .type "int" | .str _ => .type "str" | .list _ => .type "list" | .tuple _ => .type "tuple" | .dict _ => .type "dict"
theorem Rp.ty {p : Addr} {K : PySem.W.Frag} {H : Hp} {v : V} {d : PyData} (h : Rp p H v d) : TyX K H v (tyD d) := by
  cases h with
  | non => exact .base .non
  | bl b => exact .base (.bl b)
  | int i => exact .base (.int i)
  | str x => exact .base (.str x)
  | lst h _ _ => exact .base (.lst h)
  | tup h _ _ _ => exact .base (.tup h)
def dInt : PyData → Bool
  | .int _ => true | .bool _ => true | _ => false
def dBool : PyData → Bool
  | .bool _ => true | _ => false
def dStr : PyData → Bool
  | .str _ => true | _ => false
def dTup : PyData → Bool
  | .tuple _ => true | _ => false
theorem kit_int {K : PySem.W.Frag} : ∀ d : PyData, PySem.W.kitOne K (tyD d) (.type "int") = some (dInt d)
  | .none => kit_ty (r := false) (by decide +kernel)
  | .bool _ => kit_ty (r := true) (by decide +kernel)
  | .int _ => kit_ty (r := true) (by decide +kernel)
  | .str _ => kit_ty (r := false) (by decide +kernel)
  | .list _ => kit_ty (r := false) (by decide +kernel)
  | .tuple _ => kit_ty (r := false) (by decide +kernel)
  | .dict _ => kit_ty (r := false) (by decide +kernel)
theorem kit_bool {K : PySem.W.Frag} : ∀ d : PyData, PySem.W.kitOne K (tyD d) (.type "bool") = some (dBool d)
  | .none => kit_ty (r := false) (by decide +kernel)
  | .bool _ => kit_ty (r := true) (by decide +kernel)
  | .int _ => kit_ty (r := false) (by decide +kernel)
  | .str _ => kit_ty (r := false) (by decide +kernel)
  | .list _ => kit_ty (r := false) (by decide +kernel)
  | .tuple _ => kit_ty (r := false) (by decide +kernel)
  | .dict _ => kit_ty (r := false) (by decide +kernel)
theorem kit_str {K : PySem.W.Frag} : ∀ d : PyData, PySem.W.kitOne K (tyD d) (.type "str") = some (dStr d)
  | .none => kit_ty (r := false) (by decide +kernel)
  | .bool _ => kit_ty (r := false) (by decide +kernel)
  | .int _ => kit_ty (r := false) (by decide +kernel)
  | .str _ => kit_ty (r := true) (by decide +kernel)
  | .list _ => kit_ty (r := false) (by decide +kernel)
  | .tuple _ => kit_ty (r := false) (by decide +kernel)
  | .dict _ => kit_ty (r := false) (by decide +kernel)
theorem kit_tup {K : PySem.W.Frag} : ∀ d : PyData, PySem.W.kitOne K (tyD d) (.type "tuple") = some (dTup d)
  | .none => kit_ty (r := false) (by decide +kernel)
  | .bool _ => kit_ty (r := false) (by decide +kernel)
  | .int _ => kit_ty (r := false) (by decide +kernel)
  | .str _ => kit_ty (r := false) (by decide +kernel)
  | .list _ => kit_ty (r := false) (by decide +kernel)
  | .tuple _ => kit_ty (r := true) (by decide +kernel)
  | .dict _ => kit_ty (r := false) (by decide +kernel)
end Mus
namespace Mus
open PySem L2
/-! ### members and view ids, as functions of data -/
def isInt (d : PyData) (a b : Int) : Bool := match d with | .int i => decide (a ≤ i) && decide (i ≤ b) | _ => false
def isProc (c d : PyData) : Bool := match c with | .int n => (decide (1 ≤ n) && decide (n ≤ 12)) && isInt d 0 (n - 1) | _ => false
def isMem (c : PyData) : PyData → Bool
  | .tuple [x, y] => isProc c x && isInt y 1 1000000000000
  | _ => false
def isVid (c : PyData) : PyData → Bool
  | .tuple [x, y] => isInt x 0 1000000000000 && isMem c y
  | _ => false
def procOf : PyData → Int
  | .tuple (.int i :: _) => i
  | _ => 0
def memsFrom (c : PyData) : Int → List PyData → Bool
  | _, [] => true
  | l, d :: ds => isMem c d && decide (l < procOf d) && memsFrom c (procOf d) ds
def isMems (c : PyData) : PyData → Bool
  | .tuple ds => !ds.isEmpty && memsFrom c (-1) ds
  | _ => false
theorem isProc_int {c d : PyData} (h : isProc c d = true) : ∃ n i, c = .int n ∧ d = .int i ∧ 1 ≤ n ∧ n ≤ 12 ∧ 0 ≤ i ∧ i < n := by
  cases c <;> try (simp [isProc] at h; done)
  rename_i n
  cases d <;> try (simp [isProc, isInt] at h; done)
  rename_i i
  simp [isProc, isInt] at h
  exact ⟨n, i, rfl, rfl, by omega, by omega, by omega, by omega⟩
theorem isInt_int {d : PyData} {a b : Int} (h : isInt d a b = true) : ∃ i, d = .int i ∧ a ≤ i ∧ i ≤ b := by
  cases d <;> try (simp [isInt] at h; done)
  rename_i i
  simp [isInt] at h
  exact ⟨i, rfl, h.1, h.2⟩
theorem isMem_int {c d : PyData} (h : isMem c d = true) : ∃ n i l, c = .int n ∧ d = .tuple [.int i, .int l] ∧ 1 ≤ n ∧ n ≤ 12 ∧ 0 ≤ i ∧ i < n ∧ 1 ≤ l ∧ l ≤ 1000000000000 := by
  unfold isMem at h
  split at h
  · rename_i x y
    rw [Bool.and_eq_true] at h
    obtain ⟨n, i, rfl, rfl, h1, h2, h3, h4⟩ := isProc_int h.1
    obtain ⟨l, rfl, h5, h6⟩ := isInt_int h.2
    exact ⟨n, i, l, rfl, rfl, h1, h2, h3, h4, h5, h6⟩
  · cases h
/-! ### promises: a truth told of data, nothing changed -/
def spI : Sp := fun vs H Q _ => ∃ (p : Addr) (v : V) (d : PyData) (a b : Int), vs = [v, .int a, .int b] ∧ Rp p H v d ∧ Q (.bl (isInt d a b)) H
def spB1 (f : PyData → Bool) : Sp := fun vs H Q _ => ∃ (p : Addr) (v : V) (d : PyData), vs = [v] ∧ Rp p H v d ∧ Q (.bl (f d)) H
def spB2 (f : PyData → PyData → Bool) : Sp := fun vs H Q _ => ∃ (p : Addr) (u v : V) (c d : PyData), vs = [u, v] ∧ Rp p H u c ∧ Rp p H v d ∧ Q (.bl (f c d)) H
/-- the same where new things may have come -/
def spS1 (f : PyData → Bool) : Sp := fun vs H Q _ => ∃ (p : Addr) (v : V) (d : PyData), vs = [v] ∧ Rp p H v d ∧ ∀ H', Same H H' → Q (.bl (f d)) H'
def spS2 (f : PyData → PyData → Bool) : Sp := fun vs H Q _ => ∃ (p : Addr) (u v : V) (c d : PyData), vs = [u, v] ∧ Rp p H u c ∧ Rp p H v d ∧ ∀ H', Same H H' → Q (.bl (f c d)) H'
theorem ansB {Q : VK} {H : Hp} {b c : Bool} (q : Q (.bl b) H) (e : b = c) : Q (.bl c) H := e ▸ q
theorem iB {A B : Prop} {b : Bool} (h1 : b = true → A) (h2 : b = false → B) : if b = true then A else B := by
  cases b
  · exact iteF (h2 rfl)
  · exact iteT (h1 rfl)
theorem vint_ne {a b : Int} (h : a ≠ b) : ¬ V.int a = V.int b := fun e => h (V.int.inj e)
theorem drop_cons {α : Type} {xs : List α} {i : Nat} {x : α} (h : xs[i]? = some x) : xs.drop i = x :: xs.drop (i + 1) := by
  obtain ⟨hi, e⟩ := List.getElem?_eq_some_iff.mp h
  rw [List.drop_eq_getElem_cons hi, e]
section
variable {P : Program} {w : World} {K : PySem.W.Frag} {mg : Str → Option Value} {base : Heap}
theorem no_call {CX : CXT} {k : Nat} {f : Addr} {fd : FuncData} {ps : List Str} {sp : Sp} (no : ∀ vs H Q E, ¬ sp vs H Q E) : FnOk P w K mg base CX k f fd ps sp :=
  ⟨fun vs H Q E h => absurd h (no vs H Q E), fun A outer s H args us vs Q E _ _ _ _ h => absurd h (no vs H Q E)⟩
end
end Mus

set_option maxRecDepth 100000
set_option maxHeartbeats 4000000
/-! The bag of a law's draws, new things beside it, displays of data, tuples cut and joined. -/
namespace Mus
open PySem L2
def Bag (p : Addr) (c : Int) (H : Hp) : Prop := ∃ x y : Int, H p = some (.lst [.int x, .int y, .int c])
theorem Bag.seqT {K : PySem.W.Frag} {p : Addr} {c : Int} {H H' : Hp} (g : Bag p c H) (b : But p H H') {a : Addr} {xs : List V} (h : SqT K H a xs) : SqT K H' a xs := by
  obtain ⟨x, y, hp⟩ := g
  exact b.seqT hp h
theorem Bag.ne {p D : Addr} {c : Int} {H : Hp} (g : Bag p c H) (h : H D = none) : p ≠ D := by
  obtain ⟨x, y, hp⟩ := g
  exact ne_of_none hp h
theorem Bag.upd {p D : Addr} {c : Int} {H : Hp} {o : HO} (g : Bag p c H) (h : p ≠ D) : Bag p c (upd H D o) := by
  obtain ⟨x, y, hp⟩ := g
  exact ⟨x, y, by rw [upd_ne h]; exact hp⟩
theorem Bag.new {p D : Addr} {c : Int} {H : Hp} {o : HO} (g : Bag p c H) (h : H D = none) : Bag p c (L2.upd H D o) := g.upd (g.ne h)
theorem Bag.same {p : Addr} {c : Int} {H H' : Hp} (g : Bag p c H) (s : Same H H') : Bag p c H' := by
  obtain ⟨x, y, hp⟩ := g
  exact ⟨x, y, s _ _ hp⟩
/-- a new thing -/
theorem But.new {p D : Addr} {H H' : Hp} {o : HO} (b : But p H H') (h : H' D = none) : But p H (L2.upd H' D o) := fun a u e n => by
  have z := b a u e n
  rw [upd_ne (ne_of_none z h)]; exact z
/-- a change at what was not there at first -/
theorem But.later {p D : Addr} {H H' : Hp} {o : HO} (b : But p H H') (h : H D = none) : But p H (L2.upd H' D o) := fun a u e n => by
  rw [upd_ne (ne_of_none e h)]; exact b a u e n
theorem But.free {p D : Addr} {H H' : Hp} (b : But p H H') (h : H' D = none) (n : D ≠ p) : H D = none := by
  cases e : H D with
  | none => rfl
  | some o =>
    have z := b D o e n
    rw [h] at z; cases z
/-! ### displays -/
/-- the expression gives the int i, and that is all -/
def DI (te : TE) (σ : St) (i : Int) : Prop := ∀ (H : Hp) (Q : VK), Q (.int i) H → te σ H Q
/-- the expression gives the data d, new things beside what was -/
def DE (p : Addr) (te : TE) (σ : St) (d : PyData) : Prop := ∀ (c : Int) (H : Hp) (Q : VK), Bag p c H → (∀ v H', Same H H' → Bag p c H' → Rp p H' v d → Q v H') → te σ H Q
def DEs (p : Addr) (ta : TA) (σ : St) (ds : List PyData) : Prop := ∀ (c : Int) (H : Hp) (Q : List V → Hp → Prop), Bag p c H → (∀ vs H', Same H H' → Bag p c H' → Rps p H' vs ds → Q vs H') → ta σ H Q
section
variable {p : Addr} {σ : St} {te ta1 tb1 : TE} {ta : TA} {i j : Int} {d : PyData} {ds : List PyData}
theorem Same.rfl' (H : Hp) : Same H H := fun _ _ h => h
theorem di_c : DI (tC (.int i)) σ i := fun _ _ q => q
theorem di_v {n : Nat} (h : σ[n]? = some (some (.int i))) : DI (tVar n) σ i := fun _ _ q => ⟨_, h, q⟩
theorem di_op {f : Int → Int → Int} (h1 : DI ta1 σ i) (h2 : DI tb1 σ j) : DI (tOp (rI0 fun i j => .int (f i j)) ta1 tb1) σ (f i j) := fun H Q q => h1 H _ (h2 H _ ⟨i, j, rfl, rfl, q⟩)
theorem di_opC {C : Int → Int → Prop} {f : Int → Int → Int} (h1 : DI ta1 σ i) (h2 : DI tb1 σ j) (hc : C i j) : DI (tOp (rI C fun i j => .int (f i j)) ta1 tb1) σ (f i j) := fun H Q q => h1 H _ (h2 H _ ⟨i, j, rfl, rfl, hc, q⟩)
theorem di_neg (h1 : DI te σ i) : DI (tUn (rU fun i => .int (-i)) te) σ (-i) := fun H Q q => h1 H _ ⟨i, rfl, q⟩
theorem de_i (h : DI te σ i) : DE p te σ (.int i) := fun c H Q g q => h H Q (q _ H (Same.rfl' H) g (.int i))
theorem de_bl {b : Bool} : DE p (tC (.bl b)) σ (.bool b) := fun c H Q g q => q _ H (Same.rfl' H) g (.bl b)
theorem de_str {z : Str} : DE p (tC (.str z)) σ (.str z) := fun c H Q g q => q _ H (Same.rfl' H) g (.str z)
theorem de_non : DE p (tC .non) σ .none := fun c H Q g q => q _ H (Same.rfl' H) g .non
theorem des_nil : DEs p tNil σ [] := fun c H Q g q => q [] H (Same.rfl' H) g .nil
theorem des_cons (h1 : DE p te σ d) (h2 : DEs p ta σ ds) : DEs p (tCons te ta) σ (d :: ds) := fun c H Q g q =>
  h1 c H _ g fun v H1 s1 g1 r1 => h2 c H1 _ g1 fun vs H2 s2 g2 r2 => q _ H2 (s1.trans s2) g2 (.cons (r1.same s2) r2)
theorem de_tup (h : DEs p ta σ ds) (hl : ds.length ≤ 1000) : DE p (tTup ta) σ (.tuple ds) := fun c H Q g q =>
  h c H _ g fun vs H1 s1 g1 r1 => ⟨by have := r1.length; have := sl; omega, fun a na => q _ _ (s1.trans (same_new na _)) (g1.new na) (.tup upd_same (g1.ne na).symm (by have := r1.length; omega) (r1.same (same_new na _)))⟩
theorem de_lst (h : DEs p ta σ ds) (hl : ds.length ≤ 1000) : DE p (tLst ta) σ (.list ds) := fun c H Q g q =>
  h c H _ g fun vs H1 s1 g1 r1 => ⟨by have := r1.length; have := sl; omega, fun a na => q _ _ (s1.trans (same_new na _)) (g1.new na) (.lst upd_same (g1.ne na).symm (r1.same (same_new na _)))⟩
theorem de_lstN (n : Nat) (R : PyData → Prop) {c : Int} {H : Hp} {Q : VK} (h : ∃ ds, DEs p ta σ ds ∧ ds.length = n ∧ ∀ d ∈ ds, R d) (hn : n ≤ 1000) (g : Bag p c H)
    (q : ∀ ds v H', ds.length = n → (∀ d ∈ ds, R d) → Same H H' → Bag p c H' → Rp p H' v (.list ds) → Q v H') : tLst ta σ H Q := by
  obtain ⟨ds, h1, h2, h3⟩ := h
  exact de_lst h1 (by omega) c H Q g fun v H' => q ds v H' h2 h3
theorem de_cat {es : List PyData} (h1 : DE p ta1 σ (.list ds)) (h2 : DE p tb1 σ (.list es)) (hl : ds.length + es.length ≤ 1000) : DE p (tOp rCat ta1 tb1) σ (.list (ds ++ es)) := fun c H Q g q =>
  h1 c H _ g fun v H1 s1 g1 r1 => h2 c H1 _ g1 fun u H2 s2 g2 r2 => by
    obtain _ | _ | _ | _ | @⟨a, xs, _, ha, na, hr⟩ | _ := r1.same s2
    obtain _ | _ | _ | _ | @⟨b, ys, _, hb, nb, hr2⟩ | _ := r2
    refine ⟨a, b, xs, ys, rfl, rfl, ha, hb, ?_, fun t nt => q _ _ (s1.trans (s2.trans (same_new nt _))) (g2.new nt) (.lst upd_same (g2.ne nt).symm ((hr.append hr2).same (same_new nt _)))⟩
    have := hr.length; have := hr2.length; have := sl; omega
theorem de_varD {n : Nat} {v : V} (h : σ[n]? = some (some v)) (hd : ∀ H, Rp p H v d) : DE p (tVar n) σ d := fun c H Q g q => ⟨_, h, q _ H (Same.rfl' H) g (hd H)⟩
end
/-! ### tuples cut and joined -/
def cutD (ds : List PyData) (lo hi : Option Int) : List PyData := (ds.drop (HT.sIx ds.length 0 lo)).take (HT.sIx ds.length ds.length hi - HT.sIx ds.length 0 lo)
theorem Rps.cut {p : Addr} {H : Hp} {vs : List V} {ds : List PyData} (r : Rps p H vs ds) (lo hi : Option Int) : Rps p H (cutV vs lo hi) (cutD ds lo hi) := by
  unfold cutV cutD
  rw [r.length]
  exact (r.drop _).take _
theorem cutD_len (ds : List PyData) (lo hi : Option Int) : (cutD ds lo hi).length ≤ ds.length := by
  unfold cutD
  rw [List.length_take, List.length_drop]; omega
theorem cutD_mem {ds : List PyData} {lo hi : Option Int} {d : PyData} (h : d ∈ cutD ds lo hi) : d ∈ ds := List.mem_of_mem_drop (List.mem_of_mem_take h)
theorem cut_whole {xs : List V} {lo hi : Option Int} (h : HT.sIx xs.length 0 lo = 0 ∧ HT.sIx xs.length xs.length hi = xs.length) : cutV xs lo hi = xs := by
  unfold cutV
  rw [h.1, h.2, List.drop_zero, Nat.sub_zero, List.take_length]
section
variable {K : PySem.W.Frag} {p : Addr} {c : Int} {H : Hp} {Q : VK}
theorem rd_cut {a : Addr} {ds : List PyData} {lo hi : Option Int} (r : Rp p H (.ref a) (.tuple ds)) (g : Bag p c H)
    (q : ∀ b H', Same H H' → Bag p c H' → Rp p H' (.ref b) (.tuple (cutD ds lo hi)) → Q (.ref b) H') : rSlA K (.ref a) lo hi H Q := by
  obtain _ | _ | _ | _ | _ | @⟨_, xs, _, ha, na, hw, hr⟩ := r
  refine ⟨a, xs, rfl, SqT.of ha, fun w => ?_, fun w b nb => ?_⟩
  · refine q _ _ (Same.rfl' H) g (.tup ha na hw ?_)
    have z := hr.cut lo hi
    rw [cut_whole w] at z
    exact z
  · exact q _ _ (same_new nb _) (g.new nb) (.tup upd_same (g.ne nb).symm (Nat.le_trans (cutV_length _ _ _) hw) ((hr.cut lo hi).same (same_new nb _)))
theorem rd_cat {a b : Addr} {ds es : List PyData} (r1 : Rp p H (.ref a) (.tuple ds)) (r2 : Rp p H (.ref b) (.tuple es)) (g : Bag p c H) (hl : ds.length + es.length ≤ 100000)
    (q : ∀ t H', Same H H' → Bag p c H' → Rp p H' (.ref t) (.tuple (ds ++ es)) → Q (.ref t) H') : rCatA K (.ref a) (.ref b) H Q := by
  have k2 := r2
  have k1 := r1
  obtain _ | _ | _ | _ | _ | @⟨_, xs, _, ha, na, hw, hr⟩ := r1
  obtain _ | _ | _ | _ | _ | @⟨_, ys, _, hb, nb, hw2, hr2⟩ := r2
  have l1 := hr.length
  have l2 := hr2.length
  have hs := sl
  refine ⟨a, b, xs, ys, rfl, rfl, SqT.of ha, SqT.of hb, by omega, fun e => ?_, fun _ e => ?_, fun _ _ t nt => ?_⟩
  · subst e
    cases ds with
    | nil => exact q _ _ (Same.rfl' H) g k2
    | cons _ _ => cases l1
  · subst e
    cases es with
    | nil => rw [List.append_nil] at q; exact q _ _ (Same.rfl' H) g k1
    | cons _ _ => cases l2
  · exact q _ _ (same_new nt _) (g.new nt) (.tup upd_same (g.ne nt).symm (by rw [List.length_append]; omega) ((hr.append hr2).same (same_new nt _)))
end
/-! ### how deep and wide, what its texts are -/
def fit : Nat → PyData → Prop
  | 0, .tuple _ => False
  | n + 1, .tuple ds => ds.length ≤ 3000 ∧ ∀ d ∈ ds, fit n d
  | _, _ => True
inductive Her (P : Str → Prop) : PyData → Prop
  | tup {ds : List PyData} : (∀ d ∈ ds, Her P d) → Her P (.tuple ds)
  | str {z : Str} : P z → Her P (.str z)
  | non : Her P .none
  | bl (b : Bool) : Her P (.bool b)
  | int (i : Int) : Her P (.int i)
  | lst (ds : List PyData) : Her P (.list ds)
theorem Her.mem {P : Str → Prop} {ds : List PyData} (h : Her P (.tuple ds)) : ∀ d ∈ ds, Her P d := by
  cases h with
  | tup h => exact h
theorem Her.cut {P : Str → Prop} {ds : List PyData} (h : Her P (.tuple ds)) (lo hi : Option Int) : Her P (.tuple (cutD ds lo hi)) := .tup fun d m => h.mem d (cutD_mem m)
theorem Her.app {P : Str → Prop} {ds es : List PyData} (h : Her P (.tuple ds)) (k : Her P (.tuple es)) : Her P (.tuple (ds ++ es)) := .tup fun d m => by
  rcases List.mem_append.mp m with m | m
  · exact h.mem d m
  · exact k.mem d m
theorem Her.one {P : Str → Prop} {d : PyData} (h : Her P d) : Her P (.tuple [d]) := .tup fun e m => by rw [List.mem_singleton.mp m]; exact h
/-- one level less, if there is one -/
def spv (sp : Nat → Sp) (n : Nat) : Sp := fun vs H Q E => ∃ m, n = m + 1 ∧ sp m vs H Q E
/-- a thing spoilt: some data, its texts from the two -/
def sp_spoilt (n : Nat) : Sp := fun vs H Q _ => ∃ (p : Addr) (c : Int) (v o : V) (d e : PyData), vs = [.ref p, v, o] ∧ Bag p c H ∧ Rp p H v d ∧ Rp p H o e ∧ fit n d ∧
  ∀ v' d' H', Rp p H' v' d' → (∀ P, Her P d → Her P e → Her P d') → But p H H' → Bag p c H' → Q v' H'
def sp_bag (K : PySem.W.Frag) : Sp := fun vs H Q _ => ∃ (a : Addr) (ns : List Int) (k : Nat), vs = [.ref a, .int k] ∧ SqL K H a (ns.map V.int) ∧ ∀ p H', H p = none → Same H H' → Bag p k H' → Q (.ref p) H'
def sp_draw : Sp := fun vs H Q _ => ∃ (p : Addr) (c m : Int), vs = [.ref p, .int m] ∧ Bag p c H ∧ 0 < m ∧ m.natAbs < 2 ^ 100 ∧ ∀ r H', 0 ≤ r → r < m → But p H H' → Bag p c H' → Q (.int r) H'
/-- an int at least 1 and at most 10 ** 12 -/
def sp_pos : Sp := fun vs H Q _ => ∃ (p : Addr) (c : Int), vs = [.ref p] ∧ Bag p c H ∧ ∀ r H', 1 ≤ r → r ≤ 1000000000000 → But p H H' → Bag p c H' → Q (.int r) H'
end Mus
namespace Mus
open PySem L2
/-- no list in it -/
inductive NoL : PyData → Prop
  | tup {ds : List PyData} : (∀ d ∈ ds, NoL d) → NoL (.tuple ds)
  | str (z : Str) : NoL (.str z)
  | non : NoL .none
  | bl (b : Bool) : NoL (.bool b)
  | int (i : Int) : NoL (.int i)
theorem NoL.mem {ds : List PyData} (h : NoL (.tuple ds)) : ∀ d ∈ ds, NoL d := by
  cases h with
  | tup h => exact h
theorem NoL.two {a b : PyData} (h : NoL a) (k : NoL b) : NoL (.tuple [a, b]) := .tup fun d m => by
  rcases List.mem_cons.mp m with rfl | m
  · exact h
  · rw [List.mem_singleton.mp m]; exact k
theorem NoL.three {a b c : PyData} (h : NoL a) (k : NoL b) (l : NoL c) : NoL (.tuple [a, b, c]) := .tup fun d m => by
  rcases List.mem_cons.mp m with rfl | m
  · exact h
  · rcases List.mem_cons.mp m with rfl | m
    · exact k
    · rw [List.mem_singleton.mp m]; exact l
mutual
theorem Rp.upL {p D : Addr} {H H' : Hp} {ys : List V} (hD : H D = some (.lst ys)) (k : ∀ b o, H b = some o → b ≠ p → b ≠ D → H' b = some o) : ∀ {v : V} {d : PyData}, Rp p H v d → NoL d → Rp p H' v d
  | _, _, .non, _ => .non
  | _, _, .bl b, _ => .bl b
  | _, _, .int i, _ => .int i
  | _, _, .str x, _ => .str x
  | _, _, .lst h n r, z => nomatch z
  | _, _, .tup h n l r, z => .tup (k _ _ h n (ne_of h hD (by intro z; cases z))) n l (Rps.upL hD k r z.mem)
theorem Rps.upL {p D : Addr} {H H' : Hp} {ys : List V} (hD : H D = some (.lst ys)) (k : ∀ b o, H b = some o → b ≠ p → b ≠ D → H' b = some o) : ∀ {vs : List V} {ds : List PyData}, Rps p H vs ds → (∀ d ∈ ds, NoL d) → Rps p H' vs ds
  | _, _, .nil, _ => .nil
  | _, _, .cons a b, z => .cons (Rp.upL hD k a (z _ List.mem_cons_self)) (Rps.upL hD k b fun d m => z d (List.mem_cons_of_mem _ m))
end
/-- a change at the list at D -/
theorem Rps.updL {p D : Addr} {H : Hp} {ys : List V} {o : HO} (hD : H D = some (.lst ys)) {vs : List V} {ds : List PyData} (r : Rps p H vs ds) (z : ∀ d ∈ ds, NoL d) : Rps p (upd H D o) vs ds :=
  r.upL hD (fun b o h _ n => by rw [upd_ne n]; exact h) z
theorem Rp.updL {p D : Addr} {H : Hp} {ys : List V} {o : HO} (hD : H D = some (.lst ys)) {v : V} {d : PyData} (r : Rp p H v d) (z : NoL d) : Rp p (upd H D o) v d :=
  r.upL hD (fun b o h _ n => by rw [upd_ne n]; exact h) z
end Mus

set_option maxRecDepth 100000
set_option maxHeartbeats 4000000
/-! Methods and makers of own classes, as DefOk is for defs. -/
namespace Mus
open PySem L2
structure MethOk (P : Program) (w : World) (K : PySem.W.Frag) (mg : Str → Option Value) (base : Heap) (CX : CXT) (C : Addr) (x : Str) (ps : List Str) (k : Nat) (sp : Sp) where
  f : Addr
  fd : FuncData
  G : FnOk P w K mg base CX k f fd ps sp
  m : Meth K C x f
  b : Binds K fd ps []
structure MethAt (K : PySem.W.Frag) (C : Addr) (x qual : Str) (ps : List Str) (st : Stmt) where
  f : Addr
  fd : FuncData
  F : Fun K x qual st f fd
  m : Meth K C x f
  b : Binds K fd ps []
def MethAt.ok {P : Program} {w : World} {K : PySem.W.Frag} {mg : Str → Option Value} {base : Heap} {CX : CXT} {C : Addr} {x qual : Str} {ps : List Str} {st : Stmt} {k : Nat} {sp : Sp} (d : MethAt K C x qual ps st) (h : ∀ {f : Addr} {fd : FuncData}, Fun K x qual st f fd → FnOk P w K mg base CX k f fd ps sp) : MethOk P w K mg base CX C x ps k sp :=
  ⟨d.f, d.fd, h d.F, d.m, d.b⟩
/-- a class whose __init__ keeps the promise -/
structure MkOk (P : Program) (w : World) (K : PySem.W.Frag) (mg : Str → Option Value) (base : Heap) (C : Addr) (x : Str) (ps : List Str) (k : Nat) (sp : Sp) where
  f : Addr
  fd : FuncData
  G : FnOk P w K mg base CX0 k f fd ps sp
  M : Mk K C f
  g : mg x = some (.ref C)
  b : Binds K fd ps []
def MethAt.mk' {P : Program} {w : World} {K : PySem.W.Frag} {mg : Str → Option Value} {base : Heap} {C : Addr} {x : Str} {qual : Str} {ps : List Str} {st : Stmt} {k : Nat} {sp : Sp} (d : MethAt K C "__init__" qual ps st) (hm : PySem.W.makesIn K C = true) (hk : PySem.W.keepIn K (.ref C) = true) (g : mg x = some (.ref C))
    (h : ∀ {f : Addr} {fd : FuncData}, Fun K "__init__" qual st f fd → FnOk P w K mg base CX0 k f fd ps sp) : MkOk P w K mg base C x ps k sp :=
  ⟨d.f, d.fd, h d.F, ⟨hm, d.m.at_, d.m.fn, hk⟩, g, d.b⟩
section
variable {X : Cx} {C : Addr} {x m : Str} {ps : List Str} {j k : Nat} {sp : Sp} {o e : Expr} {es : List Expr} {to : TE} {t : TA} {p pos apos : Pos}
theorem pmeth {pl : Sem Bool} (c : MethOk X.prog X.w X.K X.mg X.base CX0 C m ps j sp) (cl : Cls X.K C) (ho : PE X o to) (hr : Room k X.A) (ha : PA X (e :: es) t) (hj : j ≤ k := by first | decide | omega)
    (st0 : starEach (e :: es) X.env = (false, eval e X.env) :: starEach es X.env := by rfl) (pl0 : (backTo pos (starEach es X.env)).any (·.1) = false := by rfl)
    (ht : eval (.Call (.Attribute o m apos) (e :: es) [] pos) X.env = (do
      let v ← eval o X.env; standAt apos.atName; let (f, one) ← holding [v] (getMethod v m pl)
      callWith pos f one (backTo pos (starEach (e :: es) X.env)) (backToKw pos (keywordEach [] X.env))) := by rfl) :
    PE X (.Call (.Attribute o m apos) (e :: es) [] pos) (tMeth C m sp [] E0 to t) := pe_meth ho cl c.m c.G (hr.mono hj) c.b .nil pass0 ha st0 pl0 ht
theorem pmeth0 {pl : Sem Bool} (c : MethOk X.prog X.w X.K X.mg X.base CX0 C m ps j sp) (cl : Cls X.K C) (ho : PE X o to) (hr : Room k X.A) (hj : j ≤ k := by first | decide | omega)
    (ht : eval (.Call (.Attribute o m apos) [] [] pos) X.env = (do
      let v ← eval o X.env; standAt apos.atName; let (f, one) ← holding [v] (getMethod v m pl)
      callWith pos f one (backTo pos (starEach [] X.env)) (backToKw pos (keywordEach [] X.env))) := by rfl) :
    PE X (.Call (.Attribute o m apos) [] [] pos) (tMeth C m sp [] E0 to tNil) := pe_meth0 ho cl c.m c.G (hr.mono hj) c.b .nil pass0 ht
theorem pmake (c : MkOk X.prog X.w X.K X.mg X.base C x ps j sp) (hr : Room k X.A) (ha : PA X (e :: es) t) (hj : j + 1 ≤ k := by first | decide | omega) (hg : Gl X x := by rfl)
    (d0 : (x == ("__debug__" : Str)) = false := by decide) (st0 : starEach (e :: es) X.env = (false, eval e X.env) :: starEach es X.env := by rfl) (pl0 : (backTo pos (starEach es X.env)).any (·.1) = false := by rfl) :
    PE X (.Call (.Name x p) (e :: es) [] pos) (tMake C sp [] E0 t) := pe_make c.M c.G (hr.mono hj) hg c.g c.b .nil pass0 ha d0 st0 pl0
theorem pmake0 (c : MkOk X.prog X.w X.K X.mg X.base C x ps j sp) (hr : Room k X.A) (hj : j + 1 ≤ k := by first | decide | omega) (hg : Gl X x := by rfl) (d0 : (x == ("__debug__" : Str)) = false := by decide) :
    PE X (.Call (.Name x p) [] [] pos) (tMake C sp [] E0 tNil) := pe_make0 c.M c.G (hr.mono hj) hg c.g c.b .nil pass0 d0
end
end Mus

set_option maxRecDepth 100000
set_option maxHeartbeats 4000000
/-! Errors of the program's own: made without arguments, let out by methods. -/
namespace Mus
open PySem PySem.Spec PyProof.Rows L2
section
variable {X : Cx} {C : Addr} {bmB : List Value} {B newId initId : String}
theorem pmk_own0 {x : Str} {p pos : Pos} (F : ExcBaseFacts B newId initId bmB) (q : PySem.W.excIn X.K C bmB newId = true) (gC : X.mg x = some (.ref C)) (kC : PySem.W.keepIn X.K (.ref C) = true) (r : Raises X (.ref C)) (hg : Gl X x := by rfl)
    (hdb : (x == ("__debug__" : Str)) = false := by decide) : PMk X (.Call (.Name x p) [] [] pos) (fun _ H Q => Q (.ref C) none H) := by
  intro pins s σ H Q I h
  refine wpAny_Call_Name_kw (ld_glob I hg gC ?_ hdb)
  refine PySem.W.callWith_K0 I.kIn kC ?_
  show wpAny _ _ (call (.ref C) []) _ _ _
  obtain ⟨mem, g, dw, tn, io⟩ := s
  obtain ⟨chain, N, nm0, qn, bs, hdct, sn, sub, ab, col, dd, k0, k1, k2, k3, k5, mN, cC, hN, hni, T⟩ := exc_obj I.kIn q
  exact wpAny_call_exc_subT F T cC hN hni (fun h' a hm => mk_of I hm r h (I.hok.gone hm.new)) (by show 0 ≤ sizeLine; rw [sizeLine_eq]; omega)
end
section
variable {X : Cx} {C : Addr} {x m : Str} {ps : List Str} {j k : Nat} {sp : Sp} {o e : Expr} {es : List Expr} {to : TE} {t : TA} {p pos apos : Pos} {W : WX} {E : XK}
/-- o.m(e, ..), what it lets out leaves this def, too -/
theorem pmethE {pl : Sem Bool} (c : MethOk X.prog X.w X.K X.mg X.base (L2.CX X.prog X.w) C m ps j sp) (cl : Cls X.K C) (tk : Takes X W) (hW : ∀ cls d σ H, E cls d H → W cls d σ H) (ho : PE X o to) (hr : Room k X.A) (ha : PA X (e :: es) t) (hj : j ≤ k := by first | decide | omega)
    (st0 : starEach (e :: es) X.env = (false, eval e X.env) :: starEach es X.env := by rfl) (pl0 : (backTo pos (starEach es X.env)).any (·.1) = false := by rfl)
    (ht : eval (.Call (.Attribute o m apos) (e :: es) [] pos) X.env = (do
      let v ← eval o X.env; standAt apos.atName; let (f, one) ← holding [v] (getMethod v m pl)
      callWith pos f one (backTo pos (starEach (e :: es) X.env)) (backToKw pos (keywordEach [] X.env))) := by rfl) :
    PE X (.Call (.Attribute o m apos) (e :: es) [] pos) (tMeth C m sp [] E to t) := pe_meth ho cl c.m c.G (hr.mono hj) c.b .nil (passes_call tk hW) ha st0 pl0 ht
theorem pmethE0 {pl : Sem Bool} (c : MethOk X.prog X.w X.K X.mg X.base (L2.CX X.prog X.w) C m ps j sp) (cl : Cls X.K C) (tk : Takes X W) (hW : ∀ cls d σ H, E cls d H → W cls d σ H) (ho : PE X o to) (hr : Room k X.A) (hj : j ≤ k := by first | decide | omega)
    (ht : eval (.Call (.Attribute o m apos) [] [] pos) X.env = (do
      let v ← eval o X.env; standAt apos.atName; let (f, one) ← holding [v] (getMethod v m pl)
      callWith pos f one (backTo pos (starEach [] X.env)) (backToKw pos (keywordEach [] X.env))) := by rfl) :
    PE X (.Call (.Attribute o m apos) [] [] pos) (tMeth C m sp [] E to tNil) := pe_meth0 ho cl c.m c.G (hr.mono hj) c.b .nil (passes_call tk hW) ht
/-- f(e, ..), the same of a def -/
theorem pcallE (c : DefOk X.prog X.w X.K X.mg X.base (L2.CX X.prog X.w) x ps j sp) (tk : Takes X W) (hW : ∀ cls d σ H, E cls d H → W cls d σ H) (hr : Room k X.A) (ha : PA X (e :: es) t) (hj : j ≤ k := by first | decide | omega) (hg : Gl X x := by rfl)
    (db0 : (x == ("__debug__" : Str)) = false := by decide) (st0 : starEach (e :: es) X.env = (false, eval e X.env) :: starEach es X.env := by rfl) (pl0 : (backTo pos (starEach es X.env)).any (·.1) = false := by rfl) :
    PE X (.Call (.Name x p) (e :: es) [] pos) (tCall sp [] E t) := pe_call c.G (hr.mono hj) hg c.m c.kp c.b .nil (passes_call tk hW) ha db0 st0 pl0
end
end Mus

set_option maxRecDepth 100000
set_option maxHeartbeats 4000000
/-! An own error class with two fields: raised, caught by name, its fields read. -/
namespace Mus
open PySem PySem.Spec PyProof.Rows L2
structure ExOk (P : Program) (w : World) (K : PySem.W.Frag) (mg : Str → Option Value) (base : Heap) (C : Addr) (x : Str) (ps : List Str) (k : Nat) (sp : Sp) where
  f : Addr
  fd : FuncData
  G : FnOk P w K mg base CX0 k f fd ps sp
  o : OexC K C
  i : PySem.W.findIn K (.ref C) "__init__" = some (some (.ref f))
  t : PySem.W.typeIn K (.ref f) = some (.type "function")
  m : mg x = some (.ref C)
  b : Binds K fd ps []
section
variable {X : Cx} {C : Addr} {x : Str} {ps : List Str} {j k : Nat} {sp : Sp} {e : Expr} {es : List Expr} {ta : TA} {p pos pos' : Pos} {W : WX}
theorem praise (c : ExOk X.prog X.w X.K X.mg X.base C x ps j sp) (tk : Takes X W) (hr : Room k X.A) (ha : PA X (e :: es) ta) (hc : X.calm = true := by rfl) (hj : j + 1 ≤ k := by first | decide | omega) (hg : Gl X x := by rfl)
    (hdb : (x == ("__debug__" : Str)) = false := by decide) (he : starEach (e :: es) X.env = (false, eval e X.env) :: starEach es X.env := by rfl) (hpl : (backTo pos (starEach es X.env)).any (·.1) = false := by rfl) :
    PS X (.Raise (some (.Call (.Name x p) (e :: es) [] pos)) none pos') (fun _ σ H => tMkO C sp [] ta σ H fun cls d H' => W cls d σ H') :=
  ps_raise hc tk (pmk_oex c.o c.i c.t c.G (hr.mono hj) c.b .nil pass0 hg c.m ha hdb he hpl)
end
/-- the __init__ of BadSchedule: two fields, the line first -/
def sp_bs (C : Addr) : Sp := fun vs H Q _ => ∃ (a : Addr) (u v : V), vs = [.ref a, u, v] ∧ H a = some (exo a C none) ∧ ∀ d H', H d = none → (∀ b o, H b = some o → b ≠ a → H' b = some o) → H' a = some (exo a C (some d)) → H' d = some (exd d [("reason", v), ("line", u)]) → Q .non H'
def bsF (u v : V) : List (Str × V) := [("reason", v), ("line", u)]
theorem rd_bs {C : Addr} {ta tb : TE} {u v : V} {σ : L2.St} {H : Hp} {Q : XK} (h1 : ∀ R : VK, R u H → ta σ H R) (h2 : ∀ R : VK, R v H → tb σ H R) (q : ∀ d H', H d = none → Same H H' → H' d = some (.xd (bsF u v)) → Q (.ref C) (some d) H') :
    tMkO C (sp_bs C) [] (tCons ta (tCons tb tNil)) σ H Q := by
  refine h1 _ (h2 _ ⟨by show 2 ≤ 1000; decide, fun a na => ⟨a, u, v, rfl, upd_same, fun d H' nd fr ha hd => ⟨rfl, d, _, ha, hd, ?_, ?_⟩⟩⟩)
  · have da : d ≠ a := fun z => by rw [z, upd_same] at nd; cases nd
    rwa [upd_ne da] at nd
  · have da : d ≠ a := fun z => by rw [z, upd_same] at nd; cases nd
    have nd' : H d = none := by rwa [upd_ne da] at nd
    refine q d _ nd' (fun b o hb => ?_) upd_same
    have hbd : b ≠ d := ne_of_none hb nd'
    have hba : b ≠ a := ne_of_none hb na
    rw [upd_ne hbd, del_ne hba]
    exact fr b o (by rw [upd_ne hba]; exact hb) hba
end Mus

set_option maxRecDepth 100000
set_option maxHeartbeats 4000000
/-! Calls whose errors are caught where the slots stand. -/
namespace Mus
open PySem PySem.Spec PyProof.Rows L2
/-! ### calls in a try's body -/
def tMethA (C : Addr) (m : Str) (sp : Sp) (E : L2.St → XK) (ta : TE) (t : TA) : TE := fun σ H Q => ta σ H fun x H1 => ∃ a dx fs, x = .ref a ∧ H1 a = some (.ins C dx fs) ∧ fs.lookup m = none ∧ t σ H1 fun vs H2 => sp (x :: vs) H2 Q (E σ)
section
variable {X : Cx} {C : Addr} {x m : Str} {ps : List Str} {j k : Nat} {sp : Sp} {o e : Expr} {es : List Expr} {to : TE} {t : TA} {p pos apos : Pos} {W : WX}
theorem pmethA {pl : Sem Bool} (c : MethOk X.prog X.w X.K X.mg X.base (L2.CX X.prog X.w) C m ps j sp) (cl : Cls X.K C) (tk : Takes X W) (ho : PE X o to) (hr : Room k X.A) (ha : PA X (e :: es) t) (hj : j ≤ k := by first | decide | omega)
    (st0 : starEach (e :: es) X.env = (false, eval e X.env) :: starEach es X.env := by rfl) (pl0 : (backTo pos (starEach es X.env)).any (·.1) = false := by rfl)
    (ht : eval (.Call (.Attribute o m apos) (e :: es) [] pos) X.env = (do
      let v ← eval o X.env; standAt apos.atName; let (f, one) ← holding [v] (getMethod v m pl)
      callWith pos f one (backTo pos (starEach (e :: es) X.env)) (backToKw pos (keywordEach [] X.env))) := by rfl) :
    PE X (.Call (.Attribute o m apos) (e :: es) [] pos) (tMethA C m sp (WE W) to t) := by
  refine ⟨fun pins s σ H Q I h => ?_⟩
  refine PySem.W.methodCall_KW (pl := pl) (thn (ho.run pins s σ H _ I h) fun u s1 ⟨x, H1, I1, rx, a, dx, fs, ex, ea, l, q⟩ => ?_) ht
  subst ex
  obtain rfl : u = Value.ref a := rx
  refine getmeth_ok I1 ea cl c.m l ?_
  refine PySem.W.callWith_K (first := [.ref a]) (h₀ := X.base) I.ok.mod.kin c.m.kp (thn (ha.run pos pins s1 σ H1 _ I1 q) fun us s2 ⟨vs, H2, I2, r, q2⟩ => ⟨I2.kIn, ?_⟩) st0 pl0
  exact run_fnS (us := .ref a :: us) (vs := .ref a :: vs) c.G (hr.mono hj) c.b (passAt tk σ) I2 (.cons rfl r) q2
theorem pmethA0 {pl : Sem Bool} (c : MethOk X.prog X.w X.K X.mg X.base (L2.CX X.prog X.w) C m ps j sp) (cl : Cls X.K C) (tk : Takes X W) (ho : PE X o to) (hr : Room k X.A) (hj : j ≤ k := by first | decide | omega)
    (ht : eval (.Call (.Attribute o m apos) [] [] pos) X.env = (do
      let v ← eval o X.env; standAt apos.atName; let (f, one) ← holding [v] (getMethod v m pl)
      callWith pos f one (backTo pos (starEach [] X.env)) (backToKw pos (keywordEach [] X.env))) := by rfl) :
    PE X (.Call (.Attribute o m apos) [] [] pos) (tMethA C m sp (WE W) to tNil) := by
  refine ⟨fun pins s σ H Q I h => ?_⟩
  refine PySem.W.methodCall_KW (pl := pl) (thn (ho.run pins s σ H _ I h) fun u s1 ⟨x, H1, I1, rx, a, dx, fs, ex, ea, l, q⟩ => ?_) ht
  subst ex
  obtain rfl : u = Value.ref a := rx
  refine getmeth_ok I1 ea cl c.m l ?_
  refine PySem.W.callWith_K0 (first := [.ref a]) I1.kIn c.m.kp ?_
  exact run_fnS (us := [.ref a]) (vs := [.ref a]) c.G (hr.mono hj) c.b (passAt tk σ) I1 (.cons rfl .nil) q
theorem pcallA (c : DefOk X.prog X.w X.K X.mg X.base (L2.CX X.prog X.w) x ps j sp) (tk : Takes X W) (hr : Room k X.A) (ha : PA X (e :: es) t) (hj : j ≤ k := by first | decide | omega) (hg : Gl X x := by rfl)
    (db0 : (x == ("__debug__" : Str)) = false := by decide) (st0 : starEach (e :: es) X.env = (false, eval e X.env) :: starEach es X.env := by rfl) (pl0 : (backTo pos (starEach es X.env)).any (·.1) = false := by rfl) :
    PE X (.Call (.Name x p) (e :: es) [] pos) (tCallS sp (WE W) t) := pe_callS c.G (hr.mono hj) hg c.m c.kp c.b (fun σ => passAt tk σ) ha db0 st0 pl0
end
end Mus

set_option maxRecDepth 100000
set_option maxHeartbeats 4000000
/-! The same rules, so that Lean finds the inner readings: they may name what they don't depend on. -/
namespace Mus
open PySem PySem.Spec PyProof.Rows L2
def s00 : Shared := {}
def h00 : Hp := fun _ => none
def o00 : Obj := default
def x00 : Value → Shared → Prop := fun _ _ => False
section
variable {X : Cx} {x n : Str} {c : Value} {i : Nat} {body suite : List Stmt} {b₀ : Stmt} {np pos pos' : Pos} {tb : WX → List (Addr × Obj) → (Value → Shared → Prop) → TS} {ts : Addr → Obj → Value → Option Addr → List (Addr × Obj) → TS} {Wout : WX}
theorem ps_tryAs (hs : X.stack = X.env :: X.outer) (hf : X.env.frame = some X.env.locals) (hN : X.N.Nodup) (hi : X.N[i]? = some n) (hln : X.env.kindOf n = some .local) (hc : Names X x c) (tk : Takes X Wout)
    (hb : ∀ W pn xe, Takes (X.tr pn xe) W → PassesOwn (model X.prog X.w) X.A X.env xe → PSs (X.tr pn xe) body (tb W pn xe)) (hsu : ∀ a oe cls d pn, Zc cls d oe → (∃ vs, oe.data = .fields vs) → PSs (X.suite a ((a, oe) :: pn)) (b₀ :: suite) (ts a oe cls d pn))
    (i1 : ∀ W pn xe, tb W pn xe = tb W [] x00 := by intros; rfl) (i2 : ∀ a oe cls d pn, ts a oe cls d pn = ts a o00 cls d [] := by intros; rfl) :
    PS X (.Try body [.ExceptHandler (some (.Name x np)) (some n) (b₀ :: suite) pos'] [] [] pos) (fun D σ H => tb (wAs X.K c i (fun a cls d => ts a o00 cls d []) Wout D) [] x00 D σ H) :=
  ps_try_as (tb := fun W => tb W [] x00) hs hf hN hi hln hc tk (fun W pn xe t p => i1 W pn xe ▸ hb W pn xe t p) fun a oe cls d pn z f => i2 a oe cls d pn ▸ hsu a oe cls d pn z f
end
section
variable {X : Cx} {body : List Stmt} {h₀ : ExceptHandler} {hds : List ExceptHandler} {l : List (Value × (Addr → Value → Option Addr → TS))} {pos : Pos} {tb : WX → List (Addr × Obj) → (Value → Shared → Prop) → TS} {Wout : WX}
theorem ps_tryX (hs : X.stack = X.env :: X.outer) (hf : X.env.frame = some X.env.locals) (tk : Takes X Wout)
    (hb : ∀ W pn xe, Takes (X.tr pn xe) W → PassesOwn (model X.prog X.w) X.A X.env xe → PSs (X.tr pn xe) body (tb W pn xe)) (hh : HdsOk X (h₀ :: hds) l) (i1 : ∀ W pn xe, tb W pn xe = tb W [] x00 := by intros; rfl) :
    PS X (.Try body (h₀ :: hds) [] [] pos) (fun D σ H => tb (wMany X.K Wout D l) [] x00 D σ H) :=
  ps_try_many (tb := fun W => tb W [] x00) hs hf tk (fun W pn xe t p => i1 W pn xe ▸ hb W pn xe t p) hh
theorem hd_one {x : Str} {c : Value} {ts : Addr → Obj → Value → Option Addr → List (Addr × Obj) → TS} {b₀ : Stmt} {suite : List Stmt} {np pos' : Pos} (hc : Names X x c)
    (hsu : ∀ a oe cls d pn, Zc cls d oe → (∃ vs, oe.data = .fields vs) → PSs (X.suite a ((a, oe) :: pn)) (b₀ :: suite) (ts a oe cls d pn)) (r : HdsOk X hds l) (i2 : ∀ a oe cls d pn, ts a oe cls d pn = ts a o00 cls d [] := by intros; rfl) :
    HdsOk X (.ExceptHandler (some (.Name x np)) none (b₀ :: suite) pos' :: hds) ((c, fun a cls d => ts a o00 cls d []) :: l) :=
  .cons hc (fun a oe cls d pn z f => i2 a oe cls d pn ▸ hsu a oe cls d pn z f) r
end
section
variable {X : Cx} {elt tg iter : Expr} {ifs : List Expr} {scope : Scope} {own : List (Str × Nat)} {pos : Pos} {wi : TI} {g : Shared → Hp → Addr → List (Str × Addr) → List Addr → TG} {tt : Shared → Hp → Addr → List (Str × Addr) → List Addr → TT} {te : Shared → Hp → Addr → List (Str × Addr) → List Addr → TE}
theorem pe_lcX (hc : X.calm = true) (hN : X.N.Nodup) (hi : PI X tg iter wi) (ok : BlkOk X.N X.env.scope scope own)
    (hg : ∀ (s : Shared) (H : Hp) (C : Addr) (cl : List (Str × Addr)) (fp : List Addr), PG (X.blk s H scope (compEnvC scope cl C X.env) fp) tg (g s H C cl fp)) (ht : ∀ (s : Shared) (H : Hp) (C : Addr) (cl : List (Str × Addr)) (fp : List Addr), PTs (X.blk s H scope (compEnvC scope cl C X.env) fp) ifs (tt s H C cl fp))
    (he : ∀ (s : Shared) (H : Hp) (C : Addr) (cl : List (Str × Addr)) (fp : List Addr), PE (X.blk s H scope (compEnvC scope cl C X.env) fp) elt (te s H C cl fp)) (hs : ∀ x, foldedSetIterable iter X.env x = pure x := by intro _; rfl)
    (i1 : ∀ s H C cl fp, g s H C cl fp = g s00 h00 0 [] [] := by intros; rfl) (i2 : ∀ s H C cl fp, tt s H C cl fp = tt s00 h00 0 [] [] := by intros; rfl) (i3 : ∀ s H C cl fp, te s H C cl fp = te s00 h00 0 [] [] := by intros; rfl) :
    PE X (.ListComp elt [⟨tg, iter, ifs, 0⟩] scope pos) (tLc wi (g s00 h00 0 [] []) (tt s00 h00 0 [] []) (te s00 h00 0 [] []) (own.map (·.2))) :=
  pe_lc hc hN hi ok (fun s H C cl fp => i1 s H C cl fp ▸ hg s H C cl fp) (fun s H C cl fp => i2 s H C cl fp ▸ ht s H C cl fp) (fun s H C cl fp => i3 s H C cl fp ▸ he s H C cl fp) hs
theorem ps_setLcX {i : Nat} {y : Str} {py : Pos} {spos : Pos} (hc : X.calm = true) (hN : X.N.Nodup) (hy : X.N[i]? = some y) (hyl : X.env.scope.names.lookup y = some .local)
    (hsw : swapsWith (.ListComp elt [⟨tg, iter, ifs, 0⟩] scope pos) (some (.Name y py)) spos.line X.env = pure true) (hi : PI X tg iter wi) (ok : BlkOk X.N X.env.scope scope own)
    (hg : ∀ (s : Shared) (H : Hp) (C : Addr) (cl : List (Str × Addr)) (fp : List Addr), PG (X.blk s H scope (compEnvC scope cl C X.env) fp) tg (g s H C cl fp)) (ht : ∀ (s : Shared) (H : Hp) (C : Addr) (cl : List (Str × Addr)) (fp : List Addr), PTs (X.blk s H scope (compEnvC scope cl C X.env) fp) ifs (tt s H C cl fp))
    (he : ∀ (s : Shared) (H : Hp) (C : Addr) (cl : List (Str × Addr)) (fp : List Addr), PE (X.blk s H scope (compEnvC scope cl C X.env) fp) elt (te s H C cl fp)) (hs : ∀ x, foldedSetIterable iter X.env x = pure x := by intro _; rfl)
    (i1 : ∀ s H C cl fp, g s H C cl fp = g s00 h00 0 [] [] := by intros; rfl) (i2 : ∀ s H C cl fp, tt s H C cl fp = tt s00 h00 0 [] [] := by intros; rfl) (i3 : ∀ s H C cl fp, te s H C cl fp = te s00 h00 0 [] [] := by intros; rfl) :
    PS X (.Assign [.Name y py] (.ListComp elt [⟨tg, iter, ifs, 0⟩] scope pos) spos) (tAsg (tLc wi (g s00 h00 0 [] []) (tt s00 h00 0 [] []) (te s00 h00 0 [] []) (own.map (·.2))) (gName i)) :=
  ps_setLc hc hN hy hyl hsw hi ok (fun s H C cl fp => i1 s H C cl fp ▸ hg s H C cl fp) (fun s H C cl fp => i2 s H C cl fp ▸ ht s H C cl fp) (fun s H C cl fp => i3 s H C cl fp ▸ he s H C cl fp) hs
end
end Mus

set_option maxRecDepth 100000
set_option maxHeartbeats 4000000
/-! comprehensions with two sources; their readings are found by Lean. -/
namespace Mus
open PySem PySem.Spec PyProof.Rows L2
section
variable {X : Cx} {elt tg iter tg1 iter1 : Expr} {ifs ifs1 : List Expr} {scope : Scope} {own : List (Str × Nat)} {vs1 : List Nat} {pos : Pos} {wi : TI} {g g1 : Shared → Hp → Addr → List (Str × Addr) → List Addr → TG} {tt tt1 : Shared → Hp → Addr → List (Str × Addr) → List Addr → TT} {te : Shared → Hp → Addr → List (Str × Addr) → List Addr → TE} {wi1 : Shared → Hp → Addr → List (Str × Addr) → List Addr → TI}
theorem pe_lc2X (hc : X.calm = true) (hN : X.N.Nodup) (hi : PI X tg iter wi) (ok : BlkOk X.N X.env.scope scope own) (hv : ∀ i ∈ vs1, i ∈ own.map (·.2))
    (hg : ∀ (s : Shared) (H : Hp) (C : Addr) (cl : List (Str × Addr)) (fp : List Addr), PG (X.blk s H scope (compEnvC scope cl C X.env) fp) tg (g s H C cl fp)) (ht : ∀ (s : Shared) (H : Hp) (C : Addr) (cl : List (Str × Addr)) (fp : List Addr), PTs (X.blk s H scope (compEnvC scope cl C X.env) fp) ifs (tt s H C cl fp))
    (hi1 : ∀ (s : Shared) (H : Hp) (C : Addr) (cl : List (Str × Addr)) (fp : List Addr), PI (X.blk s H scope (compEnvC scope cl C X.env) fp) tg1 iter1 (wi1 s H C cl fp))
    (hg1 : ∀ (s : Shared) (H : Hp) (C : Addr) (cl : List (Str × Addr)) (fp : List Addr), PG (X.blk s H scope (compEnvC scope cl C X.env) fp) tg1 (g1 s H C cl fp)) (ht1 : ∀ (s : Shared) (H : Hp) (C : Addr) (cl : List (Str × Addr)) (fp : List Addr), PTs (X.blk s H scope (compEnvC scope cl C X.env) fp) ifs1 (tt1 s H C cl fp))
    (he : ∀ (s : Shared) (H : Hp) (C : Addr) (cl : List (Str × Addr)) (fp : List Addr), PE (X.blk s H scope (compEnvC scope cl C X.env) fp) elt (te s H C cl fp)) (hs : ∀ x, foldedSetIterable iter X.env x = pure x := by intro _; rfl) (hs1 : ∀ env x, foldedSetIterable iter1 env x = pure x := by intro _ _; rfl)
    (i1 : ∀ s H C cl fp, g s H C cl fp = g s00 h00 0 [] [] := by intros; rfl) (i2 : ∀ s H C cl fp, tt s H C cl fp = tt s00 h00 0 [] [] := by intros; rfl) (i3 : ∀ s H C cl fp, te s H C cl fp = te s00 h00 0 [] [] := by intros; rfl)
    (i4 : ∀ s H C cl fp, wi1 s H C cl fp = wi1 s00 h00 0 [] [] := by intros; rfl) (i5 : ∀ s H C cl fp, g1 s H C cl fp = g1 s00 h00 0 [] [] := by intros; rfl) (i6 : ∀ s H C cl fp, tt1 s H C cl fp = tt1 s00 h00 0 [] [] := by intros; rfl) :
    PE X (.ListComp elt [⟨tg, iter, ifs, 0⟩, ⟨tg1, iter1, ifs1, 0⟩] scope pos) (tLc2 wi (g s00 h00 0 [] []) (tt s00 h00 0 [] []) (wi1 s00 h00 0 [] []) (g1 s00 h00 0 [] []) (tt1 s00 h00 0 [] []) (te s00 h00 0 [] []) (own.map (·.2)) vs1) :=
  pe_lc2 hc hN hi ok hv (fun s H C cl fp => i1 s H C cl fp ▸ hg s H C cl fp) (fun s H C cl fp => i2 s H C cl fp ▸ ht s H C cl fp) (fun s H C cl fp => i4 s H C cl fp ▸ hi1 s H C cl fp) (fun s H C cl fp => i5 s H C cl fp ▸ hg1 s H C cl fp) (fun s H C cl fp => i6 s H C cl fp ▸ ht1 s H C cl fp) (fun s H C cl fp => i3 s H C cl fp ▸ he s H C cl fp) hs hs1
end
end Mus

set_option maxRecDepth 100000
set_option maxHeartbeats 4000000
/-! sorted(x), x a list or a tuple of data of one shape. -/
namespace PySem.W
open PySem PySem.Calls PyProof.Rows
section
variable {prog : Program} {w : World} {A : Around} {E : Value → Shared → Prop} {s : Shared}
/-- the items of a tuple, in a list of their own -/
theorem mus_collect {a : Addr} {vs : List Value} {Q : List Value → Shared → Prop} (ht : s.heap.IsTuple a vs.toArray) (hz : vs.length ≤ sizeLine)
    (h : Q vs { s with heap := (s.heap.push (seqObj "list" #[] 0)).update s.heap.objs.size (Obj.mapSeq (· ++ vs.toArray)) }) : wpAny (model prog w) A (collect (.ref a)) Q E s := by
  obtain ⟨o, e1, e2, n, e3⟩ := id ht
  have f1 : (s.heap.push (seqObj "list" #[] 0)).get? a = some o := Heap.get?_push_of_some _ e1
  have f2 : (s.heap.push (seqObj "list" #[] 0)).get? s.heap.objs.size = some (seqObj "list" #[] 0) := Heap.get?_push_size _ rfl
  have k1 : (Value.type "tuple" == Value.type "list") = false := by decide +kernel
  have k2 : (Value.type "tuple" == Value.type "tuple") = true := by decide +kernel
  unfold collect
  refine wpAny_bind (wpAny_runValue (codeAny_builtin entry_proto_collect' ?_))
  refine wpAny_bind (wpAny_newList (wpAny_pure ⟨Code.quiet_builtin _ (by decide +kernel), codeAny_builtin entry_list_iadd' ?_⟩))
  show wpAny _ _ (Builtin.List.listExtendWith (.ref s.heap.objs.size) (.ref a) (.ref s.heap.objs.size)) _ _ { s with heap := s.heap.push (seqObj "list" #[] 0) }
  unfold Builtin.List.listExtendWith
  refine wpAny_bind (wpAny_typeOf (T := "tuple") ⟨o, f1, e2⟩ ?_)
  rw [if_pos (by rw [k1, k2]; simp)]
  refine wpAny_bind (listItems_at f1 e3 (wpAny_bind (listItems_at (xs := #[]) (n := 0) f2 rfl ?_)))
  rw [if_neg (by simp)]
  refine wpAny_bind (listUpdate_at (xs := #[]) (n := 0) f2 rfl (wpAny_pure ?_) (Nat.zero_le _) (by simp only [Array.size_append, List.size_toArray, List.length_nil]; omega))
  refine wpAny_bind (wpAny_load (get?_update_seq f2 _) ?_)
  have e : ((#[] : Array Value) ++ vs.toArray).toList = vs := by simp
  show wpAny _ _ (pure ((#[] : Array Value) ++ vs.toArray).toList) Q E _
  rw [e]
  exact wpAny_pure h
theorem mus_sortedT {a : Addr} {vs : List Value} {Q : Value → Shared → Prop} (ht : s.heap.IsTuple a vs.toArray) (hL : vs.length ≤ sizeLine)
    (body : ∀ E' : Value → Shared → Prop, wpAny (model prog w) A.in1.in1 (Builtin.«list.sort» ⟨[.ref (s.heap.objs.size + 1)], []⟩) (fun f s' => f = .done (.ret .none) ∧ Q (.ref (s.heap.objs.size + 1)) s') E' { s with heap := copyHeap s.heap vs }) :
    wpAny (model prog w) A (call (.builtin "sorted") [.ref a]) Q E s := by
  have z : ((s.heap.push (seqObj "list" #[] 0)).update s.heap.objs.size (Obj.mapSeq (· ++ vs.toArray))).objs.size = s.heap.objs.size + 1 := (Heap.size_update ..).trans (size_push' ..)
  refine call_function_entry_kw kind_sorted plain_sorted entry_sorted (args_sorted1 _) ?_
  unfold Builtin.«sorted»
  refine wpAny_bind (m := checkCount "sorted" 1 1 _) (wpAny_pure (wpAny_bind (mus_collect ht hL (wpAny_bind (wpAny_newList ?_ hL)))))
  show wpAny _ _ _ _ _ { s with heap := copyHeap s.heap vs }
  rw [z]
  refine wpAny_bind (wpAny_holding (wpAny_call_entry_kw slot_list_sort ⟨_, copyHeap_at s.heap vs, rfl⟩ entry_list_sort ?sorts (args_list_sort _)))
  case sorts =>
    refine wpAny_mono (body _) (fun f s' q => ?_) fun _ _ e => e
    obtain ⟨rfl, q⟩ := q
    exact ⟨_, rfl, wpAny_pure ⟨_, rfl, q⟩⟩
theorem mus_sorted {β : Type} {R : Value → β → Prop} {enc : β → PyData} {bs : List β} {a : Addr} {vs : List Value} {Q : Value → Shared → Prop} (ht : s.heap.IsTuple a vs.toArray) (e : EachIs R vs bs) (er : EachIs (fun v b => ∃ as, Reads s.heap v (enc b) as) vs bs) (hal : AllAlike (bs.map enc)) (hk : Sortable (bs.map enc)) (hL : bs.length ≤ sizeLine)
    (hu : ∀ b, b ∈ bs → A.units + 2 + (enc b).depth < cLine) (h : ∀ out, out.length = bs.length → EachIs R out (bs.mergeSort (dataLe false enc)) → Q (.ref (s.heap.objs.size + 1)) { s with heap := sortedAll s.heap vs (List.toArray out) }) :
    wpAny (model prog w) A (call (.builtin "sorted") [.ref a]) Q E s := by
  have lv : vs.length ≤ sizeLine := e.length ▸ hL
  have er' : EachIs (fun v b => ∃ as, Reads (sortingHeap (copyHeap s.heap vs) (s.heap.objs.size + 1) vs) v (enc b) as) vs bs := er.mono fun _ _ ⟨as, r⟩ => ⟨as, PyProof.Rows.Reads.keeps (fun _ _ => sorting_copy_old) r⟩
  have S := SortsAt.data (prog := prog) (w := w) (A := A.in1.in1) (s := { s with heap := sortingHeap (copyHeap s.heap vs) (s.heap.objs.size + 1) vs }) (each_map (R := fun v d => ∃ as, Reads (sortingHeap (copyHeap s.heap vs) (s.heap.objs.size + 1) vs) v d as) enc er') hal hk (bound_map hu)
  exact mus_sortedT ht lv fun _ => list_sort_vals (s := { s with heap := copyHeap s.heap vs }) (copyHeap_at s.heap vs) S lv ⟨rfl, h _ (by rw [sortVals_length false rfl]; exact e.length) (sortVals_data false e er' hal)⟩
end
end PySem.W
namespace Mus
open PySem PySem.Spec PyProof.Rows L2
def rSortedD (K : PySem.W.Frag) : List V → Hp → VK → Prop := fun vs H Q => ∃ (a : Addr) (xs : List V) (ds : List PyData), vs = [V.ref a] ∧ (SqL K H a xs ∨ SqT K H a xs) ∧ DpAll K H xs ds ∧ PySem.W.AllAlike ds ∧ PySem.W.Sortable ds ∧ (∀ d ∈ ds, d.depth ≤ 20) ∧
  ∀ (ps : List (V × PyData)) p, ps = (xs.zip ds).mergeSort (PySem.W.dataLe false (·.2)) → H p = none → Q (.ref p) (upd H p (.lst (ps.map (·.1))))
theorem each_zip {h : Heap} : ∀ {xs : List V} {ds : List PyData} {vs : List Value}, Vals xs vs → xs.length = ds.length → PySem.W.EachIs (fun v (b : V × PyData) => RelV b.1 v) vs (xs.zip ds)
  | [], [], _, .nil, _ => .nil
  | x :: xs, d :: ds, _, .cons r rs, hl => .cons r (each_zip (h := h) rs (by simpa using hl))
  | [], _ :: _, _, _, hl => by cases hl
  | _ :: _, [], _, _, hl => by cases hl
theorem each_reads {h : Heap} : ∀ {xs : List V} {ds : List PyData} {vs : List Value} {as : List Addr}, xs.length = ds.length → ReadsAll h vs ds as → vs.length = xs.length → PySem.W.EachIs (fun v (b : V × PyData) => ∃ as, Reads h v b.2 as) vs (xs.zip ds)
  | [], [], _, _, _, .nil, _ => .nil
  | x :: xs, d :: ds, _, _, hl, .cons r rs, h2 => .cons ⟨_, r⟩ (each_reads (by simpa using hl) rs (by simpa using h2))
  | [], _ :: _, _, _, hl, _, _ => by cases hl
  | _ :: _, [], _, _, hl, _, _ => by cases hl
theorem vals_of_each : ∀ {ps : List (V × PyData)} {out : List Value}, PySem.W.EachIs (fun v (b : V × PyData) => RelV b.1 v) out ps → Vals (ps.map (·.1)) out
  | _, _, .nil => .nil
  | _, _, .cons r rs => .cons r (vals_of_each rs)
theorem dpAll_len {K : PySem.W.Frag} {H : Hp} : ∀ {xs : List V} {ds : List PyData}, DpAll K H xs ds → xs.length = ds.length
  | _, _, .nil => rfl
  | _, _, .cons _ r => congrArg (· + 1) (dpAll_len r)
section
variable {X : Cx}
theorem cr_sortedD (hu : X.A.units + 64 < cLine) : CallR X (.builtin "sorted") (rSortedD X.K) := by
  intro pins s σ H vs us Q I r h
  obtain ⟨a, xs, ds, rfl, hs, hd, hal, hk, hdep, q⟩ := h
  obtain ⟨u, rfl, ru⟩ := vals1 r
  obtain rfl : u = Value.ref a := ru
  have ll := dpAll_len hd
  have lz : (xs.zip ds).length = ds.length := by rw [List.length_zip, ll, Nat.min_self]
  have em : (xs.zip ds).map (·.2) = ds := List.map_snd_zip (by omega)
  have hu' : ∀ b ∈ xs.zip ds, X.A.units + 2 + b.2.depth < cLine := fun b hb => by
    have := hdep b.2 (by rw [← em]; exact List.mem_map.mpr ⟨b, hb, rfl⟩)
    omega
  have fin : ∀ {vs : List Value}, Vals xs vs → ∀ out, out.length = (xs.zip ds).length → PySem.W.EachIs (fun v (b : V × PyData) => RelV b.1 v) out ((xs.zip ds).mergeSort (PySem.W.dataLe false (·.2))) → EP X pins σ Q (.ref (s.heap.objs.size + 1)) { s with heap := sortedAll s.heap vs (List.toArray out) } := fun {vs} rv out hl he => by
    obtain ⟨n, hn⟩ := sortedAll_at s.heap vs (List.toArray out)
    have nd : H (s.heap.objs.size + 1) = none := I.hok.fresh (Nat.le_succ _)
    have hz : ((xs.zip ds).mergeSort (PySem.W.dataLe false (·.2))).length ≤ sizeLine := by
      rw [List.length_mergeSort, lz, ← ll]
      rcases hs with hs | hs
      · obtain ⟨_, _, _, hz⟩ := I.list hs; exact hz
      · obtain ⟨_, _, _, hz⟩ := I.tuple hs; exact hz
    exact ⟨.ref (s.heap.objs.size + 1), _, I.laid (t' := s.toks) (o := .lst (((xs.zip ds).mergeSort (PySem.W.dataLe false (·.2))).map (·.1))) (fun b o e => sortedAll_old e) (Nat.le_succ _) ⟨by rw [List.length_map]; exact hz, out, n, vals_of_each he, hn⟩, rfl, q _ _ rfl nd⟩
  rcases hs with hs | hs
  · obtain ⟨its, rv, hl, hz⟩ := I.list hs
    obtain ⟨as, ra⟩ := Dp.readsAll I ds xs its hd rv
    exact PySem.W.sorted_data hl.isList (each_zip (h := s.heap) rv ll) (each_reads ll ra rv.length.symm) (by rw [em]; exact hal) (by rw [em]; exact hk) (by rw [lz, ← ll]; exact hz) hu' (fin rv)
  · obtain ⟨its, rv, hl, hz⟩ := I.tuple hs
    obtain ⟨as, ra⟩ := Dp.readsAll I ds xs its hd rv
    exact PySem.W.mus_sorted hl (each_zip (h := s.heap) rv ll) (each_reads ll ra rv.length.symm) (by rw [em]; exact hal) (by rw [em]; exact hk) (by rw [lz, ← ll]; exact hz) hu' (fin rv)
end
end Mus

set_option maxRecDepth 100000
set_option maxHeartbeats 4000000
/-! Data stand where a thing that is no list and no tuple changes. -/
namespace Mus
open PySem L2
mutual
theorem Rp.upN {p D : Addr} {H : Hp} {o : HO} (h1 : ∀ xs, H D ≠ some (.lst xs)) (h2 : ∀ xs, H D ≠ some (.tup xs)) : ∀ {v : V} {d : PyData}, Rp p H v d → Rp p (upd H D o) v d
  | _, _, .non => .non
  | _, _, .bl b => .bl b
  | _, _, .int i => .int i
  | _, _, .str x => .str x
  | _, _, .lst h n r => .lst (by rw [upd_ne fun z => h1 _ (by rw [← z]; exact h)]; exact h) n (Rps.upN h1 h2 r)
  | _, _, .tup h n l r => .tup (by rw [upd_ne fun z => h2 _ (by rw [← z]; exact h)]; exact h) n l (Rps.upN h1 h2 r)
theorem Rps.upN {p D : Addr} {H : Hp} {o : HO} (h1 : ∀ xs, H D ≠ some (.lst xs)) (h2 : ∀ xs, H D ≠ some (.tup xs)) : ∀ {vs : List V} {ds : List PyData}, Rps p H vs ds → Rps p (upd H D o) vs ds
  | _, _, .nil => .nil
  | _, _, .cons a b => .cons (Rp.upN h1 h2 a) (Rps.upN h1 h2 b)
end
theorem rp_tup {p t : Addr} {c : Int} {H : Hp} {vs : List V} {ds : List PyData} (g : Bag p c H) (nt : H t = none) (r : Rps p H vs ds) (hl : vs.length ≤ 100000 := by exact Nat.le_of_ble_eq_true rfl) : Rp p (upd H t (.tup vs)) (.ref t) (.tuple ds) :=
  .tup upd_same (g.ne nt).symm hl (r.same (same_new nt _))
theorem atI_intsU {ns : List Int} {r : Int} (h0 : 0 ≤ r) (h1 : r < ns.length) : ∃ x, x ∈ ns ∧ atI (ns.map V.int) r = some (.int x) := by
  have hi : r.toNat < ns.length := by omega
  refine ⟨ns[r.toNat], List.getElem_mem _, at_int h0 ?_⟩
  rw [List.getElem?_map, List.getElem?_eq_getElem hi]; rfl
/-- one of the listed values -/
theorem atI_mem {xs : List V} {r : Int} (h0 : 0 ≤ r) (h1 : r < xs.length) : ∃ x, x ∈ xs ∧ atI xs r = some x := by
  have hi : r.toNat < xs.length := by omega
  exact ⟨xs[r.toNat], List.getElem_mem _, at_int h0 (List.getElem?_eq_getElem hi)⟩
end Mus

set_option maxRecDepth 100000
set_option maxHeartbeats 4000000
/-! Dicts whose keys are nested tuples: {}, d[k], d[k] = v, d.get(k, x), k in d. -/
namespace Mus
open PySem PySem.Spec PyProof.Rows L2
/-! ### keys -/
mutual
inductive NK (H : Hp) : V → NestedKey → Prop
  | non : NK H .non .none
  | int (i : Int) : NK H (.int i) (.num i)
  | str (x : Str) : NK H (.str x) (.text x)
  | tup {a : Addr} {xs : List V} {ks : List NestedKey} : H a = some (.tup xs) → NKs H xs ks → NK H (.ref a) (.tup ks)
inductive NKs (H : Hp) : List V → List NestedKey → Prop
  | nil : NKs H [] []
  | cons {v : V} {vs : List V} {k : NestedKey} {ks : List NestedKey} : NK H v k → NKs H vs ks → NKs H (v :: vs) (k :: ks)
end
mutual
theorem NK.mono {H H' : Hp} (t : ∀ b xs, H b = some (.tup xs) → H' b = some (.tup xs)) : ∀ {v : V} {k : NestedKey}, NK H v k → NK H' v k
  | _, _, .non => .non
  | _, _, .int i => .int i
  | _, _, .str x => .str x
  | _, _, .tup h r => .tup (t _ _ h) (r.mono t)
theorem NKs.mono {H H' : Hp} (t : ∀ b xs, H b = some (.tup xs) → H' b = some (.tup xs)) : ∀ {vs : List V} {ks : List NestedKey}, NKs H vs ks → NKs H' vs ks
  | _, _, .nil => .nil
  | _, _, .cons a b => .cons (a.mono t) (b.mono t)
end
mutual
theorem NK.is {P : Program} {w : World} {H : Hp} {h : Heap} (ok : HOk P w H h) : ∀ {v : V} {k : NestedKey} {u : Value}, NK H v k → RelV v u → NestedIs h k u
  | _, _, _, .non, r => by cases (show _ = Value.none from r); exact .none
  | _, _, _, .int i, r => by obtain ⟨t, rfl⟩ := (show ∃ t, _ = Value.int i t from r); exact .int i t
  | _, _, _, .str x, r => by obtain ⟨t, rfl⟩ := (show ∃ t, _ = Value.str x t from r); exact .text x t
  | _, _, _, .tup (a := a) (xs := xs) e q, r => by
    cases (show _ = Value.ref a from r)
    obtain ⟨_, its, rv, o, h1, h2, n, h3⟩ := (show ObjOk P w H h a (.tup xs) from ok a _ e)
    exact .tup h1 h2 h3 (by simpa using NKs.all ok q rv)
theorem NKs.all {P : Program} {w : World} {H : Hp} {h : Heap} (ok : HOk P w H h) : ∀ {vs : List V} {ks : List NestedKey} {us : List Value}, NKs H vs ks → Vals vs us → NestedAll h ks us
  | _, _, _, .nil, r => by cases r; exact .nil
  | _, _, _, .cons a b, r => by
    cases r with
    | cons r1 r2 => exact .cons (a.is ok r1) (b.all ok r2)
end
/-! ### the dict -/
abbrev NKV := List (NestedKey × Addr × V)
abbrev KN : NKV → List (NestedKey × Addr × Value) → Prop := Paired fun p q => p.1 = q.1 ∧ p.2.1 = q.2.1 ∧ RelV p.2.2 q.2.2
def ndE (w : World) (x : NestedKey × Addr × Value) : DictEntry := ⟨x.1.hash w, .ref x.2.1, x.2.2⟩
def ndΦ (w : World) (d : Addr) (ks : NKV) : Heap → Prop := fun h => ∃ xs o es ep, KN ks xs ∧ h.get? d = some o ∧ o.ExactDict ∧ o.data = .dict es ep ∧ es.toList = xs.map (ndE w)
def ndO (w : World) (d : Addr) (ks : NKV) : HO := .ext (ndΦ w d ks)
structure Nd (w : World) (H : Hp) (d : Addr) (ks : NKV) : Prop where
  ob : H d = some (ndO w d ks)
  keys : ∀ x ∈ ks, NK H (.ref x.2.1) x.1 ∧ x.1.depth ≤ 8
  one : (ks.map (·.1)).Nodup
  sz : ks.length ≤ sizeLine
  sm : (d == sysModules) = false
def valN (ks : NKV) (k : NestedKey) : Option V := (ks.find? fun x => decide (x.1 = k)).map (·.2.2)
def putN (ks : NKV) (k : NestedKey) (b : Addr) (v : V) : NKV := if (valN ks k).isSome then ks.map (fun x => if x.1 = k then (x.1, x.2.1, v) else x) else ks ++ [(k, b, v)]
theorem KN.val {ks : NKV} {xs : List (NestedKey × Addr × Value)} (r : KN ks xs) (k : NestedKey) : RelO (valN ks k) ((atKey xs k).map (·.2)) := by
  unfold valN atKey
  induction r with
  | nil => exact trivial
  | @cons p q ps qs h t ih =>
    rw [List.find?_cons, List.find?_cons]
    by_cases e : p.1 = k
    · have e2 : q.1 = k := h.1 ▸ e
      simp only [e, e2, decide_true]
      exact h.2.2
    · have e2 : ¬ q.1 = k := h.1 ▸ e
      simp only [e, e2, decide_false]
      exact ih
theorem KN.fsts {ks : NKV} {xs : List (NestedKey × Addr × Value)} (r : KN ks xs) : ks.map (·.1) = xs.map (·.1) := by
  induction r with
  | nil => rfl
  | cons h t ih => rw [List.map_cons, List.map_cons, ih, h.1]
theorem KN.repl {ks : NKV} {xs : List (NestedKey × Addr × Value)} (r : KN ks xs) (k : NestedKey) {v : V} {u : Value} (rv : RelV v u) : KN (ks.map fun x => if x.1 = k then (x.1, x.2.1, v) else x) (xs.map (putAt k u)) := by
  induction r with
  | nil => exact .nil
  | @cons p q ps qs h t ih =>
    refine .cons ?_ ih
    unfold putAt
    dsimp only
    by_cases e : p.1 = k
    · have e2 : q.1 = k := h.1 ▸ e
      rw [if_pos e, if_pos e2]
      exact ⟨h.1, h.2.1, rv⟩
    · have e2 : ¬ q.1 = k := h.1 ▸ e
      rw [if_neg e, if_neg e2]
      exact h
theorem KN.put {ks : NKV} {xs : List (NestedKey × Addr × Value)} (r : KN ks xs) (k : NestedKey) (b : Addr) {v : V} {u : Value} (rv : RelV v u) : KN (putN ks k b v) (storedH xs k b u) := by
  have e : (valN ks k).isSome = (atKey xs k).isSome := by rw [(r.val k).isSome_eq, Option.isSome_map]
  unfold putN storedH
  rw [e]
  by_cases q : (atKey xs k).isSome = true
  · rw [if_pos q, if_pos q]; exact r.repl k rv
  · rw [if_neg q, if_neg q]; exact Paired.snoc r ⟨rfl, rfl, rv⟩
theorem KN.mem {ks : NKV} {xs : List (NestedKey × Addr × Value)} (r : KN ks xs) {F : NestedKey → Addr → Prop} (h : ∀ x ∈ ks, F x.1 x.2.1) : ∀ x ∈ xs, F x.1 x.2.1 := by
  induction r with
  | nil => intro x hx; exact nomatch hx
  | @cons p q ps qs hq t ih =>
    intro x hx
    rcases List.mem_cons.mp hx with e | hx
    · subst e
      rw [← hq.1, ← hq.2.1]
      exact h p List.mem_cons_self
    · exact ih (fun y hy => h y (List.mem_cons_of_mem _ hy)) x hx
theorem putN_len (ks : NKV) (k : NestedKey) (b : Addr) (v : V) : (putN ks k b v).length ≤ ks.length + 1 := by
  unfold putN
  split
  · rw [List.length_map]; omega
  · rw [List.length_append]; exact Nat.le_refl _
theorem putN_keys {ks : NKV} {k : NestedKey} {b : Addr} {v : V} {F : NestedKey → Addr → Prop} (h : ∀ x ∈ ks, F x.1 x.2.1) (hk : F k b) : ∀ x ∈ putN ks k b v, F x.1 x.2.1 := by
  intro x hx
  unfold putN at hx
  split at hx
  · obtain ⟨y, hy, rfl⟩ := List.mem_map.mp hx
    split
    · exact h y hy
    · exact h y hy
  · rcases List.mem_append.mp hx with hx | hx
    · exact h x hx
    · rw [List.mem_singleton.mp hx]; exact hk
theorem valN_none {ks : NKV} {k : NestedKey} (h : valN ks k = none) : k ∉ ks.map (·.1) := fun m => by
  obtain ⟨x, hx, e⟩ := List.mem_map.mp m
  unfold valN at h
  rw [Option.map_eq_none_iff, List.find?_eq_none] at h
  exact h x hx (by simpa using e)
theorem putN_one {ks : NKV} {k : NestedKey} {b : Addr} {v : V} (h : (ks.map (·.1)).Nodup) : ((putN ks k b v).map (·.1)).Nodup := by
  unfold putN
  split
  · have e : (ks.map fun x => if x.1 = k then (x.1, x.2.1, v) else x).map (·.1) = ks.map (·.1) := by
      rw [List.map_map]
      refine List.map_congr_left fun x _ => ?_
      show (if x.1 = k then (x.1, x.2.1, v) else x).1 = x.1
      split <;> rfl
    rw [e]; exact h
  · rename_i q
    have q : valN ks k = none := by cases e : valN ks k with | none => rfl | some _ => rw [e] at q; exact absurd rfl q
    rw [List.map_append, List.nodup_append]
    refine ⟨h, by simp, fun x hx y hy e => ?_⟩
    rw [List.map_singleton, List.mem_singleton] at hy
    have hy : y = k := hy
    exact valN_none q (by rw [← hy, ← e]; exact hx)
theorem Nd.mono {w : World} {H H' : Hp} {d : Addr} {ks : NKV} (n : Nd w H d ks) (ho : H' d = some (ndO w d ks)) (t : ∀ b xs, H b = some (.tup xs) → H' b = some (.tup xs)) : Nd w H' d ks :=
  ⟨ho, fun x hx => ⟨(n.keys x hx).1.mono t, (n.keys x hx).2⟩, n.one, n.sz, n.sm⟩
theorem Nd.same {w : World} {H H' : Hp} {d : Addr} {ks : NKV} (n : Nd w H d ks) (s : Same H H') : Nd w H' d ks := n.mono (s _ _ n.ob) fun _ _ h => s _ _ h
section
variable {X : Cx} {pins : List (Addr × Obj)} {σ : L2.St} {H : Hp} {s : Shared} {a b : Addr} {v : V} {u r : Value} {A : Around} {E : Value → Shared → Prop} {ks : NKV} {k : NestedKey}
theorem Nd.heap (I : Inv X pins σ H s) (n : Nd X.w H a ks) : ∃ xs, KN ks xs ∧ s.heap.DictOfH (nestedKind X.prog X.w) a xs := by
  obtain ⟨⟨xs, o, es, ep, rel, h1, h2, h3, h4⟩, _⟩ := (show ObjOk X.prog X.w H s.heap a (ndO X.w a ks) from I.hok a _ n.ob)
  exact ⟨xs, rel, o, es, ep, h1, h2, h3, h4, rel.mem (F := fun k b => (nestedKind X.prog X.w).is s.heap k b) fun x hx => ⟨(n.keys x hx).1.is I.hok rfl, (n.keys x hx).2⟩, rel.fsts ▸ n.one⟩
theorem nd_room (hu : A.units + 64 < cLine) : (nestedKind X.prog X.w).room A.in1 := by
  show A.in1.units + 8 < cLine
  have : A.in1.units = A.units + 1 := rfl
  omega
/-- what the dict at a holds at the key at b -/
def NGet (w : World) (H : Hp) (a b : Addr) (o : Option V) : Prop := ∃ ks k, Nd w H a ks ∧ NK H (.ref b) k ∧ k.depth ≤ 8 ∧ o = valN ks k
theorem n_getItem {Q : Value → Shared → Prop} (hu : A.units + 64 < cLine) (I : Inv X pins σ H s) (g : NGet X.w H a b (some v)) (h : ∀ w' s', Inv X pins σ H s' → RelV v w' → Q w' s') :
    wpAny (model X.prog X.w) A (getItem (.ref a) (.ref b)) Q E s := by
  obtain ⟨ks, k, n, nk, dk, l⟩ := g
  obtain ⟨xs, rel, dd⟩ := n.heap I
  obtain ⟨w', hw, rw'⟩ := RelO.some_of (v := v) (o := (atKey xs k).map (·.2)) (by rw [l]; exact rel.val k)
  obtain ⟨p, hp, hp2⟩ := Option.map_eq_some_iff.mp hw
  refine wpAny_getItem_heap (knd := nestedKind X.prog X.w) (nd_room hu) ⟨nk.is I.hok rfl, dk⟩ dd hp ?_
  rw [hp2]
  exact h w' _ (I.tok _) rw'
theorem n_in {o : Option V} {Q : Value → Shared → Prop} (hu : A.units + 64 < cLine) (I : Inv X pins σ H s) (g : NGet X.w H a b o) (h : ∀ s', Inv X pins σ H s' → Q (.bool o.isSome) s') :
    wpAny (model X.prog X.w) A (compareOp .In (.ref b) (.ref a)) Q E s := by
  obtain ⟨ks, k, n, nk, dk, l⟩ := g
  obtain ⟨xs, rel, dd⟩ := n.heap I
  refine wpAny_in_heap (knd := nestedKind X.prog X.w) (nd_room hu) ⟨nk.is I.hok rfl, dk⟩ n.sm dd ?_
  have q := (rel.val k).isSome_eq
  rw [Option.isSome_map] at q
  rw [← q, ← l]
  exact h _ (I.tok _)
theorem n_notIn {o : Option V} {Q : Value → Shared → Prop} (hu : A.units + 64 < cLine) (I : Inv X pins σ H s) (g : NGet X.w H a b o) (h : ∀ s', Inv X pins σ H s' → Q (.bool (!o.isSome)) s') :
    wpAny (model X.prog X.w) A (compareOp .NotIn (.ref b) (.ref a)) Q E s := by
  obtain ⟨ks, k, n, nk, dk, l⟩ := g
  obtain ⟨xs, rel, dd⟩ := n.heap I
  refine wpAny_notIn_heap (knd := nestedKind X.prog X.w) (nd_room hu) ⟨nk.is I.hok rfl, dk⟩ n.sm dd ?_
  have q := (rel.val k).isSome_eq
  rw [Option.isSome_map] at q
  rw [← q, ← l]
  exact h _ (I.tok _)
theorem n_get2 {o : Option V} {y : V} {Q : Value → Shared → Prop} (hu : A.units + 64 < cLine) (I : Inv X pins σ H s) (g : NGet X.w H a b o) (rd : RelV y r) (h : ∀ w' s', Inv X pins σ H s' → RelV (o.getD y) w' → Q w' s') :
    wpAny (model X.prog X.w) A (call (.builtin "dict.get") [.ref a, .ref b, r]) Q E s := by
  obtain ⟨ks, k, n, nk, dk, l⟩ := g
  obtain ⟨xs, rel, dd⟩ := n.heap I
  refine call_meetsIn PySem.F.slot_dict_get dd.typeIs PySem.F.entry_dict_get (PySem.F.args_dict_get_3 _ _ _) (meetsH_dict_get_default (nestedKind X.prog X.w) a b n.sm r) ⟨nd_room hu, k, xs, ⟨nk.is I.hok rfl, dk⟩, dd, h _ _ (I.tok _) ?_⟩
  rw [l]
  exact (rel.val k).getD rd
/-- the heap behind d[k] = v -/
theorem n_setItem {Q : Unit → Shared → Prop} (hu : A.units + 64 < cLine) (I : Inv X pins σ H s) (n : Nd X.w H a ks) (nk : NK H (.ref b) k) (dk : k.depth ≤ 8) (rv : RelV v r) (h : ∀ s', Inv X pins σ (upd H a (ndO X.w a (putN ks k b v))) s' → Q () s') :
    wpAny (model X.prog X.w) A (setItem (.ref a) (.ref b) r) Q E s := by
  obtain ⟨xs, rel, dd⟩ := n.heap I
  have hz : xs.length ≤ sizeLine := by rw [← Paired.length rel]; exact n.sz
  refine wpAny_setItem_heap (knd := nestedKind X.prog X.w) (hsz := hz) (nd_room hu) ⟨nk.is I.hok rfl, dk⟩ dd fun h' dd' hs => h _ ?_
  obtain ⟨q, es, ep, hq, h2, h3, h4, _, h5⟩ := dd'
  refine d_write I (by rw [n.ob]; exact True.intro) hs ⟨q, hq⟩ ⟨⟨_, q, es, ep, rel.put k b rv, hq, h2, h3, h4⟩, ⟨q, hq⟩, fun h1 h2 p st => ?_⟩
  obtain ⟨ys, o, es', ep', p1, p2, p3⟩ := p
  exact ⟨ys, o, es', ep', p1, st _ p2, p3⟩
theorem Nd.put {w : World} (n : Nd w H a ks) (nk : NK H (.ref b) k) (dk : k.depth ≤ 8) (hl : ks.length < sizeLine) : Nd w (upd H a (ndO w a (putN ks k b v))) a (putN ks k b v) := by
  have t : ∀ c xs, H c = some (.tup xs) → (upd H a (ndO w a (putN ks k b v))) c = some (.tup xs) := fun c xs hc => by
    rw [upd_ne (ne_of hc n.ob (by intro z; cases z))]; exact hc
  exact ⟨upd_same, putN_keys (F := fun k b => NK _ (.ref b) k ∧ k.depth ≤ 8) (fun x hx => ⟨(n.keys x hx).1.mono t, (n.keys x hx).2⟩) ⟨nk.mono t, dk⟩, putN_one n.one, Nat.le_trans (putN_len _ _ _ _) hl, n.sm⟩
end
/-! ### readings and rules -/
def tNNew (w : World) : TE := fun _ H Q => ∀ d, H d = none → (d == sysModules) = false → Q (.ref d) (upd H d (ndO w d []))
def tNGet (w : World) (td ty : TE) : TE := fun σ H Q => td σ H fun x H1 => ty σ H1 fun y H2 => ∃ a b v, x = .ref a ∧ y = .ref b ∧ NGet w H2 a b (some v) ∧ Q v H2
def tNIn (w : World) (ty td : TE) : TE := fun σ H Q => ty σ H fun y H1 => td σ H1 fun x H2 => ∃ a b o, x = .ref a ∧ y = .ref b ∧ NGet w H2 a b o ∧ Q (.bl o.isSome) H2
def tNNotIn (w : World) (ty td : TE) : TE := fun σ H Q => ty σ H fun y H1 => td σ H1 fun x H2 => ∃ a b o, x = .ref a ∧ y = .ref b ∧ NGet w H2 a b o ∧ Q (.bl (!o.isSome)) H2
def sNPut (w : World) (td ty tv : TE) : TS := fun D σ H => tv σ H fun v H1 => td σ H1 fun x H2 => ty σ H2 fun y H3 => ∃ a b ks k, x = .ref a ∧ y = .ref b ∧ Nd w H3 a ks ∧ NK H3 (.ref b) k ∧ k.depth ≤ 8 ∧ D.nx σ (upd H3 a (ndO w a (putN ks k b v)))
def tNGet2 (w : World) (td ty tx : TE) : TE := fun σ H Q => td σ H fun x H1 => ∃ a ks, x = .ref a ∧ Nd w H1 a ks ∧ ty σ H1 fun y H2 => tx σ H2 fun z H3 => ∃ b o, y = .ref b ∧ NGet w H3 a b o ∧ Q (o.getD z) H3
theorem nd_new {w : World} {H : Hp} {d : Addr} (h : (d == sysModules) = false) : Nd w (upd H d (ndO w d [])) d [] :=
  ⟨upd_same, fun x hx => (by cases hx), List.nodup_nil, Nat.zero_le _, h⟩
section
variable {X : Cx} {o i e f value : Expr} {pos pos' apos cpos : Pos} {td ty tv tx : TE}
theorem pe_nnew : PE X (.Dict [] [] pos) (tNNew X.w) := ⟨fun pins s σ H Q I h =>
  wpAny_Dict_empty ⟨.ref s.heap.objs.size, _, I.laid (a := s.heap.objs.size) (o := ndO X.w s.heap.objs.size []) (t' := s.toks) (fun _ _ q => Heap.get?_push_of_some _ q) (Nat.le_refl _)
    ⟨⟨[], _, #[], 0, .nil, Heap.get?_push_size _ rfl, ⟨rfl, rfl, rfl⟩, rfl, rfl⟩, ⟨_, Heap.get?_push_size _ rfl⟩, fun h1 h2 p st => by
      obtain ⟨ys, o, es', ep', p1, p2, p3⟩ := p
      exact ⟨ys, o, es', ep', p1, st _ p2, p3⟩⟩, rfl, h _ (I.hok.fresh (Nat.le_refl _)) (beq_eq_false_iff_ne.mpr (Ne.symm (Nat.ne_of_lt I.big)))⟩⟩
theorem pe_nget (hu : X.A.units + 64 < cLine) (ho : PE X o td) (hi : PE X i ty) (hs : NoSl i) : PE X (.Subscript o i pos) (tNGet X.w td ty) := by
  refine ⟨fun pins s σ H Q I h => ?_⟩
  refine subD_of PySem.F.slot_dict_getitem.lookup hs (thn (ho.run pins s σ H _ I h) fun u s1 ⟨x, H1, I1, rx, q1⟩ => thn (hi.run pins s1 σ H1 _ I1 q1) fun iv s2 ⟨y, H2, I2, ry, a, b, v, ex, ey, g, q2⟩ => ?_)
  subst ex ey
  obtain rfl : u = Value.ref a := rx
  obtain rfl : iv = Value.ref b := ry
  have t : s2.TypeIs (.ref a) "dict" := by
    obtain ⟨ks, k, n, _⟩ := g
    obtain ⟨xs, rel, dd⟩ := n.heap I2
    exact dd.typeIs
  exact ⟨t, n_getItem hu I2 g fun w' s3 I3 rw' => ⟨v, H2, I3, rw', q2⟩⟩
theorem pc_nin (hu : X.A.units + 64 < cLine) (hi : PE X i ty) (ho : PE X o td) : PC X .In i o (tNIn X.w ty td) := by
  refine ⟨fun pins s σ H Q I h => ?_⟩
  refine thn (hi.run pins s σ H _ I h) fun iv s1 ⟨y, H1, I1, ry, q1⟩ => thn (ho.run pins s1 σ H1 _ I1 q1) fun u s2 ⟨x, H2, I2, rx, a, b, ov, ex, ey, g, q2⟩ => ?_
  subst ex ey
  obtain rfl : u = Value.ref a := rx
  obtain rfl : iv = Value.ref b := ry
  exact n_in hu I2 g fun s3 I3 => ⟨.bl ov.isSome, H2, I3, rfl, q2⟩
theorem pc_nnotin (hu : X.A.units + 64 < cLine) (hi : PE X i ty) (ho : PE X o td) : PC X .NotIn i o (tNNotIn X.w ty td) := by
  refine ⟨fun pins s σ H Q I h => ?_⟩
  refine thn (hi.run pins s σ H _ I h) fun iv s1 ⟨y, H1, I1, ry, q1⟩ => thn (ho.run pins s1 σ H1 _ I1 q1) fun u s2 ⟨x, H2, I2, rx, a, b, ov, ex, ey, g, q2⟩ => ?_
  subst ex ey
  obtain rfl : u = Value.ref a := rx
  obtain rfl : iv = Value.ref b := ry
  exact n_notIn hu I2 g fun s3 I3 => ⟨.bl (!ov.isSome), H2, I3, rfl, q2⟩
theorem ps_nput (hu : X.A.units + 64 < cLine) (ho : PE X o td) (hi : PE X i ty) (hv : PE X value tv) (hs : swapsWith value (some (.Subscript o i pos')) pos.line X.env = pure false) :
    PS X (.Assign [.Subscript o i pos'] value pos) (sNPut X.w td ty tv) := by
  refine ⟨fun pins s σ H D I h => ?_⟩
  refine wpAny_Assign_Subscript (thn (hv.run pins s σ H _ I h) fun r s1 ⟨v, H1, I1, rv, q1⟩ => thn (ho.run pins s1 σ H1 _ I1 q1) fun u s2 ⟨x, H2, I2, rx, q2⟩ => thn (hi.run pins s2 σ H2 _ I2 q2) fun iv s3 ⟨y, H3, I3, ry, a, b, ks, k, ex, ey, n, nk, dk, q3⟩ => ?_) hs
  subst ex ey
  obtain rfl : u = Value.ref a := rx
  obtain rfl : iv = Value.ref b := ry
  exact n_setItem hu I3 n nk dk rv fun s4 I4 => ⟨σ, _, I4, q3⟩
theorem pe_nget2 (hu : X.A.units + 64 < cLine) (ho : PE X o td) (he : PE X e ty) (hf : PE X f tx) (m : M2 X o "get" apos e f cpos) : PE X (.Call (.Attribute o "get" apos) [e, f] [] cpos) (tNGet2 X.w td ty tx) := by
  refine ⟨fun pins s σ H Q I h => ?_⟩
  refine wpAny_Call_method m.base m.few m.line PySem.F.plainAttrs_dict PySem.F.slot_dict_get PySem.F.type_dict_get (thn (ho.run pins s σ H _ I h) fun u s1 ⟨x, H1, I1, rx, a, ks, ex, n, q1⟩ => ?_)
  subst ex
  obtain rfl : u = Value.ref a := rx
  obtain ⟨xs, rel, dd⟩ := n.heap I1
  refine ⟨dd.typeIs, fun b q => ?_, ?_⟩
  · cases q
    obtain ⟨ob, _, _, h1, h2, _⟩ := dd
    exact ⟨ob, h1, h2.2.1⟩
  rw [m.trees]
  refine Calls.callWith_builtin rfl (Calls.evalArgs_plain (Calls.spliced_cons (thn (he.run pins s1 σ H1 _ I1 q1) fun iv s2 ⟨y, H2, I2, ry, q2⟩ =>
    Calls.spliced_cons (thn (hf.run pins s2 σ H2 _ I2 q2) fun fv s3 ⟨z, H3, I3, rz, b, ov, ey, g, q3⟩ => Calls.spliced_nil ?_))))
  subst ey
  obtain rfl : iv = Value.ref b := ry
  exact n_get2 hu I3 g rz fun w' s4 I4 rw' => ⟨_, H3, I4, rw', q3⟩
end
end Mus

set_option maxRecDepth 100000
set_option maxHeartbeats 4000000
/-! sorted(d) and d.get(k, x) of a dict whose keys are nested tuples. -/
namespace PySem.W
open PySem PySem.Calls PyProof.Rows
theorem mus_raw {prog : Program} {w : World} {d : Addr} {es : Array DictEntry} {ep : Nat} (lo : (d == sysModules) = false) : KdlSrc prog w "dict" d d es.size (fun i v => ∃ hi : i < es.size, v = es[i].key) (fun h => h.DictRaw d es ep) where
  type := fun _ hm => hm.typeIs
  there := fun _ hm => ⟨let ⟨_, ho, _⟩ := hm; Heap.lt_size ho, let ⟨_, ho, _⟩ := hm; Heap.lt_size ho⟩
  keep := fun _ _ hm hk => hm.at fun o e => hk d (.inl rfl) o e
  notList := by decide
  notTuple := by decide
  hint := fun _ _ _ _ hm hq => kdl_hint_dict hm.typeIs hq
  iter := fun _ _ hh hm => ⟨_, _, (fun _ _ hq => wpAny_pyIter_dict_raw lo hm hq), Walks.rawKeys hh _ d (Nat.ne_of_lt (let ⟨_, ho, _⟩ := hm; Heap.lt_size ho)) es ep, ⟨⟨_, Heap.get?_push_size _ rfl, rfl, rfl⟩, hm.at fun _ e => Heap.get?_push_of_some _ e⟩⟩
end PySem.W
namespace Mus
open PySem PySem.Spec PyProof.Rows L2
def rSortedN (K : PySem.W.Frag) (w : World) : List V → Hp → VK → Prop := fun vs H Q => ∃ (a : Addr) (kvs : NKV) (ds : List PyData), vs = [V.ref a] ∧ Nd w H a kvs ∧ DpAll K H (kvs.map fun x => V.ref x.2.1) ds ∧ PySem.W.AllAlike ds ∧ PySem.W.Sortable ds ∧ (∀ d ∈ ds, d.depth ≤ 20) ∧
  ∀ (ps : List (V × PyData)) p, ps = ((kvs.map fun x => V.ref x.2.1).zip ds).mergeSort (PySem.W.dataLe false (·.2)) → H p = none → Q (.ref p) (upd H p (.lst (ps.map (·.1))))
theorem vals_refs : ∀ kvs : NKV, Vals (kvs.map fun x => V.ref x.2.1) (kvs.map fun x => Value.ref x.2.1)
  | [] => .nil
  | x :: r => .cons rfl (vals_refs r)
theorem KN.ref {ks : NKV} {xs : List (NestedKey × Addr × Value)} (r : KN ks xs) : xs.map (fun x => Value.ref x.2.1) = ks.map fun x => Value.ref x.2.1 := by
  induction r with
  | nil => rfl
  | cons h t ih => rw [List.map_cons, List.map_cons, ih, h.2.1]
section
variable {X : Cx}
theorem cr_sortedN (hc : X.calm = true) (hu : X.A.units + 64 < cLine) : CallR X (.builtin "sorted") (rSortedN X.K X.w) := by
  intro pins s σ H vs us Q I r h
  obtain ⟨a, kvs, ds, rfl, n, hd, hal, hk, hdep, q⟩ := h
  obtain ⟨u, rfl, ru⟩ := vals1 r
  obtain rfl : u = Value.ref a := ru
  obtain ⟨xs, rel, dd⟩ := n.heap I
  obtain ⟨es, ep, raw, hs, hx⟩ := dd.raw
  have hl : es.size = kvs.length := by rw [hs, Paired.length rel]
  have h16 : es.size ≤ sizeLine := by rw [hl]; exact n.sz
  refine Calls.call_function_entry PyProof.Rows.kind_sorted PyProof.Rows.plain_sorted PyProof.Rows.entry_sorted (PyProof.Rows.args_sorted1 _) ?_
  unfold Builtin.«sorted»
  refine wpAny_bind (m := checkCount "sorted" 1 1 _) (wpAny_pure ?_)
  refine wpAny_bind (PySem.W.kdu_collect (A := X.A.in1) (PySem.W.mus_raw n.sm) (I.ok.hd hc) raw h16 fun h' tk acc hk' hacc => ?_)
  have e1 : acc.toList = kvs.map fun x => Value.ref x.2.1 := by
    rw [← rel.ref]
    refine List.ext_getElem? fun j => ?_
    rw [List.getElem?_map]
    cases e : acc.toList[j]? with
    | none =>
      have : acc.toList.length ≤ j := List.getElem?_eq_none_iff.mp e
      rw [Array.length_toList, hacc.1, hs] at this
      rw [List.getElem?_eq_none this]; rfl
    | some v =>
      obtain ⟨hi, rfl⟩ := hacc.2 j v (by rw [← Array.getElem?_toList]; exact e)
      obtain ⟨y, hy, ey, _⟩ := hx j hi
      rw [hy, ey]; rfl
  have rv : Vals (kvs.map fun x => V.ref x.2.1) acc.toList := by rw [e1]; exact vals_refs kvs
  have I1 : Inv X pins σ H { s with heap := h', toks := tk } := I.kept hk'
  have ll := dpAll_len hd
  have lz : ((kvs.map fun x => V.ref x.2.1).zip ds).length = ds.length := by rw [List.length_zip, ll, Nat.min_self]
  have em : ((kvs.map fun x => V.ref x.2.1).zip ds).map (·.2) = ds := List.map_snd_zip (by omega)
  have la : acc.toList.length = ds.length := by rw [← rv.length]; exact ll
  have hL : acc.toList.length ≤ sizeLine := by rw [Array.length_toList, hacc.1]; exact h16
  obtain ⟨as, ra⟩ := Dp.readsAll I1 ds _ _ hd rv
  refine wpAny_bind (wpAny_newList ?_ hL)
  have hoL : (h'.push (seqObj "list" acc.toList.toArray 0)).get? h'.objs.size = some (seqObj "list" acc.toList.toArray 0) := Heap.get?_push_size _ rfl
  show wpAny _ _ _ _ _ { s with heap := h'.push (seqObj "list" acc.toList.toArray 0), toks := tk }
  have old : ∀ b o, h'.get? b = some o → (PySem.W.sortingHeap (h'.push (seqObj "list" acc.toList.toArray 0)) h'.objs.size acc.toList).get? b = some o := fun b o e => PySem.W.sortingHeap_old (Nat.ne_of_lt (Heap.lt_size e)) (Heap.get?_push_of_some _ e)
  have er : PySem.W.EachIs (fun v (b : V × PyData) => ∃ as, Reads (PySem.W.sortingHeap (h'.push (seqObj "list" acc.toList.toArray 0)) h'.objs.size acc.toList) v b.2 as) acc.toList ((kvs.map fun x => V.ref x.2.1).zip ds) :=
    (each_reads ll ra rv.length.symm).mono fun _ _ ⟨as, r⟩ => ⟨as, PyProof.Rows.Reads.keeps old r⟩
  have hu' : ∀ b ∈ (kvs.map fun x => V.ref x.2.1).zip ds, X.A.in1.in1.units + b.2.depth < cLine := fun b hb => by
    have := hdep b.2 (by rw [← em]; exact List.mem_map.mpr ⟨b, hb, rfl⟩)
    have e : X.A.in1.in1.units = X.A.units + 2 := rfl
    omega
  have S := PySem.W.SortsAt.data (prog := X.prog) (w := X.w) (A := X.A.in1.in1) (s := { s with heap := PySem.W.sortingHeap (h'.push (seqObj "list" acc.toList.toArray 0)) h'.objs.size acc.toList, toks := tk }) (PySem.W.each_map (R := fun v d => ∃ as, Reads _ v d as) (fun b : V × PyData => b.2) er) (by rw [em]; exact hal) (by rw [em]; exact hk) (PySem.W.bound_map hu')
  have he := PySem.W.sortVals_data false (each_zip (h := h') rv ll) er (by rw [em]; exact hal)
  refine wpAny_bind (wpAny_holding (wpAny_call_entry PyProof.Rows.slot_list_sort ⟨_, hoL, rfl⟩ PyProof.Rows.entry_list_sort
    (PySem.W.list_sort_vals (s := { s with heap := h'.push (seqObj "list" acc.toList.toArray 0), toks := tk }) hoL S hL ⟨_, rfl, ?_⟩) (PyProof.Rows.args_list_sort _)))
  generalize PySem.W.sortVals _ false acc.toList acc.toList = out at he ⊢
  obtain ⟨e', he'⟩ := PyProof.Rows.sortedHeap_at (vs := acc.toList) (out := out.toArray) hoL
  refine wpAny_pure ⟨_, rfl, .ref h'.objs.size, upd H h'.objs.size (.lst ((((kvs.map fun x => V.ref x.2.1).zip ds).mergeSort (PySem.W.dataLe false (·.2))).map (·.1))), I1.laid (t' := tk) (fun b u e => ?_) (Nat.le_refl _)
    (show ObjOk X.prog X.w _ _ _ (.lst _) from ⟨?_, out, e', vals_of_each he, he'⟩), rfl, q _ _ rfl (I1.hok.fresh (Nat.le_refl _))⟩
  · have hb : b < h'.objs.size := Heap.lt_size e
    rw [PyProof.Rows.sortedHeap_old (Nat.ne_of_lt hb) (by rw [size_push']; exact Nat.lt_succ_of_lt hb)]
    exact Heap.get?_push_of_some _ e
  · rw [List.length_map, List.length_mergeSort, lz, ← la]; exact hL
end
end Mus

set_option maxRecDepth 100000
set_option maxHeartbeats 4000000
/-! View ids as data and as keys; their order; lists sorted by them. -/
namespace Mus
open PySem PySem.Spec PyProof.Rows L2
def vKey (k i l : Int) : NestedKey := .tup [.num k, .tup [.num i, .num l]]
def vD (k i l : Int) : PyData := .tuple [.int k, .tuple [.int i, .int l]]
mutual
def kD : NestedKey → PyData
  | .none => .none
  | .num i => .int i
  | .text x => .str x
  | .tup ks => .tuple (kDs ks)
def kDs : List NestedKey → List PyData
  | [] => []
  | k :: ks => kD k :: kDs ks
end
theorem kD_v (k i l : Int) : kD (vKey k i l) = vD k i l := rfl
theorem vKey_depth (k i l : Int) : (vKey k i l).depth ≤ 8 := by simp [vKey, NestedKey.depth, NestedKey.depthAll]
theorem vKey_inj {k i l k' i' l' : Int} (h : vKey k i l = vKey k' i' l') : k = k' ∧ i = i' ∧ l = l' := by
  injection h with h
  injection h with h1 h2
  injection h1 with h1
  injection h2 with h2 _
  injection h2 with h2
  injection h2 with h2 h3
  injection h2 with h2
  injection h3 with h3 _
  injection h3 with h3
  exact ⟨h1, h2, h3⟩
theorem nk_vid {p : Addr} {H : Hp} {a : Addr} {k i l : Int} (h : Rp p H (.ref a) (vD k i l)) : NK H (.ref a) (vKey k i l) := by
  obtain _ | _ | _ | _ | _ | @⟨_, xs, _, ha, _, _, hr⟩ := h
  obtain _ | ⟨h1, _ | ⟨h2, hn⟩⟩ := hr
  cases hn
  cases h1
  obtain _ | _ | _ | _ | _ | @⟨b, ys, _, hb, _, _, hr2⟩ := h2
  obtain _ | ⟨h3, _ | ⟨h4, hn⟩⟩ := hr2
  cases hn
  cases h3
  cases h4
  exact .tup ha (.cons (.int _) (.cons (.tup hb (.cons (.int _) (.cons (.int _) .nil))) .nil))
theorem v_alike (k i l k' i' l' : Int) : PySem.W.alike (vD k i l) (vD k' i' l') = true := rfl
theorem v_depth (k i l : Int) : (vD k i l).depth ≤ 20 := by simp [vD, PyData.depth, PyData.depthAll]
/-- the order of view ids -/
def vLt (k i l k' i' l' : Int) : Bool := decide (k < k' ∨ k = k' ∧ (i < i' ∨ i = i' ∧ l < l'))
theorem v_lt (k i l k' i' l' : Int) : PySem.W.dataLt (vD k i l) (vD k' i' l') = vLt k i l k' i' l' := by
  unfold vD vLt
  rw [PySem.W.dataLt_pair rfl rfl, PySem.W.dataLt_ii, PySem.W.dataLt_int]
  have e1 : PyData.eqv (.int k) (.int k') = decide (k = k') := rfl
  have e2 : PyData.eqv (.tuple [.int i, .int l]) (.tuple [.int i', .int l']) = (decide (i = i') && decide (l = l')) := by
    show (decide (i = i') && (decide (l = l') && true)) = _
    rw [Bool.and_true]
  rw [e1, e2]
  by_cases h1 : k = k'
  · subst h1
    by_cases h2 : i = i'
    · subst h2
      by_cases h3 : l = l'
      · subst h3; simp
      · simp [h3]
    · simp [h2]
  · simp [h1]
theorem valN_mem {ks : NKV} {x : NestedKey × Addr × V} (h : (ks.map (·.1)).Nodup) (hx : x ∈ ks) : valN ks x.1 = some x.2.2 := by
  induction ks with
  | nil => cases hx
  | cons y ys ih =>
    rw [List.map_cons, List.nodup_cons] at h
    unfold valN
    rw [List.find?_cons]
    rcases List.mem_cons.mp hx with rfl | hx
    · simp
    · have ne : ¬ y.1 = x.1 := fun e => h.1 (by rw [e]; exact List.mem_map.mpr ⟨x, hx, rfl⟩)
      rw [decide_eq_false ne]
      exact ih h.2 hx
theorem putN_all {ks : NKV} {k : NestedKey} {b : Addr} {v : V} {A : NestedKey → Addr → Prop} {B : V → Prop} (h : ∀ x ∈ ks, A x.1 x.2.1 ∧ B x.2.2) (hk : A k b) (hv : B v) : ∀ x ∈ putN ks k b v, A x.1 x.2.1 ∧ B x.2.2 := by
  intro x hx
  unfold putN at hx
  split at hx
  · obtain ⟨y, hy, rfl⟩ := List.mem_map.mp hx
    split
    · exact ⟨(h y hy).1, hv⟩
    · exact h y hy
  · rcases List.mem_append.mp hx with hx | hx
    · exact h x hx
    · rw [List.mem_singleton.mp hx]; exact ⟨hk, hv⟩
/-- the entries, sorted by their keys -/
theorem sort_split {kvs : NKV} {ps : List (V × PyData)} (e : ps = ((kvs.map fun x => V.ref x.2.1).zip (kvs.map fun x => kD x.1)).mergeSort (PySem.W.dataLe false (·.2))) :
    ∃ ys : NKV, ys.Perm kvs ∧ ps.map (·.1) = ys.map (fun x => V.ref x.2.1) ∧ ys = kvs.mergeSort fun a b => !(PySem.W.dataLt (kD b.1) (kD a.1)) := by
  refine ⟨_, List.mergeSort_perm _ _, ?_, rfl⟩
  have z : (kvs.map fun x => V.ref x.2.1).zip (kvs.map fun x => kD x.1) = kvs.map fun x => (V.ref x.2.1, kD x.1) := List.zip_map' ..
  rw [e, z, ← List.map_mergeSort (r := fun a b => !(PySem.W.dataLt (kD b.1) (kD a.1))) (fun _ _ _ _ => rfl), List.map_map]
  rfl
theorem v_sorted {kvs : NKV} (h : ∀ x ∈ kvs, ∃ k i l, x.1 = vKey k i l) (n : (kvs.map (·.1)).Nodup) : (kvs.mergeSort fun a b => !(PySem.W.dataLt (kD b.1) (kD a.1))).Pairwise fun a b => PySem.W.dataLt (kD a.1) (kD b.1) = true := by
  have P : (kvs.mergeSort fun a b => !(PySem.W.dataLt (kD b.1) (kD a.1))).Perm kvs := List.mergeSort_perm _ _
  have S : (kvs.mergeSort fun a b => !(PySem.W.dataLt (kD b.1) (kD a.1))).Pairwise fun a b => (!(PySem.W.dataLt (kD b.1) (kD a.1))) = true := by
    refine List.pairwise_mergeSort (fun a b c h1 h2 => ?_) (fun a b => ?_) _
    · simp only [Bool.not_eq_true'] at h1 h2 ⊢
      cases e : PySem.W.dataLt (kD c.1) (kD a.1) with
      | false => rfl
      | true =>
        by_cases h3 : PySem.W.dataLt (kD b.1) (kD c.1) = true
        · have := PyProof.Rows.lex_trans _ _ _ h3 e
          rw [show PyProof.Rows.lexLt PyProof.Rows.itemOrd _ _ = PySem.W.dataLt (kD b.1) (kD a.1) from rfl, h1] at this
          cases this
        · have h3 : PySem.W.dataLt (kD b.1) (kD c.1) = false := by simpa using h3
          have e2 := PyProof.Rows.lex_total _ _ h2 h3
          have : PySem.W.dataLt (kD c.1) (kD a.1) = PySem.W.dataLt (kD b.1) (kD a.1) := by unfold PySem.W.dataLt; rw [e2]
          rw [this, h1] at e; cases e
    · cases e : PySem.W.dataLt (kD b.1) (kD a.1) with
      | false => rfl
      | true =>
        cases e2 : PySem.W.dataLt (kD a.1) (kD b.1) with
        | false => rfl
        | true =>
          have := PyProof.Rows.lex_trans _ _ _ e e2
          rw [PyProof.Rows.lex_irrefl] at this
          cases this
  have N : (kvs.mergeSort fun a b => !(PySem.W.dataLt (kD b.1) (kD a.1))).Pairwise fun a b => a.1 ≠ b.1 := by
    have : ((kvs.mergeSort fun a b => !(PySem.W.dataLt (kD b.1) (kD a.1))).map (·.1)).Nodup := (P.map _).nodup_iff.mpr n
    exact List.pairwise_map.mp this
  refine (S.and N).imp_of_mem fun {a b} ha hb ⟨h1, h2⟩ => ?_
  obtain ⟨k, i, l, ea⟩ := h a (P.mem_iff.mp ha)
  obtain ⟨k', i', l', eb⟩ := h b (P.mem_iff.mp hb)
  rw [ea, eb] at h1 h2 ⊢
  rw [kD_v, kD_v, v_lt] at h1 ⊢
  unfold vLt at h1 ⊢
  have ne : ¬ (k = k' ∧ i = i' ∧ l = l') := fun ⟨e1, e2, e3⟩ => h2 (by rw [e1, e2, e3])
  simp only [Bool.not_eq_true', decide_eq_false_iff_not, decide_eq_true_eq] at h1 ⊢
  omega
end Mus

set_option maxRecDepth 100000
set_option maxHeartbeats 4000000
/-! in, not in: data in a list or a tuple of data. -/
namespace Mus
open PySem PySem.Spec PyProof.Rows L2
def rInDD (K : PySem.W.Frag) (f : Bool → Bool) : R2 := fun x y H Q => ∃ d ds, Dp K H x d ∧ (Dp K H y (.list ds) ∨ Dp K H y (.tuple ds)) ∧ d.canLay0 = true ∧ PyData.canLayAll0 ds = true ∧ d.depth ≤ 20 ∧ Q (.bl (f (ds.any fun z => PyData.eqv z d))) H
section
variable {X : Cx}
theorem op_inDD (hu : X.A.units + 64 < cLine) : OpR X (compareOp .In) (rInDD X.K id) := by
  intro pins s σ H x y v u Q I rx ry h
  obtain ⟨d, ds, hd, hs, cd, cs, dp, q⟩ := h
  obtain ⟨as, r1⟩ := Dp.reads I d x v hd rx
  have hr : X.A.units + 1 + min (PyData.depthAll ds) d.depth < cLine := by
    have : min (PyData.depthAll ds) d.depth ≤ d.depth := Nat.min_le_right _ _
    omega
  rcases hs with hs | hs
  · obtain ⟨bs, r2⟩ := Dp.reads I _ y u hs ry
    exact SeqAt.in_list_reads r2 r1 cs cd hr ⟨.bl _, H, I, rfl, q⟩
  · obtain ⟨bs, r2⟩ := Dp.reads I _ y u hs ry
    exact SeqAt.in_tuple_reads r2 r1 cs cd hr ⟨.bl _, H, I, rfl, q⟩
theorem op_notInDD (hu : X.A.units + 64 < cLine) : OpR X (compareOp .NotIn) (rInDD X.K not) := by
  intro pins s σ H x y v u Q I rx ry h
  obtain ⟨d, ds, hd, hs, cd, cs, dp, q⟩ := h
  obtain ⟨as, r1⟩ := Dp.reads I d x v hd rx
  have hr : X.A.units + 1 + min (PyData.depthAll ds) d.depth < cLine := by
    have : min (PyData.depthAll ds) d.depth ≤ d.depth := Nat.min_le_right _ _
    omega
  rcases hs with hs | hs
  · obtain ⟨bs, r2⟩ := Dp.reads I _ y u hs ry
    exact SeqAt.notIn_list_reads r2 r1 cs cd hr ⟨.bl _, H, I, rfl, q⟩
  · obtain ⟨bs, r2⟩ := Dp.reads I _ y u hs ry
    exact SeqAt.notIn_tuple_reads r2 r1 cs cd hr ⟨.bl _, H, I, rfl, q⟩
end
end Mus

set_option maxRecDepth 100000
set_option maxHeartbeats 4000000
/-! Data without lists, wherever it stands; frames: what a call may have changed. -/
namespace Mus
open PySem PySem.Spec PyProof.Rows L2
mutual
inductive TD (H : Hp) : V → PyData → Prop
  | non : TD H .non .none
  | bl (b : Bool) : TD H (.bl b) (.bool b)
  | int (i : Int) : TD H (.int i) (.int i)
  | str (x : Str) : TD H (.str x) (.str x)
  | tup {a : Addr} {xs : List V} {ds : List PyData} : H a = some (.tup xs) → xs.length ≤ 100000 → TDs H xs ds → TD H (.ref a) (.tuple ds)
inductive TDs (H : Hp) : List V → List PyData → Prop
  | nil : TDs H [] []
  | cons {v : V} {vs : List V} {d : PyData} {ds : List PyData} : TD H v d → TDs H vs ds → TDs H (v :: vs) (d :: ds)
end
/-- tuples stay -/
def TupK (H H' : Hp) : Prop := ∀ b xs, H b = some (.tup xs) → H' b = some (.tup xs)
theorem TupK.refl (H : Hp) : TupK H H := fun _ _ h => h
theorem TupK.trans {H H1 H2 : Hp} (a : TupK H H1) (b : TupK H1 H2) : TupK H H2 := fun c xs h => b c xs (a c xs h)
theorem TupK.of {H H' : Hp} (s : Same H H') : TupK H H' := fun b xs h => s b _ h
theorem tupK_upd {H : Hp} {D : Addr} {o : HO} (h : ∀ xs, H D ≠ some (.tup xs)) : TupK H (upd H D o) := fun b xs e => by
  rw [upd_ne fun z => h xs (by rw [← z]; exact e)]; exact e
mutual
theorem TD.mono {H H' : Hp} (k : TupK H H') : ∀ {v : V} {d : PyData}, TD H v d → TD H' v d
  | _, _, .non => .non
  | _, _, .bl b => .bl b
  | _, _, .int i => .int i
  | _, _, .str x => .str x
  | _, _, .tup h l r => .tup (k _ _ h) l (r.mono k)
theorem TDs.mono {H H' : Hp} (k : TupK H H') : ∀ {vs : List V} {ds : List PyData}, TDs H vs ds → TDs H' vs ds
  | _, _, .nil => .nil
  | _, _, .cons a r => .cons (a.mono k) (r.mono k)
end
theorem TD.same {H H' : Hp} {v : V} {d : PyData} (h : TD H v d) (s : Same H H') : TD H' v d := h.mono (TupK.of s)
theorem TDs.same {H H' : Hp} {vs : List V} {ds : List PyData} (h : TDs H vs ds) (s : Same H H') : TDs H' vs ds := h.mono (TupK.of s)
mutual
theorem TD.dp {K : PySem.W.Frag} {H : Hp} : ∀ {v : V} {d : PyData}, TD H v d → Dp K H v d
  | _, _, .non => .non
  | _, _, .bl b => .bl b
  | _, _, .int i => .int i
  | _, _, .str x => .str x
  | _, _, .tup h _ r => .tup (SqT.of h) r.dp
theorem TDs.dp {K : PySem.W.Frag} {H : Hp} : ∀ {vs : List V} {ds : List PyData}, TDs H vs ds → DpAll K H vs ds
  | _, _, .nil => .nil
  | _, _, .cons a r => .cons a.dp r.dp
end
mutual
/-- none of it at p, where no tuple stands -/
theorem TD.rp {p : Addr} {H : Hp} (hp : ∀ xs, H p ≠ some (.tup xs)) : ∀ {v : V} {d : PyData}, TD H v d → Rp p H v d
  | _, _, .non => .non
  | _, _, .bl b => .bl b
  | _, _, .int i => .int i
  | _, _, .str x => .str x
  | _, _, .tup h l r => .tup h (fun z => hp _ (z ▸ h)) l (r.rp hp)
theorem TDs.rp {p : Addr} {H : Hp} (hp : ∀ xs, H p ≠ some (.tup xs)) : ∀ {vs : List V} {ds : List PyData}, TDs H vs ds → Rps p H vs ds
  | _, _, .nil => .nil
  | _, _, .cons a r => .cons (a.rp hp) (r.rp hp)
end
theorem TDs.length {H : Hp} : ∀ {vs : List V} {ds : List PyData}, TDs H vs ds → vs.length = ds.length
  | _, _, .nil => rfl
  | _, _, .cons _ r => congrArg (· + 1) r.length
theorem TDs.append {H : Hp} : ∀ {vs : List V} {ds : List PyData} {us : List V} {es : List PyData}, TDs H vs ds → TDs H us es → TDs H (vs ++ us) (ds ++ es)
  | _, _, _, _, .nil, r => r
  | _, _, _, _, .cons a b, r => .cons a (b.append r)
theorem TDs.at {H : Hp} : ∀ {vs : List V} {ds : List PyData} {i : Nat} {y : V}, TDs H vs ds → vs[i]? = some y → ∃ d, ds[i]? = some d ∧ TD H y d
  | _, _, _, _, .nil, h => by cases h
  | _, _, 0, _, .cons a b, h => by cases h; exact ⟨_, rfl, a⟩
  | _, _, i + 1, _, .cons a b, h => b.at (i := i) h
theorem TDs.get {H : Hp} : ∀ {vs : List V} {ds : List PyData} {i : Nat} {d : PyData}, TDs H vs ds → ds[i]? = some d → ∃ y, vs[i]? = some y ∧ TD H y d
  | _, _, _, _, .nil, h => by cases h
  | _, _, 0, _, .cons a b, h => by cases h; exact ⟨_, rfl, a⟩
  | _, _, i + 1, _, .cons a b, h => b.get (i := i) h
theorem TDs.take {H : Hp} : ∀ {vs : List V} {ds : List PyData} (n : Nat), TDs H vs ds → TDs H (vs.take n) (ds.take n)
  | _, _, 0, _ => .nil
  | _, _, n + 1, .nil => .nil
  | _, _, n + 1, .cons a q => .cons a (q.take n)
theorem TDs.drop {H : Hp} : ∀ {vs : List V} {ds : List PyData} (n : Nat), TDs H vs ds → TDs H (vs.drop n) (ds.drop n)
  | _, _, 0, r => r
  | _, _, n + 1, .nil => .nil
  | _, _, n + 1, .cons a q => q.drop n
theorem TDs.cut {H : Hp} {vs : List V} {ds : List PyData} (r : TDs H vs ds) (lo hi : Option Int) : TDs H (cutV vs lo hi) (cutD ds lo hi) := by
  unfold cutV cutD
  rw [r.length]
  exact (r.drop _).take _
/-! ### frames -/
/-- of what stood in H all but what is at fp is as it was; fp' is of fp or new; tuples stay -/
structure Fr (fp fp' : List Addr) (H H' : Hp) : Prop where
  k : ∀ b o, H b = some o → b ∉ fp → H' b = some o
  n : ∀ b ∈ fp', b ∈ fp ∨ H b = none
  t : TupK H H'
  s : ∀ b, H' b = none → H b = none
theorem Fr.refl (fp : List Addr) (H : Hp) : Fr fp fp H H := ⟨fun _ _ h _ => h, fun _ h => .inl h, TupK.refl H, fun _ h => h⟩
theorem Fr.of {fp : List Addr} {H H' : Hp} (s : Same H H') : Fr fp fp H H' := ⟨fun b o h _ => s b o h, fun _ h => .inl h, TupK.of s, fun b h => by
  cases e : H b with
  | none => rfl
  | some o => rw [s b o e] at h; cases h⟩
theorem Fr.trans {fp fp1 fp2 : List Addr} {H H1 H2 : Hp} (a : Fr fp fp1 H H1) (b : Fr fp1 fp2 H1 H2) : Fr fp fp2 H H2 := by
  refine ⟨fun c o h n => b.k c o (a.k c o h n) fun m => ?_, fun c m => ?_, a.t.trans b.t, fun c h => a.s c (b.s c h)⟩
  · rcases a.n c m with z | z
    · exact n z
    · rw [h] at z; cases z
  · rcases b.n c m with z | z
    · exact a.n c z
    · by_cases q : c ∈ fp
      · exact .inl q
      · cases e : H c with
        | none => exact .inr rfl
        | some o => rw [a.k c o e q] at z; cases z
theorem Fr.same {fp : List Addr} {H H' : Hp} (f : Fr [] fp H H') : Same H H' := fun b o h => f.k b o h List.not_mem_nil
theorem fr_upd {fp : List Addr} {H : Hp} {p : Addr} {o0 o : HO} (hp : p ∈ fp) (ho : H p = some o0) (nt : ∀ xs, o0 ≠ .tup xs) : Fr fp fp H (upd H p o) :=
  ⟨fun b u e n => by rw [upd_ne (show b ≠ p from fun z => n (by rw [z]; exact hp))]; exact e, fun _ h => .inl h, tupK_upd fun xs e => nt xs (Option.some.inj (ho.symm.trans e)), fun b h => by
    by_cases z : b = p
    · rw [z, upd_same] at h; cases h
    · rwa [upd_ne z] at h⟩
theorem fr_new {fp : List Addr} {H : Hp} {p : Addr} {o : HO} (ho : H p = none) : Fr fp (p :: fp) H (upd H p o) :=
  ⟨fun b u e n => by rw [upd_ne (ne_of_none e ho)]; exact e, fun b h => by
    rcases List.mem_cons.mp h with rfl | h
    · exact .inr ho
    · exact .inl h, tupK_upd fun xs e => (by rw [ho] at e; cases e), fun b h => by
    by_cases z : b = p
    · rw [z, upd_same] at h; cases h
    · rwa [upd_ne z] at h⟩
theorem Fr.sub {fp fp1 fp2 : List Addr} {H H' : Hp} (f : Fr fp fp1 H H') (h : ∀ b ∈ fp2, b ∈ fp1) : Fr fp fp2 H H' := ⟨f.k, fun b m => f.n b (h b m), f.t, f.s⟩
theorem Fr.wide {fp fp0 fp1 : List Addr} {H H' : Hp} (f : Fr fp fp1 H H') (h : ∀ b ∈ fp, b ∈ fp0) : Fr fp0 (fp0 ++ fp1) H H' :=
  ⟨fun b o e n => f.k b o e fun m => n (h b m), fun b m => by
    rcases List.mem_append.mp m with m | m
    · exact .inl m
    · exact (f.n b m).imp (h b) id, f.t, f.s⟩
/-! ### members, ids, messages -/
abbrev Mem := Int × Int
abbrev Vid := Int × Mem
abbrev Msg := Mem × Int × Str
abbrev Cst := Int × Str
def eM (m : Mem) : PyData := .tuple [.int m.1, .int m.2]
def eV (v : Vid) : PyData := .tuple [.int v.1, eM v.2]
def eG (g : Msg) : PyData := .tuple [eM g.1, .int g.2.1, .str g.2.2]
def eC (c : Cst) : PyData := .tuple [.int c.1, .str c.2]
def eMs (ms : List Mem) : PyData := .tuple (ms.map eM)
def kM (m : Mem) : NestedKey := .tup [.num m.1, .num m.2]
theorem kM_inj {a b : Mem} (h : kM a = kM b) : a = b := by
  injection h with h
  injection h with h1 h2
  injection h1 with h1
  injection h2 with h2 _
  injection h2 with h2
  exact Prod.ext h1 h2
theorem kM_depth (m : Mem) : (kM m).depth ≤ 8 := by simp [kM, NestedKey.depth, NestedKey.depthAll]
theorem TD.mem {H : Hp} {v : V} {m : Mem} (h : TD H v (eM m)) : ∃ a, v = .ref a ∧ H a = some (.tup [.int m.1, .int m.2]) := by
  cases h with
  | tup h _ r =>
    obtain _ | ⟨h1, _ | ⟨h2, hn⟩⟩ := r
    cases hn; cases h1; cases h2
    exact ⟨_, rfl, h⟩
theorem TD.vid {H : Hp} {v : V} {m : Vid} (h : TD H v (eV m)) : ∃ a u, v = .ref a ∧ H a = some (.tup [.int m.1, u]) ∧ TD H u (eM m.2) := by
  cases h with
  | tup h _ r =>
    obtain _ | ⟨h1, _ | ⟨h2, hn⟩⟩ := r
    cases hn; cases h1
    exact ⟨_, _, rfl, h, h2⟩
theorem TD.msg {H : Hp} {v : V} {g : Msg} (h : TD H v (eG g)) : ∃ a u, v = .ref a ∧ H a = some (.tup [u, .int g.2.1, .str g.2.2]) ∧ TD H u (eM g.1) := by
  cases h with
  | tup h _ r =>
    obtain _ | ⟨h1, _ | ⟨h2, _ | ⟨h3, hn⟩⟩⟩ := r
    cases hn; cases h2; cases h3
    exact ⟨_, _, rfl, h, h1⟩
theorem TD.cst {H : Hp} {v : V} {c : Cst} (h : TD H v (eC c)) : ∃ a, v = .ref a ∧ H a = some (.tup [.int c.1, .str c.2]) := by
  cases h with
  | tup h _ r =>
    obtain _ | ⟨h1, _ | ⟨h2, hn⟩⟩ := r
    cases hn; cases h1; cases h2
    exact ⟨_, rfl, h⟩
theorem td_mem {H : Hp} {a : Addr} {m : Mem} (h : H a = some (.tup [.int m.1, .int m.2])) : TD H (.ref a) (eM m) := .tup h (by show 2 ≤ 100000; decide) (.cons (.int _) (.cons (.int _) .nil))
theorem td_msg {H : Hp} {a : Addr} {u : V} {g : Msg} (h : H a = some (.tup [u, .int g.2.1, .str g.2.2])) (hu : TD H u (eM g.1)) : TD H (.ref a) (eG g) := .tup h (by show 3 ≤ 100000; decide) (.cons hu (.cons (.int _) (.cons (.str _) .nil)))
theorem td_cst {H : Hp} {a : Addr} {c : Cst} (h : H a = some (.tup [.int c.1, .str c.2])) : TD H (.ref a) (eC c) := .tup h (by show 2 ≤ 100000; decide) (.cons (.int _) (.cons (.str _) .nil))
theorem TD.nk {H : Hp} {v : V} {m : Mem} (h : TD H v (eM m)) : ∃ a, v = .ref a ∧ NK H (.ref a) (kM m) := by
  obtain ⟨a, rfl, h2⟩ := h.mem
  exact ⟨a, rfl, .tup h2 (.cons (.int _) (.cons (.int _) .nil))⟩
theorem eM_eqv (a b : Mem) : PyData.eqv (eM a) (eM b) = decide (a = b) := by
  show (decide (a.1 = b.1) && (decide (a.2 = b.2) && true)) = _
  rw [Bool.and_true, ← Bool.decide_and]
  exact decide_eq_decide.mpr ⟨fun h => Prod.ext h.1 h.2, fun h => by rw [h]; exact ⟨rfl, rfl⟩⟩
theorem eV_eqv (a b : Vid) : PyData.eqv (eV a) (eV b) = decide (a = b) := by
  show (decide (a.1 = b.1) && (PyData.eqv (eM a.2) (eM b.2) && true)) = _
  rw [Bool.and_true, eM_eqv, ← Bool.decide_and]
  exact decide_eq_decide.mpr ⟨fun h => Prod.ext h.1 h.2, fun h => by rw [h]; exact ⟨rfl, rfl⟩⟩
theorem eM_lay (m : Mem) : (eM m).canLay0 = true ∧ (eM m).depth = 1 ∧ SeqAt.shaped (eM m) = true := by
  refine ⟨rfl, by simp [eM, PyData.depth, PyData.depthAll], ?_⟩
  simp [eM, SeqAt.shaped, PyData.canLay0, PyData.canLayAll0, PyData.depth, PyData.depthAll]
theorem eV_lay (v : Vid) : (eV v).canLay0 = true ∧ (eV v).depth = 2 ∧ SeqAt.shaped (eV v) = true := by
  refine ⟨rfl, by simp [eV, eM, PyData.depth, PyData.depthAll], ?_⟩
  simp [eV, eM, SeqAt.shaped, PyData.canLay0, PyData.canLayAll0, PyData.depth, PyData.depthAll]
theorem eMs_lay : ∀ ms : List Mem, PyData.canLayAll0 (ms.map eM) = true
  | [] => rfl
  | m :: ms => by show ((eM m).canLay0 && PyData.canLayAll0 (ms.map eM)) = true; rw [(eM_lay m).1, eMs_lay ms]; rfl
theorem eMs_any (ms : List Mem) (m : Mem) : ((ms.map eM).any fun z => PyData.eqv z (eM m)) = decide (m ∈ ms) := by
  rw [List.any_map, Bool.eq_iff_iff, List.any_eq_true, decide_eq_true_eq]
  constructor
  · rintro ⟨x, hx, h⟩
    have h : decide (x = m) = true := by rw [← eM_eqv]; exact h
    rw [← of_decide_eq_true h]; exact hx
  · intro h
    exact ⟨m, h, by show PyData.eqv (eM m) (eM m) = true; rw [eM_eqv]; simp⟩
section
variable {K : PySem.W.Frag} {H : Hp} {x y : V} {a b : Mem} {Q : VK}
theorem rd_eqM (hx : TD H x (eM a)) (hy : TD H y (eM b)) (q : Q (.bl (decide (a = b))) H) : rEqD K x y H Q :=
  ⟨_, _, hx.dp, hy.dp, (eM_lay a).2.2, (eM_lay b).2.2, by rw [eM_eqv]; exact q⟩
theorem rd_neM (hx : TD H x (eM a)) (hy : TD H y (eM b)) (q : Q (.bl (!decide (a = b))) H) : rNeD K x y H Q :=
  ⟨_, _, hx.dp, hy.dp, (eM_lay a).2.2, (eM_lay b).2.2, by rw [eM_eqv]; exact q⟩
theorem rd_neV {a b : Vid} (hx : TD H x (eV a)) (hy : TD H y (eV b)) (q : Q (.bl (!decide (a = b))) H) : rNeD K x y H Q :=
  ⟨_, _, hx.dp, hy.dp, (eV_lay a).2.2, (eV_lay b).2.2, by rw [eV_eqv]; exact q⟩
theorem rd_eqV {a b : Vid} (hx : TD H x (eV a)) (hy : TD H y (eV b)) (q : Q (.bl (decide (a = b))) H) : rEqD K x y H Q :=
  ⟨_, _, hx.dp, hy.dp, (eV_lay a).2.2, (eV_lay b).2.2, by rw [eV_eqv]; exact q⟩
theorem rd_inMs {ms : List Mem} {f : Bool → Bool} (hx : TD H x (eM a)) (hy : TD H y (eMs ms)) (q : Q (.bl (f (decide (a ∈ ms)))) H) : rInDD K f x y H Q :=
  ⟨_, _, hx.dp, .inr hy.dp, (eM_lay a).1, eMs_lay ms, by rw [(eM_lay a).2.1]; decide, by rw [eMs_any]; exact q⟩
theorem rd_inMl {ms : List Mem} {l : Addr} {vs : List V} {f : Bool → Bool} (hx : TD H x (eM a)) (hl : H l = some (.lst vs)) (hv : TDs H vs (ms.map eM)) (q : Q (.bl (f (decide (a ∈ ms)))) H) : rInDD K f x (.ref l) H Q :=
  ⟨_, _, hx.dp, .inl (.lst (SqL.of hl) hv.dp), (eM_lay a).1, eMs_lay ms, by rw [(eM_lay a).2.1]; decide, by rw [eMs_any]; exact q⟩
end
end Mus

set_option maxRecDepth 100000
set_option maxHeartbeats 4000000
/-! groups of processes, marks, the groups in order -/
namespace Mus
open PySem L2
/-! ### lists in a strict order are their members -/
theorem pw_ext {α : Type} {R : α → α → Prop} (as : ∀ a b, R a b → ¬ R b a) : ∀ {l1 l2 : List α}, l1.Pairwise R → l2.Pairwise R → (∀ x, x ∈ l1 ↔ x ∈ l2) → l1 = l2
  | [], [], _, _, _ => rfl
  | [], b :: _, _, _, h => absurd ((h b).mpr List.mem_cons_self) List.not_mem_nil
  | a :: _, [], _, _, h => absurd ((h a).mp List.mem_cons_self) List.not_mem_nil
  | a :: l1, b :: l2, h1, h2, h => by
    rw [List.pairwise_cons] at h1 h2
    have e : a = b := by
      rcases List.mem_cons.mp ((h a).mp List.mem_cons_self) with e | ha
      · exact e
      · rcases List.mem_cons.mp ((h b).mpr List.mem_cons_self) with e | hb
        · exact e.symm
        · exact absurd (h1.1 _ hb) (as _ _ (h2.1 _ ha))
    subst e
    have irr : ¬ R a a := fun z => as a a z z
    congr 1
    refine pw_ext as h1.2 h2.2 fun x => ⟨fun hx => ?_, fun hx => ?_⟩
    · rcases List.mem_cons.mp ((h x).mp (List.mem_cons_of_mem _ hx)) with e | hx'
      · subst e; exact absurd (h1.1 _ hx) irr
      · exact hx'
    · rcases List.mem_cons.mp ((h x).mpr (List.mem_cons_of_mem _ hx)) with e | hx'
      · subst e; exact absurd (h2.1 _ hx) irr
      · exact hx'
/-- 0, 1, .. below N -/
def upI (N : Nat) : List Int := (List.range N).map fun i : Nat => (i : Int)
theorem mem_upI {N : Nat} {x : Int} : x ∈ upI N ↔ 0 ≤ x ∧ x < N := by
  unfold upI
  rw [List.mem_map]
  constructor
  · rintro ⟨i, hi, rfl⟩
    have := List.mem_range.mp hi
    omega
  · rintro ⟨h0, h1⟩
    exact ⟨x.toNat, List.mem_range.mpr (by omega), by omega⟩
theorem upI_pw (N : Nat) : (upI N).Pairwise (· < ·) := by
  unfold upI
  rw [List.pairwise_map]
  exact List.pairwise_lt_range.imp fun h => by omega
theorem upI_len (N : Nat) : (upI N).length = N := by unfold upI; rw [List.length_map, List.length_range]
theorem lt_as : ∀ a b : Int, a < b → ¬ b < a := fun a b h => by omega
/-- all with the mark v -/
def cls (m : Int → Int) (N : Nat) (v : Int) : List Int := (upI N).filter fun q => decide (m q = v)
theorem mem_cls {m : Int → Int} {N : Nat} {v q : Int} : q ∈ cls m N v ↔ (0 ≤ q ∧ q < N) ∧ m q = v := by
  unfold cls
  rw [List.mem_filter, mem_upI, decide_eq_true_eq]
theorem cls_pw (m : Int → Int) (N : Nat) (v : Int) : (cls m N v).Pairwise (· < ·) := (upI_pw N).filter _
/-- the group of p, if p is its first -/
def dueOne (m : Int → Int) (N : Nat) (p : Int) : Option (List Int) := if (cls m N (m p)).head? = some p then some (cls m N (m p)) else none
def dueG (m : Int → Int) (N : Nat) : List (List Int) := (upI N).filterMap (dueOne m N)
theorem head_lt : ∀ {l : List Int} {x : Int}, l.Pairwise (· < ·) → l.head? = some x → x ∈ l ∧ ∀ y ∈ l, x ≤ y
  | [], _, _, h => by cases h
  | a :: l, x, hp, h => by
    cases h
    rw [List.pairwise_cons] at hp
    refine ⟨List.mem_cons_self, fun y hy => ?_⟩
    rcases List.mem_cons.mp hy with rfl | hy
    · exact Int.le_refl _
    · exact Int.le_of_lt (hp.1 _ hy)
theorem mem_due {m : Int → Int} {N : Nat} {g : List Int} : g ∈ dueG m N ↔ ∃ v, g = cls m N v ∧ g ≠ [] := by
  unfold dueG
  rw [List.mem_filterMap]
  constructor
  · rintro ⟨p, hp, h⟩
    unfold dueOne at h
    split at h
    · rename_i hh
      cases h
      exact ⟨_, rfl, fun z => by rw [z] at hh; cases hh⟩
    · cases h
  · rintro ⟨v, rfl, hn⟩
    obtain ⟨p, hp⟩ : ∃ p, (cls m N v).head? = some p := by
      cases e : cls m N v with
      | nil => exact absurd e hn
      | cons a _ => exact ⟨a, rfl⟩
    have h1 := mem_cls.mp (head_lt (cls_pw m N v) hp).1
    refine ⟨p, mem_upI.mpr h1.1, ?_⟩
    unfold dueOne
    rw [h1.2, if_pos hp]
/-- by the first -/
def HLt (a b : List Int) : Prop := ∃ x y, a.head? = some x ∧ b.head? = some y ∧ x < y
theorem hlt_as : ∀ a b : List Int, HLt a b → ¬ HLt b a := by
  rintro a b ⟨x, y, h1, h2, h3⟩ ⟨x', y', h4, h5, h6⟩
  rw [h1] at h5; rw [h2] at h4
  cases h5; cases h4
  omega
theorem due_pw (m : Int → Int) (N : Nat) : (dueG m N).Pairwise HLt := by
  unfold dueG
  rw [List.pairwise_filterMap]
  refine (upI_pw N).imp fun {a b} h g hg g' hg' => ?_
  unfold dueOne at hg hg'
  split at hg
  · split at hg'
    · rename_i h1 h2
      cases hg; cases hg'
      exact ⟨_, _, h1, h2, h⟩
    · cases hg'
  · cases hg
/-- two are joined if one group has both: they have one mark -/
theorem joined_due {m : Int → Int} {N : Nat} {a b : Int} (ha : 0 ≤ a ∧ a < N) (hb : 0 ≤ b ∧ b < N) : ((dueG m N).any fun g => decide (a ∈ g) && decide (b ∈ g)) = decide (m a = m b) := by
  rw [Bool.eq_iff_iff, List.any_eq_true, decide_eq_true_eq]
  constructor
  · rintro ⟨g, hg, h⟩
    rw [Bool.and_eq_true, decide_eq_true_eq, decide_eq_true_eq] at h
    obtain ⟨v, rfl, _⟩ := mem_due.mp hg
    exact (mem_cls.mp h.1).2.trans (mem_cls.mp h.2).2.symm
  · intro h
    have h1 : a ∈ cls m N (m a) := mem_cls.mpr ⟨ha, rfl⟩
    refine ⟨cls m N (m a), mem_due.mpr ⟨_, rfl, fun z => by rw [z] at h1; cases h1⟩, ?_⟩
    rw [decide_eq_true h1, decide_eq_true (mem_cls.mpr ⟨hb, h.symm⟩)]
    rfl
/-! ### groups, their marks -/
structure Grs (N : Nat) (gs : List (List Int)) : Prop where
  ne : ∀ g ∈ gs, g ≠ []
  nd : gs.flatten.Nodup
  lt : ∀ p ∈ gs.flatten, 0 ≤ p ∧ p < N
/-- marks, set one after another -/
def mset (k : Int) (g : List Int) (ms : List Int) : List Int := g.foldl (fun ms x => ms.set x.toNat k) ms
def msets : Int → List (List Int) → List Int → List Int
  | _, [], ms => ms
  | k, g :: gs, ms => msets (k + 1) gs (mset k g ms)
theorem mset_len : ∀ {g : List Int} {k : Int} {ms : List Int}, (mset k g ms).length = ms.length
  | [], _, _ => rfl
  | x :: g, k, ms => by
    show (mset k g (ms.set x.toNat k)).length = _
    rw [mset_len, List.length_set]
theorem msets_len : ∀ {gs : List (List Int)} {k : Int} {ms : List Int}, (msets k gs ms).length = ms.length
  | [], _, _ => rfl
  | g :: gs, k, ms => by
    show (msets (k + 1) gs (mset k g ms)).length = _
    rw [msets_len, mset_len]
def at0 (ms : List Int) (p : Int) : Int := (ms[p.toNat]?).getD 0
theorem mset_at {N : Nat} {k : Int} : ∀ {g : List Int} {ms : List Int} {p : Int}, (∀ x ∈ g, 0 ≤ x ∧ x < N) → ms.length = N → 0 ≤ p ∧ p < N → at0 (mset k g ms) p = if p ∈ g then k else at0 ms p
  | [], ms, p, _, _, _ => by rw [if_neg List.not_mem_nil]; rfl
  | x :: g, ms, p, hg, hl, hp => by
    have hx := hg x List.mem_cons_self
    show at0 (mset k g (ms.set x.toNat k)) p = _
    rw [mset_at (fun y hy => hg y (List.mem_cons_of_mem _ hy)) (by rw [List.length_set]; exact hl) hp]
    by_cases h1 : p ∈ g
    · rw [if_pos h1, if_pos (List.mem_cons_of_mem _ h1)]
    · rw [if_neg h1]
      by_cases h2 : p = x
      · subst h2
        rw [if_pos List.mem_cons_self]
        unfold at0
        rw [List.getElem?_set_self (by omega)]
        rfl
      · rw [if_neg (fun z => (List.mem_cons.mp z).elim h2 h1)]
        unfold at0
        rw [List.getElem?_set_ne (by omega)]
/-- where a process is marked -/
theorem msets_at {N : Nat} : ∀ {gs : List (List Int)} {k : Int} {ms : List Int} {p : Int}, gs.flatten.Nodup → (∀ x ∈ gs.flatten, 0 ≤ x ∧ x < N) → ms.length = N → 0 ≤ p ∧ p < N →
    (∀ (j : Nat) g, gs[j]? = some g → p ∈ g → at0 (msets k gs ms) p = k + j) ∧ (p ∉ gs.flatten → at0 (msets k gs ms) p = at0 ms p)
  | [], k, ms, p, _, _, _, _ => ⟨fun j g h => by simp at h, fun _ => rfl⟩
  | g0 :: gs, k, ms, p, nd, lt, hl, hp => by
    rw [List.flatten_cons] at nd lt
    rw [List.nodup_append] at nd
    obtain ⟨n1, n2, n3⟩ := nd
    have l0 : ∀ x ∈ g0, 0 ≤ x ∧ x < N := fun x hx => lt x (List.mem_append_left _ hx)
    have ih := msets_at (gs := gs) (k := k + 1) (ms := mset k g0 ms) (p := p) n2 (fun x hx => lt x (List.mem_append_right _ hx)) (by rw [mset_len]; exact hl) hp
    refine ⟨fun j g hj hpg => ?_, fun hn => ?_⟩
    · cases j with
      | zero =>
        cases hj
        have e := ih.2 fun z => n3 p hpg p z rfl
        show at0 (msets (k + 1) gs (mset k g0 ms)) p = _
        rw [e, mset_at l0 hl hp, if_pos hpg]
        show k = k + ((0 : Nat) : Int)
        omega
      | succ j =>
        have e := ih.1 j g hj hpg
        show at0 (msets (k + 1) gs (mset k g0 ms)) p = _
        rw [e, Int.natCast_succ]
        omega
    · show at0 (msets (k + 1) gs (mset k g0 ms)) p = _
      rw [List.flatten_cons, List.mem_append] at hn
      rw [ih.2 fun z => hn (.inr z), mset_at l0 hl hp, if_neg fun z => hn (.inl z)]
/-- the marks of groups -/
def mksOf (N : Nat) (gs : List (List Int)) : List Int := msets 0 gs (List.replicate N (-1))
theorem mksOf_len (N : Nat) (gs : List (List Int)) : (mksOf N gs).length = N := by unfold mksOf; rw [msets_len, List.length_replicate]
theorem mks_in {N : Nat} {gs : List (List Int)} (G : Grs N gs) {j : Nat} {g : List Int} (hj : gs[j]? = some g) {p : Int} (hp : 0 ≤ p ∧ p < N) : p ∈ g ↔ at0 (mksOf N gs) p = j := by
  have h := msets_at (k := 0) (ms := List.replicate N (-1)) G.nd G.lt List.length_replicate hp
  have h0 : at0 (List.replicate N (-1)) p = -1 := by
    unfold at0
    rw [List.getElem?_replicate, if_pos (by omega)]
    rfl
  constructor
  · intro hm
    have := h.1 j g hj hm
    unfold mksOf
    omega
  · intro e
    unfold mksOf at e
    by_cases hf : p ∈ gs.flatten
    · obtain ⟨g', hg', hpg⟩ := List.mem_flatten.mp hf
      obtain ⟨i, hi, rfl⟩ := List.getElem_of_mem hg'
      have := h.1 i _ (List.getElem?_eq_getElem hi) hpg
      have ij : i = j := by omega
      subst ij
      rw [List.getElem?_eq_getElem hi] at hj
      cases hj
      exact hpg
    · have := h.2 hf
      omega
theorem mks_out {N : Nat} {gs : List (List Int)} (G : Grs N gs) {p : Int} (hp : 0 ≤ p ∧ p < N) : p ∉ gs.flatten ↔ at0 (mksOf N gs) p = -1 := by
  have h := msets_at (k := 0) (ms := List.replicate N (-1)) G.nd G.lt List.length_replicate hp
  have h0 : at0 (List.replicate N (-1)) p = -1 := by
    unfold at0
    rw [List.getElem?_replicate, if_pos (by omega)]
    rfl
  constructor
  · intro hn
    have := h.2 hn
    unfold mksOf
    omega
  · intro e hf
    obtain ⟨g', hg', hpg⟩ := List.mem_flatten.mp hf
    obtain ⟨i, hi, rfl⟩ := List.getElem_of_mem hg'
    have := h.1 i _ (List.getElem?_eq_getElem hi) hpg
    unfold mksOf at e
    omega
/-- those in no group -/
def restG (N : Nat) (gs : List (List Int)) : List Int := (upI N).filter fun p => !decide (p ∈ gs.flatten)
theorem rest_cls {N : Nat} {gs : List (List Int)} (G : Grs N gs) : restG N gs = cls (at0 (mksOf N gs)) N (-1) := by
  unfold restG cls
  refine List.filter_congr fun p hp => ?_
  have := mks_out G (mem_upI.mp hp)
  rw [Bool.eq_iff_iff, Bool.not_eq_true', decide_eq_false_iff_not, decide_eq_true_eq]
  exact this
theorem sort_cls {N : Nat} {gs : List (List Int)} (G : Grs N gs) {j : Nat} {g s : List Int} (hj : gs[j]? = some g) (hs : s.Pairwise (· < ·)) (hm : ∀ x, x ∈ s ↔ x ∈ g) : s = cls (at0 (mksOf N gs)) N j := by
  refine pw_ext lt_as hs (cls_pw _ _ _) fun x => ?_
  rw [hm, mem_cls]
  constructor
  · intro hx
    have hp := G.lt x (List.mem_flatten.mpr ⟨g, List.mem_of_getElem? hj, hx⟩)
    exact ⟨hp, (mks_in G hj hp).mp hx⟩
  · rintro ⟨hp, e⟩
    exact (mks_in G hj hp).mpr e
/-- the parts in the order of their firsts -/
theorem parts_due {N : Nat} {gs ss L : List (List Int)} (G : Grs N gs) (hl : ss.length = gs.length) (hss : ∀ (j : Nat) g s, gs[j]? = some g → ss[j]? = some s → s.Pairwise (· < ·) ∧ ∀ x, x ∈ s ↔ x ∈ g)
    (hP : L.Perm (ss ++ if 0 < (restG N gs).length then [restG N gs] else [])) (hS : L.Pairwise fun a b => ∀ x y, a.head? = some x → b.head? = some y → x ≠ y → x < y) : L = dueG (at0 (mksOf N gs)) N := by
  have cl : ∀ (j : Nat) s, ss[j]? = some s → s = cls (at0 (mksOf N gs)) N j ∧ s ≠ [] := fun j s hs => by
    have hj : j < gs.length := by rw [← hl]; exact (List.getElem?_eq_some_iff.mp hs).1
    have e := hss j _ _ (List.getElem?_eq_getElem hj) hs
    refine ⟨sort_cls G (List.getElem?_eq_getElem hj) e.1 e.2, fun z => ?_⟩
    have n := G.ne _ (List.getElem_mem hj)
    cases e2 : gs[j] with
    | nil => exact n e2
    | cons a r =>
      have := (e.2 a).mpr (by rw [e2]; exact List.mem_cons_self)
      rw [z] at this
      cases this
  have memL : ∀ g, g ∈ L ↔ ∃ v, g = cls (at0 (mksOf N gs)) N v ∧ g ≠ [] := fun g => by
    rw [hP.mem_iff, List.mem_append]
    constructor
    · rintro (h | h)
      · obtain ⟨j, hj, rfl⟩ := List.getElem_of_mem h
        exact ⟨j, cl j _ (List.getElem?_eq_getElem hj)⟩
      · split at h
        · rename_i h0
          rw [List.mem_singleton.mp h]
          refine ⟨-1, rest_cls G, fun z => ?_⟩
          rw [z] at h0
          exact absurd h0 (by decide)
        · cases h
    · rintro ⟨v, rfl, hn⟩
      obtain ⟨p, hp⟩ : ∃ p, p ∈ cls (at0 (mksOf N gs)) N v := by
        cases e : cls (at0 (mksOf N gs)) N v with
        | nil => exact absurd e hn
        | cons a _ => exact ⟨a, List.mem_cons_self⟩
      have hq := mem_cls.mp hp
      by_cases hf : p ∈ gs.flatten
      · obtain ⟨g', hg', hpg⟩ := List.mem_flatten.mp hf
        obtain ⟨i, hi, rfl⟩ := List.getElem_of_mem hg'
        have e := (mks_in G (List.getElem?_eq_getElem hi) hq.1).mp hpg
        have hi2 : i < ss.length := by rw [hl]; exact hi
        refine .inl ?_
        have e2 := (cl i _ (List.getElem?_eq_getElem hi2)).1
        rw [← hq.2, e, ← e2]
        exact List.getElem_mem hi2
      · have e := (mks_out G hq.1).mp hf
        have e2 := rest_cls G
        refine .inr ?_
        rw [← hq.2, e, ← e2]
        have : restG N gs ≠ [] := by rw [e2, ← e, hq.2]; exact hn
        rw [if_pos (List.length_pos_iff.mpr this)]
        exact List.mem_singleton.mpr rfl
  have apart : ∀ a ∈ L, ∀ b ∈ L, a ≠ b → ∀ x y, a.head? = some x → b.head? = some y → x ≠ y := fun a ha b hb ne x y hx hy e => by
    subst e
    obtain ⟨v, rfl, _⟩ := (memL a).mp ha
    obtain ⟨u, rfl, _⟩ := (memL b).mp hb
    have h1 := mem_cls.mp (head_lt (cls_pw _ _ _) hx).1
    have h2 := mem_cls.mp (head_lt (cls_pw _ _ _) hy).1
    exact ne (by rw [← h1.2, ← h2.2])
  have nd : L.Nodup := by
    rw [hP.nodup_iff, List.nodup_append]
    refine ⟨?_, ?_, ?_⟩
    · rw [List.Nodup, List.pairwise_iff_getElem]
      intro i j hi hj hij e
      have c1 := cl i _ (List.getElem?_eq_getElem hi)
      have c2 := cl j _ (List.getElem?_eq_getElem hj)
      cases e3 : ss[i] with
      | nil => exact c1.2 e3
      | cons a r =>
        have m1 : a ∈ ss[i] := by rw [e3]; exact List.mem_cons_self
        have m2 := m1
        rw [e, c2.1] at m2
        rw [c1.1] at m1
        have := (mem_cls.mp m1).2.symm.trans (mem_cls.mp m2).2
        omega
    · split
      · exact List.pairwise_singleton _ _
      · exact List.Pairwise.nil
    · intro a ha b hb e
      subst e
      obtain ⟨j, hj, rfl⟩ := List.getElem_of_mem ha
      have c1 := cl j _ (List.getElem?_eq_getElem hj)
      split at hb
      · have e2 := (List.mem_singleton.mp hb).trans (rest_cls G)
        cases e3 : ss[j] with
        | nil => exact c1.2 e3
        | cons a r =>
          have m1 : a ∈ ss[j] := by rw [e3]; exact List.mem_cons_self
          have m2 := m1
          rw [e2] at m2
          rw [c1.1] at m1
          have := (mem_cls.mp m1).2.symm.trans (mem_cls.mp m2).2
          omega
      · cases hb
  refine pw_ext hlt_as ?_ (due_pw _ _) fun g => (memL g).trans mem_due.symm
  have both := List.Pairwise.and_mem.mp (hS.and nd)
  refine both.imp fun {a b} ⟨ha, hb, h, ne⟩ => ?_
  obtain ⟨_, _, na⟩ := (memL a).mp ha
  obtain ⟨_, _, nb⟩ := (memL b).mp hb
  obtain ⟨x, hx⟩ : ∃ x, a.head? = some x := by
    cases a with
    | nil => exact absurd rfl na
    | cons x _ => exact ⟨x, rfl⟩
  obtain ⟨y, hy⟩ : ∃ y, b.head? = some y := by
    cases b with
    | nil => exact absurd rfl nb
    | cons y _ => exact ⟨y, rfl⟩
  exact ⟨x, y, hx, hy, h x y hx hy (apart a ha b hb ne x y hx hy)⟩
theorem len_erase_le {α : Type} [BEq α] [LawfulBEq α] {a : α} : ∀ {l m : List α}, l.Nodup → (∀ x ∈ l, x ∈ m) → l.length ≤ m.length
  | [], _, _, _ => Nat.zero_le _
  | b :: l, m, h, s => by
    rw [List.nodup_cons] at h
    have hb := s b List.mem_cons_self
    have ih := len_erase_le (a := a) (l := l) (m := m.erase b) h.2 fun x hx => by
      have hne : x ≠ b := fun z => h.1 (z ▸ hx)
      exact (List.mem_erase_of_ne hne).mpr (s x (List.mem_cons_of_mem _ hx))
    have := List.length_erase_of_mem hb
    have := List.length_pos_of_mem hb
    rw [List.length_cons]
    omega
theorem nodup_lt {N : Nat} {f : List Int} (h : f.Nodup) (l : ∀ x ∈ f, 0 ≤ x ∧ x < N) : f.length ≤ N := by
  have := len_erase_le (a := 0) (m := upI N) h fun x hx => mem_upI.mpr (l x hx)
  rwa [upI_len] at this
theorem grs_nil (N : Nat) : Grs N [] := ⟨fun _ h => (by cases h), List.Pairwise.nil, fun _ h => (by cases h)⟩
end Mus

set_option maxRecDepth 100000
set_option maxHeartbeats 4000000
/-! any of a generator expression over a tuple; the element may read names of the def (cells of it). -/
namespace GxT
open PySem PySem.Spec PyProof.Rows L2 GxR
section
variable {X : Cx} {pins : List (Addr × Obj)} {σ : L2.St} {H : Hp} {s : Shared}
def EltU (X : Cx) (scope : Scope) (x : Str) (elt : Expr) (P : Addr) (σ : L2.St) (H : Hp) (T : V → Bool → Prop) : Prop :=
  ∀ (pins : List (Addr × Obj)) (s1 : Shared), Inv X pins σ H s1 → (∃ ps, H P = some (.tbl ps)) → ∀ (v : V) (b : Bool), T v b → ∀ vv : Value, RelV v vv →
    ∀ (cenv : Env) (A' : Around) (E' : Value → Shared → Prop) (s₂ : Shared) (m₂ : Str → Option Value), cenv.scope = scope → cenv.cells = cloFrom X.env.cells scope.names [] → (∀ a o, a ≠ P → s1.heap.get? a = some o → s₂.heap.get? a = some o) →
      s₂.heap.Ns cenv.locals m₂ → m₂ x = some vv → wpAny (model X.prog X.w) A' (eval elt cenv) (fun y s₃ => y = .bool b ∧ Keeps s₂ s₃) E' s₂
theorem lookup_mem {α : Type} : ∀ {l : List (Str × α)} {n : Str} {c : α}, l.lookup n = some c → (n, c) ∈ l
  | [], _, _, h => by cases h
  | (m, d) :: r, n, c, h => by
    rw [List.lookup_cons] at h
    cases e : n == m with
    | true =>
      rw [e] at h
      cases h
      rw [eq_of_beq e]
      exact List.mem_cons_self
    | false =>
      rw [e] at h
      exact List.mem_cons_of_mem _ (lookup_mem h)
theorem clo_look {cells : List (Str × Addr)} {names : List (Str × NameKind)} {n : Str} {c : Addr} (hf : (n, NameKind.free) ∈ names) (hc : cells.lookup n = some c) : (cloFrom cells names []).lookup n = some c := by
  have h1 := cloFrom_has (cells := cells) (acc := []) hf
  obtain ⟨c', h2⟩ := mem_lookup h1
  rw [h2]
  rcases cloFrom_mem (lookup_mem h2) with h | ⟨_, h⟩
  · cases h
  · rw [h, hc]; rfl
/-- a captured name, where the generator runs -/
theorem cap_at {i : Nat} {y : Str} {v : V} {P : Addr} (I : Inv X pins σ H s) (hP : ∃ ps, H P = some (.tbl ps)) (hN : X.N[i]? = some y) (hk : X.env.kindOf y = some .cell) (hv : σ[i]? = some (some v)) {cenv : Env} {scope : Scope} {s₂ : Shared}
    (hcl : cenv.cells = cloFrom X.env.cells scope.names []) (hf : (y, NameKind.free) ∈ scope.names) (kp : ∀ a o, a ≠ P → s.heap.get? a = some o → s₂.heap.get? a = some o) :
    ∃ u c, RelV v u ∧ cenv.cells.lookup y = some c ∧ s₂.heap.IsCell c (some u) := by
  obtain ⟨ps, hP⟩ := hP
  obtain ⟨m, hn, hl⟩ := I.loc
  obtain ⟨u, r, l⟩ := hl i y v hN hv (.inr (.inl hk))
  rcases l with ⟨h1, _⟩ | ⟨_, c, hc, hcell⟩
  · rw [hk] at h1; cases h1
  · obtain ⟨o, ho, hd⟩ := hcell
    have hPs : s.heap.get? P = some { cls := .none, data := .fields ps } := I.hok P _ hP
    refine ⟨u, c, r, by rw [hcl]; exact clo_look hf hc, o, kp c o (fun z => ?_) ho, hd⟩
    rw [z, hPs] at ho
    cases ho
    cases hd
theorem tup_at {a P : Addr} {xs : List V} (I : Inv X pins σ H s) (hP : ∃ ps, H P = some (.tbl ps)) (h : SqT X.K H a xs) {s₂ : Shared} (kp : ∀ a o, a ≠ P → s.heap.get? a = some o → s₂.heap.get? a = some o) :
    ∃ its : List Value, Vals xs its ∧ s₂.heap.IsTuple a its.toArray := by
  obtain ⟨ps, hP⟩ := hP
  have hPs : s.heap.get? P = some { cls := .none, data := .fields ps } := I.hok P _ hP
  obtain ⟨its, rv, ⟨o, ho, hc, r⟩, _⟩ := I.tuple h
  refine ⟨its, rv, o, kp a o (fun z => ?_) ho, hc, r⟩
  rw [z, hPs] at ho
  cases ho
  cases hc
/-- y in x and z in x -/
theorem elt_in2 {i j : Nat} {x y z : Str} {scope : Scope} {P : Addr} {p1 p2 p3 p4 p5 p6 p7 : Pos} (hk : scope.kind = .function) (hx : scope.names.lookup x = some .local) (hy : scope.names.lookup y = some .free) (hz : scope.names.lookup z = some .free)
    (Ny : X.N[i]? = some y) (Nz : X.N[j]? = some z) (ky : X.env.kindOf y = some .cell) (kz : X.env.kindOf z = some .cell)
    (dx : (x == ("__debug__" : Str)) = false := by decide) (dy : (y == ("__debug__" : Str)) = false := by decide) (dz : (z == ("__debug__" : Str)) = false := by decide) (ey : (y == ("__classdict__" : Str)) = false := by decide) (ez : (z == ("__classdict__" : Str)) = false := by decide) :
    EltU X scope x (.BoolOp .And [.Compare (.Name y p1) [.In] [.Name x p2] p3, .Compare (.Name z p4) [.In] [.Name x p5] p6] p7) P σ H
      (fun v b => ∃ (g : Addr) (zs : List V) (n m : V), v = .ref g ∧ SqT X.K H g zs ∧ σ[i]? = some (some n) ∧ σ[j]? = some (some m) ∧ flatV n = true ∧ flatV m = true ∧ zs.all flatV = true ∧ b = (inV n zs && inV m zs)) := by
  intro pins s1 I hP v b hT vv rv cenv A' E' s₂ m₂ hs hcl kp hn hm
  obtain ⟨g, zs, n, m, rfl, hg, hn1, hm1, fn, fm, fz, rfl⟩ := hT
  cases rv
  obtain ⟨its, ri, it⟩ := tup_at I hP hg kp
  obtain ⟨u1, c1, r1, l1, cl1⟩ := cap_at I hP Ny ky hn1 hcl (lookup_mem hy) kp
  obtain ⟨u2, c2, r2, l2, cl2⟩ := cap_at I hP Nz kz hm1 hcl (lookup_mem hz) kp
  have one : ∀ {y : Str} {q1 q2 q3 : Pos} {n : V} {u : Value} {c : Addr} {Q : Value → Shared → Prop}, scope.names.lookup y = some .free → (y == ("__debug__" : Str)) = false → (y == ("__classdict__" : Str)) = false → RelV n u → flatV n = true → cenv.cells.lookup y = some c → s₂.heap.IsCell c (some u) →
      Q (.bool (inV n zs)) s₂ → wpAny (model X.prog X.w) A' (eval (.Compare (.Name y q1) [.In] [.Name x q2] q3) cenv) Q E' s₂ := by
    intro y q1 q2 q3 n u c Q hy dy ey r f l cl q
    refine wpAny_Compare1 ?_
    refine wpAny_Name (wpAny_loadName_free (by rw [hs]; exact hk) (show cenv.scope.names.lookup y = some .free by rw [hs]; exact hy) l cl ?_ ey) dy
    refine wpAny_Name (wpAny_loadName_local (by rw [hs]; exact hk) (show cenv.scope.names.lookup x = some .local by rw [hs]; exact hx) hn hm ?_) dx
    refine SeqAt.in_tupleAt (eqU n) it (fun w hw => mem_eqAt r f ri fz w (by simpa using hw)) ?_
    rw [show its.toArray.any (eqU n) = its.any (eqU n) by simp, any_eqU ri fz]
    exact q
  refine BoolOp_and (one hy dy ey r1 fn l1 cl1 (wpAny_truthy_bool ?_))
  cases e : inV n zs with
  | false => exact ⟨by rw [Bool.false_and], keeps_refl _⟩
  | true =>
    refine BoolOp_one (one hz dz ez r2 fm l2 cl2 ⟨by rw [Bool.true_and], keeps_refl _⟩)
/-- the generator g over the items -/
def ReadyT (X : Cx) (pins : List (Addr × Obj)) (σ : L2.St) (H1 : Hp) (P : Addr) (bs : List Bool) (g : Addr) (s5 : Shared) : Prop :=
  ∃ (fp wr : List Addr) (G : Array GenState → Array GenState → Prop) (F : Nat → Value → Prop) (St : Nat → Shared → Prop),
    WalksS X.prog X.w X.A.in1 g fp wr G bs.length F St ∧ St 0 s5 ∧
    TruthOf X.prog X.w X.A.in1 F (fun j => (bs[j]?).getD false) ∧
    ∀ s', Moved wr G s5 s' → ∃ H2, Tabbed P H1 H2 ∧ Inv X pins σ H2 s'
theorem paired_at {T : V → Bool → Prop} : ∀ {xs : List V} {bs : List Bool} {i : Nat} {v : V}, Paired T xs bs → xs[i]? = some v → ∃ b, bs[i]? = some b ∧ T v b
  | _, _, _, _, .nil, h => by simp at h
  | _, _, 0, _, .cons a _, h => by simp at h; subst h; exact ⟨_, rfl, a⟩
  | _, _, i + 1, _, .cons _ r, h => by
    obtain ⟨b, h1, h2⟩ := paired_at (i := i) r (by simpa using h)
    exact ⟨b, by simpa using h1, h2⟩
theorem gen_tup {c P : Addr} {elt iter : Expr} {x : Str} {px gpos : Pos} {scope : Scope} {te : TE} {k : Nat} {Q' : Value → Shared → Prop} {T : Hp → V → Bool → Prop} {R : List Bool → Hp → Prop}
    (hr : Room k X.A) (TB : TabB X.base X.mg c P) (hcode : X.env.code = .ref c) (S : GenS X.env scope x) (hi : PE X iter te) (hel : ∀ H1, EltU X scope x elt P σ H1 (T H1))
    (hs : ∀ v, genFold iter X.env v = pure v) (I : Inv X pins σ H s) (h : te σ H fun v H1 => ∃ (a : Addr) (xs : List V) (bs : List Bool), v = .ref a ∧ SqT X.K H1 a xs ∧ TabG H1 P ∧ Paired (T H1) xs bs ∧ R bs H1)
    (hQ : ∀ bs H1 g s5, R bs H1 → ReadyT X pins σ H1 P bs g s5 → Q' (.ref g) s5) :
    wpAny (model X.prog X.w) X.A (eval (.GeneratorExp elt [⟨.Name x px, iter, [], 0⟩] scope gpos) X.env) Q' X.xe s := by
  refine wpAny_GeneratorExp_walksQ hr.hd S.co (closure_ok S.free) S.cell S.dot S.loc S.kind (by have := hr.dp; omega) ?_ hs
  refine thn (hi.run pins s σ H _ I h) fun xv s1 ⟨v, H1, I1, r1, q1⟩ => ?_
  obtain ⟨a, xs, bs, rfl, hT, ⟨ps, hP, ht⟩, hp, q1⟩ := q1
  cases r1
  obtain ⟨its, rv, hIT, hz⟩ := I1.tuple hT
  have lx : its.length = xs.length := rv.length.symm
  have lb : xs.length = bs.length := Paired.length hp
  refine wpAny_pyIter_tuple hIT ?_
  generalize ho : ({ cls := .type "tuple_iterator", data := .fields #[.ref a, .int 0 0] } : Obj) = o
  have hitr : (s1.heap.push o).IsTupleIter s1.heap.objs.size a 0 := by
    subst ho
    exact ⟨_, Heap.get?_push_size _ rfl, rfl, rfl⟩
  have halt : a < s1.heap.objs.size := by
    obtain ⟨_, e, _⟩ := _root_.id hIT
    exact Heap.lt_size e
  have hPs : s1.heap.get? P = some { cls := .none, data := .fields ps } := I1.hok P _ hP
  have hPlt : P < s1.heap.objs.size := Heap.lt_size hPs
  have hP2 : (s1.heap.push o).get? P = some { cls := .none, data := .fields ps } := Heap.get?_push_of_some _ hPs
  have cd : PySem.W.CodeHd (s1.heap.push o) c P := TB.code.keeps fun b u e => Heap.get?_push_of_some _ (I1.bk b u e)
  have lim2 : (s1.heap.push o).NoLimit := I1.nolimit.push o
  have cont : ∀ (code : Value) (h3 : Heap) (tk : Nat) (ps' : Array Value), Heap.ExtBut P (s1.heap.push o) h3 → (s1.heap.push o).objs.size ≤ h3.objs.size → h3.get? P = some { cls := .none, data := .fields ps' } → (∃ more, ps' = ps ++ more) → TriplesOk ps'.toList →
      wpAny (model X.prog X.w) X.A (builtinsFor X.env.globals X.env.builtins) (fun bi s₄ =>
        ∃ Ia fp wr n₀ Pf St₀ pz F, Value.ref s1.heap.objs.size = .ref Ia ∧ (∀ A' : Around, A'.handled = none → Walks X.prog X.w A' Ia fp wr n₀ Pf St₀) ∧ St₀ 0 s₄.heap ∧ (∀ b ∈ fp, b < s₄.heap.objs.size) ∧ s₄.heap.NoLimit ∧ cStatics ∉ wr ∧
          (∀ href : Heap, (∀ b o, s₄.heap.get? b = some o → href.get? b = some o) →
            QuietGen X.prog X.w (genEnv scope (cloFrom X.env.cells scope.names []) s₄.heap.objs.size code bi X.env) x [] elt (List.range s₄.heap.objs.size) wr Pf pz F href) ∧
          (∀ a h₅ tk gs, gs.bare = true → s₄.heap.objs.size < a → h₅.objs.size = a + 1 → (∀ b o, s₄.heap.get? b = some o → h₅.get? b = some o) →
            WalksS X.prog X.w X.A.in4 a (a :: s₄.heap.objs.size :: List.range s₄.heap.objs.size) (s₄.heap.objs.size :: wr) (GenOnlyQ s₄.gens.size) (passing pz n₀ 0).length
              (fun j y => ∃ i, (passing pz n₀ 0)[j]? = some i ∧ F i y) (GenAt X.prog X.w X.A.in4 a s₄.gens.size s₄.heap.objs.size (List.range s₄.heap.objs.size) wr pz n₀ F) →
            GenAt X.prog X.w X.A.in4 a s₄.gens.size s₄.heap.objs.size (List.range s₄.heap.objs.size) wr pz n₀ F 0 { s₄ with gens := s₄.gens.push gs, toks := tk, heap := h₅ } →
            Q' (.ref a) { s₄ with gens := s₄.gens.push gs, toks := tk, heap := h₅ })) X.xe { s1 with heap := h3, toks := tk } := by
    intro code h3 tk ps' hx hsz hP3 hmore ht3
    obtain ⟨bm, ob, e1, e2, e3, e4, e5, e6, e7, e8⟩ := TB.bm
    have hcP : cStatics ≠ P := fun e => by
      obtain ⟨_, hns, _⟩ := I1.nolimit
      obtain ⟨o', es, ep, ho, hd, _⟩ := hns
      rw [e, hPs] at ho
      cases ho
      cases hd
    have hcl : cStatics < s1.heap.objs.size := let ⟨_, hns, _⟩ := I1.nolimit; hns.lt
    have sz2 : (s1.heap.push o).objs.size = s1.heap.objs.size + 1 := Heap.size_push ..
    have keep3 : ∀ b u, b ≠ P → s1.heap.get? b = some u → h3.get? b = some u := fun b u hb e => hx b u hb (Heap.get?_push_of_some _ e)
    refine wpAny_builtinsFor (m := X.mg) (by rw [I1.ok.glob]; exact ((I1.mod.glob.keeps I1.bk).push o).extBut hx TB.gP) e1 e2 (keep3 _ _ e4 (I1.bk _ _ e5)) e6 e7 e8 ?_
    have haP : a ≠ P := fun z => by
      obtain ⟨_, e, hc1, _⟩ := _root_.id hIT
      rw [z, hPs] at e
      cases e
      cases hc1
    have hIT3 : h3.IsTuple a its.toArray := by
      obtain ⟨ob, e, r⟩ := _root_.id hIT
      exact ⟨ob, keep3 _ _ haP e, r⟩
    have hItr3 : h3.IsTupleIter s1.heap.objs.size a 0 := by
      obtain ⟨ob, e, r⟩ := hitr
      exact ⟨ob, hx _ _ (Nat.ne_of_gt hPlt) e, r⟩
    refine ⟨s1.heap.objs.size, [s1.heap.objs.size, a], [s1.heap.objs.size], its.toArray.size, (fun i v => its.toArray[i]? = some v), (fun i h => h.IsTupleIter s1.heap.objs.size a i ∧ h.IsTuple a its.toArray), (fun _ => true),
      (fun i y => ∃ b, bs[i]? = some b ∧ y = .bool b), rfl, (fun A' hA => Walks.tuple hA _ _ (Nat.ne_of_lt halt) _), ⟨hItr3, hIT3⟩, ?_, lim2.extBut hx hcP, ?_, ?_, ?_⟩
    · intro b hb
      rcases List.mem_cons.mp hb with z | z
      · rw [z]
        show s1.heap.objs.size < h3.objs.size
        omega
      · rcases List.mem_cons.mp z with z | z
        · rw [z]
          have e9 : s1.heap.objs.size ≤ h3.objs.size := by omega
          exact Nat.lt_of_lt_of_le halt e9
        · cases z
    · intro z
      rcases List.mem_cons.mp z with z | z
      · exact Nat.ne_of_lt hcl z
      · cases z
    · intro href hhref
      refine ⟨fun A' E' i v s₂ m₂ hA hPv hn hm hk => ?_, fun A' E' i v s₂ m₂ hA hPv hp1 hn hm hk => ?_⟩
      · simp only [List.forIn_nil]
        exact wpAny_pure ⟨rfl, keeps_refl _⟩
      · have hPv' : its[i]? = some v := by simpa using hPv
        obtain ⟨u, hu, ru⟩ : ∃ u, xs[i]? = some u ∧ RelV u v := by
          have hi : i < xs.length := by rw [← lx]; exact (List.getElem?_eq_some_iff.mp hPv').1
          obtain ⟨v', h1, h2⟩ := rv.get (List.getElem?_eq_getElem hi)
          rw [hPv'] at h1
          cases h1
          exact ⟨_, List.getElem?_eq_getElem hi, h2⟩
        obtain ⟨b, hb, tb⟩ := paired_at hp hu
        refine wpAny_mono (hel H1 pins s1 I1 ⟨ps, hP⟩ u b tb v ru _ A' E' s₂ m₂ rfl rfl (fun d ob hd e => ?_) hn hm) (fun y s3 r => ⟨⟨b, hb, r.1⟩, r.2⟩) fun _ _ e => e
        have hl : (d : Nat) < s1.heap.objs.size := Heap.lt_size e
        have hh3 : s1.heap.objs.size ≤ h3.objs.size := by omega
        refine hk d (List.mem_range.mpr (Nat.lt_of_lt_of_le hl hh3)) (fun z => ?_) ob (hhref d ob (keep3 d ob hd e))
        rcases List.mem_cons.mp z with z | z
        · rw [z] at hl
          exact Nat.lt_irrefl _ hl
        · cases z
    · intro g h5 tk5 gs hgb hag hsz5 hk5 W5 hat
      simp only [GxR.passing_true, List.length_range] at W5
      have hn5 : its.toArray.size = bs.length := by rw [List.size_toArray, lx, lb]
      rw [hn5] at W5 hat
      refine hQ bs H1 g _ q1 ⟨_, _, _, _, _, W5.in4_1, hat, ?_, fun s' hm => ?_⟩
      · intro j y sj Qj Ej hy hQj
        obtain ⟨i, hij, b, hb, rfl⟩ := hy
        obtain ⟨hj, ej⟩ := List.getElem?_eq_some_iff.mp hij
        rw [List.getElem_range] at ej
        subst ej
        have hQ2 : Qj ((bs[j]?).getD false) sj := hQj
        rw [hb] at hQ2
        exact wpAny_truthy_bool hQ2
      · obtain ⟨more, em⟩ := hmore
        have nwr : ∀ b u, s1.heap.get? b = some u → b ∉ h3.objs.size :: [s1.heap.objs.size] := fun b u e hb => by
          have hl := Heap.lt_size e
          rcases List.mem_cons.mp hb with z | z
          · rw [z] at hl
            have h9 : (h3.objs.size : Nat) < s1.heap.objs.size := hl
            omega
          · rcases List.mem_cons.mp z with z | z
            · rw [z] at hl
              exact Nat.lt_irrefl _ hl
            · cases z
        have J := inv_tab (more := more) (h' := s'.heap) (g' := s'.gens) (d' := s'.drawn) (t' := s'.toks) I1 hP (fun b u hb e => hm.heap b u (nwr b u e) (hk5 b u (keep3 b u hb e)))
          (by rw [← em]; exact hm.heap P _ (nwr P _ hPs) (hk5 P _ hP3)) (AllBare.movedS (I1.bare.push hgb) hm)
        rw [sh_eta s1 s' hm.os] at J
        refine ⟨upd H1 P (.tbl (ps ++ more)), ⟨⟨ps ++ more, upd_same, by rw [← em]; exact ht3⟩, fun b hb => upd_ne hb⟩, J⟩
  refine ⟨lim2, ?_⟩
  cases hf : codeAmong gpos ps.toList with
  | none =>
    refine wpAny_genexprCodeX hcode (cd.code hP2 ht) (cd.tab hP2) hf fun c' h' tk hx hge hlt hco' _ htab' _ => ?_
    obtain ⟨o1, vs, f1, tf, fl, tg, inF, tx, tt, op, _, _, _, _, _, _, _, _, _, htr, _⟩ := hco'
    exact cont _ h' tk _ hx (Nat.le_trans hge (Nat.le_of_lt hlt)) htab'.2 ⟨_, rfl⟩ htr
  | some cv =>
    refine wpAny_genexprCode_hit hcode (cd.code hP2 ht) hf ?_
    exact cont cv (s1.heap.push o) s1.toks ps (Heap.ExtBut.refl _ _) (Nat.le_refl _) hP2 ⟨#[], by simp⟩ ht
/-- any(test for x in e), e a tuple -/
def tAnyT (K : PySem.W.Frag) (P : Addr) (T : L2.St → Hp → V → Bool → Prop) (te : TE) : TE := fun σ H Q => te σ H fun v H1 => ∃ (a : Addr) (xs : List V) (bs : List Bool), v = .ref a ∧ SqT K H1 a xs ∧ TabG H1 P ∧ Paired (T σ H1) xs bs ∧ ∀ H2, Tabbed P H1 H2 → Q (.bl (bs.any id)) H2
theorem any_getD (bs : List Bool) : (List.range bs.length).any (fun j => (bs[j]?).getD false) = bs.any id := by
  rw [Bool.eq_iff_iff, List.any_eq_true, List.any_eq_true]
  constructor
  · intro ⟨j, hj, h⟩
    have hj' := List.mem_range.mp hj
    rw [List.getElem?_eq_getElem hj'] at h
    exact ⟨bs[j], List.getElem_mem hj', h⟩
  · intro ⟨b, hb, h⟩
    obtain ⟨j, hj, e⟩ := List.getElem_of_mem hb
    refine ⟨j, List.mem_range.mpr hj, ?_⟩
    rw [List.getElem?_eq_getElem hj, e]
    exact h
theorem pe_anyT {c P : Addr} {elt iter : Expr} {x : Str} {px p pos gpos : Pos} {scope : Scope} {te : TE} {k : Nat} {T : L2.St → Hp → V → Bool → Prop}
    (hr : Room k X.A) (hg : Gl X "any") (hm : X.mg "any" = none) (TB : TabB X.base X.mg c P) (hcode : X.env.code = .ref c) (S : GenS X.env scope x) (hi : PE X iter te) (hel : ∀ σ H1, EltU X scope x elt P σ H1 (T σ H1))
    (hs : ∀ v, genFold iter X.env v = pure v)
    (he : starEach [.GeneratorExp elt [⟨.Name x px, iter, [], 0⟩] scope gpos] X.env = (false, eval (.GeneratorExp elt [⟨.Name x px, iter, [], 0⟩] scope gpos) X.env) :: starEach [] X.env := by rfl) :
    PE X (.Call (.Name "any" p) [.GeneratorExp elt [⟨.Name x px, iter, [], 0⟩] scope gpos] [] pos) (tAnyT X.K P T te) := by
  refine ⟨fun pins s σ H Q I h => ?_⟩
  refine wpAny_Call_Name_kw (ld_blt I hg hm boot_any ?_)
  refine PyProof.Rows.callWith_builtin1 ?_ he (by rfl)
  rw [he]
  show wpAny _ _ (spliced ((false, eval (.GeneratorExp elt [⟨.Name x px, iter, [], 0⟩] scope gpos) X.env) :: backTo pos (starEach [] X.env))) _ _ s
  refine Calls.spliced_cons (gen_tup (T := T σ) (R := fun bs H1 => ∀ H2, Tabbed P H1 H2 → Q (.bl (bs.any id)) H2) hr TB hcode S hi (hel σ) hs I h fun bs H1 g s5 hR hG => ?_)
  obtain ⟨fp, wr, G, F, St, W, hst, htr, hI⟩ := hG
  refine Calls.spliced_nil ?_
  refine call_any_walkS (W.self 0 _ _ _ hst ⟨g, fp, wr, G, _, F, St, _, rfl, W, hst, htr, fun s' hmv => ?_⟩)
  obtain ⟨H2, hT, J⟩ := hI s' hmv
  refine ⟨.bl _, H2, J, rfl, ?_⟩
  rw [any_getD bs]
  exact hR H2 hT
end
end GxT

set_option maxRecDepth 100000
set_option maxHeartbeats 4000000
namespace Mus
open PySem L2
local macro_rules | `(tactic| walk_at "rd") => `(tactic| first
  | refine ⟨_, rfl, ?_⟩ | refine ⟨(True.intro : True), ?_⟩
  | refine ⟨_, _, rfl, rfl, (⟨by decide, by decide, by decide⟩ : CPow _ _), ?_⟩
  | refine ⟨_, _, rfl, rfl, (⟨by decide, by decide⟩ : CDiv _ _), ?_⟩
  | refine ⟨_, _, rfl, rfl, (by show (0 : Int) < _; decide), ?_⟩
  | refine ⟨_, _, rfl, rfl, ?_⟩ | refine ⟨rfl, ?_⟩ | refine iteT ?_ | refine iteF ?_ | refine ⟨_, _, rfl, ?_⟩ | refine .inl ⟨_, rfl, ?_⟩
  | refine ⟨_, _, _, _, _, rfl, (by assumption), (by assumption), (by assumption), rfl, ?_⟩ | refine ⟨_, _, _, _, rfl, rfl, SqT.of (by assumption), rfl, ?_⟩ | refine ⟨_, _, rfl, SqT.of (by assumption), rfl, ?_⟩
  | refine ⟨_, _, _, _, _, rfl, .ty _, Rp.ty (by assumption), kit_int _, ?_⟩ | refine ⟨_, _, _, _, _, rfl, .ty _, Rp.ty (by assumption), kit_bool _, ?_⟩
  | refine ⟨_, _, _, _, _, rfl, .ty _, Rp.ty (by assumption), kit_str _, ?_⟩ | refine ⟨_, _, _, _, _, rfl, .ty _, Rp.ty (by assumption), kit_tup _, ?_⟩)
local macro_rules | `(tactic| walk_at "cal") => `(tactic| first
  | refine ⟨_, _, _, _, _, rfl, (by assumption), ?_⟩ | refine ⟨_, _, _, _, _, rfl, (by assumption), (by assumption), ?_⟩)
local macro_rules | `(tactic| walk_at "sq") => `(tactic| first
  | refine ⟨_, _, rfl, Or.inr (SqT.of (by assumption)), ?_⟩ | refine ⟨_, _, _, _, rfl, rfl, SqT.of (by assumption), rfl, ?_⟩)
local macro_rules | `(tactic| walk_at "rds") => `(tactic| repeat first | walk_at "rd" | walk_at "cal" | walk_at "sq")
local macro_rules | `(tactic| walk_at "ze") => `(tactic| repeat first
  | exact zes_nil | exact ze_bl | exact ze_str | exact ze_non | apply zes_cons | apply ze_tup | apply ze_lst | apply ze_cat | exact di_c | exact di_v rfl | apply di_opC | apply di_op | apply di_neg | apply ze_i | (refine (⟨?_, ?_, ?_⟩ : CPow _ _) <;> decide) | exact Nat.le_of_ble_eq_true rfl | exact ze_varD rfl (by assumption))
local macro_rules | `(tactic| walk_at "rdz") => `(tactic| repeat (fail_if_success (first | show tLst _ _ _ _ | show tAsg (tLst _) _ _ _ _ | show tSeq (tAsg (tLst _) _) _ _ _ _)); first | walk_at "rd" | walk_at "cal" | walk_at "sq")
def top (i : Nat) : Stmt := PySem.Challenge.pw_mustercall_k51_parted_networks.main.body.getD i (.Pass ⟨0, 0, 0, 0⟩)
structure Tx (K : PySem.W.Frag) (mg : Str → Option Value) (CN CB : Addr) : Prop where
  b_len : mg "len" = none
  b_isinstance : mg "isinstance" = none
  b_int : mg "int" = none
  b_bool : mg "bool" = none
  b_tuple : mg "tuple" = none
  b_list : mg "list" = none
  b_range : mg "range" = none
  b_sorted : mg "sorted" = none
  b_any : mg "any" = none
  b_all : mg "all" = none
  b_min : mg "min" = none
  c_MOST_PROCESSES : ∃ t, mg "MOST_PROCESSES" = some (.int 12 t)
  g_Net : mg "Net" = some (.ref CN)
  cl_Net : L2.Cls K CN
  n_Net__count : NoAttr K CN "_count"
  n_Net__packets : NoAttr K CN "_packets"
  n_Net__groups : NoAttr K CN "_groups"
  g_BadSchedule : mg "BadSchedule" = some (.ref CB)
  o_BadSchedule : OexC K CB
  f_BadSchedule : XfC K CB
  n_line : PySem.W.findIn K (.ref CB) "line" = some none
  n_reason : PySem.W.findIn K (.ref CB) "reason" = some none
  m_BB : PySem.W.exmOne K (.ref CB) (.ref CB) = some true
/-! ### which values are groups -/
def elG (c : PyData) : List Int → List PyData → Option (List Int)
  | f, [] => some f
  | f, .int i :: ds => if isProc c (.int i) = true ∧ i ∉ f then elG c (f ++ [i]) ds else none
  | _, _ :: _ => none
def grG (c : PyData) : List Int → List PyData → Option (List Int)
  | f, [] => some f
  | f, .tuple (e :: es) :: ds => match elG c f (e :: es) with
    | some f' => grG c f' ds
    | none => none
  | _, _ :: _ => none
def isGr (c d : PyData) : Bool := match d with
  | .tuple ds => (grG c [] ds).isSome
  | _ => false
def eI (g : List Int) : PyData := .tuple (g.map .int)
theorem elG_inv {N : Nat} : ∀ {ds : List PyData} {f f' : List Int}, elG (.int N) f ds = some f' → ∃ g : List Int, ds = g.map .int ∧ f' = f ++ g ∧ (f.Nodup → f'.Nodup) ∧ ∀ x ∈ g, 0 ≤ x ∧ x < N
  | [], f, f', h => by cases h; exact ⟨[], rfl, by simp, id, fun x hx => by cases hx⟩
  | .int i :: ds, f, f', h => by
    unfold elG at h
    split at h
    · rename_i hi
      obtain ⟨g, rfl, rfl, hn, hr⟩ := elG_inv h
      refine ⟨i :: g, rfl, by simp, fun z => hn ?_, fun x hx => ?_⟩
      · rw [List.nodup_append]
        exact ⟨z, List.nodup_cons.mpr ⟨List.not_mem_nil, List.nodup_nil⟩, fun a ha b hb e => hi.2 (by rw [← List.mem_singleton.mp hb, ← e]; exact ha)⟩
      · rcases List.mem_cons.mp hx with rfl | hx
        · have := hi.1
          simp only [isProc, isInt, Bool.and_eq_true, decide_eq_true_eq] at this
          omega
        · exact hr x hx
    · cases h
  | .none :: _, _, _, h => by cases h
  | .bool _ :: _, _, _, h => by cases h
  | .str _ :: _, _, _, h => by cases h
  | .tuple _ :: _, _, _, h => by cases h
  | .list _ :: _, _, _, h => by cases h
  | .dict _ :: _, _, _, h => by cases h
theorem grG_inv {N : Nat} : ∀ {ds : List PyData} {f f' : List Int}, grG (.int N) f ds = some f' → ∃ gs : List (List Int), ds = gs.map eI ∧ f' = f ++ gs.flatten ∧ (f.Nodup → f'.Nodup) ∧ (∀ x ∈ gs.flatten, 0 ≤ x ∧ x < N) ∧ ∀ g ∈ gs, g ≠ []
  | [], f, f', h => by cases h; exact ⟨[], rfl, by simp, id, fun x hx => (by cases hx), fun x hx => (by cases hx)⟩
  | .tuple [] :: ds, f, f', h => by cases h
  | .tuple (e :: es) :: ds, f, f', h => by
    unfold grG at h
    split at h
    · rename_i f1 h1
      obtain ⟨g, eg, rfl, n1, r1⟩ := elG_inv h1
      obtain ⟨gs, rfl, rfl, n2, r2, ne⟩ := grG_inv h
      refine ⟨g :: gs, by rw [List.map_cons]; unfold eI; rw [← eg], by simp, fun z => n2 (n1 z), fun x hx => ?_, fun x hx => ?_⟩
      · rw [List.flatten_cons, List.mem_append] at hx
        exact hx.elim (r1 x) (r2 x)
      · rcases List.mem_cons.mp hx with rfl | hx
        · rintro rfl
          cases eg
        · exact ne x hx
    · cases h
  | .none :: _, _, _, h => by cases h
  | .bool _ :: _, _, _, h => by cases h
  | .int _ :: _, _, _, h => by cases h
  | .str _ :: _, _, _, h => by cases h
  | .list _ :: _, _, _, h => by cases h
  | .dict _ :: _, _, _, h => by cases h
theorem isGr_inv {N : Nat} {d : PyData} (h : isGr (.int N) d = true) : ∃ gs, d = .tuple (gs.map eI) ∧ Grs N gs := by
  unfold isGr at h
  split at h
  · rename_i ds
    cases e : grG (.int N) [] ds with
    | none => rw [e] at h; cases h
    | some f =>
      obtain ⟨gs, rfl, rfl, nd, lt, ne⟩ := grG_inv e
      exact ⟨gs, rfl, ne, by simpa using nd List.nodup_nil, lt⟩
  · cases h
/-- what was found, as a dict's pairs -/
def fK (f : List Int) : List (Key × V) := f.map fun i => (Sum.inl i, V.bl true)
theorem fK_val {i : Int} : ∀ {f : List Int}, (valV (fK f) (Sum.inl i : Key)).isSome = decide (i ∈ f)
  | [] => rfl
  | a :: f => by
    by_cases e : a = i
    · subst e
      show (valV ((Sum.inl a, V.bl true) :: fK f) (Sum.inl a : Key)).isSome = _
      rw [valV_pos rfl, decide_eq_true List.mem_cons_self]
      rfl
    · show (valV ((Sum.inl a, V.bl true) :: fK f) (Sum.inl i : Key)).isSome = _
      rw [valV_neg (fun z => e (Sum.inl.inj z)), fK_val (f := f)]
      exact decide_eq_decide.mpr ⟨fun h => List.mem_cons_of_mem _ h, fun h => (List.mem_cons.mp h).elim (fun z => absurd z.symm e) id⟩
theorem fK_put {i : Int} {f : List Int} (h : i ∉ f) : putK (fK f) (Sum.inl i : Key) (V.bl true) = fK (f ++ [i]) := by
  unfold putK
  rw [if_neg]
  · unfold fK; rw [List.map_append]; rfl
  · intro z
    rw [List.any_eq_true] at z
    obtain ⟨kv, hkv, e⟩ := z
    unfold fK at hkv
    obtain ⟨j, hj, rfl⟩ := List.mem_map.mp hkv
    have e := of_decide_eq_true e
    have e : (Sum.inl j : Key) = Sum.inl i := e
    cases e
    exact h hj
theorem fK_len (f : List Int) : (fK f).length = f.length := List.length_map _
section
variable {P : Program} {w : World} {K : PySem.W.Frag} {mg : Str → Option Value} {base : Heap} {CN CB : Addr}
abbrev s_BadSchedule___init__ : Stmt := inClass (top 3) 0
abbrev N_BadSchedule___init__ : List Str := ["self", "line", "reason"]
abbrev P_BadSchedule___init__ : List Str := ["self", "line", "reason"]
theorem sc_BadSchedule___init__ : FnScope N_BadSchedule___init__ P_BadSchedule___init__ (defScope s_BadSchedule___init__) := ⟨rfl, rfl, rfl, by decide +kernel, rfl, by decide +kernel, by decide +kernel⟩
theorem ok_bs {f : Addr} {fd : FuncData} (T : Tx K mg CN CB) (F : Fun K "__init__" "BadSchedule.__init__" s_BadSchedule___init__ f fd) : FnOk P w K mg base CX0 1 f fd P_BadSchedule___init__ (sp_bs CB) := by
  have nd := sc_BadSchedule___init__.nd
  refine F.ok sc_BadSchedule___init__ (fun vs H Q E h => ?_) (fun cdv A outer s H vs Q E hr h => ?_)
  · obtain ⟨_, _, _, rfl, _⟩ := h
    rfl
  · obtain ⟨a, u, v, rfl, ha, q⟩ := h
    refine ⟨_, (pss_cons (ps_ost (pv 0) (pv 1))
      (pss_one (ps_ost (pv 0) (pv 2)))), ?_⟩
    refine ⟨_, rfl, _, rfl, a, CB, rfl, T.o_BadSchedule, T.n_line, .inl ⟨ha, fun d nd hne => ?_⟩⟩
    refine ⟨_, rfl, _, rfl, a, CB, rfl, T.o_BadSchedule, T.n_reason, .inr ⟨d, [("line", u)], upd_same, by rw [upd_ne hne, upd_same], by show 1 ≤ 900; decide, ?_⟩⟩
    refine q d _ nd (fun b o h hb => ?_) ?_ upd_same
    · have hbd : b ≠ d := ne_of_none h nd
      rw [upd_ne hbd, upd_ne hb, upd_ne hbd]; exact h
    · rw [upd_ne hne.symm, upd_same]
abbrev s_is_integer : Stmt := top 6
abbrev N_is_integer : List Str := ["value", "least", "greatest"]
abbrev P_is_integer : List Str := ["value", "least", "greatest"]
theorem sc_is_integer : FnScope N_is_integer P_is_integer (defScope s_is_integer) := ⟨rfl, rfl, rfl, by decide +kernel, rfl, by decide +kernel, by decide +kernel⟩
theorem ok_is_integer {f : Addr} {fd : FuncData} (T : Tx K mg CN CB) (F : Fun K "is_integer" "is_integer" s_is_integer f fd) : FnOk P w K mg base CX0 (1) f fd P_is_integer (spI) := by
  have nd := sc_is_integer.nd
  refine F.ok sc_is_integer (fun vs H Q E h => ?_) (fun cdv A outer s H vs Q E hr h => ?_)
  · obtain ⟨_, _, _, _, _, rfl, _⟩ := h
    rfl
  · obtain ⟨p, v, d, a, b, rfl, hd, q⟩ := h
    refine ⟨_, (pss_cons (ps_if (PW.pt (pw_or (pt_not (pt_val (pe_callB call_isi (by rfl) T.b_isinstance (by decide +kernel) (pa_cons (pv 0) (pa_cons (pe_ty "int" T.b_int) pa_nil))))) (pw_or1 (pt_val (pe_callB call_isi (by rfl) T.b_isinstance (by decide +kernel) (pa_cons (pv 0) (pa_cons (pe_ty "bool" T.b_bool) pa_nil)))))))
        (pss_one (ps_ret pe_bl))
        pss_nil)
      (pss_one (ps_ret (pe_chain op_le op_le (pv 1) (pv 0) (pv 2))))), ?_⟩
    have hd' := hd
    cases hd <;> walk_at "rds"
    case int =>
      refine iB (fun h => ?_) (fun h => ?_)
      · walk_at "rds"
        exact ansB q (by simp [isInt, h])
      · exact ansB q (by simp [isInt, h])
    all_goals exact q
abbrev s_is_process : Stmt := top 8
abbrev N_is_process : List Str := ["count", "value"]
abbrev P_is_process : List Str := ["count", "value"]
theorem sc_is_process : FnScope N_is_process P_is_process (defScope s_is_process) := ⟨rfl, rfl, rfl, by decide +kernel, rfl, by decide +kernel, by decide +kernel⟩
theorem ok_is_process {f : Addr} {fd : FuncData} (T : Tx K mg CN CB) (c_is_integer : DefOk P w K mg base CX0 "is_integer" P_is_integer 1 (spI))(F : Fun K "is_process" "is_process" s_is_process f fd) : FnOk P w K mg base CX0 (2) f fd P_is_process (spB2 isProc) := by
  have nd := sc_is_process.nd
  refine F.ok sc_is_process (fun vs H Q E h => ?_) (fun cdv A outer s H vs Q E hr h => ?_)
  · obtain ⟨_, _, _, _, _, rfl, _⟩ := h
    rfl
  · obtain ⟨p, u, v, c, d, rfl, hc, hd, q⟩ := h
    refine ⟨_, (pss_one (ps_ret (pe_and (pcall c_is_integer hr (pa_cons (pv 0) (pa_cons pe_int (pa_cons (pe_const T.c_MOST_PROCESSES) pa_nil)))) (pe_one (pcall c_is_integer hr (pa_cons (pv 1) (pa_cons pe_int (pa_cons (pe_op op_sub (pv 0) pe_int) pa_nil)))))))), ?_⟩
    walk_at "rds"
    refine iB (fun h => ?_) (fun h => ?_)
    · obtain ⟨n, rfl, h1, h2⟩ := isInt_int h
      cases hc
      walk_at "rds"
      exact ansB q (by simp [isProc, h1, h2])
    · refine ansB q ?_
      cases c <;> first | rfl | (rename_i n; have h0 : (decide (1 ≤ n) && decide (n ≤ 12)) = false := h; simp only [isProc, h0, Bool.false_and])
abbrev s_is_groups : Stmt := top 10
abbrev N_is_groups : List Str := ["count", "value", "found", "group", "process"]
abbrev P_is_groups : List Str := ["count", "value"]
theorem sc_is_groups : FnScope N_is_groups P_is_groups (defScope s_is_groups) := ⟨rfl, rfl, rfl, by decide +kernel, rfl, by decide +kernel, by decide +kernel⟩
theorem ok_is_groups {f : Addr} {fd : FuncData} (T : Tx K mg CN CB) (c_is_process : DefOk P w K mg base CX0 "is_process" P_is_process 2 (spB2 isProc))(F : Fun K "is_groups" "is_groups" s_is_groups f fd) : FnOk P w K mg base CX0 (3) f fd P_is_groups (spS2 isGr) := by
  have nd := sc_is_groups.nd
  refine F.ok sc_is_groups (fun vs H Q E h => ?_) (fun cdv A outer s H vs Q E hr h => ?_)
  · obtain ⟨_, _, _, _, _, rfl, _⟩ := h
    rfl
  · obtain ⟨p, u, v, c, d, rfl, hc, hd, q⟩ := h
    have hu := hu_of hr
    have hs := sl
    refine ⟨_, (pss_cons (ps_if (pt_not (pt_val (pe_callB call_isi (by rfl) T.b_isinstance (by decide +kernel) (pa_cons (pv 1) (pa_cons (pe_ty "tuple" T.b_tuple) pa_nil)))))
        (pss_one (ps_ret pe_bl))
        pss_nil)
      (pss_cons (ps_set (i := 2) nd rfl (Or.inl rfl) pe_dnewK)
      (pss_cons (ps_for PassesOwn.never rfl (pi_tup (pv 1)) (pg_name (i := 3) nd rfl (Or.inl rfl))
        (pss_cons (ps_if (PW.pt (pw_or (pt_not (pt_val (pe_callB call_isi (by rfl) T.b_isinstance (by decide +kernel) (pa_cons (pv 3) (pa_cons (pe_ty "tuple" T.b_tuple) pa_nil))))) (pw_or1 (pt_cmpR op_eq (pe_callB call_len_seq (by rfl) T.b_len (by decide +kernel) (pa_cons (pv 3) pa_nil)) pe_int (nomark _)))))
          (pss_one (ps_ret pe_bl))
          pss_nil)
        (pss_one (ps_for PassesOwn.never rfl (pi_tup (pv 3)) (pg_name (i := 4) nd rfl (Or.inl rfl))
          (pss_cons (ps_if (PW.pt (pw_or (pt_not (pt_val (pcall c_is_process hr (pa_cons (pv 0) (pa_cons (pv 4) pa_nil))))) (pw_or1 (pt_cmp (pc_din hu (pv 4) (pv 2))))))
            (pss_one (ps_ret pe_bl))
            pss_nil)
          (pss_one (ps_dput hu (pv 2) (pv 4) pe_bl rfl)))))))
      (pss_one (ps_ret pe_bl))))), ?_⟩
    walk_at "rds"
    refine iB (fun h => ?_) (fun h => ?_)
    · have e : isGr c d = false := by
        cases d <;> first | rfl | (cases h; done)
      exact (show Q (.bl false) H from e ▸ q _ (Same.rfl' H))
    · obtain ⟨ds, rfl⟩ : ∃ ds, d = .tuple ds := by
        cases d <;> first | (cases h; done) | exact ⟨_, rfl⟩
      obtain _ | _ | _ | _ | _ | @⟨a, xs, _, ha, na, hw, hr2⟩ := hd
      walk_at "rds"
      intro D nD
      have sD := same_new nD (.dK [])
      have lx := hr2.length
      refine ⟨_, rfl, a, rfl, ⟨_, SqT.of (sD _ _ ha)⟩, for_tup (K := K) (a := a) (xs := xs) (fun i σ H' => ∃ (f : List Int) (x3 x4 : Option V), σ = [some u, some (.ref a), some (.ref D), x3, x4] ∧ Same H H' ∧ H' D = some (.dK (fK f)) ∧ f.Nodup ∧ (∀ x ∈ f, 0 ≤ x ∧ x < (12 : Nat)) ∧ grG c f (ds.drop i) = grG c [] ds) ?_ ?_ ?_ ?_⟩
      · exact ⟨[], _, _, rfl, sD, upd_same, List.nodup_nil, fun x hx => (by cases hx), rfl⟩
      · rintro i σ H' _ ⟨_, _, _, rfl, s1, _⟩
        exact SqT.of (s1 _ _ ha)
      · rintro i v σ H1 hx ⟨f, x3, x4, rfl, s1, hD, hnd, hlt, hg⟩
        obtain ⟨d, hd, rd⟩ := hr2.at hx
        have rd1 := rd.same s1
        have hc1 := hc.same s1
        have ed : ds.drop i = d :: ds.drop (i + 1) := by
          obtain ⟨hi, e⟩ := List.getElem?_eq_some_iff.mp hd
          rw [List.drop_eq_getElem_cons hi, e]
        rw [ed] at hg
        walk_at "rds"
        refine iB (fun h2 => ?_) (fun h2 => ?_)
        · have e : isGr c (.tuple ds) = false := by
            show (grG c [] ds).isSome = false
            rw [← hg]
            cases d <;> first | rfl | (cases h2; done)
          exact (show Q (.bl false) H1 from e ▸ q _ s1)
        · obtain ⟨es, rfl⟩ : ∃ es, d = .tuple es := by
            cases d <;> first | (cases h2; done) | exact ⟨_, rfl⟩
          obtain _ | _ | _ | _ | _ | @⟨b, ys, _, hb0, nb, hw3, hr3⟩ := rd
          have ly := hr3.length
          have hb := s1 _ _ hb0
          walk_at "rds"
          cases es with
          | nil =>
            obtain rfl : ys = [] := List.eq_nil_of_length_eq_zero ly
            have e : isGr c (.tuple ds) = false := by
              show (grG c [] ds).isSome = false
              rw [← hg]; rfl
            walk_at "rds"
            exact (show Q (.bl false) H1 from e ▸ q _ s1)
          | cons e0 es =>
            refine dF (vint_ne (by rw [ly, List.length_cons]; omega)) ?_
            walk_at "rds"
            have ge : grG c f (.tuple (e0 :: es) :: ds.drop (i + 1)) = match elG c f (e0 :: es) with | some f' => grG c f' (ds.drop (i + 1)) | none => none := rfl
            rw [ge] at hg
            generalize e0 :: es = es1 at *
            refine ⟨⟨_, SqT.of hb⟩, for_tup (K := K) (a := b) (xs := ys) (fun j σ H' => ∃ (f1 : List Int) (x4 : Option V), σ = [some u, some (.ref a), some (.ref D), some (.ref b), x4] ∧ Same H H' ∧ H' D = some (.dK (fK f1)) ∧ f1.Nodup ∧ (∀ x ∈ f1, 0 ≤ x ∧ x < (12 : Nat)) ∧ elG c f1 (es1.drop j) = elG c f es1) ?_ ?_ ?_ ?_⟩
            · exact ⟨f, _, rfl, s1, hD, hnd, hlt, rfl⟩
            · rintro j σ H' _ ⟨_, _, rfl, s2, _⟩
              exact SqT.of (s2 _ _ hb0)
            · rintro j v σ H2 hy ⟨f1, x5, rfl, s2, hD2, hnd2, hlt2, he⟩
              obtain ⟨d, hd, rd⟩ := hr3.at hy
              have rd2 := rd.same s2
              have hc2 := hc.same s2
              have ed2 : es1.drop j = d :: es1.drop (j + 1) := by
                obtain ⟨hi, e⟩ := List.getElem?_eq_some_iff.mp hd
                rw [List.drop_eq_getElem_cons hi, e]
              rw [ed2] at he
              have bad : elG c f1 (d :: es1.drop (j + 1)) = none → isGr c (.tuple ds) = false := fun z => by
                show (grG c [] ds).isSome = false
                rw [← hg, ← he, z]; rfl
              refine ⟨_, rfl, _, rfl, ?_⟩
              refine ⟨p, u, v, c, d, rfl, hc2, rd2, ?_⟩
              walk_at "rds"
              refine iB (fun h3 => ?_) (fun h3 => ?_)
              · have e : isGr c (.tuple ds) = false := bad (by
                  cases d <;> first | rfl | skip
                  unfold elG
                  rw [if_neg (fun z => by rw [z.1] at h3; cases h3)])
                exact (show Q (.bl false) H2 from e ▸ q _ s2)
              · obtain ⟨x, rfl, hx1⟩ : ∃ x, d = .int x ∧ 0 ≤ x ∧ x < (12 : Nat) := by
                  replace h3 : isProc c d = true := by simpa using h3
                  cases c <;> first | (cases h3; done) | skip
                  unfold isProc at h3
                  cases d <;> first | (simp [isInt] at h3; done) | skip
                  rename_i n x
                  simp only [isInt, Bool.and_eq_true, decide_eq_true_eq] at h3
                  exact ⟨x, rfl, by omega, by omega⟩
                have h3 : isProc c (.int x) = true := by simpa using h3
                cases rd2
                walk_at "rds"
                refine ⟨D, _, rfl, DGet.k (k := Sum.inl x) hD2, ?_⟩
                rw [fK_val]
                by_cases hm : x ∈ f1
                · rw [decide_eq_true hm]
                  have e : isGr c (.tuple ds) = false := bad (by
                    unfold elG
                    rw [if_neg (fun z => z.2 hm)])
                  walk_at "rds"
                  exact (show Q (.bl false) H2 from e ▸ q _ s2)
                · rw [decide_eq_false hm]
                  walk_at "rds"
                  have hl := nodup_lt hnd2 hlt2
                  refine ⟨D, _, rfl, DPut.k (k := Sum.inl x) hD2 (by rw [fK_len]; omega), ?_⟩
                  rw [fK_put hm]
                  refine ⟨f1 ++ [x], _, rfl, fun b o hb => ?_, upd_same, ?_, fun y hy => ?_, ?_⟩
                  · rw [upd_ne (ne_of_none hb nD)]; exact s2 b o hb
                  · rw [List.nodup_append]
                    exact ⟨hnd2, List.nodup_cons.mpr ⟨List.not_mem_nil, List.nodup_nil⟩, fun a ha b hb e => hm (by rw [← List.mem_singleton.mp hb, ← e]; exact ha)⟩
                  · rcases List.mem_append.mp hy with hy | hy
                    · exact hlt2 y hy
                    · rw [List.mem_singleton.mp hy]; exact hx1
                  · rw [← he]
                    show _ = elG c f1 (.int x :: es1.drop (j + 1))
                    have ge : elG c f1 (.int x :: es1.drop (j + 1)) = if isProc c (.int x) = true ∧ x ∉ f1 then elG c (f1 ++ [x]) (es1.drop (j + 1)) else none := rfl
                    rw [ge, if_pos ⟨h3, hm⟩]
            · rintro σ H2 ⟨f1, x5, rfl, s2, hD2, hnd2, hlt2, he⟩
              rw [ly, List.drop_length] at he
              refine ⟨f1, _, _, rfl, s2, hD2, hnd2, hlt2, ?_⟩
              rw [← hg, ← he]; rfl
      · rintro σ H1 ⟨f, x3, x4, rfl, s1, hD, hnd, hlt, hg⟩
        rw [lx, List.drop_length] at hg
        have e : isGr c (.tuple ds) = true := by
          show (grG c [] ds).isSome = true
          rw [← hg]; rfl
        exact (show Q (.bl true) H1 from e ▸ q _ s1)
end
end Mus

set_option maxRecDepth 100000
set_option maxHeartbeats 4000000
/-! A def whose code object is known: its generator expressions are laid in that one's table. -/
namespace Mus
open PySem PySem.Spec PyProof.Rows L2
structure FunC (K : PySem.W.Frag) (x qual : Str) (st : Stmt) (f : Addr) (fd : FuncData) (c : Addr) : Prop where
  ex : ∃ (oc : Value) (od : Option Addr) (kV doc pm : Value) (an : Option Addr) (ct : Value) (osl : Array (Option Value)),
    fd = PySem.W.fnOf x qual (defArgs st) (defBody st) (defScope st) .none kV doc pm an (.ref c) ct ∧ K.lookup f = some ⟨oc, od, .func fd, osl⟩ ∧ PySem.W.codeIn K (.ref c) qual = true
  kp : PySem.W.keepIn K (.ref f) = true
section
variable {P : Program} {w : World} {K : PySem.W.Frag} {mg : Str → Option Value} {base : Heap}
theorem FunC.ok {x qual : Str} {st : Stmt} {f c : Addr} {fd : FuncData} {N ps : List Str} {k : Nat} {sp : Sp} (F : FunC K x qual st f fd c) (S : FnScope N ps (defScope st)) (len : ∀ vs H Q E, sp vs H Q E → vs.length = ps.length)
    (hbody : ∀ (A : Around) (outer : List Env) (s : Shared) (H : Hp) (vs : List V) (Q : VK) (E : XK), Room k (A.deeper (envOfC qual (defScope st) s.heap.objs.size f (.ref c))) → sp vs H Q E →
      ∃ t, PSs (cxOf CX0 P w K mg base N qual (defScope st) f (.ref c) A outer s H E).nox (defBody st) t ∧ t { nx := fun _ H' => Q .non H', rt := Q } (start N vs) H) : FnOk P w K mg base CX0 (k + 1) f fd ps sp := by
  obtain ⟨oc, od, kV, doc, pm, an, ct, osl, rfl, lk, hcd⟩ := F.ex
  refine fn_of lk hcd S len fun A outer s H vs Q E hr hsp => ?_
  obtain ⟨t, h, q⟩ := hbody A outer s H vs Q E hr hsp
  exact ⟨t, h.nox, q⟩
end
theorem funC_mk {K : PySem.W.Frag} {x qual : Str} {st : Stmt} {f c : Addr} {oc : Value} {od an : Option Addr} {osl : Array (Option Value)} {kV dc pm ct : Value}
    (l : K.lookup f = some ⟨oc, od, .func (PySem.W.fnOf x qual (defArgs st) (defBody st) (defScope st) .none kV dc pm an (.ref c) ct), osl⟩) (cd : PySem.W.codeIn K (.ref c) qual = true) (k : PySem.W.keepIn K (.ref f) = true) :
    FunC K x qual st f (PySem.W.fnOf x qual (defArgs st) (defBody st) (defScope st) .none kV dc pm an (.ref c) ct) c := ⟨⟨_, _, _, _, _, _, _, _, rfl, l, cd⟩, k⟩
theorem gens2 {env : Env} {scope : Scope} {x y z : Str} {cy cz : Addr} (hk : scope.kind = .function) (hco : scope.isCoroutine = false) (hn : scope.names = [((".0" : Str), .local), (x, .local), (y, .free), (z, .free)])
    (hy : env.cells.lookup y = some cy) (hz : env.cells.lookup z = some cz) (hx : (x == (".0" : Str)) = false := by decide) : GxR.GenS env scope x where
  kind := hk
  co := hco
  cell := fun p hp => by
    rw [hn] at hp
    simp only [List.mem_cons, List.not_mem_nil, or_false] at hp
    rcases hp with rfl | rfl | rfl | rfl <;> exact fun z => by cases z
  dot := by rw [hn]; rfl
  loc := by
    rw [hn, List.lookup_cons, hx]
    show List.lookup x ((x, NameKind.local) :: _) = _
    rw [List.lookup_cons, beq_self_eq_true]
  free := fun p hp hf => by
    rw [hn] at hp
    simp only [List.mem_cons, List.not_mem_nil, or_false] at hp
    rcases hp with rfl | rfl | rfl | rfl
    · cases hf
    · cases hf
    · exact ⟨_, hy⟩
    · exact ⟨_, hz⟩
end Mus

set_option maxRecDepth 100000
set_option maxHeartbeats 4000000
/-! try whose clauses are of both kinds, named and not: the error on its way from clause to clause as one thing (Fell), and what each kind of clause does with it. -/
namespace Mus
open PySem PySem.Spec PyProof.Rows L2
/-- the error at a has come down in X's frame, nobody has taken it so far -/
structure Fell (X : Cx) (pins : List (Addr × Obj)) (σ : L2.St) (H : Hp) (a : Addr) (cls : Value) (d : Option Addr) (s : Shared) : Prop where
  inv : Inv X pins σ H s
  new : H a = none
  air : ∃ (B : Heap) (sI : Shared), Inv X pins σ H sI ∧ (∀ b o, sI.heap.get? b = some o → b ∉ frs X.stack → B.get? b = some o) ∧ sI.heap.UpToSlots s.heap ∧ HandSPX.FlyingZ B (X.env :: X.outer) a (Zc cls d) s.heap ∧ s.os = sI.os ∧ AllBare s.gens
section
variable {X : Cx} {pins : List (Addr × Obj)} {σ : L2.St} {H : Hp} {a : Addr} {cls : Value} {d : Option Addr} {s : Shared} {D : Ends} {W : WX}
/-- the error as an object, and that it is no frame -/
theorem Fell.obj (f : Fell X pins σ H a cls d s) (hs : X.stack = X.env :: X.outer) (hf : X.env.frame = some X.env.locals) : ∃ oe vs, s.heap.get? a = some oe ∧ Zc cls d oe ∧ oe.data = .fields vs ∧ a ≠ X.env.locals ∧ a ∉ X.fs := by
  obtain ⟨B, sI, _, _, _, fl, _⟩ := f.air
  obtain ⟨oe, vs, e1, e2, e3⟩ := fl.there
  have out : a ∉ frs (X.env :: X.outer) := fun m => by
    obtain ⟨_, o, e, no⟩ := fl.2.2.1.mem m
    exact no _ ((Option.some.inj (e1.symm.trans e)) ▸ e3)
  refine ⟨oe, vs, e1, e2, e3, fun z => out ?_, fun m => out ?_⟩
  · exact List.mem_filterMap.mpr ⟨X.env, .head _, z ▸ hf⟩
  · obtain ⟨e, m, q⟩ := List.mem_filterMap.mp m
    exact List.mem_filterMap.mpr ⟨e, .tail _ m, q⟩
/-- the body has let it go -/
theorem Fell.start {h' : Heap} {sI : Shared} {B : Heap} (J : Inv X pins σ H sI) (nb : ∀ b o, sI.heap.get? b = some o → b ∉ frs X.stack → B.get? b = some o) (up : sI.heap.UpToSlots s.heap) (na : H a = none) (os : s.os = sI.os) (ag : AllBare s.gens)
    (fl : HandSPX.FlyingZ B (X.env :: X.outer) a (Zc cls d) h') (up' : s.heap.UpToSlots h') : Fell X pins σ H a cls d { s with heap := h' } :=
  ⟨J.landed nb fl.1 (up.trans up') os ag, na, B, sI, J, nb, up.trans up', fl, os, ag⟩
theorem Fell.next {h' : Heap} {B : Heap} (f : Fell X pins σ H a cls d s) (g : ∀ B sI, Inv X pins σ H sI → (∀ b o, sI.heap.get? b = some o → b ∉ frs X.stack → B.get? b = some o) → sI.heap.UpToSlots s.heap → HandSPX.FlyingZ B (X.env :: X.outer) a (Zc cls d) s.heap → s.os = sI.os → AllBare s.gens →
    HandSPX.FlyingZ B (X.env :: X.outer) a (Zc cls d) h' ∧ s.heap.UpToSlots h') : Fell X pins σ H a cls d { s with heap := h' } := by
  obtain ⟨B, sI, J, nb, up, fl, os, ag⟩ := f.air
  obtain ⟨fl', up'⟩ := g B sI J nb up fl os ag
  exact .start J nb up f.new os ag fl' up'
/-- no clause is left: it goes on -/
theorem Fell.out {Q : Flow → Shared → Prop} (f : Fell X pins σ H a cls d s) (hs : X.stack = X.env :: X.outer) (hf : X.env.frame = some X.env.locals) (tk : Takes X W) (w : W cls d σ H) : wpAny (model X.prog X.w) X.A (handleBy (.ref a) X.env []) Q X.xe s := by
  obtain ⟨B, sI, J, nb, up, fl, os, ag⟩ := f.air
  refine wpAny_handleBy_nil ?_
  obtain ⟨_, _, _, oe, vs, T, _, _, e1, _, e3, e4, _⟩ := id fl
  unfold PySem.passOn
  refine wpAny_bind (wpAny_field e1 e3 e4 ?_)
  rw [if_neg (by simp : ¬ ((Value.ref T == Value.none) = true))]
  have go : wpAny (model X.prog X.w) X.A (setFlight (.ref a) X.env.frame) (fun _ s4 => wpAny (model X.prog X.w) X.A (throw (.ref a) : Sem Flow) Q X.xe s4) X.xe s := hf ▸
    HandSPX.setFlight_upZ fl fun h4 held up4 => wpAny_throw (tk _ _ ⟨a, B, sI, pins, σ, H, cls, d, rfl, J, nb, up.trans up4, .inr (.inr (hs ▸ held)), f.new, os, ag, w⟩)
  first
    | exact wpAny_bind (wpAny_pure (wpAny_bind go))
    | exact wpAny_bind go
/-- is it the clause's? -/
theorem Fell.asks {x : Str} {np : Pos} {c : Value} {b : Bool} {E : Value → Shared → Prop} {R : Bool → Shared → Prop} {F : Value → Shared → Prop} (f : Fell X pins σ H a cls d s) (hs : X.stack = X.env :: X.outer) (hf : X.env.frame = some X.env.locals) (hc : Names X x c) (hb : PySem.W.exmOne X.K cls c = some b)
    (h : R b s) : wpAny (model X.prog X.w) (X.A.mark (some (.ref a))) (eval (.Name x np) X.env) (fun c s1 => wpAny (model X.prog X.w) (X.A.mark (some (.ref a))) (excMatches (.ref a) c) (fun b s2 => R b s2) F s1) E s := by
  obtain ⟨oe, vs, e1, e2, e3, n1, n2⟩ := f.obj hs hf
  have S := f.inv.suite e1 e3 f.new n1 n2
  have L : PySem.W.Looks (model X.prog X.w) s.heap (typeOf (.ref a)) cls := fun A Q E s k q => wpAny_typeOf_ref (k _ _ e1) (e2.1 ▸ q)
  have M := PySem.W.exm_one (M := model X.prog X.w) f.inv.kIn L hb
  obtain ⟨hg, hd, hm | ⟨hm, hv, hn⟩⟩ := hc
  · exact ld_glob (X := X.suite a ((a, oe) :: (X.pn ++ pins))) S hg hm (M.here h) hd
  · exact ld_blt (X := X.suite a ((a, oe) :: (X.pn ++ pins))) S hg hm hv (M.here h) hn hd
end
/-- one clause: its class, its name's slot if it has one, its suite -/
structure Cl where
  c : Value
  i : Option Nat
  ts : Addr → Value → Option Addr → TS
/-- behind a suite the name's slot is empty -/
def endI (D : Ends) : Option Nat → Ends
  | none => D
  | some i => { nx := fun σ H => D.nx (σ.set i none) H, rt := D.rt, bk := fun σ H => D.bk (σ.set i none) H, ct := fun σ H => D.ct (σ.set i none) H }
def putI (a : Addr) (σ : L2.St) : Option Nat → L2.St
  | none => σ
  | some i => σ.set i (some (.ref a))
def wCl (K : PySem.W.Frag) (Wout : WX) (D : Ends) : List Cl → WX
  | [] => Wout
  | k :: r => fun cls d σ H => ∃ b, PySem.W.exmOne K cls k.c = some b ∧ (b = true → ∀ a, H a = none → k.ts a cls d (endI D k.i) (putI a σ k.i) H) ∧ (b = false → wCl K Wout D r cls d σ H)
/-- the clause's name -/
def Nm (X : Cx) : Option Str → Option Nat → Prop
  | none, none => True
  | some n, some i => X.N.Nodup ∧ X.N[i]? = some n ∧ X.env.kindOf n = some .local
  | _, _ => False
inductive Cls' (X : Cx) : List ExceptHandler → List Cl → Prop
  | nil : Cls' X [] []
  | cons {x : Str} {n : Option Str} {i : Option Nat} {c : Value} {ts : Addr → Value → Option Addr → TS} {b₀ : Stmt} {suite : List Stmt} {np pos' : Pos} {hds : List ExceptHandler} {l : List Cl} (hn : Nm X n i) (hc : Names X x c)
      (hsu : ∀ a oe cls d pn, Zc cls d oe → (∃ vs, oe.data = .fields vs) → PSs (X.suite a ((a, oe) :: pn)) (b₀ :: suite) (ts a cls d)) (r : Cls' X hds l) : Cls' X (.ExceptHandler (some (.Name x np)) n (b₀ :: suite) pos' :: hds) (⟨c, i, ts⟩ :: l)
section
variable {X : Cx} {pins : List (Addr × Obj)} {σ : L2.St} {H : Hp} {a : Addr} {cls : Value} {d : Option Addr} {s : Shared} {D : Ends} {W : WX}
/-- a suite without a name runs to its ends -/
theorem Fell.suite0 {b₀ : Stmt} {suite : List Stmt} {pos' : Pos} {t : TS} {E : Value → Shared → Prop} (f : Fell X pins σ H a cls d s) (hs : X.stack = X.env :: X.outer) (hf : X.env.frame = some X.env.locals)
    (hsu : ∀ oe pn, Zc cls d oe → (∃ vs, oe.data = .fields vs) → PSs (X.suite a ((a, oe) :: pn)) (b₀ :: suite) t) (q : t D σ H) :
    codeAny (model X.prog X.w) (X.A.mark (some (.ref a))) (.handlers (.ref a) [.ExceptHandler none none (b₀ :: suite) pos'] X.env) (fun r s2 => match r with | .ok g => SP X pins D g s2 | .error x => E x s2) s := by
  have ok := f.inv.ok
  refine codeAny_handlers_suite ?_
  obtain ⟨B, sI, J, nb, up, fl, os, ag⟩ := id f.air
  refine HandSPX.lands_againZ fl fun h4 fl4 up4 => ?_
  have f4 : Fell X pins σ H a cls d { s with heap := h4 } := .start J nb up f.new os ag fl4 up4
  obtain ⟨oe, vs, e1, e2, e3, n1, n2⟩ := f4.obj hs hf
  refine wpAny_mono ((hsu oe (X.pn ++ pins) e2 ⟨_, e3⟩).run [] _ σ H D (f4.inv.suite e1 e3 f.new n1 n2) q) (fun g s6 h => ?_) fun _ _ z => z.elim
  cases g with
  | ret u => obtain ⟨v, σ6, H6, S6, r6, q6⟩ := h; exact ⟨v, σ6, H6, S6.unsuite ok, r6, q6⟩
  | _ => obtain ⟨σ6, H6, S6, q6⟩ := h; exact ⟨σ6, H6, S6.unsuite ok, q6⟩
/-- one with a name -/
theorem Fell.suite1 {n : Str} {i : Nat} {b₀ : Stmt} {suite : List Stmt} {pos' : Pos} {t : TS} {E F : Value → Shared → Prop} (f : Fell X pins σ H a cls d s) (hs : X.stack = X.env :: X.outer) (hf : X.env.frame = some X.env.locals) (hN : X.N.Nodup) (hi : X.N[i]? = some n) (hl : X.env.kindOf n = some .local)
    (hsu : ∀ oe pn, Zc cls d oe → (∃ vs, oe.data = .fields vs) → PSs (X.suite a ((a, oe) :: pn)) (b₀ :: suite) t) (q : t (endI D (some i)) (σ.set i (some (.ref a))) H) :
    codeAny (model X.prog X.w) (X.A.mark (some (.ref a))) (.handlers (.ref a) [.ExceptHandler none (some n) (b₀ :: suite) pos'] X.env)
      (fun r s2 => match r with | .ok g => wpAny (model X.prog X.w) X.A (do bindName X.env n .none; unbindBehindTheSuite X.env n pos') (fun _ s3 => SP X pins D g s3) F s2 | .error x => E x s2) s := by
  have ok := f.inv.ok
  refine codeAny_handlers_suite_as ?_
  obtain ⟨B, sI, J, nb, up, fl, os, ag⟩ := id f.air
  refine HandSPX.lands_againZ fl fun h4 fl4 up4 => ?_
  have f4 : Fell X pins σ H a cls d { s with heap := h4 } := .start J nb up f.new os ag fl4 up4
  obtain ⟨oe, vs, e1, e2, e3, n1, n2⟩ := f4.obj hs hf
  refine store_ok (X := X.suite a ((a, oe) :: (X.pn ++ pins))) (v := .ref a) (f4.inv.suite e1 e3 f.new n1 n2) hN hi (.inl hl) rfl (fun s5 S5 => ?_) (.inr hl)
  refine wpAny_mono ((hsu oe (X.pn ++ pins) e2 ⟨_, e3⟩).run [] s5 _ H _ S5 q) (fun g s6 h => ?_) fun _ _ z => z.elim
  cases g with
  | ret u => obtain ⟨v, σ6, H6, S6, r6, q6⟩ := h; exact gone_ok (S6.unsuite ok) hN hi hl fun s7 J7 => ⟨v, _, _, J7, r6, q6⟩
  | _ => obtain ⟨σ6, H6, S6, q6⟩ := h; exact gone_ok (S6.unsuite ok) hN hi hl fun s7 J7 => ⟨_, _, J7, q6⟩
/-- from clause to clause -/
theorem Fell.all {hds : List ExceptHandler} {l : List Cl} (hh : Cls' X hds l) (hs : X.stack = X.env :: X.outer) (hf : X.env.frame = some X.env.locals) (tk : Takes X W) (f : Fell X pins σ H a cls d s) (w : wCl X.K W D l cls d σ H) :
    wpAny (model X.prog X.w) X.A (handleBy (.ref a) X.env hds) (SP X pins D) X.xe s := by
  induction hh with
  | nil => exact f.out hs hf tk w
  | @cons x n i c ts b₀ suite np pos' hds l hn hc hsu r ih =>
    obtain ⟨b, hb, yes, no⟩ := w
    refine wpAny_handleBy_cons (codeAny_handlers_test (f.asks (R := fun b s2 => _) hs hf hc hb ?_)) (by intro q; cases q)
    cases b with
    | false => exact ih (no rfl)
    | true =>
      have q := yes rfl a f.new
      match n, i, hn with
      | none, none, _ => exact f.suite0 hs hf (fun oe pn z k => hsu a oe cls d pn z k) q
      | some n, some i, ⟨h1, h2, h3⟩ => exact f.suite1 hs hf h1 h2 h3 (fun oe pn z k => hsu a oe cls d pn z k) q
end
section
variable {X : Cx} {body : List Stmt} {h₀ : ExceptHandler} {hds : List ExceptHandler} {l : List Cl} {pos : Pos} {tb : WX → List (Addr × Obj) → (Value → Shared → Prop) → TS} {Wout : WX}
theorem ps_tryC (hs : X.stack = X.env :: X.outer) (hf : X.env.frame = some X.env.locals) (tk : Takes X Wout)
    (hb : ∀ W pn xe, Takes (X.tr pn xe) W → PassesOwn (model X.prog X.w) X.A X.env xe → PSs (X.tr pn xe) body (tb W pn xe)) (hh : Cls' X (h₀ :: hds) l) (i1 : ∀ W pn xe, tb W pn xe = tb W [] x00 := by intros; rfl) :
    PS X (.Try body (h₀ :: hds) [] [] pos) (fun D σ H => tb (wCl X.K Wout D l) [] x00 D σ H) := by
  refine ⟨fun pins s σ H D I h => ?_⟩
  have ok := I.ok
  have fr : X.A.frames = some (X.env :: X.outer) := ok.frames.trans (hs ▸ rfl)
  rw [← i1 _ (X.pn ++ pins) (fun e s1 => wpAny (model X.prog X.w) X.A (noteFrame e X.env) (fun _ s2 => wpAny (model X.prog X.w) X.A (setFlight e none) (fun _ s3 => wpAny (model X.prog X.w) X.A (handleBy e X.env (h₀ :: hds)) (SP X pins D) X.xe s3) X.xe s2) X.xe s1)] at h
  refine wpAny_Try_except (wpAny_mono ((hb _ _ _ (fun u s' x => ?_) PassesOwn.looking).run [] s σ H D (I.toTry _) h) (fun f s1 e => ?_) fun _ _ e => e)
  · obtain ⟨a, B, sI, pins', σ', H', cls, d, rfl, J, nb, up, sky, na, os, ag, w⟩ := x
    exact Sky.land Zc.steady fr hf (show Sky B (X.env :: X.outer) a (Zc cls d) X.env.locals s'.heap from hs ▸ sky) fun h3 fl up3 => Fell.all hh hs hf tk (.start (J.ofTry ok) nb up na os ag fl up3) w
  · cases f with
    | next => obtain ⟨σ', H', J, q⟩ := e; exact wpAny_execs_nil ⟨σ', H', J.ofTry ok, q⟩
    | ret u => obtain ⟨v, σ', H', J, r, q⟩ := e; exact ⟨v, σ', H', J.ofTry ok, r, q⟩
    | _ => obtain ⟨σ', H', J, q⟩ := e; exact ⟨σ', H', J.ofTry ok, q⟩
theorem cl_one {x : Str} {c : Value} {ts : Addr → Obj → Value → Option Addr → List (Addr × Obj) → TS} {b₀ : Stmt} {suite : List Stmt} {np pos' : Pos} (hc : Names X x c)
    (hsu : ∀ a oe cls d pn, Zc cls d oe → (∃ vs, oe.data = .fields vs) → PSs (X.suite a ((a, oe) :: pn)) (b₀ :: suite) (ts a oe cls d pn)) (r : Cls' X hds l)
    (hj : ∀ a oe cls d pn, ts a oe cls d pn = ts a o00 cls d [] := by intros; rfl) : Cls' X (.ExceptHandler (some (.Name x np)) none (b₀ :: suite) pos' :: hds) (⟨c, none, fun a cls d => ts a o00 cls d []⟩ :: l) :=
  .cons trivial hc (fun a oe cls d pn z f => hj a oe cls d pn ▸ hsu a oe cls d pn z f) r
theorem cl_as {x n : Str} {i : Nat} {c : Value} {ts : Addr → Obj → Value → Option Addr → List (Addr × Obj) → TS} {b₀ : Stmt} {suite : List Stmt} {np pos' : Pos} (hN : X.N.Nodup) (hi : X.N[i]? = some n) (hln : X.env.kindOf n = some .local) (hc : Names X x c)
    (hsu : ∀ a oe cls d pn, Zc cls d oe → (∃ vs, oe.data = .fields vs) → PSs (X.suite a ((a, oe) :: pn)) (b₀ :: suite) (ts a oe cls d pn)) (r : Cls' X hds l)
    (hj : ∀ a oe cls d pn, ts a oe cls d pn = ts a o00 cls d [] := by intros; rfl) : Cls' X (.ExceptHandler (some (.Name x np)) (some n) (b₀ :: suite) pos' :: hds) (⟨c, some i, fun a cls d => ts a o00 cls d []⟩ :: l) :=
  .cons ⟨hN, hi, hln⟩ hc (fun a oe cls d pn z f => hj a oe cls d pn ▸ hsu a oe cls d pn z f) r
end
/-- isinstance(e, c), e what the suite holds, of the class D -/
theorem call_isEx {X : Cx} {a : Addr} {oe : Obj} {cls : Value} {d : Option Addr} {pn : List (Addr × Obj)} (hz : Zc cls d oe) (hf : ∃ vs, oe.data = .fields vs) :
    CallR (X.suite a ((a, oe) :: pn)) (.builtin "isinstance") (fun xs H Q => ∃ D, cls = .ref D ∧ d = none ∧ ExcC X.K D ∧ rIsE X.K D a xs H Q) := by
  intro pins s σ H xs us Q I r h
  obtain ⟨D, rfl, rfl, C, h⟩ := h
  exact call_isE C hz hf pins s σ H xs us Q I r h
end Mus

set_option maxRecDepth 100000
set_option maxHeartbeats 4000000
namespace Mus
open PySem L2
local macro_rules | `(tactic| walk_at "rd") => `(tactic| first
  | refine ⟨_, rfl, ?_⟩ | refine ⟨(True.intro : True), ?_⟩
  | refine ⟨_, _, rfl, rfl, (⟨by decide, by decide, by decide⟩ : CPow _ _), ?_⟩
  | refine ⟨_, _, rfl, rfl, (⟨by decide, by decide⟩ : CDiv _ _), ?_⟩
  | refine ⟨_, _, rfl, rfl, (by show (0 : Int) < _; decide), ?_⟩
  | refine ⟨_, _, rfl, rfl, ?_⟩ | refine ⟨rfl, ?_⟩ | refine iteT ?_ | refine iteF ?_ | refine ⟨_, _, rfl, ?_⟩ | refine .inl ⟨_, rfl, ?_⟩
  | refine ⟨_, _, _, _, _, rfl, (by assumption), (by assumption), (by assumption), rfl, ?_⟩ | refine ⟨_, _, _, _, rfl, rfl, SqT.of (by assumption), rfl, ?_⟩ | refine ⟨_, _, rfl, SqT.of (by assumption), rfl, ?_⟩
  | refine ⟨_, _, _, _, _, rfl, .ty _, Rp.ty (by assumption), kit_int _, ?_⟩ | refine ⟨_, _, _, _, _, rfl, .ty _, Rp.ty (by assumption), kit_bool _, ?_⟩
  | refine ⟨_, _, _, _, _, rfl, .ty _, Rp.ty (by assumption), kit_str _, ?_⟩ | refine ⟨_, _, _, _, _, rfl, .ty _, Rp.ty (by assumption), kit_tup _, ?_⟩)
local macro_rules | `(tactic| walk_at "cal") => `(tactic| first
  | refine ⟨_, _, _, _, _, rfl, (by assumption), ?_⟩ | refine ⟨_, _, _, _, _, rfl, (by assumption), (by assumption), ?_⟩)
local macro_rules | `(tactic| walk_at "sq") => `(tactic| first
  | refine ⟨_, _, rfl, Or.inr (SqT.of (by assumption)), ?_⟩ | refine ⟨_, _, _, _, rfl, rfl, SqT.of (by assumption), rfl, ?_⟩)
local macro_rules | `(tactic| walk_at "rds") => `(tactic| repeat first | walk_at "rd" | walk_at "cal" | walk_at "sq")
local macro_rules | `(tactic| walk_at "ze") => `(tactic| repeat first
  | exact zes_nil | exact ze_bl | exact ze_str | exact ze_non | apply zes_cons | apply ze_tup | apply ze_lst | apply ze_cat | exact di_c | exact di_v rfl | apply di_opC | apply di_op | apply di_neg | apply ze_i | (refine (⟨?_, ?_, ?_⟩ : CPow _ _) <;> decide) | exact Nat.le_of_ble_eq_true rfl | exact ze_varD rfl (by assumption))
local macro_rules | `(tactic| walk_at "rdz") => `(tactic| repeat (fail_if_success (first | show tLst _ _ _ _ | show tAsg (tLst _) _ _ _ _ | show tSeq (tAsg (tLst _) _) _ _ _ _)); first | walk_at "rd" | walk_at "cal" | walk_at "sq")
/-! ### the net -/
def nf (n : Int) (lp : Addr) (g : V) : List (Str × V) := [("_count", .int n), ("_packets", .ref lp), ("_groups", g)]
def eGs (L : List (List Int)) : PyData := .tuple (L.map eI)
structure NAt (CN : Addr) (H : Hp) (p lp : Addr) (N : Nat) (vs : List V) (L : List (List Int)) : Prop where
  ob : ∃ dx g, H p = some (.ins CN dx (nf N lp (.ref g))) ∧ TD H (.ref g) (eGs L)
  hl : H lp = some (.lst vs)
theorem NAt.mono {CN : Addr} {H H' : Hp} {p lp : Addr} {N : Nat} {vs : List V} {L : List (List Int)} (h : NAt CN H p lp N vs L) (e1 : H' p = H p) (e2 : H' lp = H lp) (t : TupK H H') : NAt CN H' p lp N vs L := by
  obtain ⟨⟨dx, g, h1, h3⟩, h2⟩ := h
  exact ⟨⟨dx, g, by rw [e1]; exact h1, h3.mono t⟩, by rw [e2]; exact h2⟩
theorem NAt.same {CN : Addr} {H H' : Hp} {p lp : Addr} {N : Nat} {vs : List V} {L : List (List Int)} (h : NAt CN H p lp N vs L) (s : Same H H') : NAt CN H' p lp N vs L := by
  obtain ⟨⟨dx, g, h1, h3⟩, h2⟩ := h
  exact ⟨⟨dx, g, s _ _ h1, h3.same s⟩, s _ _ h2⟩
theorem td_ints (H : Hp) : ∀ g : List Int, TDs H (g.map V.int) (g.map .int)
  | [] => .nil
  | i :: g => .cons (.int i) (td_ints H g)
theorem tds_ints {H : Hp} : ∀ {g : List Int} {vs : List V}, TDs H vs (g.map .int) → vs = g.map V.int
  | [], _, .nil => rfl
  | i :: g, _, .cons (.int _) r => by rw [tds_ints r]; rfl
theorem td_grp {H : Hp} {b : Addr} {g : List Int} (h : H b = some (.tup (g.map V.int))) (hl : g.length ≤ 100) : TD H (.ref b) (eI g) := .tup h (by rw [List.length_map]; omega) (td_ints H g)
theorem TD.grp {H : Hp} {v : V} {g : List Int} (h : TD H v (eI g)) : ∃ b, v = .ref b ∧ H b = some (.tup (g.map V.int)) := by
  obtain _ | _ | _ | _ | @⟨b, ys, _, hb, _, r⟩ := h
  exact ⟨b, rfl, by rw [← tds_ints r]; exact hb⟩
theorem rgV_up (N : Nat) : rgV 0 N = (upI N).map V.int := by
  unfold rgV upI
  rw [List.map_map, show ((N : Int) - 0).toNat = N by omega]
  refine List.map_congr_left fun i _ => ?_
  show V.int (0 + (i : Int)) = V.int i
  rw [Int.zero_add]
def sp_ninit (CN : Addr) : Sp := fun vs H Q _ => ∃ (p dx : Addr) (N : Nat), vs = [.ref p, .int N] ∧ H p = some (.ins CN dx []) ∧ 1 ≤ N ∧ N ≤ 12 ∧ ∀ lp H', H lp = none → NAt CN H' p lp N [] [upI N] → (∀ b o, H b = some o → b ≠ p → H' b = some o) → (∀ b, H' b = none → H b = none) → Q .non H'
section
variable {P : Program} {w : World} {K : PySem.W.Frag} {mg : Str → Option Value} {base : Heap} {CN CB : Addr}
abbrev s_Net___init__ : Stmt := inClass (top 11) 0
abbrev N_Net___init__ : List Str := ["self", "count"]
abbrev P_Net___init__ : List Str := ["self", "count"]
theorem sc_Net___init__ : FnScope N_Net___init__ P_Net___init__ (defScope s_Net___init__) := ⟨rfl, rfl, rfl, by decide +kernel, rfl, by decide +kernel, by decide +kernel⟩
theorem ok_ninit {f : Addr} {fd : FuncData} (T : Tx K mg CN CB) (F : Fun K "__init__" "Net.__init__" s_Net___init__ f fd) : FnOk P w K mg base CX0 1 f fd P_Net___init__ (sp_ninit CN) := by
  have nd := sc_Net___init__.nd
  refine F.ok sc_Net___init__ (fun vs H Q E h => ?_) (fun cdv A outer s H vs Q E hr h => ?_)
  · obtain ⟨_, _, _, rfl, _⟩ := h
    rfl
  · obtain ⟨p, dx, N, rfl, hp, n1, n2, q⟩ := h
    have hs := sl
    refine ⟨_, (pss_cons (ps_fld (pv 0) (pv 1) rfl)
      (pss_cons (ps_fld (pv 0) (pe_lst pa_nil) rfl)
      (pss_one (ps_fld (pv 0) (pe_tup (pa_cons (pe_tupRg rfl (by rfl) T.b_tuple (prg_1 (by rfl) T.b_range (pv 1))) pa_nil)) rfl)))), ?_⟩
    refine ⟨_, rfl, _, rfl, p, CN, dx, [], rfl, hp, T.cl_Net, T.n_Net__count, (by decide), ?_⟩
    refine ⟨by show 0 ≤ sizeLine; omega, fun l nl => ?_⟩
    have pl : p ≠ l := ne_of_none upd_same nl
    have nl0 : H l = none := by rwa [upd_ne pl.symm] at nl
    refine ⟨_, rfl, p, CN, dx, _, rfl, (by rw [upd_ne pl]; exact upd_same), T.cl_Net, T.n_Net__packets, (by show 1 < 1000; decide), ?_⟩
    refine ⟨_, rfl, N, rfl, by unfold RgOk; omega, fun t nt => ?_⟩
    have tp : p ≠ t := ne_of_none upd_same nt
    have tl' : l ≠ t := ne_of_none (by rw [upd_ne pl.symm]; exact upd_same) nt
    refine ⟨by show 1 ≤ sizeLine; omega, fun t2 nt2 => ?_⟩
    have tp2 : p ≠ t2 := ne_of_none (by rw [upd_ne tp]; exact upd_same) nt2
    have tt2 : t ≠ t2 := ne_of_none upd_same nt2
    have tl2 : l ≠ t2 := ne_of_none (by rw [upd_ne tl', upd_ne pl.symm]; exact upd_same) nt2
    refine ⟨_, rfl, p, CN, dx, _, rfl, (by rw [upd_ne tp2, upd_ne tp]; exact upd_same), T.cl_Net, T.n_Net__groups, (by show 2 < 1000; decide), ?_⟩
    rw [rgV_up]
    refine q l _ nl0 ⟨⟨dx, t2, upd_same, .tup (by rw [upd_ne tp2.symm]; exact upd_same) (by show 1 ≤ 100000; decide) (.cons (td_grp (by rw [upd_ne tp.symm, upd_ne tt2]; exact upd_same) (by rw [upI_len]; omega)) .nil)⟩, by rw [upd_ne pl.symm, upd_ne tl2, upd_ne tl', upd_ne pl.symm, upd_same]⟩ (fun b o hb nb => ?_) fun b hb => ?_
    · have bl : b ≠ l := ne_of_none hb nl0
      have e1 : (upd (upd H p (HO.ins CN dx (putF "_count" (V.int N) []))) l (HO.lst [])) b = some o := by rw [upd_ne bl, upd_ne nb]; exact hb
      have bt : b ≠ t := ne_of_none (by rw [upd_ne nb]; exact e1) nt
      have bt2 : b ≠ t2 := ne_of_none (by rw [upd_ne bt, upd_ne nb]; exact e1) nt2
      rw [upd_ne nb, upd_ne bt2, upd_ne bt, upd_ne nb]; exact e1
    · cases e : H b with
      | none => rfl
      | some o =>
        by_cases nb : b = p
        · rw [nb, upd_same] at hb; cases hb
        have bl : b ≠ l := ne_of_none e nl0
        have e1 : (upd (upd H p (HO.ins CN dx (putF "_count" (V.int N) []))) l (HO.lst [])) b = some o := by rw [upd_ne bl, upd_ne nb]; exact e
        have bt : b ≠ t := ne_of_none (by rw [upd_ne nb]; exact e1) nt
        have bt2 : b ≠ t2 := ne_of_none (by rw [upd_ne bt, upd_ne nb]; exact e1) nt2
        rw [upd_ne nb, upd_ne bt2, upd_ne bt, upd_ne nb, e1] at hb
        cases hb
abbrev s_Net_send : Stmt := inClass (top 11) 1
abbrev N_Net_send : List Str := ["self", "sender", "receiver", "letter"]
abbrev P_Net_send : List Str := ["self", "sender", "receiver", "letter"]
theorem sc_Net_send : FnScope N_Net_send P_Net_send (defScope s_Net_send) := ⟨rfl, rfl, rfl, by decide +kernel, rfl, by decide +kernel, by decide +kernel⟩
def sp_send (CN : Addr) : Sp := fun vs H Q _ => ∃ (p lp : Addr) (N : Nat) (ws : List V) (L : List (List Int)) (x y z : V), vs = [.ref p, x, y, z] ∧ NAt CN H p lp N ws L ∧ ws.length ≤ 1000 ∧ ∀ t, H t = none → Q .non (upd (upd H t (.tup [x, y, z])) lp (.lst (ws ++ [.ref t])))
theorem ok_send {f : Addr} {fd : FuncData} (T : Tx K mg CN CB) (F : Fun K "send" "Net.send" s_Net_send f fd) : FnOk P w K mg base CX0 1 f fd P_Net_send (sp_send CN) := by
  have nd := sc_Net_send.nd
  refine F.ok sc_Net_send (fun vs H Q E h => ?_) (fun cdv A outer s H vs Q E hr h => ?_)
  · obtain ⟨_, _, _, _, _, _, _, _, rfl, _⟩ := h
    rfl
  · obtain ⟨p, lp, N, ws, L, x, y, z, rfl, hn, hl, q⟩ := h
    have hs := sl
    obtain ⟨⟨dx, g, h1, _⟩, h2⟩ := id hn
    refine ⟨_, (pss_one (ps_expr (pe_bm PySem.F.plainAttrs_list PySem.F.slot_list_append PySem.F.type_list_append mt_append (pe_fld (pv 0) (by rfl)) (pa_cons (pe_tup (pa_cons (pv 1) (pa_cons (pv 2) (pa_cons (pv 3) pa_nil)))) pa_nil)))), ?_⟩
    have c1 := T.cl_Net
    have n1 := T.n_Net__packets
    walk_at "rds"
    refine ⟨.inl ⟨rfl, _, SqL.of h2⟩, ?_⟩
    refine ⟨_, rfl, _, rfl, _, rfl, by show 3 ≤ sizeLine; omega, fun t nt => ?_⟩
    have st := same_new nt (.tup [x, y, z])
    walk_at "rds"
    refine ⟨lp, _, _, rfl, rfl, st _ _ h2, by omega, q t nt⟩
abbrev s_Net_packets : Stmt := inClass (top 11) 5
abbrev N_Net_packets : List Str := ["self"]
abbrev P_Net_packets : List Str := ["self"]
theorem sc_Net_packets : FnScope N_Net_packets P_Net_packets (defScope s_Net_packets) := ⟨rfl, rfl, rfl, by decide +kernel, rfl, by decide +kernel, by decide +kernel⟩
def sp_packs (CN : Addr) : Sp := fun vs H Q _ => ∃ (p lp : Addr) (N : Nat) (ws : List V) (L : List (List Int)), vs = [.ref p] ∧ NAt CN H p lp N ws L ∧ ∀ a, H a = none → Q (.ref a) (upd H a (.lst ws))
theorem ok_packs {f : Addr} {fd : FuncData} (T : Tx K mg CN CB) (F : Fun K "packets" "Net.packets" s_Net_packets f fd) : FnOk P w K mg base CX0 1 f fd P_Net_packets (sp_packs CN) := by
  have nd := sc_Net_packets.nd
  refine F.ok sc_Net_packets (fun vs H Q E h => ?_) (fun cdv A outer s H vs Q E hr h => ?_)
  · obtain ⟨_, _, _, _, _, rfl, _⟩ := h
    rfl
  · obtain ⟨p, lp, N, ws, L, rfl, hn, q⟩ := h
    obtain ⟨⟨dx, g, h1, _⟩, h2⟩ := id hn
    refine ⟨_, (pss_one (ps_ret (pe_callTy call_list_of (by rfl) T.b_list (by decide +kernel) (pa_cons (pe_fld (pv 0) (by rfl)) pa_nil)))), ?_⟩
    have c1 := T.cl_Net
    have n1 := T.n_Net__packets
    walk_at "rds"
    refine ⟨lp, _, rfl, .inl (SqL.of h2), fun a na => q a na⟩
abbrev s_Net_groups : Stmt := inClass (top 11) 9
abbrev N_Net_groups : List Str := ["self"]
abbrev P_Net_groups : List Str := ["self"]
theorem sc_Net_groups : FnScope N_Net_groups P_Net_groups (defScope s_Net_groups) := ⟨rfl, rfl, rfl, by decide +kernel, rfl, by decide +kernel, by decide +kernel⟩
def sp_groups (CN : Addr) : Sp := fun vs H Q _ => ∃ (p lp : Addr) (N : Nat) (ws : List V) (L : List (List Int)), vs = [.ref p] ∧ NAt CN H p lp N ws L ∧ ∀ a, TD H (.ref a) (eGs L) → Q (.ref a) H
theorem ok_groups {f : Addr} {fd : FuncData} (T : Tx K mg CN CB) (F : Fun K "groups" "Net.groups" s_Net_groups f fd) : FnOk P w K mg base CX0 1 f fd P_Net_groups (sp_groups CN) := by
  have nd := sc_Net_groups.nd
  refine F.ok sc_Net_groups (fun vs H Q E h => ?_) (fun cdv A outer s H vs Q E hr h => ?_)
  · obtain ⟨_, _, _, _, _, rfl, _⟩ := h
    rfl
  · obtain ⟨p, lp, N, ws, L, rfl, hn, q⟩ := h
    obtain ⟨⟨dx, g, h1, h3⟩, h2⟩ := id hn
    refine ⟨_, (pss_one (ps_ret (pe_fld (pv 0) (by rfl)))), ?_⟩
    have c1 := T.cl_Net
    have n1 := T.n_Net__groups
    walk_at "rds"
    exact q g h3
abbrev s_Net_joined : Stmt := inClass (top 11) 8
abbrev N_Net_joined : List Str := ["self", "one", "other", "group"]
abbrev P_Net_joined : List Str := ["self", "one", "other"]
theorem sc_Net_joined : FnScope N_Net_joined P_Net_joined (defScope s_Net_joined) := ⟨rfl, rfl, rfl, by decide +kernel, rfl, by decide +kernel, by decide +kernel⟩
def inG (L : List (List Int)) (a b : Int) : Bool := L.any fun g => decide (a ∈ g) && decide (b ∈ g)
def sp_joined (CN cP : Addr) : Sp := fun vs H Q _ => ∃ (p lp : Addr) (N : Nat) (ws : List V) (L : List (List Int)) (a b : Int), vs = [.ref p, .int a, .int b] ∧ NAt CN H p lp N ws L ∧ GxR.TabG H cP ∧ ∀ H', GxR.Tabbed cP H H' → Q (.bl (inG L a b)) H'
theorem inV_ints (x : Int) (g : List Int) : inV (V.int x) (g.map V.int) = decide (x ∈ g) := by
  unfold inV
  rw [Bool.eq_iff_iff, List.any_eq_true, decide_eq_true_eq]
  constructor
  · rintro ⟨y, hy, e⟩
    obtain ⟨i, hi, rfl⟩ := List.mem_map.mp hy
    have e : decide (i = x) = true := by simpa [eqV] using e
    rw [← of_decide_eq_true e]; exact hi
  · intro h
    exact ⟨.int x, List.mem_map.mpr ⟨x, h, rfl⟩, by simp [eqV]⟩
theorem flat_ints (g : List Int) : (g.map V.int).all flatV = true := by simp [List.all_eq_true, flatV]
theorem paired_groups {H : Hp} {a b : Int} {T : V → Bool → Prop} (hT : ∀ (c : Addr) (g : List Int), H c = some (.tup (g.map V.int)) → T (.ref c) (decide (a ∈ g) && decide (b ∈ g))) : ∀ {L : List (List Int)} {us : List V}, TDs H us (L.map eI) → Paired T us (L.map fun g => decide (a ∈ g) && decide (b ∈ g))
  | [], _, .nil => .nil
  | g :: L, _, .cons h r => by
    obtain ⟨c, rfl, hc⟩ := h.grp
    exact .cons (hT c g hc) (paired_groups hT r)
theorem ok_joined {f c cP : Addr} {fd : FuncData} (T : Tx K mg CN CB) (TB : GxR.TabB base mg c cP) (F : FunC K "joined" "Net.joined" s_Net_joined f fd c) : FnOk P w K mg base CX0 2 f fd P_Net_joined (sp_joined CN cP) := by
  have nd := sc_Net_joined.nd
  refine F.ok sc_Net_joined (fun vs H Q E h => ?_) (fun A outer s H vs Q E hr h => ?_)
  · obtain ⟨_, _, _, _, _, _, _, rfl, _⟩ := h
    rfl
  · obtain ⟨p, lp, N, ws, L, a, b, rfl, hn, hT, q⟩ := h
    obtain ⟨⟨dx, g, h1, h3⟩, h2⟩ := id hn
    refine ⟨_, (pss_one (ps_ret (GxT.pe_anyT hr (by rfl) T.b_any TB rfl (gens2 rfl rfl rfl rfl rfl) (pe_fld (pv 0) (by rfl)) (fun σ H1 => GxT.elt_in2 (i := 1) (j := 2) rfl rfl rfl rfl rfl rfl rfl rfl) (fun _ => rfl)))), ?_⟩
    have c1 := T.cl_Net
    have n1 := T.n_Net__groups
    walk_at "rds"
    obtain _ | _ | _ | _ | @⟨_, us, _, hg, _, r⟩ := h3
    refine ⟨g, us, L.map fun g => decide (a ∈ g) && decide (b ∈ g), rfl, SqT.of hg, hT, paired_groups (fun d gg hd => ?_) r, fun H' ht => ?_⟩
    · refine ⟨d, gg.map V.int, .int a, .int b, rfl, SqT.of hd, rfl, rfl, rfl, rfl, flat_ints gg, ?_⟩
      rw [inV_ints, inV_ints]
    · have e : (L.map fun g => decide (a ∈ g) && decide (b ∈ g)).any id = inG L a b := by
        unfold inG
        rw [List.any_map]; rfl
      rw [e]
      exact q H' ht
end
end Mus

set_option maxRecDepth 100000
set_option maxHeartbeats 4000000
/-! what sorted gives, by keys of any data -/
namespace Mus
open PySem L2
theorem srt_of {α : Type} {v : α → V} {k : α → PyData} {l : List α} {ps : List (V × PyData)} (e : ps = ((l.map v).zip (l.map k)).mergeSort (PySem.W.dataLe false (·.2))) :
    ∃ s : List α, ps.map (·.1) = s.map v ∧ s.Perm l ∧ s.Pairwise fun a b => PySem.W.dataLt (k b) (k a) = false := by
  refine ⟨l.mergeSort fun a b => !(PySem.W.dataLt (k b) (k a)), ?_, List.mergeSort_perm _ _, ?_⟩
  · have z : (l.map v).zip (l.map k) = l.map fun x => (v x, k x) := List.zip_map' ..
    rw [e, z, ← List.map_mergeSort (r := fun a b => !(PySem.W.dataLt (k b) (k a))) (fun _ _ _ _ => rfl), List.map_map]
    rfl
  · have S : (l.mergeSort fun a b => !(PySem.W.dataLt (k b) (k a))).Pairwise fun a b => (!(PySem.W.dataLt (k b) (k a))) = true := by
      refine List.pairwise_mergeSort (fun a b c h1 h2 => ?_) (fun a b => ?_) _
      · simp only [Bool.not_eq_true'] at h1 h2 ⊢
        cases e : PySem.W.dataLt (k c) (k a) with
        | false => rfl
        | true =>
          by_cases h3 : PySem.W.dataLt (k b) (k c) = true
          · have := PyProof.Rows.lex_trans _ _ _ h3 e
            rw [show PyProof.Rows.lexLt PyProof.Rows.itemOrd _ _ = PySem.W.dataLt (k b) (k a) from rfl, h1] at this
            cases this
          · have h3 : PySem.W.dataLt (k b) (k c) = false := by simpa using h3
            have e2 := PyProof.Rows.lex_total _ _ h2 h3
            have : PySem.W.dataLt (k c) (k a) = PySem.W.dataLt (k b) (k a) := by unfold PySem.W.dataLt; rw [e2]
            rw [this, h1] at e; cases e
      · cases e : PySem.W.dataLt (k b) (k a) with
        | false => rfl
        | true =>
          cases e2 : PySem.W.dataLt (k a) (k b) with
          | false => rfl
          | true =>
            have := PyProof.Rows.lex_trans _ _ _ e e2
            rw [PyProof.Rows.lex_irrefl] at this
            cases this
    exact S.imp fun h => by simpa using h
theorem srt_ints {g : List Int} {ps : List (V × PyData)} (nd : g.Nodup) (e : ps = ((g.map V.int).zip (g.map PyData.int)).mergeSort (PySem.W.dataLe false (·.2))) :
    ∃ s : List Int, ps.map (·.1) = s.map V.int ∧ s.Pairwise (· < ·) ∧ ∀ x, x ∈ s ↔ x ∈ g := by
  obtain ⟨s, h1, h2, h3⟩ := srt_of (v := V.int) (k := PyData.int) e
  refine ⟨s, h1, ?_, fun x => h2.mem_iff⟩
  have n : s.Pairwise (· ≠ ·) := h2.nodup_iff.mpr nd
  refine (h3.and n).imp fun {a b} ⟨h, hn⟩ => ?_
  rw [PySem.W.dataLt_int] at h
  have := of_decide_eq_false h
  omega
theorem srt_heads {a b : List Int} (h : PySem.W.dataLt (.tuple (b.map .int)) (.tuple (a.map .int)) = false) : ∀ x y, a.head? = some x → b.head? = some y → x ≠ y → x < y := by
  intro x y hx hy ne
  cases a with
  | nil => cases hx
  | cons x' a =>
    cases hx
    cases b with
    | nil => cases hy
    | cons y' b =>
      cases hy
      rw [PySem.W.dataLt_tuple, List.map_cons, List.map_cons, PySem.W.dataLt_cons (by rfl)] at h
      have e : PyData.eqv (.int y) (.int x) = false := by
        show decide (y = x) = false
        exact decide_eq_false fun z => ne z.symm
      rw [e] at h
      have h : PySem.W.dataLt (.int y) (.int x) = false := h
      rw [PySem.W.dataLt_int] at h
      have := of_decide_eq_false h
      omega
end Mus

set_option maxRecDepth 100000
set_option maxHeartbeats 4000000
namespace Mus
open PySem L2
local macro_rules | `(tactic| walk_at "rd") => `(tactic| first
  | refine ⟨_, rfl, ?_⟩ | refine ⟨(True.intro : True), ?_⟩
  | refine ⟨_, _, rfl, rfl, (⟨by decide, by decide, by decide⟩ : CPow _ _), ?_⟩
  | refine ⟨_, _, rfl, rfl, (⟨by decide, by decide⟩ : CDiv _ _), ?_⟩
  | refine ⟨_, _, rfl, rfl, (by show (0 : Int) < _; decide), ?_⟩
  | refine ⟨_, _, rfl, rfl, ?_⟩ | refine ⟨rfl, ?_⟩ | refine iteT ?_ | refine iteF ?_ | refine ⟨_, _, rfl, ?_⟩ | refine .inl ⟨_, rfl, ?_⟩
  | refine ⟨_, _, _, _, _, rfl, (by assumption), (by assumption), (by assumption), rfl, ?_⟩ | refine ⟨_, _, _, _, rfl, rfl, SqT.of (by assumption), rfl, ?_⟩ | refine ⟨_, _, rfl, SqT.of (by assumption), rfl, ?_⟩
  | refine ⟨_, _, _, _, _, rfl, .ty _, Rp.ty (by assumption), kit_int _, ?_⟩ | refine ⟨_, _, _, _, _, rfl, .ty _, Rp.ty (by assumption), kit_bool _, ?_⟩
  | refine ⟨_, _, _, _, _, rfl, .ty _, Rp.ty (by assumption), kit_str _, ?_⟩ | refine ⟨_, _, _, _, _, rfl, .ty _, Rp.ty (by assumption), kit_tup _, ?_⟩)
local macro_rules | `(tactic| walk_at "cal") => `(tactic| first
  | refine ⟨_, _, _, _, _, rfl, (by assumption), ?_⟩ | refine ⟨_, _, _, _, _, rfl, (by assumption), (by assumption), ?_⟩)
local macro_rules | `(tactic| walk_at "sq") => `(tactic| first
  | refine ⟨_, _, rfl, Or.inr (SqT.of (by assumption)), ?_⟩ | refine ⟨_, _, _, _, rfl, rfl, SqT.of (by assumption), rfl, ?_⟩)
local macro_rules | `(tactic| walk_at "rds") => `(tactic| repeat first | walk_at "rd" | walk_at "cal" | walk_at "sq")
local macro_rules | `(tactic| walk_at "ze") => `(tactic| repeat first
  | exact zes_nil | exact ze_bl | exact ze_str | exact ze_non | apply zes_cons | apply ze_tup | apply ze_lst | apply ze_cat | exact di_c | exact di_v rfl | apply di_opC | apply di_op | apply di_neg | apply ze_i | (refine (⟨?_, ?_, ?_⟩ : CPow _ _) <;> decide) | exact Nat.le_of_ble_eq_true rfl | exact ze_varD rfl (by assumption))
local macro_rules | `(tactic| walk_at "rdz") => `(tactic| repeat (fail_if_success (first | show tLst _ _ _ _ | show tAsg (tLst _) _ _ _ _ | show tSeq (tAsg (tLst _) _) _ _ _ _)); first | walk_at "rd" | walk_at "cal" | walk_at "sq")
theorem rps_ints {q : Addr} {H : Hp} : ∀ {g : List Int} {vs : List V}, Rps q H vs (g.map .int) → vs = g.map V.int
  | [], _, .nil => rfl
  | i :: g, _, .cons (.int _) r => by rw [rps_ints r]; rfl
theorem Rp.grp {q : Addr} {H : Hp} {v : V} {g : List Int} (h : Rp q H v (eI g)) : ∃ b, v = .ref b ∧ H b = some (.tup (g.map V.int)) := by
  obtain _ | _ | _ | _ | _ | @⟨b, ys, _, hb, _, _, r⟩ := h
  exact ⟨b, rfl, by rw [← rps_ints r]; exact hb⟩
/-- the tuples of ints in a tuple -/
inductive Gps (H : Hp) : List V → List (List Int) → Prop
  | nil : Gps H [] []
  | cons {b : Addr} {g : List Int} {vs : List V} {gs : List (List Int)} : H b = some (.tup (g.map V.int)) → Gps H vs gs → Gps H (.ref b :: vs) (g :: gs)
theorem gps_of {q : Addr} {H : Hp} : ∀ {gs : List (List Int)} {vs : List V}, Rps q H vs (gs.map eI) → Gps H vs gs
  | [], _, .nil => .nil
  | g :: gs, _, .cons h r => by
    obtain ⟨b, rfl, hb⟩ := h.grp
    exact .cons hb (gps_of r)
theorem Gps.mono {H H' : Hp} (k : TupK H H') : ∀ {vs : List V} {gs : List (List Int)}, Gps H vs gs → Gps H' vs gs
  | _, _, .nil => .nil
  | _, _, .cons h r => .cons (k _ _ h) (r.mono k)
theorem Gps.length {H : Hp} : ∀ {vs : List V} {gs : List (List Int)}, Gps H vs gs → vs.length = gs.length
  | _, _, .nil => rfl
  | _, _, .cons _ r => congrArg (· + 1) r.length
theorem Gps.at {H : Hp} : ∀ {vs : List V} {gs : List (List Int)} {i : Nat} {v : V}, Gps H vs gs → vs[i]? = some v → ∃ b g, v = .ref b ∧ gs[i]? = some g ∧ H b = some (.tup (g.map V.int))
  | _, _, _, _, .nil, h => by simp at h
  | _, _, 0, _, .cons a _, h => by simp at h; subst h; exact ⟨_, _, rfl, rfl, a⟩
  | _, _, i + 1, _, .cons _ r, h => by
    obtain ⟨b, g, h1, h2, h3⟩ := r.at (i := i) (by simpa using h)
    exact ⟨b, g, h1, by simpa using h2, h3⟩
theorem Gps.snoc {H : Hp} {b : Addr} {g : List Int} (h : H b = some (.tup (g.map V.int))) : ∀ {vs : List V} {gs : List (List Int)}, Gps H vs gs → Gps H (vs ++ [.ref b]) (gs ++ [g])
  | _, _, .nil => .cons h .nil
  | _, _, .cons a r => .cons a (r.snoc h)
theorem Gps.td {H : Hp} : ∀ {vs : List V} {gs : List (List Int)}, Gps H vs gs → (∀ g ∈ gs, g.length ≤ 100) → TDs H vs (gs.map eI)
  | _, _, .nil, _ => .nil
  | _, _, .cons a r, h => .cons (td_grp a (h _ List.mem_cons_self)) (r.td fun g hg => h g (List.mem_cons_of_mem _ hg))
/-- group by group, item by item -/
theorem lc2_flat {K : PySem.W.Frag} {a D : Addr} {H1 : Hp} {xs : List V} {gs : List (List Int)} {s0 s1 s2 s3 s4 : Option V} {Qd : Hp → Prop} (ha : H1 a = some (.tup xs)) (hg : Gps H1 xs gs) (nD : H1 D = none) (hl : gs.flatten.length ≤ 1000) (hd : Qd (upd H1 D (.lst (gs.flatten.map V.int)))) :
    ∃ W : Nat → Nat → Hp → Prop, (∃ m, W 0 m (upd H1 D (.lst []))) ∧ ∀ i m H, W i m H →
      ((Itt K a).stop i H ∧ Qd H) ∨ ((Itt K a).go i H ∧ ∃ Nx : Hp → Prop, (∀ H', Nx H' → ∃ m', m' < m ∧ W (i + 1) m' H') ∧ ∀ x H', (Itt K a).yld i H x H' → gName 5 x (wipe [s0, s1, s2, s3, s4, none, none] [5, 6]) H' fun σ2 H2 => wipe σ2 [5, 6] = wipe [s0, s1, s2, s3, s4, none, none] [5, 6] ∧ tYes σ2 H2 fun b H3 =>
        if b = true then iTup K (tVar 5) σ2 H3 fun J1 H4 => ∃ W1 : Nat → Nat → Hp → Prop, (∃ m, W1 0 m H4) ∧ ∀ j k H, W1 j k H →
          (J1.stop j H ∧ Nx H) ∨ (J1.go j H ∧ ∃ Nx1 : Hp → Prop, (∀ H', Nx1 H' → ∃ k', k' < k ∧ W1 (j + 1) k' H') ∧ ∀ x H', J1.yld j H x H' → gName 6 x (wipe σ2 [6]) H' fun σ3 H5 => wipe σ3 [6] = wipe σ2 [6] ∧ tYes σ3 H5 fun b H6 =>
            if b = true then tVar 6 σ3 H6 fun y H7 => ∃ acc, H7 D = some (.lst acc) ∧ acc.length < sizeLine ∧ Nx1 (upd H7 D (.lst (acc ++ [y]))) else Nx1 H6)
        else Nx H3) := by
  have aD : a ≠ D := ne_of_none ha nD
  have hs := sl
  have lx := hg.length
  have ag : ∀ o, (upd H1 D o) a = some (.tup xs) := fun o => by rw [upd_ne aD]; exact ha
  refine ⟨fun i m H => m = xs.length - i ∧ i ≤ xs.length ∧ H = upd H1 D (.lst ((gs.take i).flatten.map V.int)), ⟨xs.length, by omega, Nat.zero_le _, by rw [List.take_zero]; rfl⟩, ?_⟩
  rintro i m _ ⟨rfl, hi, rfl⟩
  by_cases hlt : i < xs.length
  · refine .inr ⟨⟨_, _, SqT.of (ag _), List.getElem?_eq_getElem hlt⟩, fun H' => H' = upd H1 D (.lst ((gs.take (i + 1)).flatten.map V.int)), fun H' e => ⟨xs.length - (i + 1), by omega, rfl, hlt, e⟩, fun y H' yl => ?_⟩
    obtain ⟨rfl, yl⟩ := yl
    have yl := yl _ (SqT.of (ag _))
    obtain ⟨b, g, rfl, hgi, hb⟩ := hg.at yl
    have bD : b ≠ D := ne_of_none hb nD
    have bg : ∀ o, (upd H1 D o) b = some (.tup (g.map V.int)) := fun o => by rw [upd_ne bD]; exact hb
    have et : gs.take (i + 1) = gs.take i ++ [g] := by rw [List.take_add_one, hgi]; rfl
    have lf : (gs.take (i + 1)).flatten.length ≤ 1000 := by
      have e3 : gs.flatten = (gs.take (i + 1)).flatten ++ (gs.drop (i + 1)).flatten := by rw [← List.flatten_append, List.take_append_drop]
      rw [e3, List.length_append] at hl
      omega
    rw [et] at lf ⊢
    rw [List.flatten_append, List.flatten_singleton] at lf ⊢
    rw [List.length_append] at lf
    refine ⟨rfl, ?_⟩
    simp only [tYes, if_true]
    refine ⟨_, rfl, b, rfl, ⟨_, SqT.of (bg _)⟩, ?_⟩
    refine ⟨fun j k H => k = g.length - j ∧ j ≤ g.length ∧ H = upd H1 D (.lst (((gs.take i).flatten ++ g.take j).map V.int)), ⟨g.length, by omega, Nat.zero_le _, by rw [List.take_zero, List.append_nil]⟩, ?_⟩
    rintro j k _ ⟨rfl, hj, rfl⟩
    by_cases hjl : j < g.length
    · have hjm : (g.map V.int)[j]? = some (.int g[j]) := by rw [List.getElem?_map, List.getElem?_eq_getElem hjl]; rfl
      refine .inr ⟨⟨_, _, SqT.of (bg _), hjm⟩, fun H' => H' = upd H1 D (.lst (((gs.take i).flatten ++ g.take (j + 1)).map V.int)), fun H' e => ⟨g.length - (j + 1), by omega, rfl, hjl, e⟩, fun y H' yl => ?_⟩
      obtain ⟨rfl, yl⟩ := yl
      have yl := yl _ (SqT.of (bg _))
      rw [hjm] at yl
      cases yl
      refine ⟨rfl, ?_⟩
      simp only [tYes, if_true]
      have lt : (g.take j).length ≤ g.length := by rw [List.length_take]; omega
      refine ⟨_, rfl, _, upd_same, by rw [List.length_map, List.length_append]; omega, ?_⟩
      rw [upd_upd]
      have e2 : g.take (j + 1) = g.take j ++ [g[j]] := by rw [List.take_add_one, List.getElem?_eq_getElem hjl]; rfl
      rw [e2]
      simp only [List.map_append, List.map_cons, List.map_nil, List.append_assoc]
    · have e : j = g.length := by omega
      refine .inl ⟨⟨_, SqT.of (bg _), by rw [List.length_map]; omega⟩, ?_⟩
      rw [e, List.take_length]
  · have e : i = gs.length := by omega
    refine .inl ⟨⟨_, SqT.of (ag _), by omega⟩, ?_⟩
    rw [e, List.take_length]
    exact hd
theorem dp_ints {K : PySem.W.Frag} {H : Hp} : ∀ is : List Int, DpAll K H (is.map V.int) (is.map PyData.int)
  | [] => .nil
  | i :: is => .cons (.int i) (dp_ints is)
theorem alike_ints : ∀ is js : List Int, PySem.W.alikeAll (is.map PyData.int) (js.map PyData.int) = true
  | [], js => by simp [PySem.W.alikeAll]
  | i :: is, [] => by simp [PySem.W.alikeAll]
  | i :: is, j :: js => by simp [PySem.W.alikeAll, PySem.W.alike, alike_ints is js]
theorem depth_ints : ∀ is : List Int, PyData.depthAll (is.map PyData.int) ≤ 1
  | [] => by simp [PyData.depthAll]
  | i :: is => by have := depth_ints is; simp [PyData.depthAll, PyData.depth] at this ⊢; omega
theorem Gps.dp {K : PySem.W.Frag} {H : Hp} : ∀ {vs : List V} {gs : List (List Int)}, Gps H vs gs → DpAll K H vs (gs.map eI)
  | _, _, .nil => .nil
  | _, _, .cons h r => .cons (.tup (SqT.of h) (dp_ints _)) r.dp
theorem srtI {K : PySem.W.Frag} {H : Hp} {a : Addr} {g : List Int} {Q : VK} (nd : g.Nodup) (ha : H a = some (.tup (g.map V.int))) (q : ∀ (s : List Int) p, s.Pairwise (· < ·) → (∀ x, x ∈ s ↔ x ∈ g) → H p = none → Q (.ref p) (upd H p (.lst (s.map V.int)))) : rSortedD K [.ref a] H Q := by
  refine ⟨a, g.map V.int, g.map .int, rfl, .inr (SqT.of ha), dp_ints g, ?_, ?_, ?_, fun ps p e np => ?_⟩
  · intro d hd e he
    obtain ⟨i, _, rfl⟩ := List.mem_map.mp hd
    obtain ⟨j, _, rfl⟩ := List.mem_map.mp he
    rfl
  · refine .inr fun d hd => ?_
    obtain ⟨i, _, rfl⟩ := List.mem_map.mp hd
    exact ⟨(fun z => by cases z), (fun _ z => by cases z)⟩
  · intro d hd
    obtain ⟨i, _, rfl⟩ := List.mem_map.mp hd
    simp [PyData.depth]
  · obtain ⟨s, h1, h2, h3⟩ := srt_ints nd e
    rw [h1]
    exact q s p h2 h3 np
theorem srtG {K : PySem.W.Frag} {H : Hp} {a : Addr} {xs : List V} {gs : List (List Int)} {Q : VK} (ha : H a = some (.lst xs)) (hg : Gps H xs gs) (hn : ∀ g ∈ gs, g ≠ []) (q : ∀ (L : List (List Int)) (us : List V) p, L.Perm gs → Gps H us L → (L.Pairwise fun a b => ∀ x y, a.head? = some x → b.head? = some y → x ≠ y → x < y) → H p = none → Q (.ref p) (upd H p (.lst us))) : rSortedD K [.ref a] H Q := by
  refine ⟨a, xs, gs.map eI, rfl, .inl (SqL.of ha), hg.dp, ?_, ?_, ?_, fun ps p e np => ?_⟩
  · intro d hd e he
    obtain ⟨i, _, rfl⟩ := List.mem_map.mp hd
    obtain ⟨j, _, rfl⟩ := List.mem_map.mp he
    show PySem.W.alikeAll _ _ = true
    exact alike_ints _ _
  · refine .inl fun d hd => ?_
    obtain ⟨i, hi, rfl⟩ := List.mem_map.mp hd
    cases i with
    | nil => exact absurd rfl (hn _ hi)
    | cons x r => exact ⟨_, _, rfl⟩
  · intro d hd
    obtain ⟨i, _, rfl⟩ := List.mem_map.mp hd
    have := depth_ints i
    show PyData.depthAll _ + 1 ≤ 20
    omega
  · have pr : ∃ l : List (V × List Int), l.map (·.1) = xs ∧ l.map (·.2) = gs ∧ ∀ x ∈ l, ∃ b, x.1 = .ref b ∧ H b = some (.tup (x.2.map V.int)) := by
      clear e ha q hn
      induction hg with
      | nil => exact ⟨[], rfl, rfl, fun x h => by cases h⟩
      | @cons b g vs gs h r ih =>
        obtain ⟨l, h1, h2, h3⟩ := ih
        refine ⟨(.ref b, g) :: l, by rw [List.map_cons, h1], by rw [List.map_cons, h2], fun x hx => ?_⟩
        rcases List.mem_cons.mp hx with rfl | hx
        · exact ⟨b, rfl, h⟩
        · exact h3 x hx
    obtain ⟨l, h1, h2, h3⟩ := pr
    have e2 : gs.map eI = l.map fun x => eI x.2 := by rw [← h2, List.map_map]; rfl
    rw [e2, ← h1] at e
    obtain ⟨s, k1, k2, k3⟩ := srt_of (v := Prod.fst) (k := fun x : V × List Int => eI x.2) e
    rw [k1]
    refine q (s.map (·.2)) _ p (by rw [← h2]; exact k2.map _) ?_ ?_ np
    · have all : ∀ x ∈ s, ∃ b, x.1 = .ref b ∧ H b = some (.tup (x.2.map V.int)) := fun x hx => h3 x (k2.mem_iff.mp hx)
      clear k1 k2 k3
      induction s with
      | nil => exact .nil
      | cons x s ih =>
        obtain ⟨b, e1, e2⟩ := all x List.mem_cons_self
        rw [List.map_cons, List.map_cons, e1]
        exact .cons e2 (ih fun y hy => all y (List.mem_cons_of_mem _ hy))
    · rw [List.pairwise_map]
      exact k3.imp fun h => srt_heads h
def sp_part (CN CB : Addr) : Sp := fun vs H Q E => ∃ (p lp q0 : Addr) (v : V) (d : PyData) (N : Nat) (ws : List V) (L : List (List Int)), vs = [.ref p, v] ∧ NAt CN H p lp N ws L ∧ Rp q0 H v d ∧ 1 ≤ N ∧ N ≤ 12 ∧
  (isGr (.int N) d = false → ∀ e H', Same H H' → H' e = some (.xd (bsF (.int 0) (.str "groups"))) → E (.ref CB) (some e) H') ∧
  ∀ gs, isGr (.int N) d = true → d = .tuple (gs.map eI) → Grs N gs → ∀ H', NAt CN H' p lp N ws (dueG (at0 (mksOf N gs)) N) → Fr [p] [p] H H' → Q .non H'
section
variable {P : Program} {w : World} {K : PySem.W.Frag} {mg : Str → Option Value} {base : Heap} {CN CB : Addr}
abbrev s_Net_part : Stmt := inClass (top 11) 6
abbrev N_Net_part : List Str := ["self", "groups", "named", "rest", "parts", "group", "process"]
abbrev P_Net_part : List Str := ["self", "groups"]
theorem sc_Net_part : FnScope N_Net_part P_Net_part (defScope s_Net_part) := ⟨rfl, rfl, rfl, by decide +kernel, rfl, by decide +kernel, by decide +kernel⟩
theorem ok_part {f : Addr} {fd : FuncData} (T : Tx K mg CN CB) (x_BadSchedule : ExOk P w K mg base CB "BadSchedule" P_BadSchedule___init__ 1 (sp_bs CB)) (c_is_groups : DefOk P w K mg base CX0 "is_groups" P_is_groups 3 (spS2 isGr)) (F : Fun K "part" "Net.part" s_Net_part f fd) : FnOk P w K mg base (L2.CX P w) 4 f fd P_Net_part (sp_part CN CB) := by
  have nd := sc_Net_part.nd
  refine F.okX sc_Net_part (fun vs H Q E h => ?_) (fun cdv A outer s H vs Q E hr h => ?_)
  · obtain ⟨_, _, _, _, _, _, _, _, rfl, _⟩ := h
    rfl
  · obtain ⟨p, lp, q0, v, d, N, ws, L, rfl, hn, hd, n1, n2, q1, q2⟩ := h
    have hs := sl
    obtain ⟨⟨dx, g, h1, _⟩, h2⟩ := id hn
    refine ⟨_, (pss_cons (ps_if (pt_not (pt_val (pcall c_is_groups hr (pa_cons (pe_fld (pv 0) (by rfl)) (pa_cons (pv 1) pa_nil)))))
        (pss_one (praise x_BadSchedule (takes_of rfl rfl rfl rfl) hr (pa_cons pe_int (pa_cons pe_str pa_nil))))
        pss_nil)
      (pss_cons (ps_set (i := 2) nd rfl (Or.inr rfl) (pe_lc2X (own := [("group", 5), ("process", 6)]) (vs1 := [6]) rfl nd (pi_tup (pv 1)) (blkOk_by (own := [("group", 5), ("process", 6)]) (N := N_Net_part) (sc := defScope s_Net_part) (by decide +kernel)) (by decide) (fun _ _ _ _ _ => (pg_name (i := 5) nd rfl (Or.inl rfl))) (fun _ _ _ _ _ => pts_nil) (fun _ _ _ _ _ => (pi_tup (pv 5))) (fun _ _ _ _ _ => (pg_name (i := 6) nd rfl (Or.inl rfl))) (fun _ _ _ _ _ => pts_nil) (fun _ _ _ _ _ => (pv 6))))
      (pss_cons (ps_setLcX (i := 3) (own := [("process", 6)]) rfl nd rfl rfl (sw_true rfl rfl rfl (by decide +kernel)) (pi_range1 (by rfl) T.b_range (pa_cons (pe_fld (pv 0) (by rfl)) pa_nil)) (blkOk_by (own := [("process", 6)]) (N := N_Net_part) (sc := defScope s_Net_part) (by decide +kernel)) (fun _ _ _ _ _ => (pg_name (i := 6) nd rfl (Or.inl rfl))) (fun _ _ _ _ _ => (pts_one (pt_cmpR op_notIn_seq (pv 6) (pv 2) (by rfl)))) (fun _ _ _ _ _ => (pv 6)))
      (pss_cons (ps_setLcX (i := 4) (own := [("group", 5)]) rfl nd rfl rfl (sw_true rfl rfl rfl (by decide +kernel)) (pi_tup (pv 1)) (blkOk_by (own := [("group", 5)]) (N := N_Net_part) (sc := defScope s_Net_part) (by decide +kernel)) (fun _ _ _ _ _ => (pg_name (i := 5) nd rfl (Or.inl rfl))) (fun _ _ _ _ _ => pts_nil) (fun _ _ _ _ _ => (pe_callTy call_tuple_of (by rfl) T.b_tuple (by decide +kernel) (pa_cons (pe_callB (cr_sortedD hr.units) (by rfl) T.b_sorted (by decide +kernel) (pa_cons (pv 5) pa_nil)) pa_nil))))
      (pss_cons (ps_if (pt_cmpR op_gt (pe_callB call_len_seq (by rfl) T.b_len (by decide +kernel) (pa_cons (pv 3) pa_nil)) pe_int (nomark _))
        (pss_one (ps_expr (pe_bm PySem.F.plainAttrs_list PySem.F.slot_list_append PySem.F.type_list_append mt_append (pv 4) (pa_cons (pe_callTy call_tuple_of (by rfl) T.b_tuple (by decide +kernel) (pa_cons (pv 3) pa_nil)) pa_nil))))
        pss_nil)
      (pss_one (ps_fld (pv 0) (pe_callTy call_tuple_of (by rfl) T.b_tuple (by decide +kernel) (pa_cons (pe_callB (cr_sortedD hr.units) (by rfl) T.b_sorted (by decide +kernel) (pa_cons (pv 4) pa_nil)) pa_nil)) rfl))))))), ?_⟩
    have c1 := T.cl_Net
    have m1 := T.n_Net__count
    walk_at "rds"
    refine ⟨q0, .int N, v, .int N, d, rfl, .int N, hd, fun H1 s1 => ?_⟩
    walk_at "rds"
    refine iB (fun hi => ?_) (fun hi => ?_)
    · refine rd_bs (fun R r => r) (fun R r => r) fun e H' _ s2 he => q1 (by simpa using hi) e H' (s1.trans s2) he
    · have hi : isGr (.int N) d = true := by simpa using hi
      obtain ⟨gs, rfl, G⟩ := isGr_inv hi
      have q2 := q2 gs hi rfl G
      obtain _ | _ | _ | _ | _ | @⟨a, xs, _, ha, _, hxl, hr⟩ := hd
      have hg := gps_of hr
      have lx := hg.length
      have lf := nodup_lt G.nd G.lt
      walk_at "rds"
      have ha1 := s1 _ _ ha
      have hg1 := hg.mono (TupK.of s1)
      refine ⟨⟨_, SqT.of ha1⟩, fun D nD => ?_⟩
      refine lc2_flat (K := K) (s0 := some (.ref p)) (s1 := some (.ref a)) ha1 hg1 nD (by omega) ?_
      have s2 : Same H (upd H1 D (.lst (gs.flatten.map V.int))) := s1.trans (same_new nD _)
      have hN2 : (upd H1 D (.lst (gs.flatten.map V.int))) D = some (.lst (gs.flatten.map V.int)) := upd_same
      generalize upd H1 D (.lst (gs.flatten.map V.int)) = H2 at *
      have a2 := s2 _ _ h1
      refine ⟨_, rfl, p, CN, dx, _, _, rfl, a2, c1, m1, rfl, ?_⟩
      refine ⟨N, rfl, by omega, by omega, fun D2 nD2 => lc_range (fun i H' => H' = upd H2 D2 (.lst ((((upI N).take i).filter fun p => !decide (p ∈ gs.flatten)).map V.int))) ?_ ?_ ?_⟩
      · rfl
      · rintro i _ hi' rfl
        have DD : D ≠ D2 := ne_of_none hN2 nD2
        have hN3 : ∀ o, (upd H2 D2 o) D = some (.lst (gs.flatten.map V.int)) := fun o => by rw [upd_ne DD]; exact hN2
        refine ⟨rfl, ?_⟩
        refine ⟨_, rfl, _, rfl, D, _, rfl, .inl (SqL.of (hN3 _)), rfl, flat_ints _, ?_⟩
        refine ⟨_, rfl, ?_⟩
        have iN : i < N := by omega
        have ei : (upI N)[i]? = some (i : Int) := by
          unfold upI
          rw [List.getElem?_map, List.getElem?_range iN]; rfl
        have et : (upI N).take (i + 1) = (upI N).take i ++ [(i : Int)] := by rw [List.take_add_one, ei]; rfl
        have z0 : (0 : Int) + (i : Int) = i := Int.zero_add _
        rw [z0]
        show (if (!inV (V.int i) (gs.flatten.map V.int)) = true then _ else _)
        rw [inV_ints]
        have lfi : (((upI N).take i).filter fun p => !decide (p ∈ gs.flatten)).length ≤ N := by
          have := List.length_filter_le (fun p => !decide (p ∈ gs.flatten)) ((upI N).take i)
          have := List.length_take_le' i (upI N)
          rw [upI_len] at this
          omega
        refine iB (fun hb => ?_) (fun hb => ?_)
        · refine ⟨_, rfl, _, upd_same, by rw [List.length_map]; omega, ?_⟩
          rw [upd_upd, et, List.filter_append, List.map_append]
          rw [List.filter_cons_of_pos (p := fun p => !decide (p ∈ gs.flatten)) hb]; rfl
        · show upd H2 D2 _ = _
          rw [et, List.filter_append, List.filter_cons_of_neg (p := fun p => !decide (p ∈ gs.flatten)) (by rw [hb]; exact Bool.false_ne_true), List.filter_nil, List.append_nil]
      · rintro _ rfl
        have eN : (upI N).take N = upI N := List.take_of_length_le (by rw [upI_len]; exact Nat.le_refl _)
        have eN2 : ((N : Int)).toNat = N := by omega
        have er : (((upI N).take ((N : Int)).toNat).filter fun p => !decide (p ∈ gs.flatten)) = restG N gs := by rw [eN2, eN]; rfl
        rw [er]
        have lr : (restG N gs).length ≤ N := by
          have := List.length_filter_le (fun p => !decide (p ∈ gs.flatten)) (upI N)
          rw [upI_len] at this
          exact this
        generalize hR : restG N gs = ks at *
        have s3 := s2.trans (same_new nD2 (.lst (ks.map V.int)))
        have hR3 : (upd H2 D2 (.lst (ks.map V.int))) D2 = some (.lst (ks.map V.int)) := upd_same
        generalize upd H2 D2 (.lst (ks.map V.int)) = H3 at *
        have ha3 := s3 _ _ ha
        have hg3 := hg.mono (TupK.of s3)
        refine ⟨_, rfl, a, rfl, ⟨_, SqT.of ha3⟩, fun D3 nD3 => ?_⟩
        refine lc_tup (xs := xs) (fun i H' => ∃ (us : List V) (ss : List (List Int)), H' D3 = some (.lst us) ∧ Gps H' us ss ∧ ss.length = i ∧ (∀ (j : Nat) g s, gs[j]? = some g → ss[j]? = some s → s.Pairwise (· < ·) ∧ ∀ x, x ∈ s ↔ x ∈ g) ∧ Same H3 H') ?_ ?_ ?_ ?_
        · exact ⟨[], [], upd_same, .nil, rfl, fun j g s _ h => (by simp at h), same_new nD3 _⟩
        · rintro i H' _ ⟨_, _, _, _, _, _, s4⟩
          exact SqT.of (s4 _ _ ha3)
        · rintro i v H' hx ⟨us, ss, hD, hP, hl, hss, s4⟩
          obtain ⟨b, g', rfl, hgi, hb⟩ := hg3.at hx
          have ndg : g'.Nodup := by
            have := List.mem_of_getElem? hgi
            exact (List.pairwise_flatten.mp G.nd).1 _ this
          refine ⟨rfl, ?_⟩
          refine ⟨_, rfl, ?_⟩
          dsimp only [tNil]
          refine srtI ndg (s4 _ _ hb) fun s q' hs1 hs2 nq => ?_
          refine ⟨q', _, rfl, .inl ⟨SqL.of upd_same, fun t nt => ?_⟩⟩
          have s5 := (same_new nq (.lst (s.map V.int))).trans (same_new nt (.tup (s.map V.int)))
          have tD : D3 ≠ t := ne_of_none (same_new nq (.lst (s.map V.int)) _ _ hD) nt
          have iL : us.length = i := by rw [hP.length, hl]
          have ix : i < xs.length := (List.getElem?_eq_some_iff.mp hx).1
          refine ⟨us, s5 _ _ hD, by omega, us ++ [.ref t], ss ++ [s], upd_same, ?_, by rw [List.length_append, hl]; rfl, fun j g2 s2' hj hj2 => ?_, fun c o hc => ?_⟩
          · refine Gps.snoc (by rw [upd_ne tD.symm]; exact upd_same) (hP.mono fun c zs hc => ?_)
            rw [upd_ne (fun z => by rw [z, hD] at hc; cases hc)]
            exact s5 _ _ hc
          · by_cases hji : j < ss.length
            · rw [List.getElem?_append_left hji] at hj2
              exact hss j g2 s2' hj hj2
            · have : j = ss.length := by
                have := (List.getElem?_eq_some_iff.mp hj2).1
                rw [List.length_append] at this
                have : [s].length = 1 := rfl
                omega
              subst this
              rw [List.getElem?_append_right (Nat.le_refl _), Nat.sub_self] at hj2
              cases hj2
              rw [hl, hgi] at hj
              cases hj
              exact ⟨hs1, hs2⟩
          · rw [upd_ne (ne_of_none hc nD3)]
            exact s5 _ _ (s4 _ _ hc)
        · rintro H4 ⟨us, ss, hD, hP, hl, hss, s4⟩
          have s40 := s3.trans s4
          have hR4 := s4 _ _ hR3
          have lk : (ks.map V.int).length = ks.length := List.length_map _
          have lu := hP.length
          have lsg : ss.length = gs.length := by omega
          have lgf : gs.length ≤ gs.flatten.length := by
            have : ∀ (l : List (List Int)), (∀ g ∈ l, g ≠ []) → l.length ≤ l.flatten.length := by
              intro l
              induction l with
              | nil => intro _; exact Nat.zero_le _
              | cons a l ih =>
                intro h
                have := ih fun g hg => h g (List.mem_cons_of_mem _ hg)
                have := List.length_pos_iff.mpr (h a List.mem_cons_self)
                rw [List.flatten_cons, List.length_append, List.length_cons]
                omega
            exact this gs G.ne
          have sne : ∀ s ∈ ss, s ≠ [] := fun s hs' => by
            obtain ⟨j, hj, rfl⟩ := List.getElem_of_mem hs'
            have hj2 : j < gs.length := by omega
            have e := hss j _ _ (List.getElem?_eq_getElem hj2) (List.getElem?_eq_getElem hj)
            have n := G.ne _ (List.getElem_mem hj2)
            intro z
            cases e2 : gs[j] with
            | nil => exact n e2
            | cons a r =>
              have := (e.2 a).mpr (by rw [e2]; exact List.mem_cons_self)
              rw [z] at this
              cases this
          have hD0 : H D3 = none := by
            cases e : H D3 with
            | none => rfl
            | some o => rw [s3 _ _ e] at nD3; cases nD3
          have lp0 : lp ≠ p := ne_of h2 h1 (by intro z; cases z)
          refine ⟨_, rfl, D2, _, rfl, .inl (SqL.of hR4), ?_⟩
          walk_at "rds"
          refine ite2 (fun h0 => ?_) (fun h0 => ?_)
          case' refine_1 =>
            have h0 : 0 < ks.length := by have := of_decide_eq_true h0; omega
            refine ⟨_, rfl, .inl ⟨rfl, _, SqL.of hD⟩, ?_⟩
            refine ⟨_, rfl, D2, _, rfl, .inl ⟨SqL.of hR4, fun t nt => ?_⟩⟩
            have tD : D3 ≠ t := ne_of_none hD nt
            have st := same_new nt (.tup (ks.map V.int))
            refine ⟨D3, us, _, rfl, rfl, st _ _ hD, by omega, ?_⟩
            have hP5 : Gps (upd (upd H4 t (.tup (ks.map V.int))) D3 (.lst (us ++ [.ref t]))) (us ++ [.ref t]) (ss ++ [ks]) := Gps.snoc (by rw [upd_ne tD.symm]; exact upd_same) (hP.mono fun c zs hc => by
              rw [upd_ne (fun z => by rw [z, hD] at hc; cases hc)]
              exact st _ _ hc)
            have hD5 : (upd (upd H4 t (.tup (ks.map V.int))) D3 (.lst (us ++ [.ref t]))) D3 = some (.lst (us ++ [.ref t])) := upd_same
            have s5 : Same H (upd (upd H4 t (.tup (ks.map V.int))) D3 (.lst (us ++ [.ref t]))) := fun b o hb => by
              rw [upd_ne (ne_of_none hb hD0)]
              exact st _ _ (s40 _ _ hb)
            have ett : ss ++ [ks] = ss ++ (if 0 < ks.length then [ks] else []) := by rw [if_pos h0]
            have ent : ∀ g ∈ ss ++ [ks], g ≠ [] := fun g hg => by
              rcases List.mem_append.mp hg with hg | hg
              · exact sne g hg
              · rw [List.mem_singleton.mp hg]; exact List.length_pos_iff.mp h0
            revert hP5 hD5 s5 ett ent
            generalize upd (upd H4 t (.tup (ks.map V.int))) D3 (.lst (us ++ [.ref t])) = H5
            generalize us ++ [.ref t] = us5
            generalize ss ++ [ks] = tt
            intro hP5 hD5 s5 ett ent
          case' refine_2 =>
            have h0 : ¬ 0 < ks.length := fun z => h0 (decide_eq_true (by rw [lk]; exact_mod_cast z))
            obtain ⟨tt, hP5, ett, ent⟩ : ∃ tt, Gps H4 us tt ∧ tt = ss ++ (if 0 < ks.length then [ks] else []) ∧ ∀ g ∈ tt, g ≠ [] := ⟨ss, hP, by rw [if_neg h0, List.append_nil], sne⟩
            have hD5 := hD
            have s5 := s40
            revert hP5 hD5 s5
            generalize hH : H4 = H5
            generalize hW : us = us5
            intro hP5 hD5 s5
          all_goals
            refine ⟨_, rfl, ?_⟩
            dsimp only [tNil]
            refine srtG hD5 hP5 ent fun LL vs5 q2' hperm hg5 hpw nq => ?_
            refine ⟨q2', _, rfl, .inl ⟨SqL.of upd_same, fun t2 nt2 => ?_⟩⟩
            have s6 := s5.trans ((same_new nq (.lst vs5)).trans (same_new nt2 (.tup vs5)))
            refine ⟨_, rfl, p, CN, dx, _, rfl, s6 _ _ h1, c1, T.n_Net__groups, (by show 3 < 1000; decide), ?_⟩
            have eL : LL = dueG (at0 (mksOf N gs)) N := parts_due G lsg hss (by rw [hR, ← ett]; exact hperm) hpw
            have lL : LL.length ≤ 100 := by
              rw [hperm.length_eq, ett, List.length_append]
              have : (if 0 < ks.length then [ks] else []).length ≤ 1 := by split <;> simp
              omega
            refine q2 _ ⟨⟨dx, t2, ?_, ?_⟩, ?_⟩ ?_
            · exact upd_same
            · rw [← eL]
              have pt : t2 ≠ p := fun z => by
                rw [z] at nt2
                have := (s5.trans (same_new nq (.lst vs5))) _ _ h1
                rw [this] at nt2; cases nt2
              refine .tup (by rw [upd_ne pt]; exact upd_same) (by rw [hg5.length]; omega) ((hg5.mono fun c zs hc => ?_).td fun g hg => ?_)
              · have := ((same_new nq (.lst vs5)).trans (same_new nt2 (.tup vs5))) _ _ hc
                rw [upd_ne (fun z => by rw [z, s6 _ _ h1] at this; cases this)]
                exact this
              · rw [eL] at hg
                obtain ⟨v', rfl, _⟩ := mem_due.mp hg
                have := List.length_filter_le (fun q => decide (at0 (mksOf N gs) q = v')) (upI N)
                rw [upI_len] at this
                exact Nat.le_trans this (by omega)
            · rw [upd_ne lp0]; exact s6 _ _ h2
            · exact (Fr.of s6).trans (fr_upd List.mem_cons_self (s6 _ _ h1) fun xs z => by cases z)
abbrev s_Net_heal : Stmt := inClass (top 11) 7
abbrev N_Net_heal : List Str := ["self"]
abbrev P_Net_heal : List Str := ["self"]
theorem sc_Net_heal : FnScope N_Net_heal P_Net_heal (defScope s_Net_heal) := ⟨rfl, rfl, rfl, by decide +kernel, rfl, by decide +kernel, by decide +kernel⟩
def sp_heal (CN : Addr) : Sp := fun vs H Q _ => ∃ (p lp : Addr) (N : Nat) (ws : List V) (L : List (List Int)), vs = [.ref p] ∧ NAt CN H p lp N ws L ∧ 1 ≤ N ∧ N ≤ 12 ∧ ∀ H', NAt CN H' p lp N ws (dueG (at0 (mksOf N [])) N) → Fr [p] [p] H H' → Q .non H'
theorem ok_heal {f : Addr} {fd : FuncData} (T : Tx K mg CN CB) (m_Net_part : MethOk P w K mg base (L2.CX P w) CN "part" P_Net_part 4 (sp_part CN CB)) (F : Fun K "heal" "Net.heal" s_Net_heal f fd) : FnOk P w K mg base CX0 5 f fd P_Net_heal (sp_heal CN) := by
  have nd := sc_Net_heal.nd
  refine F.ok sc_Net_heal (fun vs H Q E h => ?_) (fun cdv A outer s H vs Q E hr h => ?_)
  · obtain ⟨_, _, _, _, _, rfl, _⟩ := h
    rfl
  · obtain ⟨p, lp, N, ws, L, rfl, hn, n1, n2, q⟩ := h
    have hs := sl
    obtain ⟨⟨dx, g, h1, h3⟩, h2⟩ := id hn
    refine ⟨_, (pss_one (ps_expr (pmethE m_Net_part T.cl_Net takes0 (fun _ _ _ _ h => h) (pv 0) hr (pa_cons (pe_tup pa_nil) pa_nil)))), ?_⟩
    have c1 := T.cl_Net
    walk_at "rds"
    refine ⟨p, dx, _, rfl, h1, rfl, ?_⟩
    refine ⟨by show 0 ≤ sizeLine; omega, fun t nt => ?_⟩
    have st := same_new nt (.tup [])
    have pt : t ≠ p := fun z => by rw [z, h1] at nt; cases nt
    refine ⟨p, lp, p, .ref t, .tuple [], N, ws, L, rfl, hn.same st, .tup upd_same pt (by show 0 ≤ 100000; decide) .nil, n1, n2, fun z => (by cases z), fun gs _ e G H' hn' k => ?_⟩
    obtain rfl : gs = [] := by
      cases gs with
      | nil => rfl
      | cons a r => cases e
    exact q H' hn' ((Fr.of st).trans k)
end
end Mus

set_option maxRecDepth 100000
set_option maxHeartbeats 4000000
namespace Mus
open PySem L2
local macro_rules | `(tactic| walk_at "rd") => `(tactic| first
  | refine ⟨_, rfl, ?_⟩ | refine ⟨(True.intro : True), ?_⟩
  | refine ⟨_, _, rfl, rfl, (⟨by decide, by decide, by decide⟩ : CPow _ _), ?_⟩
  | refine ⟨_, _, rfl, rfl, (⟨by decide, by decide⟩ : CDiv _ _), ?_⟩
  | refine ⟨_, _, rfl, rfl, (by show (0 : Int) < _; decide), ?_⟩
  | refine ⟨_, _, rfl, rfl, ?_⟩ | refine ⟨rfl, ?_⟩ | refine iteT ?_ | refine iteF ?_ | refine ⟨_, _, rfl, ?_⟩ | refine .inl ⟨_, rfl, ?_⟩
  | refine ⟨_, _, _, _, _, rfl, (by assumption), (by assumption), (by assumption), rfl, ?_⟩ | refine ⟨_, _, _, _, rfl, rfl, SqT.of (by assumption), rfl, ?_⟩ | refine ⟨_, _, rfl, SqT.of (by assumption), rfl, ?_⟩
  | refine ⟨_, _, _, _, _, rfl, .ty _, Rp.ty (by assumption), kit_int _, ?_⟩ | refine ⟨_, _, _, _, _, rfl, .ty _, Rp.ty (by assumption), kit_bool _, ?_⟩
  | refine ⟨_, _, _, _, _, rfl, .ty _, Rp.ty (by assumption), kit_str _, ?_⟩ | refine ⟨_, _, _, _, _, rfl, .ty _, Rp.ty (by assumption), kit_tup _, ?_⟩)
local macro_rules | `(tactic| walk_at "cal") => `(tactic| first
  | refine ⟨_, _, _, _, _, rfl, (by assumption), ?_⟩ | refine ⟨_, _, _, _, _, rfl, (by assumption), (by assumption), ?_⟩)
local macro_rules | `(tactic| walk_at "sq") => `(tactic| first
  | refine ⟨_, _, rfl, Or.inr (SqT.of (by assumption)), ?_⟩ | refine ⟨_, _, _, _, rfl, rfl, SqT.of (by assumption), rfl, ?_⟩)
local macro_rules | `(tactic| walk_at "rds") => `(tactic| repeat first | walk_at "rd" | walk_at "cal" | walk_at "sq")
local macro_rules | `(tactic| walk_at "ze") => `(tactic| repeat first
  | exact zes_nil | exact ze_bl | exact ze_str | exact ze_non | apply zes_cons | apply ze_tup | apply ze_lst | apply ze_cat | exact di_c | exact di_v rfl | apply di_opC | apply di_op | apply di_neg | apply ze_i | (refine (⟨?_, ?_, ?_⟩ : CPow _ _) <;> decide) | exact Nat.le_of_ble_eq_true rfl | exact ze_varD rfl (by assumption))
local macro_rules | `(tactic| walk_at "rdz") => `(tactic| repeat (fail_if_success (first | show tLst _ _ _ _ | show tAsg (tLst _) _ _ _ _ | show tSeq (tAsg (tLst _) _) _ _ _ _)); first | walk_at "rd" | walk_at "cal" | walk_at "sq")
theorem fit_len {n : Nat} {ds : List PyData} (h : fit n (.tuple ds)) : ds.length ≤ 3000 := by
  cases n with
  | zero => exact h.elim
  | succ n => exact h.1
theorem dTup_tuple {d : PyData} (h : dTup d = true) : ∃ ds, d = .tuple ds := by cases d <;> first | exact ⟨_, rfl⟩ | cases h
section
variable {P : Program} {w : World} {K : PySem.W.Frag} {mg : Str → Option Value} {base : Heap} {CN CB : Addr}
abbrev s__law_bag : Stmt := top 13
abbrev N__law_bag : List Str := ["script", "k", "cell"]
abbrev P__law_bag : List Str := ["script", "k"]
theorem sc__law_bag : FnScope N__law_bag P__law_bag (defScope s__law_bag) := ⟨rfl, rfl, rfl, by decide +kernel, rfl, by decide +kernel, by decide +kernel⟩
theorem ok__law_bag {f : Addr} {fd : FuncData} (T : Tx K mg CN CB) (F : Fun K "_law_bag" "_law_bag" s__law_bag f fd) : FnOk P w K mg base CX0 (1) f fd P__law_bag (sp_bag K) := by
  have nd := sc__law_bag.nd
  refine F.ok sc__law_bag (fun vs H Q E h => ?_) (fun cdv A outer s H vs Q E hr h => ?_)
  · obtain ⟨_, _, _, rfl, _⟩ := h
    rfl
  · obtain ⟨a, ns, k, rfl, hS, q⟩ := h
    have hs := sl
    refine ⟨_, (pss_cons (ps_set (i := 2) nd rfl (Or.inl rfl) pe_int)
      (pss_cons (ps_if (pt_cmpR op_lt (pv 1) (pe_callB call_len_seq (by rfl) T.b_len (by decide +kernel) (pa_cons (pv 0) pa_nil)) (nomark _))
        (pss_one (ps_set (i := 2) nd rfl (Or.inl rfl) (pe_callTy call_int1 (by rfl) T.b_int (by decide +kernel) (pa_cons (pe_ix ix_list (pv 0) (pv 1) (fun _ _ => rfl)) pa_nil))))
        pss_nil)
      (pss_cons (ps_if (pt_cmpR op_ge (pv 2) (pe_op op_pow pe_int pe_int) (nomark _))
        (pss_one (ps_ret (pe_lst (pa_cons (pv 2) (pa_cons (pv 2) (pa_cons (pv 1) pa_nil))))))
        pss_nil)
      (pss_one (ps_ret (pe_lst (pa_cons pe_int (pa_cons (pv 2) (pa_cons (pv 1) pa_nil))))))))), ?_⟩
    have hl : (ns.map V.int).length = ns.length := List.length_map _
    have fin : ∀ x y : Int, ∀ p, H p = none → Q (.ref p) (upd H p (.lst [.int x, .int y, .int k])) := fun x y p np => q p _ np (same_new np _) ⟨x, y, upd_same⟩
    refine ⟨_, rfl, _, rfl, a, _, rfl, .inl hS, _, _, rfl, rfl, _, rfl, ?_⟩
    by_cases hk : (k : Int) < (((ns.map V.int).length : Nat) : Int)
    · refine dT hk ?_
      have hk2 : k < ns.length := by omega
      refine ⟨_, rfl, _, rfl, a, _, _, .int ns[k], rfl, rfl, hS, atI_nat (by rw [List.getElem?_map, List.getElem?_eq_getElem hk2]; rfl), .inl ⟨_, rfl, ?_⟩⟩
      refine ⟨_, rfl, _, _, rfl, rfl, ⟨by decide, by decide, by decide⟩, _, _, rfl, rfl, _, rfl, ?_⟩
      refine ite2 (fun _ => ?_) (fun _ => ?_)
      · exact ⟨_, rfl, _, rfl, _, rfl, by show 3 ≤ sizeLine; omega, fun p np => fin _ _ p np⟩
      · exact ⟨_, rfl, _, rfl, by show 3 ≤ sizeLine; omega, fun p np => fin _ _ p np⟩
    · refine dF hk ?_
      refine ⟨_, rfl, _, _, rfl, rfl, ⟨by decide, by decide, by decide⟩, _, _, rfl, rfl, _, rfl, ?_⟩
      refine ite2 (fun _ => ?_) (fun _ => ?_)
      · exact ⟨_, rfl, _, rfl, _, rfl, by show 3 ≤ sizeLine; omega, fun p np => fin _ _ p np⟩
      · exact ⟨_, rfl, _, rfl, by show 3 ≤ sizeLine; omega, fun p np => fin _ _ p np⟩
abbrev s__law_draw : Stmt := top 14
abbrev N__law_draw : List Str := ["bag", "many", "seed", "rest"]
abbrev P__law_draw : List Str := ["bag", "many"]
theorem sc__law_draw : FnScope N__law_draw P__law_draw (defScope s__law_draw) := ⟨rfl, rfl, rfl, by decide +kernel, rfl, by decide +kernel, by decide +kernel⟩
theorem ok__law_draw {f : Addr} {fd : FuncData} (T : Tx K mg CN CB) (F : Fun K "_law_draw" "_law_draw" s__law_draw f fd) : FnOk P w K mg base CX0 (1) f fd P__law_draw (sp_draw) := by
  have nd := sc__law_draw.nd
  refine F.ok sc__law_draw (fun vs H Q E h => ?_) (fun cdv A outer s H vs Q E hr h => ?_)
  · obtain ⟨_, _, _, rfl, _⟩ := h
    rfl
  · obtain ⟨p, c, m, rfl, ⟨x, y, hp⟩, hm, hm2, q⟩ := h
    refine ⟨_, (pss_cons (ps_if (pt_cmpR op_eq (pe_ix ix_list (pv 0) pe_int (fun _ _ => rfl)) pe_int (nomark _))
        (pss_cons (ps_set (i := 2) nd rfl (Or.inl rfl) (pe_op op_mod (pe_callTy call_int1 (by rfl) T.b_int (by decide +kernel) (pa_cons (pe_op op_add (pe_op op_add (pe_op op_mul (pe_ix ix_list (pv 0) pe_int (fun _ _ => rfl)) pe_int) (pe_op op_mul (pe_ix ix_list (pv 0) pe_int (fun _ _ => rfl)) pe_int)) pe_int) pa_nil)) pe_int))
        (pss_cons (ps_asg (pe_op op_add (pe_op op_mul (pv 2) pe_int) (pe_op op_mod (pe_callTy call_int1 (by rfl) T.b_int (by decide +kernel) (pa_cons (pe_op op_add (pe_op op_mul (pv 2) (pv 2)) (pe_op op_mul (pe_ix ix_list (pv 0) pe_int (fun _ _ => rfl)) pe_int)) pa_nil)) pe_int)) (pg_sub (pv 0) pe_int set_list))
        (pss_one (ps_asg (pv 2) (pg_sub (pv 0) pe_int set_list)))))
        pss_nil)
      (pss_cons (ps_set (i := 3) nd rfl (Or.inl rfl) (pe_ix ix_list (pv 0) pe_int (fun _ _ => rfl)))
      (pss_cons (ps_asg (pe_op op_fdivW (pv 3) (pv 1)) (pg_sub (pv 0) pe_int set_list))
      (pss_one (ps_ret (pe_op op_mod (pe_callTy call_int1 (by rfl) T.b_int (by decide +kernel) (pa_cons (pv 3) pa_nil)) (pv 1))))))), ?_⟩
    have wd : CDivW 0 m := wide_div (i := 0) hm hm2 (by omega) (by omega)
    refine ⟨_, rfl, p, _, _, _, rfl, rfl, SqL.of hp, rfl, rfl, _, rfl, ?_⟩
    by_cases h0 : x = 0
    · subst h0
      refine dT rfl ?_
      refine ⟨_, rfl, p, _, _, _, rfl, rfl, SqL.of hp, rfl, _, _, rfl, rfl, .inr ⟨by decide, by decide⟩, ?_⟩
      refine ⟨_, rfl, p, _, _, _, rfl, rfl, SqL.of hp, rfl, _, _, rfl, rfl, .inr ⟨by decide, by decide⟩, _, _, rfl, rfl, _, _, rfl, rfl, .inl ⟨_, rfl, _, _, rfl, rfl, (by show (0 : Int) < 2147483647; decide), ?_⟩⟩
      have b0 : 0 ≤ (y * 48271 + c * 69621 + 11) % 2147483647 := Int.emod_nonneg _ (by decide)
      have b1 : (y * 48271 + c * 69621 + 11) % 2147483647 < 2147483647 := Int.emod_lt_of_pos _ (by decide)
      have bb : -(2 ^ 64) < (y * 48271 + c * 69621 + 11) % 2147483647 ∧ (y * 48271 + c * 69621 + 11) % 2147483647 < 2 ^ 64 := ⟨by omega, by omega⟩
      refine ⟨_, rfl, _, _, rfl, rfl, .inl bb, _, rfl, _, rfl, _, _, rfl, rfl, .inl bb, _, rfl, p, _, _, _, rfl, rfl, SqL.of hp, rfl, _, _, rfl, rfl, .inr ⟨by decide, by decide⟩, _, _, rfl, rfl, .inl ⟨_, rfl, _, _, rfl, rfl, (by show (0 : Int) < 2147483629; decide), _, _, rfl, rfl, ?_⟩⟩
      refine ⟨_, rfl, p, _, _, 0, rfl, rfl, hp, rfl, ?_⟩
      refine ⟨_, rfl, _, rfl, p, _, _, 1, rfl, rfl, upd_same, rfl, ?_⟩
      refine ⟨_, rfl, p, _, _, _, rfl, rfl, SqL.of upd_same, rfl, ?_⟩
      refine ⟨_, rfl, _, rfl, _, _, rfl, rfl, wd, _, rfl, p, _, _, 0, rfl, rfl, upd_same, rfl, ?_⟩
      refine ⟨_, rfl, .inl ⟨_, rfl, _, rfl, _, _, rfl, rfl, hm, ?_⟩⟩
      exact q _ _ (Int.emod_nonneg _ (by omega)) (Int.emod_lt_of_pos _ hm) ((but_upd _).trans ((but_upd _).trans (but_upd _))) ⟨_, _, upd_same⟩
    · refine dF (by intro z; cases z; exact h0 rfl) ?_
      refine ⟨_, rfl, p, _, _, _, rfl, rfl, SqL.of hp, rfl, ?_⟩
      refine ⟨_, rfl, _, rfl, _, _, rfl, rfl, wd, _, rfl, p, _, _, 0, rfl, rfl, hp, rfl, ?_⟩
      refine ⟨_, rfl, .inl ⟨_, rfl, _, rfl, _, _, rfl, rfl, hm, ?_⟩⟩
      exact q _ _ (Int.emod_nonneg _ (by omega)) (Int.emod_lt_of_pos _ hm) (but_upd _) ⟨_, _, upd_same⟩

abbrev s__law_spoilt : Stmt := top 16
abbrev N__law_spoilt : List Str := ["bag", "value", "odd", "at", "choice"]
abbrev P__law_spoilt : List Str := ["bag", "value", "odd"]
theorem sc__law_spoilt : FnScope N__law_spoilt P__law_spoilt (defScope s__law_spoilt) := ⟨rfl, rfl, rfl, by decide +kernel, rfl, by decide +kernel, by decide +kernel⟩
theorem ok__law_spoilt {f : Addr} {fd : FuncData} (T : Tx K mg CN CB) {n : Nat} (c__law_draw : DefOk P w K mg base CX0 "_law_draw" P__law_draw 1 (sp_draw)) (c__law_spoilt : DefOk P w K mg base CX0 "_law_spoilt" P__law_spoilt (1 + n) (spv sp_spoilt n))(F : Fun K "_law_spoilt" "_law_spoilt" s__law_spoilt f fd) : FnOk P w K mg base CX0 (1 + n + 1) f fd P__law_spoilt (sp_spoilt n) := by
  have nd := sc__law_spoilt.nd
  refine F.ok sc__law_spoilt (fun vs H Q E h => ?_) (fun cdv A outer s H vs Q E hr h => ?_)
  · obtain ⟨_, _, _, _, _, _, rfl, _⟩ := h
    rfl
  · obtain ⟨p, c, v, o, d, e, rfl, g, rv, ro, hf, q⟩ := h
    have hs := sl
    refine ⟨_, (pss_cons (ps_if (PW.pt (pw_or (pt_not (pt_val (pe_callB call_isi (by rfl) T.b_isinstance (by decide +kernel) (pa_cons (pv 1) (pa_cons (pe_ty "tuple" T.b_tuple) pa_nil))))) (pw_or (pt_cmpR op_eq (pe_callB call_len_seq (by rfl) T.b_len (by decide +kernel) (pa_cons (pv 1) pa_nil)) pe_int (nomark _)) (pw_or1 (pt_cmpR op_eq (pcall c__law_draw hr (pa_cons (pv 0) (pa_cons pe_int pa_nil))) pe_int (nomark _))))))
        (pss_one (ps_ret (pv 2)))
        pss_nil)
      (pss_cons (ps_set (i := 3) nd rfl (Or.inl rfl) (pcall c__law_draw hr (pa_cons (pv 0) (pa_cons (pe_callB call_len_seq (by rfl) T.b_len (by decide +kernel) (pa_cons (pv 1) pa_nil)) pa_nil))))
      (pss_cons (ps_set (i := 4) nd rfl (Or.inl rfl) (pcall c__law_draw hr (pa_cons (pv 0) (pa_cons pe_int pa_nil))))
      (pss_cons (ps_if (pt_cmpR op_eq (pv 4) pe_int (nomark _))
        (pss_one (ps_ret (pe_op op_catA (pe_slice sl_tupA (pv 1) po_none (po_some (pv 3))) (pe_slice sl_tupA (pv 1) (po_some (pe_op op_add (pv 3) pe_int)) po_none))))
        pss_nil)
      (pss_cons (ps_if (pt_cmpR op_eq (pv 4) pe_int (nomark _))
        (pss_one (ps_ret (pe_op op_catA (pe_op op_catA (pe_slice sl_tupA (pv 1) po_none (po_some (pv 3))) (pe_tup (pa_cons (pv 2) pa_nil))) (pe_slice sl_tupA (pv 1) (po_some (pv 3)) po_none))))
        pss_nil)
      (pss_cons (ps_if (pt_cmpR op_eq (pv 4) pe_int (nomark _))
        (pss_one (ps_ret (pe_op op_catA (pe_op op_catA (pe_slice sl_tupA (pv 1) po_none (po_some (pv 3))) (pe_slice sl_tupA (pv 1) (po_some (pv 3)) (po_some (pe_op op_add (pv 3) pe_int)))) (pe_slice sl_tupA (pv 1) (po_some (pv 3)) po_none))))
        pss_nil)
      (pss_cons (ps_if (pt_cmpR op_eq (pv 4) pe_int (nomark _))
        (pss_one (ps_ret (pe_op op_catA (pe_op op_catA (pe_op op_catA (pe_slice sl_tupA (pv 1) po_none (po_some (pv 3))) (pe_slice sl_tupA (pv 1) (po_some (pe_op op_add (pv 3) pe_int)) (po_some (pe_op op_add (pv 3) pe_int)))) (pe_slice sl_tupA (pv 1) (po_some (pv 3)) (po_some (pe_op op_add (pv 3) pe_int)))) (pe_slice sl_tupA (pv 1) (po_some (pe_op op_add (pv 3) pe_int)) po_none))))
        pss_nil)
      (pss_one (ps_ret (pe_op op_catA (pe_op op_catA (pe_slice sl_tupA (pv 1) po_none (po_some (pv 3))) (pe_tup (pa_cons (pcall c__law_spoilt hr (pa_cons (pv 0) (pa_cons (pe_ix ix_tup (pv 1) (pv 3) (fun _ _ => rfl)) (pa_cons (pv 2) pa_nil)))) pa_nil))) (pe_slice sl_tupA (pv 1) (po_some (pe_op op_add (pv 3) pe_int)) po_none))))))))))), ?_⟩
    walk_at "rds"
    refine iB (fun h => ?_) (fun h => ?_)
    · walk_at "rds"
      exact q _ _ _ ro (fun P _ h => h) (But.refl p H) g
    · have h' : dTup d = true := by simpa using h
      obtain ⟨ds, rfl⟩ := dTup_tuple h'
      have rv' := rv
      obtain _ | _ | _ | _ | _ | @⟨a, xs, _, ha, na, hw, hr1⟩ := rv
      have hl := hr1.length
      have hl3 := fit_len hf
      walk_at "rds"
      refine iB (fun h => ?_) (fun h => ?_)
      · walk_at "rds"
        exact q _ _ _ ro (fun P _ h => h) (But.refl p H) g
      · have h0 : xs.length ≠ 0 := fun z => by
          have h := of_decide_eq_false h
          rw [z] at h
          exact h rfl
        walk_at "rds"
        refine ⟨p, c, _, rfl, g, by decide, by decide, fun r H1 r0 r1 b1 g1 => ?_⟩
        have rv1 := rv'.mono b1
        have ro1 := ro.mono b1
        walk_at "rds"
        refine iB (fun h => ?_) (fun h => ?_)
        · walk_at "rds"
          exact q _ _ _ ro1 (fun P _ h => h) b1 g1
        · have ha1 := b1 a _ ha na
          walk_at "rds"
          refine ⟨p, c, _, rfl, g1, by omega, by omega, fun at' H2 a0 a1 b2 g2 => ?_⟩
          walk_at "rds"
          refine ⟨p, c, _, rfl, g2, by decide, by decide, fun ch H3 c0 c1 b3 g3 => ?_⟩
          have bb := b1.trans (b2.trans b3)
          have rv3 := (rv1.mono b2).mono b3
          have ro3 := (ro1.mono b2).mono b3
          have hr3 := hr1.mono bb
          have ha3 := bb a _ ha na
          have lc := cutD_len ds
          have cl : ∀ lo hi, (cutD ds lo hi).length ≤ 3000 := fun lo hi => Nat.le_trans (lc lo hi) hl3
          walk_at "rds"
          refine iB (fun h => ?_) (fun h => ?_)
          · walk_at "rds"
            (try unfold tNoPart)
            refine rd_cut rv3 g3 fun b4 H4 s4 g4 r4 => ?_
            walk_at "rds"
            (try unfold tNoPart)
            refine rd_cut (rv3.same s4) g4 fun b5 H5 s5 g5 r5 => ?_
            refine rd_cat (r4.same s5) r5 g5 (by have := cl none (some at'); have := cl (some (at' + 1)) none; omega) fun b6 H6 s6 g6 r6 => ?_
            exact q _ _ _ r6 (fun P h1 h2 => (h1.cut _ _).app (h1.cut _ _)) (bb.trans (But.of (s4.trans (s5.trans s6)))) g6
          walk_at "rds"
          refine iB (fun h => ?_) (fun h => ?_)
          · walk_at "rds"
            (try unfold tNoPart)
            refine rd_cut rv3 g3 fun b4 H4 s4 g4 r4 => ?_
            refine ⟨_, rfl, by show 1 ≤ sizeLine; omega, fun t nt => ?_⟩
            have st := same_new nt (.tup [o])
            have rt : Rp p (upd H4 t (.tup [o])) (.ref t) (.tuple [e]) := .tup upd_same (g4.ne nt).symm (by show 1 ≤ 100000; decide) (.cons (ro3.same (s4.trans st)) .nil)
            refine rd_cat (r4.same st) rt (g4.new nt) (by have := cl none (some at'); show _ + 1 ≤ _; omega) fun b6 H6 s6 g6 r6 => ?_
            walk_at "rds"
            (try unfold tNoPart)
            refine rd_cut (rv3.same (s4.trans (st.trans s6))) g6 fun b5 H5 s5 g5 r5 => ?_
            refine rd_cat (r6.same s5) r5 g5 (by have := cl none (some at'); have := cl (some at') none; rw [List.length_append]; show _ + 1 + _ ≤ _; omega) fun b7 H7 s7 g7 r7 => ?_
            exact q _ _ _ r7 (fun P h1 h2 => ((h1.cut _ _).app h2.one).app (h1.cut _ _)) (bb.trans (But.of (s4.trans (st.trans (s6.trans (s5.trans s7)))))) g7
          walk_at "rds"
          refine iB (fun h => ?_) (fun h => ?_)
          · walk_at "rds"
            (try unfold tNoPart)
            refine rd_cut rv3 g3 fun b4 H4 s4 g4 r4 => ?_
            walk_at "rds"
            (try unfold tNoPart)
            refine rd_cut (rv3.same s4) g4 fun b5 H5 s5 g5 r5 => ?_
            refine rd_cat (r4.same s5) r5 g5 (by have := cl none (some at'); have := cl (some at') (some (at' + 1)); omega) fun b6 H6 s6 g6 r6 => ?_
            walk_at "rds"
            (try unfold tNoPart)
            refine rd_cut (rv3.same (s4.trans (s5.trans s6))) g6 fun b7 H7 s7 g7 r7 => ?_
            refine rd_cat (r6.same s7) r7 g7 (by have := cl none (some at'); have := cl (some at') (some (at' + 1)); have := cl (some at') none; rw [List.length_append]; omega) fun b8 H8 s8 g8 r8 => ?_
            exact q _ _ _ r8 (fun P h1 h2 => ((h1.cut _ _).app (h1.cut _ _)).app (h1.cut _ _)) (bb.trans (But.of (s4.trans (s5.trans (s6.trans (s7.trans s8)))))) g8
          walk_at "rds"
          refine iB (fun h => ?_) (fun h => ?_)
          · walk_at "rds"
            (try unfold tNoPart)
            refine rd_cut rv3 g3 fun b4 H4 s4 g4 r4 => ?_
            walk_at "rds"
            (try unfold tNoPart)
            refine rd_cut (rv3.same s4) g4 fun b5 H5 s5 g5 r5 => ?_
            refine rd_cat (r4.same s5) r5 g5 (by have := cl none (some at'); have := cl (some (at' + 1)) (some (at' + 2)); omega) fun b6 H6 s6 g6 r6 => ?_
            walk_at "rds"
            (try unfold tNoPart)
            refine rd_cut (rv3.same (s4.trans (s5.trans s6))) g6 fun b7 H7 s7 g7 r7 => ?_
            refine rd_cat (r6.same s7) r7 g7 (by have := cl none (some at'); have := cl (some (at' + 1)) (some (at' + 2)); have := cl (some at') (some (at' + 1)); rw [List.length_append]; omega) fun b8 H8 s8 g8 r8 => ?_
            walk_at "rds"
            (try unfold tNoPart)
            refine rd_cut (rv3.same (s4.trans (s5.trans (s6.trans (s7.trans s8))))) g8 fun b9 H9 s9 g9 r9 => ?_
            refine rd_cat (r8.same s9) r9 g9 (by have := cl none (some at'); have := cl (some (at' + 1)) (some (at' + 2)); have := cl (some at') (some (at' + 1)); have := cl (some (at' + 2)) none; rw [List.length_append, List.length_append]; omega) fun b10 H10 s10 g10 r10 => ?_
            exact q _ _ _ r10 (fun P h1 h2 => (((h1.cut _ _).app (h1.cut _ _)).app (h1.cut _ _)).app (h1.cut _ _)) (bb.trans (But.of (s4.trans (s5.trans (s6.trans (s7.trans (s8.trans (s9.trans s10)))))))) g10
          cases n with
          | zero => exact hf.elim
          | succ n =>
            walk_at "rds"
            (try unfold tNoPart)
            refine rd_cut rv3 g3 fun b4 H4 s4 g4 r4 => ?_
            have hlt : at'.toNat < xs.length := by omega
            obtain ⟨di, hdi, rdi⟩ := (hr3.same s4).at (List.getElem?_eq_getElem hlt)
            walk_at "rds"
            refine ⟨a, _, _, _, rfl, rfl, SqT.of (s4 _ _ ha3), at_int a0 (List.getElem?_eq_getElem hlt), ?_⟩
            walk_at "rds"
            refine ⟨p, c, _, o, di, e, rfl, g4, rdi, ro3.same s4, hf.2 di (List.mem_of_getElem? hdi), fun v' d' H5 r5 h5 b5 g5 => ?_⟩
            refine ⟨by show 1 ≤ sizeLine; omega, fun t nt => ?_⟩
            have st := same_new nt (.tup [v'])
            have rt : Rp p (upd H5 t (.tup [v'])) (.ref t) (.tuple [d']) := .tup upd_same (g5.ne nt).symm (by show 1 ≤ 100000; decide) (.cons (r5.same st) .nil)
            refine rd_cat ((r4.mono b5).same st) rt (g5.new nt) (by have := cl none (some at'); show _ + 1 ≤ _; omega) fun b6 H6 s6 g6 r6 => ?_
            walk_at "rds"
            (try unfold tNoPart)
            refine rd_cut (((rv3.same s4).mono b5).same (st.trans s6)) g6 fun b7 H7 s7 g7 r7 => ?_
            refine rd_cat (r6.same s7) r7 g7 (by have := cl none (some at'); have := cl (some (at' + 1)) none; rw [List.length_append]; show _ + 1 + _ ≤ _; omega) fun b8 H8 s8 g8 r8 => ?_
            exact q _ _ _ r8 (fun P h1 h2 => ((h1.cut _ _).app (h5 P (h1.mem di (List.mem_of_getElem? hdi)) h2).one).app (h1.cut _ _)) (bb.trans ((But.of s4).trans (b5.trans (But.of (st.trans (s6.trans (s7.trans s8))))))) g8
def mk_spoilt (T : Tx K mg CN CB) (aV : DefAt K mg "_law_spoilt" P__law_spoilt s__law_spoilt) (c__law_draw : DefOk P w K mg base CX0 "_law_draw" P__law_draw 1 (sp_draw)) : ∀ n : Nat, DefOk P w K mg base CX0 "_law_spoilt" P__law_spoilt (1 + n + 1) (sp_spoilt n)
  | 0 =>
    let t : DefOk P w K mg base CX0 "_law_spoilt" P__law_spoilt (1 + 0) (spv sp_spoilt 0) := aV.ok fun _ => no_call (by
      rintro vs H Q E ⟨m, h, _⟩
      omega)
    aV.ok fun F => ok__law_spoilt T c__law_draw t F
  | n + 1 =>
    let r := mk_spoilt T aV c__law_draw n
    let t : DefOk P w K mg base CX0 "_law_spoilt" P__law_spoilt (1 + (n + 1)) (spv sp_spoilt (n + 1)) := ⟨r.f, r.fd, r.G.imp (by
      rintro vs H Q E ⟨m, h, q⟩
      have e : n = m := by omega
      subst e
      exact q), r.m, r.kp, r.b⟩
    aV.ok fun F => ok__law_spoilt T c__law_draw t F
abbrev s__law_is_int : Stmt := top 15
abbrev N__law_is_int : List Str := ["value", "least", "most"]
abbrev P__law_is_int : List Str := ["value", "least", "most"]
theorem sc__law_is_int : FnScope N__law_is_int P__law_is_int (defScope s__law_is_int) := ⟨rfl, rfl, rfl, by decide +kernel, rfl, by decide +kernel, by decide +kernel⟩
theorem ok__law_is_int {f : Addr} {fd : FuncData} (T : Tx K mg CN CB) (F : Fun K "_law_is_int" "_law_is_int" s__law_is_int f fd) : FnOk P w K mg base CX0 (1) f fd P__law_is_int (spI) := by
  have nd := sc__law_is_int.nd
  refine F.ok sc__law_is_int (fun vs H Q E h => ?_) (fun cdv A outer s H vs Q E hr h => ?_)
  · obtain ⟨_, _, _, _, _, rfl, _⟩ := h
    rfl
  · obtain ⟨p, v, d, a, b, rfl, hd, q⟩ := h
    refine ⟨_, (pss_one (ps_ret (pe_and (pe_callB call_isi (by rfl) T.b_isinstance (by decide +kernel) (pa_cons (pv 0) (pa_cons (pe_ty "int" T.b_int) pa_nil))) (pe_and (pe_not (pe_callB call_isi (by rfl) T.b_isinstance (by decide +kernel) (pa_cons (pv 0) (pa_cons (pe_ty "bool" T.b_bool) pa_nil)))) (pe_and (pe_cmpR op_le (pv 1) (pv 0) (nomark _)) (pe_one (pe_cmpR op_le (pv 0) (pv 2) (nomark _)))))))), ?_⟩
    have hd' := hd
    cases hd <;> walk_at "rds"
    case int =>
      refine iB (fun h => ?_) (fun h => ?_)
      · walk_at "rds"
        exact ansB q (by simp [isInt, h])
      · exact ansB q (by simp [isInt, h])
    all_goals exact q
local macro_rules | `(tactic| walk_at "de") => `(tactic| repeat first
  | exact des_nil | exact de_bl | exact de_str | exact de_non | apply des_cons | apply de_tup | apply de_lst | apply de_cat | exact di_c | exact di_v rfl | apply di_opC | apply di_op | apply di_neg | apply de_i | exact Nat.le_of_ble_eq_true rfl)
def sp_odd : Sp := fun vs H Q _ => ∃ (p : Addr) (c n : Int), vs = [.ref p, .int n] ∧ Bag p c H ∧ ∀ v d H', Rp p H' v d → But p H H' → Bag p c H' → Q v H'
abbrev s__law_odd : Stmt := top 17
abbrev N__law_odd : List Str := ["bag", "count", "odd"]
abbrev P__law_odd : List Str := ["bag", "count"]
theorem sc__law_odd : FnScope N__law_odd P__law_odd (defScope s__law_odd) := ⟨rfl, rfl, rfl, by decide +kernel, rfl, by decide +kernel, by decide +kernel⟩
theorem ok__law_odd {f : Addr} {fd : FuncData} (T : Tx K mg CN CB) (c__law_draw : DefOk P w K mg base CX0 "_law_draw" P__law_draw 1 (sp_draw))(F : Fun K "_law_odd" "_law_odd" s__law_odd f fd) : FnOk P w K mg base CX0 (2) f fd P__law_odd (sp_odd) := by
  have nd := sc__law_odd.nd
  refine F.ok sc__law_odd (fun vs H Q E h => ?_) (fun cdv A outer s H vs Q E hr h => ?_)
  · obtain ⟨_, _, _, rfl, _⟩ := h
    rfl
  · obtain ⟨p, c, n, rfl, g, q⟩ := h
    have hs := sl
    refine ⟨_, (pss_cons (ps_set (i := 2) nd rfl (Or.inl rfl) (pe_lst (pa_cons pe_int (pa_cons pe_int (pa_cons (pv 1) (pa_cons (pe_op op_sub (pv 1) pe_int) (pa_cons (pe_un un_neg pe_int) (pa_cons pe_bl (pa_cons pe_non (pa_cons pe_str (pa_cons pe_str (pa_cons (pe_tup pa_nil) (pa_cons (pe_tup (pa_cons pe_int pa_nil)) (pa_cons (pe_tup (pa_cons (pe_op op_sub (pv 1) pe_int) pa_nil)) (pa_cons (pe_tup (pa_cons pe_int (pa_cons pe_int pa_nil))) (pa_cons (pe_tup (pa_cons (pv 1) pa_nil)) (pa_cons (pe_lst (pa_cons pe_int pa_nil)) (pa_cons (pe_lst (pa_cons (pe_tup (pa_cons pe_int pa_nil)) pa_nil)) (pa_cons (pe_tup (pa_cons (pe_tup (pa_cons pe_int pa_nil)) pa_nil)) (pa_cons (pe_tup (pa_cons pe_bl pa_nil)) pa_nil))))))))))))))))))))
      (pss_one (ps_ret (pe_ix ix_list (pv 2) (pcall c__law_draw hr (pa_cons (pv 0) (pa_cons pe_int pa_nil))) (fun _ _ => rfl))))), ?_⟩
    show tAsg (tLst _) _ _ _ _
    show tLst _ _ _ _
    refine de_lstN 18 (fun _ => True) ⟨_, by walk_at "de", rfl, fun _ _ => trivial⟩ (by decide) g fun d1 v H1 l1 _ s1 g1 r1 => ?_
    obtain _ | _ | _ | _ | @⟨a, xs, _, ha, na, r1⟩ | _ := r1
    have hl := r1.length
    refine ⟨_, rfl, _, rfl, p, c, _, rfl, g1, by decide, by decide, fun m H5 m0 m1 b5 g5 => ?_⟩
    have hlt : m.toNat < xs.length := by omega
    obtain ⟨d, hd, rd⟩ := (r1.mono b5).at (List.getElem?_eq_getElem hlt)
    refine ⟨a, _, _, _, rfl, rfl, SqL.of (b5 _ _ ha na), at_int m0 (List.getElem?_eq_getElem hlt), ?_⟩
    exact q _ d _ rd ((But.of s1).trans b5) g5
abbrev s__law_is_groups : Stmt := top 19
abbrev N__law_is_groups : List Str := ["count", "value", "found", "group", "process"]
abbrev P__law_is_groups : List Str := ["count", "value"]
theorem sc__law_is_groups : FnScope N__law_is_groups P__law_is_groups (defScope s__law_is_groups) := ⟨rfl, rfl, rfl, by decide +kernel, rfl, by decide +kernel, by decide +kernel⟩
def sp_lig : Sp := fun vs H Q _ => ∃ (p : Addr) (v : V) (d : PyData) (N : Nat), vs = [.int N, v] ∧ Rp p H v d ∧ 1 ≤ N ∧ N ≤ 12 ∧ ∀ H', Same H H' → Q (.bl (isGr (.int N) d)) H'
theorem ok__law_is_groups {f : Addr} {fd : FuncData} (T : Tx K mg CN CB) (c__law_is_int : DefOk P w K mg base CX0 "_law_is_int" P__law_is_int 1 (spI))(F : Fun K "_law_is_groups" "_law_is_groups" s__law_is_groups f fd) : FnOk P w K mg base CX0 (2) f fd P__law_is_groups (sp_lig) := by
  have nd := sc__law_is_groups.nd
  refine F.ok sc__law_is_groups (fun vs H Q E h => ?_) (fun cdv A outer s H vs Q E hr h => ?_)
  · obtain ⟨_, _, _, _, rfl, _⟩ := h
    rfl
  · obtain ⟨p, v, d, N, rfl, hd, n1, n2, q⟩ := h
    have hs := sl
    have pe : ∀ x : PyData, isInt x 0 ((N : Int) - 1) = isProc (.int N) x := fun x => by
      have e : isProc (.int N) x = ((decide (1 ≤ (N : Int)) && decide ((N : Int) ≤ 12)) && isInt x 0 ((N : Int) - 1)) := rfl
      rw [e, decide_eq_true (show 1 ≤ (N : Int) by omega), decide_eq_true (show (N : Int) ≤ 12 by omega)]
      rfl
    refine ⟨_, (pss_cons (ps_if (pt_not (pt_val (pe_callB call_isi (by rfl) T.b_isinstance (by decide +kernel) (pa_cons (pv 1) (pa_cons (pe_ty "tuple" T.b_tuple) pa_nil)))))
        (pss_one (ps_ret pe_bl))
        pss_nil)
      (pss_cons (ps_set (i := 2) nd rfl (Or.inl rfl) (pe_lst pa_nil))
      (pss_cons (ps_for PassesOwn.never rfl (pi_tup (pv 1)) (pg_name (i := 3) nd rfl (Or.inl rfl))
        (pss_cons (ps_if (PW.pt (pw_or (pt_not (pt_val (pe_callB call_isi (by rfl) T.b_isinstance (by decide +kernel) (pa_cons (pv 3) (pa_cons (pe_ty "tuple" T.b_tuple) pa_nil))))) (pw_or1 (pt_cmpR op_eq (pe_callB call_len_seq (by rfl) T.b_len (by decide +kernel) (pa_cons (pv 3) pa_nil)) pe_int (nomark _)))))
          (pss_one (ps_ret pe_bl))
          pss_nil)
        (pss_one (ps_for PassesOwn.never rfl (pi_tup (pv 3)) (pg_name (i := 4) nd rfl (Or.inl rfl))
          (pss_cons (ps_if (PW.pt (pw_or (pt_not (pt_val (pcall c__law_is_int hr (pa_cons (pv 4) (pa_cons pe_int (pa_cons (pe_op op_sub (pv 0) pe_int) pa_nil)))))) (pw_or1 (pt_cmpR op_in_seq (pv 4) (pv 2) (by rfl)))))
            (pss_one (ps_ret pe_bl))
            pss_nil)
          (pss_one (ps_expr (pe_bm PySem.F.plainAttrs_list PySem.F.slot_list_append PySem.F.type_list_append mt_append (pv 2) (pa_cons (pv 4) pa_nil)))))))))
      (pss_one (ps_ret pe_bl))))), ?_⟩
    walk_at "rds"
    refine iB (fun h => ?_) (fun h => ?_)
    · have e : isGr (.int N) d = false := by
        cases d <;> first | rfl | (cases h; done)
      exact (show Q (.bl false) H from e ▸ q _ (Same.rfl' H))
    · obtain ⟨ds, rfl⟩ : ∃ ds, d = .tuple ds := by
        cases d <;> first | (cases h; done) | exact ⟨_, rfl⟩
      obtain _ | _ | _ | _ | _ | @⟨a, xs, _, ha, na, hw, hr2⟩ := hd
      walk_at "rds"
      refine ⟨by show 0 ≤ sizeLine; omega, fun D nD => ?_⟩
      have sD := same_new nD (.lst [])
      have lx := hr2.length
      refine ⟨_, rfl, a, rfl, ⟨_, SqT.of (sD _ _ ha)⟩, for_tup (K := K) (a := a) (xs := xs) (fun i σ H' => ∃ (f : List Int) (x3 x4 : Option V), σ = [some (.int N), some (.ref a), some (.ref D), x3, x4] ∧ Same H H' ∧ H' D = some (.lst (f.map V.int)) ∧ f.Nodup ∧ (∀ x ∈ f, 0 ≤ x ∧ x < (12 : Nat)) ∧ grG (.int N) f (ds.drop i) = grG (.int N) [] ds) ?_ ?_ ?_ ?_⟩
      · exact ⟨[], _, _, rfl, sD, upd_same, List.nodup_nil, fun x hx => (by cases hx), rfl⟩
      · rintro i σ H' _ ⟨_, _, _, rfl, s1, _⟩
        exact SqT.of (s1 _ _ ha)
      · rintro i v σ H1 hx ⟨f, x3, x4, rfl, s1, hD, hnd, hlt, hg⟩
        obtain ⟨d, hd, rd⟩ := hr2.at hx
        have rd1 := rd.same s1
        have ed : ds.drop i = d :: ds.drop (i + 1) := by
          obtain ⟨hi, e⟩ := List.getElem?_eq_some_iff.mp hd
          rw [List.drop_eq_getElem_cons hi, e]
        rw [ed] at hg
        walk_at "rds"
        refine iB (fun h2 => ?_) (fun h2 => ?_)
        · have e : isGr (.int N) (.tuple ds) = false := by
            show (grG _ [] ds).isSome = false
            rw [← hg]
            cases d <;> first | rfl | (cases h2; done)
          exact (show Q (.bl false) H1 from e ▸ q _ s1)
        · obtain ⟨es, rfl⟩ : ∃ es, d = .tuple es := by
            cases d <;> first | (cases h2; done) | exact ⟨_, rfl⟩
          obtain _ | _ | _ | _ | _ | @⟨b, ys, _, hb0, nb, hw3, hr3⟩ := rd
          have ly := hr3.length
          have hb := s1 _ _ hb0
          walk_at "rds"
          cases es with
          | nil =>
            obtain rfl : ys = [] := List.eq_nil_of_length_eq_zero ly
            have e : isGr (.int N) (.tuple ds) = false := by
              show (grG _ [] ds).isSome = false
              rw [← hg]; rfl
            walk_at "rds"
            exact (show Q (.bl false) H1 from e ▸ q _ s1)
          | cons e0 es =>
            refine dF (vint_ne (by rw [ly, List.length_cons]; omega)) ?_
            walk_at "rds"
            have ge : grG (.int N) f (.tuple (e0 :: es) :: ds.drop (i + 1)) = match elG (.int N) f (e0 :: es) with | some f' => grG (.int N) f' (ds.drop (i + 1)) | none => none := rfl
            rw [ge] at hg
            generalize e0 :: es = es1 at *
            refine ⟨⟨_, SqT.of hb⟩, for_tup (K := K) (a := b) (xs := ys) (fun j σ H' => ∃ (f1 : List Int) (x4 : Option V), σ = [some (.int N), some (.ref a), some (.ref D), some (.ref b), x4] ∧ Same H H' ∧ H' D = some (.lst (f1.map V.int)) ∧ f1.Nodup ∧ (∀ x ∈ f1, 0 ≤ x ∧ x < (12 : Nat)) ∧ elG (.int N) f1 (es1.drop j) = elG (.int N) f es1) ?_ ?_ ?_ ?_⟩
            · exact ⟨f, _, rfl, s1, hD, hnd, hlt, rfl⟩
            · rintro j σ H' _ ⟨_, _, rfl, s2, _⟩
              exact SqT.of (s2 _ _ hb0)
            · rintro j v σ H2 hy ⟨f1, x5, rfl, s2, hD2, hnd2, hlt2, he⟩
              obtain ⟨d, hd, rd⟩ := hr3.at hy
              have rd2 := rd.same s2
              have ed2 : es1.drop j = d :: es1.drop (j + 1) := by
                obtain ⟨hi, e⟩ := List.getElem?_eq_some_iff.mp hd
                rw [List.drop_eq_getElem_cons hi, e]
              rw [ed2] at he
              have bad : elG (.int N) f1 (d :: es1.drop (j + 1)) = none → isGr (.int N) (.tuple ds) = false := fun z => by
                show (grG _ [] ds).isSome = false
                rw [← hg, ← he, z]; rfl
              refine ⟨_, rfl, _, rfl, _, _, rfl, rfl, ?_⟩
              refine ⟨p, v, d, 0, (N : Int) - 1, rfl, rd2, ?_⟩
              rw [pe]
              walk_at "rds"
              refine iB (fun h3 => ?_) (fun h3 => ?_)
              · have e : isGr (.int N) (.tuple ds) = false := bad (by
                  cases d <;> first | rfl | skip
                  unfold elG
                  rw [if_neg (fun z => by rw [z.1] at h3; cases h3)])
                exact (show Q (.bl false) H2 from e ▸ q _ s2)
              · replace h3 : isProc (.int N) d = true := by simpa using h3
                obtain ⟨x, rfl, hx1⟩ : ∃ x, d = .int x ∧ 0 ≤ x ∧ x < (12 : Nat) := by
                  rw [← pe] at h3
                  cases d <;> first | (simp [isInt] at h3; done) | skip
                  rename_i x
                  simp only [isInt, Bool.and_eq_true, decide_eq_true_eq] at h3
                  exact ⟨x, rfl, by omega, by omega⟩
                cases rd2
                walk_at "rds"
                refine ⟨D, _, rfl, .inl (SqL.of hD2), rfl, flat_ints f1, ?_⟩
                refine ⟨decide (x ∈ f1), congrArg V.bl (inV_ints x f1), ?_⟩
                by_cases hm : x ∈ f1
                · rw [decide_eq_true hm]
                  have e : isGr (.int N) (.tuple ds) = false := bad (by
                    unfold elG
                    rw [if_neg (fun z => z.2 hm)])
                  walk_at "rds"
                  exact (show Q (.bl false) H2 from e ▸ q _ s2)
                · rw [decide_eq_false hm]
                  walk_at "rds"
                  have hl := nodup_lt hnd2 hlt2
                  refine ⟨.inl ⟨rfl, _, SqL.of hD2⟩, ?_⟩
                  walk_at "rds"
                  refine ⟨D, _, _, rfl, rfl, hD2, by rw [List.length_map]; omega, ?_⟩
                  refine ⟨f1 ++ [x], _, rfl, fun b o hb => ?_, by rw [upd_same, List.map_append]; rfl, ?_, fun y hy => ?_, ?_⟩
                  · rw [upd_ne (ne_of_none hb nD)]; exact s2 b o hb
                  · rw [List.nodup_append]
                    exact ⟨hnd2, List.nodup_cons.mpr ⟨List.not_mem_nil, List.nodup_nil⟩, fun a ha b hb e => hm (by rw [← List.mem_singleton.mp hb, ← e]; exact ha)⟩
                  · rcases List.mem_append.mp hy with hy | hy
                    · exact hlt2 y hy
                    · rw [List.mem_singleton.mp hy]; exact hx1
                  · rw [← he]
                    have ge : elG (.int N) f1 (.int x :: es1.drop (j + 1)) = if isProc (.int N) (.int x) = true ∧ x ∉ f1 then elG (.int N) (f1 ++ [x]) (es1.drop (j + 1)) else none := rfl
                    rw [ge, if_pos ⟨h3, hm⟩]
            · rintro σ H2 ⟨f1, x5, rfl, s2, hD2, hnd2, hlt2, he⟩
              rw [ly, List.drop_length] at he
              refine ⟨f1, _, _, rfl, s2, hD2, hnd2, hlt2, ?_⟩
              rw [← hg, ← he]; rfl
      · rintro σ H1 ⟨f, x3, x4, rfl, s1, hD, hnd, hlt, hg⟩
        rw [lx, List.drop_length] at hg
        have e : isGr (.int N) (.tuple ds) = true := by
          show (grG _ [] ds).isSome = true
          rw [← hg]; rfl
        exact (show Q (.bl true) H1 from e ▸ q _ s1)
end
end Mus

set_option maxRecDepth 100000
set_option maxHeartbeats 4000000
namespace Mus
open PySem L2
local macro_rules | `(tactic| walk_at "rd") => `(tactic| first
  | refine ⟨_, rfl, ?_⟩ | refine ⟨(True.intro : True), ?_⟩
  | refine ⟨_, _, rfl, rfl, (⟨by decide, by decide, by decide⟩ : CPow _ _), ?_⟩
  | refine ⟨_, _, rfl, rfl, (⟨by decide, by decide⟩ : CDiv _ _), ?_⟩
  | refine ⟨_, _, rfl, rfl, (by show (0 : Int) < _; decide), ?_⟩
  | refine ⟨_, _, rfl, rfl, ?_⟩ | refine ⟨rfl, ?_⟩ | refine iteT ?_ | refine iteF ?_ | refine ⟨_, _, rfl, ?_⟩ | refine .inl ⟨_, rfl, ?_⟩
  | refine ⟨_, _, _, _, _, rfl, (by assumption), (by assumption), (by assumption), rfl, ?_⟩ | refine ⟨_, _, _, _, rfl, rfl, SqT.of (by assumption), rfl, ?_⟩ | refine ⟨_, _, rfl, SqT.of (by assumption), rfl, ?_⟩
  | refine ⟨_, _, _, _, _, rfl, .ty _, Rp.ty (by assumption), kit_int _, ?_⟩ | refine ⟨_, _, _, _, _, rfl, .ty _, Rp.ty (by assumption), kit_bool _, ?_⟩
  | refine ⟨_, _, _, _, _, rfl, .ty _, Rp.ty (by assumption), kit_str _, ?_⟩ | refine ⟨_, _, _, _, _, rfl, .ty _, Rp.ty (by assumption), kit_tup _, ?_⟩)
local macro_rules | `(tactic| walk_at "cal") => `(tactic| first
  | refine ⟨_, _, _, _, _, rfl, (by assumption), ?_⟩ | refine ⟨_, _, _, _, _, rfl, (by assumption), (by assumption), ?_⟩)
local macro_rules | `(tactic| walk_at "sq") => `(tactic| first
  | refine ⟨_, _, rfl, Or.inr (SqT.of (by assumption)), ?_⟩ | refine ⟨_, _, _, _, rfl, rfl, SqT.of (by assumption), rfl, ?_⟩)
local macro_rules | `(tactic| walk_at "rds") => `(tactic| repeat first | walk_at "rd" | walk_at "cal" | walk_at "sq")
local macro_rules | `(tactic| walk_at "ze") => `(tactic| repeat first
  | exact zes_nil | exact ze_bl | exact ze_str | exact ze_non | apply zes_cons | apply ze_tup | apply ze_lst | apply ze_cat | exact di_c | exact di_v rfl | apply di_opC | apply di_op | apply di_neg | apply ze_i | (refine (⟨?_, ?_, ?_⟩ : CPow _ _) <;> decide) | exact Nat.le_of_ble_eq_true rfl | exact ze_varD rfl (by assumption))
local macro_rules | `(tactic| walk_at "rdz") => `(tactic| repeat (fail_if_success (first | show tLst _ _ _ _ | show tAsg (tLst _) _ _ _ _ | show tSeq (tAsg (tLst _) _) _ _ _ _)); first | walk_at "rd" | walk_at "cal" | walk_at "sq")
theorem Gps.rps {p : Addr} {H : Hp} (hp : ∀ xs, H p ≠ some (.tup xs)) : ∀ {vs : List V} {gs : List (List Int)}, Gps H vs gs → (∀ g ∈ gs, g.length ≤ 100) → Rps p H vs (gs.map eI)
  | _, _, .nil, _ => .nil
  | _, _, .cons (b := b) (g := g) a r, h => .cons (.tup a (fun z => hp _ (by rw [← z]; exact a)) (by rw [List.length_map]; exact Nat.le_trans (h _ List.mem_cons_self) (by decide)) (by
      have := (td_ints H g).rp hp
      exact this)) (r.rps hp fun g hg => h g (List.mem_cons_of_mem _ hg))
theorem Gps.append {H : Hp} : ∀ {vs us : List V} {gs hs : List (List Int)}, Gps H vs gs → Gps H us hs → Gps H (vs ++ us) (gs ++ hs)
  | _, _, _, _, .nil, r => r
  | _, _, _, _, .cons a q, r => .cons a (q.append r)
theorem Gps.reverse {H : Hp} : ∀ {vs : List V} {gs : List (List Int)}, Gps H vs gs → Gps H vs.reverse gs.reverse
  | _, _, .nil => .nil
  | _, _, .cons a q => by
    rw [List.reverse_cons, List.reverse_cons]
    exact q.reverse.append (.cons a .nil)
theorem Bag.notup {p : Addr} {c : Int} {H : Hp} (g : Bag p c H) : ∀ xs, H p ≠ some (.tup xs) := fun xs z => by
  obtain ⟨x, y, hp⟩ := g
  rw [hp] at z; cases z
section
variable {P : Program} {w : World} {K : PySem.W.Frag} {mg : Str → Option Value} {base : Heap} {CN CB : Addr}
def sp_lgr : Sp := fun vs H Q _ => ∃ (p : Addr) (c : Int) (N : Nat), vs = [.ref p, .int N] ∧ Bag p c H ∧ N ≤ 12 ∧ ∀ v gs H', Rp p H' v (eGs gs) → gs.length ≤ 5 → (∀ g ∈ gs, g.length ≤ 12) → But p H H' → Bag p c H' → Q v H'
structure RwAt (H0 H : Hp) (p R : Addr) (rs : List Addr) (k : Nat) : Prop where
  l : rs.length = 5
  hR : H R = some (.lst (rs.map V.ref))
  rw_ : ∀ r ∈ rs, ∃ is : List Int, H r = some (.lst (is.map V.int)) ∧ is.length ≤ k
  nR : R ∉ rs
  f0 : H0 R = none
  f1 : ∀ r ∈ rs, H0 r = none
  pr : p ∉ rs
  pR : p ≠ R
  b : But p H0 H
theorem RwAt.but {H0 H H' : Hp} {p R : Addr} {rs : List Addr} {k : Nat} (h : RwAt H0 H p R rs k) (b : But p H H') : RwAt H0 H' p R rs k :=
  ⟨h.l, b _ _ h.hR h.pR.symm, fun r hr => let ⟨is, h1, h2⟩ := h.rw_ r hr; ⟨is, b _ _ h1 (fun z => h.pr (z ▸ hr)), h2⟩, h.nR, h.f0, h.f1, h.pr, h.pR, h.b.trans b⟩
theorem RwAt.put {H0 H : Hp} {p R r : Addr} {rs : List Addr} {k : Nat} {is : List Int} (h : RwAt H0 H p R rs k) (hr : r ∈ rs) (hl : is.length ≤ k + 1) : RwAt H0 (upd H r (.lst (is.map V.int))) p R rs (k + 1) := by
  refine ⟨h.l, by rw [upd_ne (show R ≠ r from fun z => h.nR (by rw [z]; exact hr))]; exact h.hR, fun q hq => ?_, h.nR, h.f0, h.f1, h.pr, h.pR, fun c o hc nc => ?_⟩
  · by_cases e : q = r
    · rw [e, upd_same]; exact ⟨is, rfl, hl⟩
    · rw [upd_ne e]
      obtain ⟨js, h1, h2⟩ := h.rw_ q hq
      exact ⟨js, h1, by omega⟩
  · rw [upd_ne (ne_of_none hc (h.f1 r hr))]
    exact h.b c o hc nc
abbrev s__law_groups : Stmt := top 18
abbrev N__law_groups : List Str := ["bag", "count", "rows", "process", "row", "groups"]
abbrev P__law_groups : List Str := ["bag", "count"]
theorem sc__law_groups : FnScope N__law_groups P__law_groups (defScope s__law_groups) := ⟨rfl, rfl, rfl, by decide +kernel, rfl, by decide +kernel, by decide +kernel⟩
theorem ok__law_groups {f : Addr} {fd : FuncData} (T : Tx K mg CN CB) (c__law_draw : DefOk P w K mg base CX0 "_law_draw" P__law_draw 1 (sp_draw))(F : Fun K "_law_groups" "_law_groups" s__law_groups f fd) : FnOk P w K mg base CX0 (2) f fd P__law_groups (sp_lgr) := by
  have nd := sc__law_groups.nd
  refine F.ok sc__law_groups (fun vs H Q E h => ?_) (fun cdv A outer s H vs Q E hr h => ?_)
  · obtain ⟨_, _, _, rfl, _⟩ := h
    rfl
  · obtain ⟨p, c, N, rfl, g, n2, q⟩ := h
    have hs := sl
    refine ⟨_, (pss_cons (ps_set (i := 2) nd rfl (Or.inl rfl) (pe_lst (pa_cons (pe_lst pa_nil) (pa_cons (pe_lst pa_nil) (pa_cons (pe_lst pa_nil) (pa_cons (pe_lst pa_nil) (pa_cons (pe_lst pa_nil) pa_nil)))))))
      (pss_cons (ps_for PassesOwn.never rfl (pi_range1 (by rfl) T.b_range (pa_cons (pv 1) pa_nil)) (pg_name (i := 3) nd rfl (Or.inl rfl))
        (pss_cons (ps_set (i := 4) nd rfl (Or.inl rfl) (pe_ix ix_list (pv 2) (pcall c__law_draw hr (pa_cons (pv 0) (pa_cons pe_int pa_nil))) (fun _ _ => rfl)))
        (pss_one (ps_if (pt_cmpR op_eq (pcall c__law_draw hr (pa_cons (pv 0) (pa_cons pe_int pa_nil))) pe_int (nomark _))
          (pss_one (ps_expr (pe_bm PySem.F.plainAttrs_list PySem.F.slot_list_append PySem.F.type_list_append mt_append (pv 4) (pa_cons (pv 3) pa_nil))))
          (pss_one (ps_expr (pe_bm PySem.F.plainAttrs_list PySem.F.slot_list_insert PySem.F.type_list_insert mt_insert (pv 4) (pa_cons pe_int (pa_cons (pv 3) pa_nil)))))))))
      (pss_cons (ps_setLcX (i := 5) (own := [("row", 4)]) rfl nd rfl rfl (sw_true rfl rfl rfl (by decide +kernel)) (pi_list (pe_slice sl_list (pv 2) (po_some pe_int) po_none)) (blkOk_by (own := [("row", 4)]) (N := N__law_groups) (sc := defScope s__law_groups) (by decide +kernel)) (fun _ _ _ _ _ => (pg_name (i := 4) nd rfl (Or.inl rfl))) (fun _ _ _ _ _ => (pts_one (pt_cmpR op_gt (pe_callB call_len_seq (by rfl) T.b_len (by decide +kernel) (pa_cons (pv 4) pa_nil)) pe_int (nomark _)))) (fun _ _ _ _ _ => (pe_callTy call_tuple_of (by rfl) T.b_tuple (by decide +kernel) (pa_cons (pv 4) pa_nil))))
      (pss_cons (ps_if (pt_cmpR op_eq (pcall c__law_draw hr (pa_cons (pv 0) (pa_cons pe_int pa_nil))) pe_int (nomark _))
        (pss_one (ps_expr (pe_bm0 PySem.F.plainAttrs_list PySem.F.slot_list_reverse PySem.F.type_list_reverse mt_reverse (pv 5))))
        pss_nil)
      (pss_one (ps_ret (pe_callTy call_tuple_of (by rfl) T.b_tuple (by decide +kernel) (pa_cons (pv 5) pa_nil)))))))), ?_⟩
    refine ⟨by show 0 ≤ sizeLine; omega, fun r0 m0 => ?_⟩
    refine ⟨by show 0 ≤ sizeLine; omega, fun r1 m1 => ?_⟩
    refine ⟨by show 0 ≤ sizeLine; omega, fun r2 m2 => ?_⟩
    refine ⟨by show 0 ≤ sizeLine; omega, fun r3 m3 => ?_⟩
    refine ⟨by show 0 ≤ sizeLine; omega, fun r4 m4 => ?_⟩
    refine ⟨by show 5 ≤ sizeLine; omega, fun R mR => ?_⟩
    obtain ⟨H1, e1⟩ : ∃ H1, H1 = upd (upd (upd (upd (upd (upd H r0 (.lst [])) r1 (.lst [])) r2 (.lst [])) r3 (.lst [])) r4 (.lst [])) R (.lst [.ref r0, .ref r1, .ref r2, .ref r3, .ref r4]) := ⟨_, rfl⟩
    rw [← e1]
    have s0 : Same H (upd H r0 (.lst [])) := same_new m0 _
    have s1 := s0.trans (same_new m1 (.lst []))
    have s2 := s1.trans (same_new m2 (.lst []))
    have s3 := s2.trans (same_new m3 (.lst []))
    have s4 := s3.trans (same_new m4 (.lst []))
    have s5 := s4.trans (same_new mR (.lst [.ref r0, .ref r1, .ref r2, .ref r3, .ref r4]))
    have free : ∀ {Hx : Hp} {r : Addr}, Same H Hx → Hx r = none → H r = none := fun {Hx r} s h => by
      cases e : H r with
      | none => rfl
      | some o => rw [s _ _ e] at h; cases h
    have k4 : (upd (upd (upd (upd (upd H r0 (.lst [])) r1 (.lst [])) r2 (.lst [])) r3 (.lst [])) r4 (.lst [])) r4 = some (.lst []) := upd_same
    have k3 : (upd (upd (upd (upd (upd H r0 (.lst [])) r1 (.lst [])) r2 (.lst [])) r3 (.lst [])) r4 (.lst [])) r3 = some (.lst []) := same_new m4 _ _ _ upd_same
    have k2 : (upd (upd (upd (upd (upd H r0 (.lst [])) r1 (.lst [])) r2 (.lst [])) r3 (.lst [])) r4 (.lst [])) r2 = some (.lst []) := same_new m4 _ _ _ (same_new m3 _ _ _ upd_same)
    have k1 : (upd (upd (upd (upd (upd H r0 (.lst [])) r1 (.lst [])) r2 (.lst [])) r3 (.lst [])) r4 (.lst [])) r1 = some (.lst []) := same_new m4 _ _ _ (same_new m3 _ _ _ (same_new m2 _ _ _ upd_same))
    have k0 : (upd (upd (upd (upd (upd H r0 (.lst [])) r1 (.lst [])) r2 (.lst [])) r3 (.lst [])) r4 (.lst [])) r0 = some (.lst []) := same_new m4 _ _ _ (same_new m3 _ _ _ (same_new m2 _ _ _ (same_new m1 _ _ _ upd_same)))
    have RW : RwAt H H1 p R [r0, r1, r2, r3, r4] 0 := by
      have key : ∀ r ∈ [r0, r1, r2, r3, r4], (upd (upd (upd (upd (upd H r0 (.lst [])) r1 (.lst [])) r2 (.lst [])) r3 (.lst [])) r4 (.lst [])) r = some (.lst []) := fun r hr => by
        simp only [List.mem_cons, List.not_mem_nil, or_false] at hr
        rcases hr with rfl | rfl | rfl | rfl | rfl <;> assumption
      have f1 : ∀ r ∈ [r0, r1, r2, r3, r4], H r = none := fun r hr => by
        simp only [List.mem_cons, List.not_mem_nil, or_false] at hr
        rcases hr with rfl | rfl | rfl | rfl | rfl
        · exact m0
        · exact free s0 m1
        · exact free s1 m2
        · exact free s2 m3
        · exact free s3 m4
      have pn : H p ≠ none := by
        obtain ⟨x, y, hp⟩ := g
        rw [hp]; exact fun z => by cases z
      refine ⟨rfl, by rw [e1]; exact upd_same, fun r hr => ⟨[], ?_, Nat.le_refl _⟩, fun z => ?_, free s4 mR, f1, fun z => pn (f1 _ z), fun z => pn (z ▸ free s4 mR), by rw [e1]; exact But.of s5⟩
      · rw [e1]; exact same_new mR _ _ _ (key r hr)
      · rw [key R z] at mR; cases mR
    have g1 : Bag p c H1 := by rw [e1]; exact g.same s5
    clear k0 k1 k2 k3 k4 s0 s1 s2 s3 s4 s5 free m0 m1 m2 m3 m4 mR e1 g
    generalize [r0, r1, r2, r3, r4] = rs at RW
    refine ⟨_, rfl, N, rfl, by omega, by omega, for_range (lo := 0) (n := ((N : Int)).toNat) (fun i σ H' => ∃ (x3 x4 : Option V), σ = [some (.ref p), some (.int N), some (.ref R), x3, x4, none] ∧ RwAt H H' p R rs i ∧ Bag p c H') ?_ ?_ ?_⟩
    · exact ⟨_, _, rfl, RW, g1⟩
    · rintro i σ H2 hi ⟨x3, x4, rfl, W2, g2⟩
      have hiN : i < N := by omega
      refine ⟨_, rfl, _, rfl, p, c, _, rfl, g2, by decide, by decide, fun m H3 d0 d1 b3 g3 => ?_⟩
      have W3 := W2.but b3
      have hlt : m.toNat < rs.length := by rw [W3.l]; omega
      have hr : rs[m.toNat] ∈ rs := List.getElem_mem hlt
      refine ⟨R, _, _, .ref rs[m.toNat], rfl, rfl, SqL.of W3.hR, at_int d0 (by rw [List.getElem?_map, List.getElem?_eq_getElem hlt]; rfl), ?_⟩
      generalize rs[m.toNat] = r at hr ⊢
      refine ⟨_, rfl, p, c, _, rfl, g3, by decide, by decide, fun m2 H4 e0 e1 b4 g4 => ?_⟩
      have W4 := W3.but b4
      obtain ⟨is, hi1, hi2⟩ := W4.rw_ r hr
      have pr : p ≠ r := fun z => W4.pr (z ▸ hr)
      have lm : (is.map V.int).length = is.length := List.length_map _
      walk_at "rds"
      refine iB (fun _ => ?_) (fun _ => ?_)
      · walk_at "rds"
        refine ⟨.inl ⟨rfl, _, SqL.of hi1⟩, ?_⟩
        walk_at "rds"
        refine ⟨r, _, _, rfl, rfl, hi1, by omega, ?_⟩
        have e : is.map V.int ++ [V.int (0 + (i : Int))] = (is ++ [(0 + (i : Int))]).map V.int := by rw [List.map_append]; rfl
        rw [e]
        exact ⟨_, _, rfl, W4.put hr (by rw [List.length_append]; show _ + 1 ≤ _; omega), g4.upd pr⟩
      · walk_at "rds"
        refine ⟨.inl ⟨rfl, _, SqL.of hi1⟩, ?_⟩
        walk_at "rds"
        refine ⟨r, _, 0, _, rfl, rfl, hi1, by omega, by decide, by decide, ?_⟩
        have e : (is.map V.int).take (0 : Int).toNat ++ [V.int (0 + (i : Int))] ++ (is.map V.int).drop (0 : Int).toNat = ((0 + (i : Int)) :: is).map V.int := rfl
        rw [e]
        exact ⟨_, _, rfl, W4.put hr (by rw [List.length_cons]; omega), g4.upd pr⟩
    · rintro σ H2 ⟨x3, x4, rfl, W2, g2⟩
      have eN : ((N : Int)).toNat = N := by omega
      rw [eN] at W2
      walk_at "rds"
      refine ⟨R, _, rfl, SqL.of W2.hR, fun D0 nD0 => ?_⟩
      have ec : cutV (rs.map V.ref) (some 1) none = (rs.drop 1).map V.ref := by
        have h5 := W2.l
        match rs, h5 with
        | [a0, a1, a2, a3, a4], _ => rfl
      rw [ec]
      have s3 := same_new nD0 (.lst ((rs.drop 1).map V.ref))
      have W3 := W2.but (.of s3)
      have g3 := g2.same s3
      have hD0 : (upd H2 D0 (.lst ((rs.drop 1).map V.ref))) D0 = some (.lst ((rs.drop 1).map V.ref)) := upd_same
      have l4 : ((rs.drop 1).map V.ref).length = 4 := by rw [List.length_map, List.length_drop, W2.l]
      generalize upd H2 D0 (.lst ((rs.drop 1).map V.ref)) = H3 at *
      refine ⟨D0, rfl, ⟨_, SqL.of hD0⟩, fun D nD => ?_⟩
      refine lc_list (K := K) (a := D0) (xs := (rs.drop 1).map V.ref) (fun i H' => ∃ us gs, H' D = some (.lst us) ∧ Gps H' us gs ∧ us.length ≤ i ∧ (∀ g ∈ gs, g.length ≤ 12) ∧ Same H3 H') ?_ ?_ ?_ ?_
      · exact ⟨[], [], upd_same, .nil, Nat.le_refl _, fun g hg => (by cases hg), same_new nD _⟩
      · rintro i H' _ ⟨_, _, _, _, _, _, s4⟩
        exact SqL.of (s4 _ _ hD0)
      · rintro i v H' hx ⟨us, gs, hD, hP, hl, h12, s4⟩
        obtain ⟨r, hr, rfl⟩ : ∃ r, r ∈ rs ∧ v = .ref r := by
          obtain ⟨r, hr, rfl⟩ := List.mem_map.mp (List.mem_of_getElem? hx)
          exact ⟨r, List.mem_of_mem_drop hr, rfl⟩
        obtain ⟨is, hi1, hi2⟩ := W3.rw_ r hr
        have hi4 := s4 _ _ hi1
        have lm : (is.map V.int).length = is.length := List.length_map _
        have i4 : i < 4 := by rw [← l4]; exact (List.getElem?_eq_some_iff.mp hx).1
        refine ⟨rfl, ?_⟩
        refine ⟨_, rfl, r, _, rfl, .inl (SqL.of hi4), ?_⟩
        walk_at "rds"
        refine iB (fun _ => ?_) (fun _ => ?_)
        · refine ⟨_, rfl, r, _, rfl, .inl ⟨SqL.of hi4, fun t nt => ?_⟩⟩
          have st := same_new nt (.tup (is.map V.int))
          have tD : D ≠ t := ne_of_none hD nt
          refine ⟨us, st _ _ hD, by omega, us ++ [.ref t], gs ++ [is], upd_same, ?_, by rw [List.length_append]; show _ + 1 ≤ _; omega, fun g hg => ?_, fun c o hc => ?_⟩
          · refine Gps.snoc (by rw [upd_ne tD.symm]; exact upd_same) (hP.mono fun c zs hc => ?_)
            rw [upd_ne (fun z => by rw [z, hD] at hc; cases hc)]
            exact st _ _ hc
          · rcases List.mem_append.mp hg with hg | hg
            · exact h12 g hg
            · rw [List.mem_singleton.mp hg]; omega
          · rw [upd_ne (ne_of_none hc nD)]
            exact st _ _ (s4 _ _ hc)
        · exact ⟨us, gs, hD, hP, by omega, h12, s4⟩
      · rintro H4 ⟨us, gs, hD, hP, hl, h12, s4⟩
        rw [l4] at hl
        have lg := hP.length
        have b4 : But p H H4 := W3.b.trans (.of s4)
        have g4 := g3.same s4
        have nD0' : D ≠ p := fun z => by
          obtain ⟨x, y, hp⟩ := g3
          rw [z, hp] at nD; cases nD
        have fD : H D = none := But.free W3.b nD nD0'
        refine ⟨_, rfl, p, c, _, rfl, g4, by decide, by decide, fun m5 H5 e0 e1 b5 g5 => ?_⟩
        have hD5 := b5 _ _ hD nD0'
        have hP5 : Gps H5 us gs := hP.mono fun c zs hc => b5 _ _ hc fun z => g4.notup _ (z ▸ hc)
        have b5' := b4.trans b5
        have fin : ∀ (vs : List V) (hs' : List (List Int)) (H6 : Hp) , Gps H6 vs hs' → vs.length ≤ 4 → (∀ g ∈ hs', g.length ≤ 12) → H6 D = some (.lst vs) → But p H H6 → Bag p c H6 → ∀ t, H6 t = none → Q (.ref t) (upd H6 t (.tup vs)) := fun vs hs' H6 hP6 l6 h6 hD6 b6 g6 t nt => by
          refine q _ hs' _ (.tup upd_same (g6.ne nt).symm (by omega) ((hP6.mono (TupK.of (same_new nt _))).rps (g6.new nt).notup fun g hg => Nat.le_trans (h6 g hg) (by decide))) (by rw [← hP6.length]; omega) h6 (b6.new nt) (g6.new nt)
        walk_at "rds"
        refine iB (fun _ => ?_) (fun _ => ?_)
        · walk_at "rds"
          refine ⟨.inl ⟨rfl, _, SqL.of hD5⟩, ?_⟩
          walk_at "rds"
          refine ⟨D, _, rfl, rfl, hD5, ?_⟩
          walk_at "rds"
          refine ⟨D, _, rfl, .inl ⟨SqL.of upd_same, fun t nt => ?_⟩⟩
          refine fin _ gs.reverse _ ?_ (by rw [List.length_reverse]; exact hl) (fun g hg => h12 g (List.mem_reverse.mp hg)) upd_same (b5'.later fD) (g5.upd nD0'.symm) t nt
          refine (hP5.mono fun c zs hc => ?_).reverse
          rw [upd_ne (fun z => by rw [z, hD5] at hc; cases hc)]
          exact hc
        · walk_at "rds"
          refine ⟨D, _, rfl, .inl ⟨SqL.of hD5, fun t nt => ?_⟩⟩
          exact fin us gs H5 hP5 hl h12 hD5 b5' g5 t nt
end
end Mus

set_option maxRecDepth 100000
set_option maxHeartbeats 4000000
namespace Mus
open PySem L2
local macro_rules | `(tactic| walk_at "rd") => `(tactic| first
  | refine ⟨_, rfl, ?_⟩ | refine ⟨(True.intro : True), ?_⟩
  | refine ⟨_, _, rfl, rfl, (⟨by decide, by decide, by decide⟩ : CPow _ _), ?_⟩
  | refine ⟨_, _, rfl, rfl, (⟨by decide, by decide⟩ : CDiv _ _), ?_⟩
  | refine ⟨_, _, rfl, rfl, (by show (0 : Int) < _; decide), ?_⟩
  | refine ⟨_, _, rfl, rfl, ?_⟩ | refine ⟨rfl, ?_⟩ | refine iteT ?_ | refine iteF ?_ | refine ⟨_, _, rfl, ?_⟩ | refine .inl ⟨_, rfl, ?_⟩
  | refine ⟨_, _, _, _, _, rfl, (by assumption), (by assumption), (by assumption), rfl, ?_⟩ | refine ⟨_, _, _, _, rfl, rfl, SqT.of (by assumption), rfl, ?_⟩ | refine ⟨_, _, rfl, SqT.of (by assumption), rfl, ?_⟩
  | refine ⟨_, _, _, _, _, rfl, .ty _, Rp.ty (by assumption), kit_int _, ?_⟩ | refine ⟨_, _, _, _, _, rfl, .ty _, Rp.ty (by assumption), kit_bool _, ?_⟩
  | refine ⟨_, _, _, _, _, rfl, .ty _, Rp.ty (by assumption), kit_str _, ?_⟩ | refine ⟨_, _, _, _, _, rfl, .ty _, Rp.ty (by assumption), kit_tup _, ?_⟩)
local macro_rules | `(tactic| walk_at "cal") => `(tactic| first
  | refine ⟨_, _, _, _, _, rfl, (by assumption), ?_⟩ | refine ⟨_, _, _, _, _, rfl, (by assumption), (by assumption), ?_⟩)
local macro_rules | `(tactic| walk_at "sq") => `(tactic| first
  | refine ⟨_, _, rfl, Or.inr (SqT.of (by assumption)), ?_⟩ | refine ⟨_, _, _, _, rfl, rfl, SqT.of (by assumption), rfl, ?_⟩)
local macro_rules | `(tactic| walk_at "rds") => `(tactic| repeat first | walk_at "rd" | walk_at "cal" | walk_at "sq")
local macro_rules | `(tactic| walk_at "ze") => `(tactic| repeat first
  | exact zes_nil | exact ze_bl | exact ze_str | exact ze_non | apply zes_cons | apply ze_tup | apply ze_lst | apply ze_cat | exact di_c | exact di_v rfl | apply di_opC | apply di_op | apply di_neg | apply ze_i | (refine (⟨?_, ?_, ?_⟩ : CPow _ _) <;> decide) | exact Nat.le_of_ble_eq_true rfl | exact ze_varD rfl (by assumption))
local macro_rules | `(tactic| walk_at "rdz") => `(tactic| repeat (fail_if_success (first | show tLst _ _ _ _ | show tAsg (tLst _) _ _ _ _ | show tSeq (tAsg (tLst _) _) _ _ _ _)); first | walk_at "rd" | walk_at "cal" | walk_at "sq")
theorem msets_snoc (g : List Int) : ∀ (gs : List (List Int)) (k : Int) (ms : List Int), msets k (gs ++ [g]) ms = mset (k + gs.length) g (msets k gs ms)
  | [], k, ms => by
    show mset k g ms = _
    show _ = mset (k + ((0 : Nat) : Int)) g ms
    rw [show k + ((0 : Nat) : Int) = k by omega]
  | a :: gs, k, ms => by
    show msets (k + 1) (gs ++ [g]) (mset k a ms) = mset (k + ((gs.length + 1 : Nat) : Int)) g (msets (k + 1) gs (mset k a ms))
    rw [msets_snoc g gs, show k + 1 + (gs.length : Int) = k + ((gs.length + 1 : Nat) : Int) by omega]
theorem mset_snoc (k x : Int) (g ms : List Int) : mset k (g ++ [x]) ms = (mset k g ms).set x.toNat k := by
  unfold mset
  rw [List.foldl_append]; rfl
theorem ixN_at {n : Nat} {i : Int} (h0 : 0 ≤ i) (h1 : i < n) : ixN n i = some i.toNat := by
  unfold ixN
  rw [if_pos h0, if_pos h1]
theorem at_marks {ms : List Int} {p : Int} (h0 : 0 ≤ p) (h1 : p < ms.length) : atI (ms.map V.int) p = some (.int (at0 ms p)) := by
  have hi : p.toNat < ms.length := by omega
  refine at_int h0 ?_
  rw [List.getElem?_map, List.getElem?_eq_getElem hi]
  unfold at0
  rw [List.getElem?_eq_getElem hi]; rfl
section
variable {P : Program} {w : World} {K : PySem.W.Frag} {mg : Str → Option Value} {base : Heap} {CN CB : Addr}
def sp_marks : Sp := fun vs H Q _ => ∃ (a : Addr) (N : Nat) (xs : List V) (gs : List (List Int)), vs = [.int N, .ref a] ∧ H a = some (.tup xs) ∧ Gps H xs gs ∧ Grs N gs ∧ 1 ≤ N ∧ N ≤ 12 ∧ ∀ m H', H m = none → Same H H' → H' m = some (.lst ((mksOf N gs).map V.int)) → Q (.ref m) H'
abbrev s__law_marks : Stmt := top 20
abbrev N__law_marks : List Str := ["count", "groups", "marks", "k", "process"]
abbrev P__law_marks : List Str := ["count", "groups"]
theorem sc__law_marks : FnScope N__law_marks P__law_marks (defScope s__law_marks) := ⟨rfl, rfl, rfl, by decide +kernel, rfl, by decide +kernel, by decide +kernel⟩
theorem ok__law_marks {f : Addr} {fd : FuncData} (T : Tx K mg CN CB) (F : Fun K "_law_marks" "_law_marks" s__law_marks f fd) : FnOk P w K mg base CX0 (1) f fd P__law_marks (sp_marks) := by
  have nd := sc__law_marks.nd
  refine F.ok sc__law_marks (fun vs H Q E h => ?_) (fun cdv A outer s H vs Q E hr h => ?_)
  · obtain ⟨_, _, _, _, rfl, _⟩ := h
    rfl
  · obtain ⟨a, N, xs, gs, rfl, ha, hg, G, n1, n2, q⟩ := h
    have hs := sl
    refine ⟨_, (pss_cons (ps_setLcX (i := 2) (own := [("k", 3)]) rfl nd rfl rfl (sw_true rfl rfl rfl (by decide +kernel)) (pi_range1 (by rfl) T.b_range (pa_cons (pv 0) pa_nil)) (blkOk_by (own := [("k", 3)]) (N := N__law_marks) (sc := defScope s__law_marks) (by decide +kernel)) (fun _ _ _ _ _ => (pg_name (i := 3) nd rfl (Or.inl rfl))) (fun _ _ _ _ _ => pts_nil) (fun _ _ _ _ _ => (pe_un un_neg pe_int)))
      (pss_cons (ps_for PassesOwn.never rfl (pi_range1 (by rfl) T.b_range (pa_cons (pe_callB call_len_seq (by rfl) T.b_len (by decide +kernel) (pa_cons (pv 1) pa_nil)) pa_nil)) (pg_name (i := 3) nd rfl (Or.inl rfl))
        (pss_one (ps_for PassesOwn.never rfl (pi_tup (pe_ix ix_tup (pv 1) (pv 3) (fun _ _ => rfl))) (pg_name (i := 4) nd rfl (Or.inl rfl))
          (pss_one (ps_asg (pv 3) (pg_sub (pv 2) (pv 4) set_list))))))
      (pss_one (ps_ret (pv 2))))), ?_⟩
    refine ⟨_, rfl, N, rfl, by omega, by omega, fun D nD => lc_range (fun i H' => H' = upd H D (.lst ((List.replicate i (-1 : Int)).map V.int))) ?_ ?_ ?_⟩
    · rfl
    · rintro i _ hi rfl
      refine ⟨rfl, ?_⟩
      simp only [tYes, if_true]
      refine ⟨1, rfl, ?_⟩
      have l1 : ((List.replicate i (-1 : Int)).map V.int).length = i := by rw [List.length_map, List.length_replicate]
      refine ⟨_, upd_same, by omega, ?_⟩
      rw [upd_upd, List.replicate_succ', List.map_append]; rfl
    · rintro _ rfl
      have eN : ((N : Int)).toNat = N := by omega
      rw [eN]
      have s1 := same_new nD (.lst ((List.replicate N (-1 : Int)).map V.int))
      have hD1 : (upd H D (.lst ((List.replicate N (-1 : Int)).map V.int))) D = some (.lst ((List.replicate N (-1 : Int)).map V.int)) := upd_same
      generalize upd H D (.lst ((List.replicate N (-1 : Int)).map V.int)) = H1 at *
      have ha1 := s1 _ _ ha
      have lx := hg.length
      have lgs : gs.length ≤ 12 := by
        have : ∀ (l : List (List Int)), (∀ g ∈ l, g ≠ []) → l.length ≤ l.flatten.length := by
          intro l
          induction l with
          | nil => intro _; exact Nat.zero_le _
          | cons a l ih =>
            intro h
            have := ih fun g hg => h g (List.mem_cons_of_mem _ hg)
            have := List.length_pos_iff.mpr (h a List.mem_cons_self)
            rw [List.flatten_cons, List.length_append, List.length_cons]
            omega
        have := this gs G.ne
        have := nodup_lt G.nd G.lt
        omega
      refine ⟨_, rfl, a, xs, rfl, .inr (SqT.of ha1), ?_⟩
      refine ⟨xs.length, rfl, by omega, by omega, for_range (lo := 0) (n := ((xs.length : Nat) : Int).toNat) (fun i σ H' => ∃ (x3 x4 : Option V), σ = [some (.int N), some (.ref a), some (.ref D), x3, x4] ∧ Same H H' ∧ H' D = some (.lst ((msets 0 (gs.take i) (List.replicate N (-1))).map V.int))) ?_ ?_ ?_⟩
      · exact ⟨_, _, rfl, s1, hD1⟩
      · rintro i σ H2 hi ⟨x3, x4, rfl, s2, hD2⟩
        have hix : i < xs.length := by omega
        have hi0 : (0 : Int) + (i : Int) = i := Int.zero_add _
        rw [hi0]
        obtain ⟨b, g, e1, hgi, hb⟩ := hg.at (List.getElem?_eq_getElem hix)
        have hb2 := s2 _ _ hb
        refine ⟨_, rfl, _, rfl, a, _, _, .ref b, rfl, rfl, SqT.of (s2 _ _ ha), atI_nat (by rw [List.getElem?_eq_getElem hix, e1]), ?_⟩
        have gl : ∀ x ∈ g, 0 ≤ x ∧ x < N := fun x hx => G.lt x (List.mem_flatten.mpr ⟨g, List.mem_of_getElem? hgi, hx⟩)
        have lm : ∀ g' : List Int, (mset (i : Int) g' (msets 0 (gs.take i) (List.replicate N (-1)))).length = N := fun g' => by rw [mset_len, msets_len, List.length_replicate]
        refine ⟨b, rfl, ⟨_, SqT.of hb2⟩, for_tup (K := K) (a := b) (xs := g.map V.int) (fun j σ H' => ∃ (x4 : Option V), σ = [some (.int N), some (.ref a), some (.ref D), some (.int i), x4] ∧ Same H H' ∧ H' D = some (.lst ((mset i (g.take j) (msets 0 (gs.take i) (List.replicate N (-1)))).map V.int))) ?_ ?_ ?_ ?_⟩
        · exact ⟨_, rfl, s2, by rw [List.take_zero]; exact hD2⟩
        · rintro j σ H' _ ⟨_, rfl, s3, _⟩
          exact SqT.of (s3 _ _ hb)
        · rintro j v σ H3 hx ⟨x4, rfl, s3, hD3⟩
          rw [List.getElem?_map] at hx
          cases hj : g[j]? with
          | none => rw [hj] at hx; cases hx
          | some x =>
            rw [hj] at hx
            cases hx
            have hxl := gl x (List.mem_of_getElem? hj)
            refine ⟨_, rfl, _, rfl, _, rfl, D, _, _, _, rfl, rfl, hD3, ixN_at hxl.1 (by rw [List.length_map, lm]; exact hxl.2), ?_⟩
            have et : g.take (j + 1) = g.take j ++ [x] := by rw [List.take_add_one, hj]; rfl
            refine ⟨_, rfl, fun c o hc => by rw [upd_ne (ne_of_none hc nD)]; exact s3 _ _ hc, ?_⟩
            rw [upd_same, et, mset_snoc, List.map_set]
        · rintro σ H3 ⟨x4, rfl, s3, hD3⟩
          refine ⟨_, _, rfl, s3, ?_⟩
          have et : gs.take (i + 1) = gs.take i ++ [g] := by rw [List.take_add_one, hgi]; rfl
          have lt : (gs.take i).length = i := by rw [List.length_take]; omega
          rw [et, msets_snoc, lt, Int.zero_add, hD3]
          rw [List.length_map, List.take_length]
      · rintro σ H2 ⟨x3, x4, rfl, s2, hD2⟩
        have ex : ((xs.length : Nat) : Int).toNat = gs.length := by omega
        rw [ex, List.take_length] at hD2
        exact ⟨_, rfl, q D H2 nD s2 hD2⟩
def sp_told (CN : Addr) : Sp := fun vs H Q _ => ∃ (p lp q0 : Addr) (v : V) (d : PyData) (N : Nat) (ws : List V) (L : List (List Int)), vs = [.ref p, v] ∧ NAt CN H p lp N ws L ∧ Rp q0 H v d ∧ 1 ≤ N ∧ N ≤ 12 ∧
  (isGr (.int N) d = false → ∀ t H', Same H H' → H' t = some (.tup [.int 0, .str "groups"]) → Q (.ref t) H') ∧
  ∀ gs, isGr (.int N) d = true → d = .tuple (gs.map eI) → Grs N gs → ∀ H', NAt CN H' p lp N ws (dueG (at0 (mksOf N gs)) N) → Fr [p] [p] H H' → Q .non H'
abbrev s__law_told : Stmt := top 22
abbrev N__law_told : List Str := ["net", "groups", "e"]
abbrev P__law_told : List Str := ["net", "groups"]
theorem sc__law_told : FnScope N__law_told P__law_told (defScope s__law_told) := ⟨rfl, rfl, rfl, by decide +kernel, rfl, by decide +kernel, by decide +kernel⟩
theorem ok__law_told {f : Addr} {fd : FuncData} (T : Tx K mg CN CB) (m_Net_part : MethOk P w K mg base (L2.CX P w) CN "part" P_Net_part 4 (sp_part CN CB)) (F : Fun K "_law_told" "_law_told" s__law_told f fd) : FnOk P w K mg base CX0 5 f fd P__law_told (sp_told CN) := by
  have nd := sc__law_told.nd
  refine F.ok sc__law_told (fun vs H Q E h => ?_) (fun cdv A outer s H vs Q E hr h => ?_)
  · obtain ⟨_, _, _, _, _, _, _, _, rfl, _⟩ := h
    rfl
  · obtain ⟨p, lp, q0, v, d, N, ws, L, rfl, hn, hd, n1, n2, q1, q2⟩ := h
    have hs := sl
    have c1 := T.cl_Net
    obtain ⟨⟨dx, g, h1, _⟩, h2⟩ := id hn
    refine ⟨_, (pss_one (ps_tryAs (i := 2) rfl rfl nd rfl rfl ⟨rfl, by decide, .inl T.g_BadSchedule⟩ takes0 (fun W pn xe tk _ => (pss_one (ps_ret (pmethA m_Net_part T.cl_Net tk (pv 0) hr (pa_cons (pv 1) pa_nil)))))
        (fun a oe cls d pn hz hf => (pss_one (ps_ret (pe_tup (pa_cons (pe_xf T.f_BadSchedule T.n_line hz hf (pv 2)) (pa_cons (pe_xf T.f_BadSchedule T.n_reason hz hf (pv 2)) pa_nil)))))))), ?_⟩
    walk_at "rds"
    refine ⟨p, dx, _, rfl, h1, rfl, _, rfl, p, lp, q0, v, d, N, ws, L, rfl, hn, hd, n1, n2, fun ho e H' s1 he => ?_, fun gs hi e G H' hn' k => q2 gs hi e G H' hn' k⟩
    refine ⟨true, T.m_BB, fun _ a na => ?_, fun h => by cases h⟩
    walk_at "rds"
    refine ⟨e, _, .int 0, rfl, he, rfl, ?_⟩
    walk_at "rds"
    refine ⟨e, _, .str "groups", rfl, he, rfl, ?_⟩
    exact ⟨by show 2 ≤ sizeLine; omega, fun t nt => q1 ho t _ (s1.trans (same_new nt _)) upd_same⟩
def sp_lright (CN cP : Addr) : Sp := fun vs H Q _ => ∃ (p lp m : Addr) (N : Nat) (ws : List V) (ms : List Int), vs = [.ref p, .int N, .ref m] ∧ NAt CN H p lp N ws (dueG (at0 ms) N) ∧ H m = some (.lst (ms.map V.int)) ∧ ms.length = N ∧ 1 ≤ N ∧ N ≤ 12 ∧ GxR.TabG H cP ∧
  ∀ H', But cP H H' → GxR.TabG H' cP → Q (.bl true) H'
theorem but_tabbed {P : Addr} {H H' : Hp} (t : GxR.Tabbed P H H') : But P H H' := fun b o h n => by rw [t.2 b n]; exact h
theorem NAt.but {CN cP : Addr} {H H' : Hp} {p lp : Addr} {N : Nat} {vs : List V} {L : List (List Int)} (h : NAt CN H p lp N vs L) (t : GxR.TabG H cP) (b : But cP H H') : NAt CN H' p lp N vs L := by
  obtain ⟨ps, ht, _⟩ := t
  have ne : ∀ {a : Addr} {o : HO}, H a = some o → (∀ q, o ≠ .tbl q) → a ≠ cP := fun {a o} ha hq z => by
    rw [z, ht] at ha
    exact hq ps (Option.some.inj ha).symm
  obtain ⟨⟨dx, g, h1, h3⟩, h2⟩ := h
  exact ⟨⟨dx, g, b _ _ h1 (ne h1 fun q z => by cases z), h3.mono fun c xs hc => b _ _ hc (ne hc fun q z => by cases z)⟩, b _ _ h2 (ne h2 fun q z => by cases z)⟩
theorem tab_ne {cP a : Addr} {H : Hp} {o : HO} (t : GxR.TabG H cP) (ha : H a = some o) (hq : ∀ q, o ≠ .tbl q) : a ≠ cP := fun z => by
  obtain ⟨ps, ht, _⟩ := t
  rw [z, ht] at ha
  exact hq ps (Option.some.inj ha).symm
abbrev s__law_right : Stmt := top 21
abbrev N__law_right : List Str := ["net", "count", "marks", "one", "other", "told", "due", "process", "group", "actual"]
abbrev P__law_right : List Str := ["net", "count", "marks"]
theorem sc__law_right : FnScope N__law_right P__law_right (defScope s__law_right) := ⟨rfl, rfl, rfl, by decide +kernel, rfl, by decide +kernel, by decide +kernel⟩
theorem ok__law_right {f cP : Addr} {fd : FuncData} (T : Tx K mg CN CB) (m_Net_joined : MethOk P w K mg base CX0 CN "joined" P_Net_joined 2 (sp_joined CN cP)) (m_Net_groups : MethOk P w K mg base CX0 CN "groups" P_Net_groups 1 (sp_groups CN)) (F : Fun K "_law_right" "_law_right" s__law_right f fd) : FnOk P w K mg base CX0 3 f fd P__law_right (sp_lright CN cP) := by
  have nd := sc__law_right.nd
  refine F.ok sc__law_right (fun vs H Q E h => ?_) (fun cdv A outer s H vs Q E hr h => ?_)
  · obtain ⟨_, _, _, _, _, _, rfl, _⟩ := h
    rfl
  · obtain ⟨p, lp, m, N, ws, ms, rfl, hn, hm, lms, n1, n2, ht, q⟩ := h
    have hs := sl
    have hu := hu_of hr
    have c1 := T.cl_Net
    have eN : ((N : Int)).toNat = N := by omega
    refine ⟨_, (pss_cons (ps_for PassesOwn.never rfl (pi_range1 (by rfl) T.b_range (pa_cons (pv 1) pa_nil)) (pg_name (i := 3) nd rfl (Or.inl rfl))
        (pss_one (ps_for PassesOwn.never rfl (pi_range1 (by rfl) T.b_range (pa_cons (pv 1) pa_nil)) (pg_name (i := 4) nd rfl (Or.inl rfl))
          (pss_cons (ps_set (i := 5) nd rfl (Or.inl rfl) (pmeth m_Net_joined T.cl_Net (pv 0) hr (pa_cons (pv 3) (pa_cons (pv 4) pa_nil))))
          (pss_one (ps_if (PW.pt (pw_or (pt_not (pt_val (pe_callB call_isi (by rfl) T.b_isinstance (by decide +kernel) (pa_cons (pv 5) (pa_cons (pe_ty "bool" T.b_bool) pa_nil))))) (pw_or1 (pt_cmpR op_ne (pv 5) (pe_cmpR op_eq (pe_ix ix_list (pv 2) (pv 3) (fun _ _ => rfl)) (pe_ix ix_list (pv 2) (pv 4) (fun _ _ => rfl)) (nomark _)) (nomark _)))))
            (pss_one (ps_ret pe_bl))
            pss_nil))))))
      (pss_cons (ps_set (i := 6) nd rfl (Or.inl rfl) (pe_lst pa_nil))
      (pss_cons (ps_for PassesOwn.never rfl (pi_range1 (by rfl) T.b_range (pa_cons (pv 1) pa_nil)) (pg_name (i := 7) nd rfl (Or.inr rfl))
        (pss_cons (ps_set (i := 8) nd rfl (Or.inl rfl) (pe_callTy call_tuple_of (by rfl) T.b_tuple (by decide +kernel) (pa_cons (pe_lcX (own := [("other", 4)]) rfl nd (pi_range1 (by rfl) T.b_range (pa_cons (pv 1) pa_nil)) (blkOk_by (own := [("other", 4)]) (N := N__law_right) (sc := defScope s__law_right) (by decide +kernel)) (fun _ _ _ _ _ => (pg_name (i := 4) nd rfl (Or.inl rfl))) (fun _ _ _ _ _ => (pts_one (pt_cmpR op_eq (pe_ix ix_list (pv 2) (pv 4) (fun _ _ => rfl)) (pe_ix ix_list (pv 2) (pv 7) (fun _ _ => rfl)) (nomark _)))) (fun _ _ _ _ _ => (pv 4))) pa_nil)))
        (pss_one (ps_if (pt_cmpR op_eq (pe_ix ix_tup (pv 8) pe_int (fun _ _ => rfl)) (pv 7) (nomark _))
          (pss_one (ps_expr (pe_bm PySem.F.plainAttrs_list PySem.F.slot_list_append PySem.F.type_list_append mt_append (pv 6) (pa_cons (pv 8) pa_nil))))
          pss_nil))))
      (pss_cons (ps_set (i := 9) nd rfl (Or.inl rfl) (pmeth0 m_Net_groups T.cl_Net (pv 0) hr))
      (pss_cons (ps_if (PW.pt (pw_or (pt_not (pt_val (pe_callB call_isi (by rfl) T.b_isinstance (by decide +kernel) (pa_cons (pv 9) (pa_cons (pe_ty "tuple" T.b_tuple) pa_nil))))) (pw_or1 (pt_cmpR (op_neD hr.units) (pv 9) (pe_callTy call_tuple_of (by rfl) T.b_tuple (by decide +kernel) (pa_cons (pv 6) pa_nil)) (nomark _)))))
        (pss_one (ps_ret pe_bl))
        pss_nil)
      (pss_one (ps_ret (pe_callB (cr_all rfl) (by rfl) T.b_all (by decide +kernel) (pa_cons (pe_lcX (own := [("group", 8)]) rfl nd (pi_tup (pv 9)) (blkOk_by (own := [("group", 8)]) (N := N__law_right) (sc := defScope s__law_right) (by decide +kernel)) (fun _ _ _ _ _ => (pg_name (i := 8) nd rfl (Or.inl rfl))) (fun _ _ _ _ _ => pts_nil) (fun _ _ _ _ _ => (pe_callB call_isi (by rfl) T.b_isinstance (by decide +kernel) (pa_cons (pv 8) (pa_cons (pe_ty "tuple" T.b_tuple) pa_nil))))) pa_nil))))))))), ?_⟩
    refine ⟨_, rfl, N, rfl, by omega, by omega, for_range (lo := 0) (n := ((N : Int)).toNat) (fun i σ H' => ∃ (x3 x4 x5 : Option V), σ = [some (.ref p), some (.int N), some (.ref m), x3, x4, x5, none, none, none, none] ∧ But cP H H' ∧ GxR.TabG H' cP) ?_ ?_ ?_⟩
    · exact ⟨_, _, _, rfl, But.refl _ _, ht⟩
    · rintro i σ H1 hi ⟨x3, x4, x5, rfl, b1, t1⟩
      rw [Int.zero_add]
      refine ⟨_, rfl, N, rfl, by omega, by omega, for_range (lo := 0) (n := ((N : Int)).toNat) (fun j σ H' => ∃ (x4 x5 : Option V), σ = [some (.ref p), some (.int N), some (.ref m), some (.int i), x4, x5, none, none, none, none] ∧ But cP H H' ∧ GxR.TabG H' cP) ?_ ?_ ?_⟩
      · exact ⟨_, _, rfl, b1, t1⟩
      · rintro j σ H2 hj ⟨x4, x5, rfl, b2, t2⟩
        rw [Int.zero_add]
        have hn2 := hn.but ht b2
        obtain ⟨⟨dx, g, h1, h3⟩, h2⟩ := id hn2
        refine ⟨_, rfl, p, dx, _, rfl, h1, rfl, _, rfl, _, rfl, p, lp, N, ws, dueG (at0 ms) N, (i : Int), (j : Int), rfl, hn2, t2, fun H3 t3 => ?_⟩
        have b3 := b2.trans (but_tabbed t3)
        have ej : inG (dueG (at0 ms) N) (i : Int) (j : Int) = decide (at0 ms i = at0 ms j) := joined_due ⟨by omega, by omega⟩ ⟨by omega, by omega⟩
        rw [ej]
        have hm3 := b3 _ _ hm (tab_ne ht hm fun q z => by cases z)
        walk_at "rds"
        refine ⟨_, _, _, _, true, rfl, .ty _, .base (.bl _), kit_ty (by decide +kernel), ?_⟩
        walk_at "rds"
        refine ⟨m, _, _, _, rfl, rfl, SqL.of hm3, at_marks (by omega) (by omega), ?_⟩
        walk_at "rds"
        refine ⟨m, _, _, _, rfl, rfl, SqL.of hm3, at_marks (by omega) (by omega), ?_⟩
        refine ⟨rfl, ?_⟩
        refine ⟨rfl, _, rfl, nF (congrArg V.bl (decide_eq_decide.mpr ⟨fun h => by rw [h], fun h => V.int.inj h⟩)) ?_⟩
        exact ⟨_, _, rfl, b3, t3.1⟩
      · rintro σ H2 ⟨x4, x5, rfl, b2, t2⟩
        exact ⟨_, _, _, rfl, b2, t2⟩
    · rintro σ H1 ⟨x3, x4, x5, rfl, b1, t1⟩
      refine ⟨by show 0 ≤ sizeLine; omega, fun D nD => ?_⟩
      have b1' : But cP H (upd H1 D (.lst [])) := b1.trans (.of (same_new nD _))
      have t1' : GxR.TabG (upd H1 D (.lst [])) cP := by
        obtain ⟨ps, e, tr⟩ := t1
        exact ⟨ps, same_new nD _ _ _ e, tr⟩
      have fD : H D = none := But.free b1 nD (tab_ne t1' upd_same fun q z => by cases z)
      refine ⟨_, rfl, N, rfl, by omega, by omega, for_range (lo := 0) (n := ((N : Int)).toNat) (fun i σ H' => ∃ (x7 x8 x4 : Option V) (us : List V), σ = [some (.ref p), some (.int N), some (.ref m), x3, x4, x5, some (.ref D), x7, x8, none] ∧ But cP H H' ∧ GxR.TabG H' cP ∧ H' D = some (.lst us) ∧ Gps H' us (((upI N).take i).filterMap (dueOne (at0 ms) N)) ∧ us.length ≤ i) ?_ ?_ ?_⟩
      · exact ⟨_, _, _, [], rfl, b1', t1', upd_same, by rw [List.take_zero]; exact .nil, Nat.le_refl _⟩
      · rintro i σ H2 hi ⟨x7, x8, x4, us, rfl, b2, t2, hD, hP, hl⟩
        rw [Int.zero_add]
        have iN : i < N := by omega
        have hm2 := b2 _ _ hm (tab_ne ht hm fun q z => by cases z)
        have mD : m ≠ D := ne_of_none hm fD
        refine ⟨_, rfl, N, rfl, by omega, by omega, fun D2 nD2 => lc_range (lo := 0) (fun j H' => H' = upd H2 D2 (.lst ((((upI N).take j).filter fun r => decide (at0 ms r = at0 ms i)).map V.int))) ?_ ?_ ?_⟩
        · rfl
        · rintro j _ hj rfl
          have jN : j < N := by omega
          have mD2 : m ≠ D2 := ne_of_none hm2 nD2
          have hm3 : ∀ o, (upd H2 D2 o) m = some (.lst (ms.map V.int)) := fun o => by rw [upd_ne mD2]; exact hm2
          rw [Int.zero_add]
          refine ⟨rfl, ?_⟩
          refine ⟨_, rfl, _, rfl, m, _, _, _, rfl, rfl, SqL.of (hm3 _), at_marks (by omega) (by omega), ?_⟩
          refine ⟨_, rfl, _, rfl, m, _, _, _, rfl, rfl, SqL.of (hm3 _), at_marks (by omega) (by omega), ?_⟩
          have ej : (upI N)[j]? = some (j : Int) := by
            unfold upI
            rw [List.getElem?_map, List.getElem?_range jN]; rfl
          have et : (upI N).take (j + 1) = (upI N).take j ++ [(j : Int)] := by rw [List.take_add_one, ej]; rfl
          have lf : (((upI N).take j).filter fun r => decide (at0 ms r = at0 ms i)).length ≤ N := by
            have := List.length_filter_le (fun r => decide (at0 ms r = at0 ms i)) ((upI N).take j)
            have := List.length_take_le' j (upI N)
            rw [upI_len] at this
            omega
          refine ⟨rfl, _, rfl, ?_⟩
          by_cases hb : at0 ms j = at0 ms i
          · refine dT (by rw [hb]) ?_
            refine ⟨_, rfl, _, upd_same, by rw [List.length_map]; omega, ?_⟩
            rw [upd_upd, et, List.filter_append, List.map_append]
            rw [List.filter_cons_of_pos (p := fun r => decide (at0 ms r = at0 ms i)) (decide_eq_true hb)]; rfl
          · refine dF (fun z => hb (V.int.inj z)) ?_
            show upd H2 D2 _ = _
            rw [et, List.filter_append, List.filter_cons_of_neg (p := fun r => decide (at0 ms r = at0 ms i)) (by rw [decide_eq_false hb]; exact Bool.false_ne_true), List.filter_nil, List.append_nil]
        · rintro _ rfl
          have eN3 : (upI N).take ((N : Int)).toNat = upI N := by rw [eN]; exact List.take_of_length_le (by rw [upI_len]; exact Nat.le_refl _)
          rw [eN3]
          have ecl : (upI N).filter (fun r => decide (at0 ms r = at0 ms i)) = cls (at0 ms) N (at0 ms i) := rfl
          rw [ecl]
          obtain ⟨c0, cr, ec⟩ : ∃ c0 cr, cls (at0 ms) N (at0 ms i) = c0 :: cr := by
            cases e : cls (at0 ms) N (at0 ms i) with
            | nil =>
              have : (i : Int) ∈ cls (at0 ms) N (at0 ms i) := mem_cls.mpr ⟨by omega, rfl⟩
              rw [e] at this; cases this
            | cons c0 cr => exact ⟨_, _, rfl⟩
          have lcl : (cls (at0 ms) N (at0 ms i)).length ≤ N := by
            have := List.length_filter_le (fun r => decide (at0 ms r = at0 ms i)) (upI N)
            rw [upI_len] at this
            exact this
          have s3 := same_new nD2 (.lst ((cls (at0 ms) N (at0 ms i)).map V.int))
          have hD3 : (upd H2 D2 (.lst ((cls (at0 ms) N (at0 ms i)).map V.int))) D2 = some (.lst ((cls (at0 ms) N (at0 ms i)).map V.int)) := upd_same
          generalize upd H2 D2 (.lst ((cls (at0 ms) N (at0 ms i)).map V.int)) = H3 at *
          refine ⟨D2, _, rfl, .inl ⟨SqL.of hD3, fun t nt => ?_⟩⟩
          have st := same_new nt (.tup ((cls (at0 ms) N (at0 ms i)).map V.int))
          have htt : (upd H3 t (.tup ((cls (at0 ms) N (at0 ms i)).map V.int))) t = some (.tup ((cls (at0 ms) N (at0 ms i)).map V.int)) := upd_same
          have s34 := s3.trans st
          have b4 := b2.trans (.of s34)
          have t4 : GxR.TabG (upd H3 t (.tup ((cls (at0 ms) N (at0 ms i)).map V.int))) cP := by
            obtain ⟨ps, e, tr⟩ := t2
            exact ⟨ps, s34 _ _ e, tr⟩
          have hD4 := s34 _ _ hD
          have hP4 := hP.mono (TupK.of s34)
          generalize upd H3 t (.tup ((cls (at0 ms) N (at0 ms i)).map V.int)) = H4 at *
          have ei : (upI N)[i]? = some (i : Int) := by
            unfold upI
            rw [List.getElem?_map, List.getElem?_range iN]; rfl
          have et : (upI N).take (i + 1) = (upI N).take i ++ [(i : Int)] := by rw [List.take_add_one, ei]; rfl
          walk_at "rds"
          refine ⟨t, _, 0, .int c0, rfl, rfl, SqT.of htt, by rw [ec]; exact at_int (Int.le_refl 0) rfl, ?_⟩
          refine ⟨_, rfl, rfl, _, rfl, ?_⟩
          have hone : dueOne (at0 ms) N i = if c0 = (i : Int) then some (cls (at0 ms) N (at0 ms i)) else none := by
            unfold dueOne
            rw [ec]
            simp
          by_cases hb : c0 = (i : Int)
          · refine dT (by rw [hb]) ?_
            walk_at "rds"
            refine ⟨.inl ⟨rfl, _, SqL.of hD4⟩, ?_⟩
            walk_at "rds"
            refine ⟨D, _, _, rfl, rfl, hD4, by omega, ?_⟩
            refine ⟨_, _, _, us ++ [.ref t], rfl, b4.later fD, ?_, upd_same, ?_, by rw [List.length_append]; show _ + 1 ≤ _; omega⟩
            · obtain ⟨ps, e, tr⟩ := t4
              exact ⟨ps, by rw [upd_ne (fun z => by rw [z, hD4] at e; cases e)]; exact e, tr⟩
            · rw [et, List.filterMap_append]
              have : [(i : Int)].filterMap (dueOne (at0 ms) N) = [cls (at0 ms) N (at0 ms i)] := by
                rw [List.filterMap_cons, hone, if_pos hb]; rfl
              rw [this]
              have kk : TupK H4 (upd H4 D (.lst (us ++ [.ref t]))) := fun c zs hc => by
                rw [upd_ne (fun z => by rw [z, hD4] at hc; cases hc)]
                exact hc
              exact (hP4.mono kk).snoc (kk _ _ htt)
          · refine dF (fun z => hb (V.int.inj z)) ?_
            refine ⟨_, _, _, us, rfl, b4, t4, hD4, ?_, by omega⟩
            rw [et, List.filterMap_append]
            have : [(i : Int)].filterMap (dueOne (at0 ms) N) = [] := by
              rw [List.filterMap_cons, hone, if_neg hb]; rfl
            rw [this, List.append_nil]
            exact hP4
      · rintro σ H2 ⟨x7, x8, x4, us, rfl, b2, t2, hD, hP, hl⟩
        have eN3 : (upI N).take ((N : Int)).toNat = upI N := by rw [eN]; exact List.take_of_length_le (by rw [upI_len]; exact Nat.le_refl _)
        rw [eN3] at hP
        have hP : Gps H2 us (dueG (at0 ms) N) := hP
        have hn2 := hn.but ht b2
        obtain ⟨⟨dx, g, h1, h3⟩, h2⟩ := id hn2
        refine ⟨_, rfl, p, dx, _, rfl, h1, rfl, p, lp, N, ws, dueG (at0 ms) N, rfl, hn2, fun a ta => ?_⟩
        obtain _ | _ | _ | _ | @⟨_, as, _, ha, hal, hr⟩ := ta
        walk_at "rds"
        refine ⟨_, _, _, _, true, rfl, .ty _, .base (.tup ha), kit_ty (by decide +kernel), ?_⟩
        walk_at "rds"
        refine ⟨D, _, rfl, .inl ⟨SqL.of hD, fun t nt => ?_⟩⟩
        have st := same_new nt (.tup us)
        have htt : (upd H2 t (.tup us)) t = some (.tup us) := upd_same
        have b3 := b2.trans (.of st)
        have t3 : GxR.TabG (upd H2 t (.tup us)) cP := by
          obtain ⟨ps, e, tr⟩ := t2
          exact ⟨ps, st _ _ e, tr⟩
        have ha3 := st _ _ ha
        have hr3 := hr.same st
        have hP3 := hP.mono (TupK.of st)
        generalize upd H2 t (.tup us) = H3 at *
        have lay : ∀ L : List (List Int), PyData.canLayAll0 (L.map eI) = true ∧ PyData.depthAll (L.map eI) ≤ 2 := fun L => by
          induction L with
          | nil => simp [PyData.canLayAll0, PyData.depthAll]
          | cons a L ih =>
            have d1 := depth_ints a
            have c2 : PyData.canLayAll0 (a.map PyData.int) = true := by
              clear d1
              induction a with
              | nil => rfl
              | cons x a ih => simp [PyData.canLayAll0, PyData.canLay0, ih]
            simp [PyData.canLayAll0, PyData.depthAll, ih.1, eI, PyData.canLay0, PyData.depth, c2]
            have := ih.2
            omega
        have ll := lay (dueG (at0 ms) N)
        have c0 : (eGs (dueG (at0 ms) N)).canLay0 = true := by
          unfold eGs
          simp [PyData.canLay0, ll.1]
        have sh : SeqAt.shaped (eGs (dueG (at0 ms) N)) = true := by
          unfold SeqAt.shaped
          rw [Bool.and_eq_true, decide_eq_true_eq]
          refine ⟨c0, ?_⟩
          have := ll.2
          unfold eGs
          simp [PyData.depth]
          omega
        refine ⟨eGs (dueG (at0 ms) N), eGs (dueG (at0 ms) N), .tup (SqT.of ha3) hr3.dp, .tup (SqT.of htt) hP3.dp, sh, sh, ?_⟩
        rw [SeqAt.eqv_refl _ c0]
        walk_at "rds"
        refine ⟨⟨_, SqT.of ha3⟩, fun D3 nD3 => ?_⟩
        refine lc_tup (K := K) (a := a) (xs := as) (fun i H' => H' = upd H3 D3 (.lst ((List.replicate i true).map V.bl))) ?_ ?_ ?_ ?_
        · rfl
        · rintro i _ _ rfl
          exact SqT.of (same_new nD3 _ _ _ ha3)
        · rintro i v _ hx rfl
          obtain ⟨d, hd, td⟩ := hr3.at hx
          have hi' : i < as.length := (List.getElem?_eq_some_iff.mp hx).1
          obtain ⟨gg, hgg, rfl⟩ : ∃ gg, gg ∈ dueG (at0 ms) N ∧ d = eI gg := by
            obtain ⟨gg, h5, h6⟩ := List.mem_map.mp (List.mem_of_getElem? hd)
            exact ⟨gg, h5, h6.symm⟩
          obtain ⟨b5, rfl, hb5⟩ := (td.same (same_new nD3 (.lst ((List.replicate i true).map V.bl)))).grp
          refine ⟨rfl, ?_⟩
          simp only [tYes, if_true]
          refine ⟨_, rfl, _, _, _, _, true, rfl, .ty _, .base (.tup hb5), kit_ty (by decide +kernel), ?_⟩
          have l1 : ((List.replicate i true).map V.bl).length = i := by rw [List.length_map, List.length_replicate]
          refine ⟨_, upd_same, by omega, ?_⟩
          rw [upd_upd, List.replicate_succ', List.map_append]; rfl
        · rintro _ rfl
          refine ⟨D3, List.replicate as.length true, rfl, SqL.of upd_same, ?_⟩
          have e : (List.replicate as.length true).all id = true := by
            rw [List.all_eq_true]
            intro b hb
            exact (List.mem_replicate.mp hb).2
          rw [e]
          refine q _ (b3.trans (.of (same_new nD3 _))) ?_
          obtain ⟨ps, e, tr⟩ := t3
          exact ⟨ps, same_new nD3 _ _ _ e, tr⟩
end
end Mus

set_option maxRecDepth 100000
set_option maxHeartbeats 4000000
/-! Displays of data, with no bag: p is any place that is taken. -/
namespace Mus
open PySem L2
def Occ (p : Addr) (H : Hp) : Prop := ∃ o, H p = some o
theorem Occ.same {p : Addr} {H H' : Hp} (g : Occ p H) (s : Same H H') : Occ p H' := by
  obtain ⟨o, h⟩ := g
  exact ⟨o, s _ _ h⟩
theorem Occ.ne {p D : Addr} {H : Hp} (g : Occ p H) (h : H D = none) : p ≠ D := by
  obtain ⟨o, hp⟩ := g
  exact ne_of_none hp h
def ZE (p : Addr) (te : TE) (σ : St) (d : PyData) : Prop := ∀ (H : Hp) (Q : VK), Occ p H → (∀ v H', Same H H' → Rp p H' v d → Q v H') → te σ H Q
def ZEs (p : Addr) (ta : TA) (σ : St) (ds : List PyData) : Prop := ∀ (H : Hp) (Q : List V → Hp → Prop), Occ p H → (∀ vs H', Same H H' → Rps p H' vs ds → Q vs H') → ta σ H Q
section
variable {p : Addr} {σ : St} {te ta1 tb1 : TE} {ta : TA} {i j : Int} {d : PyData} {ds : List PyData}
theorem ze_i (h : DI te σ i) : ZE p te σ (.int i) := fun H Q g q => h H Q (q _ H (Same.rfl' H) (.int i))
theorem ze_bl {b : Bool} : ZE p (tC (.bl b)) σ (.bool b) := fun H Q g q => q _ H (Same.rfl' H) (.bl b)
theorem ze_str {z : Str} : ZE p (tC (.str z)) σ (.str z) := fun H Q g q => q _ H (Same.rfl' H) (.str z)
theorem ze_non : ZE p (tC .non) σ .none := fun H Q g q => q _ H (Same.rfl' H) .non
theorem zes_nil : ZEs p tNil σ [] := fun H Q g q => q [] H (Same.rfl' H) .nil
theorem zes_cons (h1 : ZE p te σ d) (h2 : ZEs p ta σ ds) : ZEs p (tCons te ta) σ (d :: ds) := fun H Q g q =>
  h1 H _ g fun v H1 s1 r1 => h2 H1 _ (g.same s1) fun vs H2 s2 r2 => q _ H2 (s1.trans s2) (.cons (r1.same s2) r2)
theorem ze_tup (h : ZEs p ta σ ds) (hl : ds.length ≤ 1000) : ZE p (tTup ta) σ (.tuple ds) := fun H Q g q =>
  h H _ g fun vs H1 s1 r1 => ⟨by have := r1.length; have := sl; omega, fun a na => q _ _ (s1.trans (same_new na _)) (.tup upd_same ((g.same s1).ne na).symm (by have := r1.length; omega) (r1.same (same_new na _)))⟩
theorem ze_lst (h : ZEs p ta σ ds) (hl : ds.length ≤ 1000) : ZE p (tLst ta) σ (.list ds) := fun H Q g q =>
  h H _ g fun vs H1 s1 r1 => ⟨by have := r1.length; have := sl; omega, fun a na => q _ _ (s1.trans (same_new na _)) (.lst upd_same ((g.same s1).ne na).symm (r1.same (same_new na _)))⟩
theorem ze_cat {es : List PyData} (h1 : ZE p ta1 σ (.list ds)) (h2 : ZE p tb1 σ (.list es)) (hl : ds.length + es.length ≤ 1000) : ZE p (tOp rCat ta1 tb1) σ (.list (ds ++ es)) := fun H Q g q =>
  h1 H _ g fun v H1 s1 r1 => h2 H1 _ (g.same s1) fun u H2 s2 r2 => by
    obtain _ | _ | _ | _ | @⟨a, xs, _, ha, na, hr⟩ | _ := r1.same s2
    obtain _ | _ | _ | _ | @⟨b, ys, _, hb, nb, hr2⟩ | _ := r2
    refine ⟨a, b, xs, ys, rfl, rfl, ha, hb, ?_, fun t nt => q _ _ (s1.trans (s2.trans (same_new nt _))) (.lst upd_same (((g.same s1).same s2).ne nt).symm ((hr.append hr2).same (same_new nt _)))⟩
    have := hr.length; have := hr2.length; have := sl; omega
theorem ze_varD {n : Nat} {v : V} (h : σ[n]? = some (some v)) (hd : ∀ H, Rp p H v d) : ZE p (tVar n) σ d := fun H Q g q => ⟨_, h, q _ H (Same.rfl' H) (hd H)⟩
/-- a list of the data D at some place -/
theorem ze_list {H : Hp} {Q : VK} (h : ZE p te σ (.list ds)) (g : Occ p H) (q : ∀ a xs H', Same H H' → H' a = some (.lst xs) → a ≠ p → Rps p H' xs ds → Q (.ref a) H') : te σ H Q :=
  h H Q g fun v H' s r => by
    obtain _ | _ | _ | _ | @⟨a, xs, _, ha, na, hr⟩ | _ := r
    exact q a xs H' s ha na hr
end
end Mus

set_option maxRecDepth 100000
set_option maxHeartbeats 4000000
/-! Displays of data without lists; what stood in G still stands. -/
namespace Mus
open PySem L2
def TZ (G : Hp) (te : TE) (σ : St) (d : PyData) : Prop := ∀ (H : Hp) (Q : VK), Same G H → (∀ v H', Same H H' → TD H' v d → Q v H') → te σ H Q
def TZs (G : Hp) (ta : TA) (σ : St) (ds : List PyData) : Prop := ∀ (H : Hp) (Q : List V → Hp → Prop), Same G H → (∀ vs H', Same H H' → TDs H' vs ds → Q vs H') → ta σ H Q
section
variable {G : Hp} {σ : St} {te : TE} {ta : TA} {i : Int} {d : PyData} {ds : List PyData}
theorem tz_i (h : DI te σ i) : TZ G te σ (.int i) := fun H Q g q => h H Q (q _ H (Same.rfl' H) (.int i))
theorem tz_bl {b : Bool} : TZ G (tC (.bl b)) σ (.bool b) := fun H Q g q => q _ H (Same.rfl' H) (.bl b)
theorem tz_str {z : Str} : TZ G (tC (.str z)) σ (.str z) := fun H Q g q => q _ H (Same.rfl' H) (.str z)
theorem tzs_nil : TZs G tNil σ [] := fun H Q g q => q [] H (Same.rfl' H) .nil
theorem tzs_cons (h1 : TZ G te σ d) (h2 : TZs G ta σ ds) : TZs G (tCons te ta) σ (d :: ds) := fun H Q g q =>
  h1 H _ g fun v H1 s1 r1 => h2 H1 _ (g.trans s1) fun vs H2 s2 r2 => q _ H2 (s1.trans s2) (.cons (r1.same s2) r2)
theorem tz_tup (h : TZs G ta σ ds) (hl : ds.length ≤ 1000) : TZ G (tTup ta) σ (.tuple ds) := fun H Q g q =>
  h H _ g fun vs H1 s1 r1 => ⟨by have := r1.length; have := sl; omega, fun a na => q _ _ (s1.trans (same_new na _)) (.tup upd_same (by have := r1.length; omega) (r1.same (same_new na _)))⟩
theorem tz_var {n : Nat} {v : V} (h : σ[n]? = some (some v)) (hd : TD G v d) : TZ G (tVar n) σ d := fun H Q g q => ⟨_, h, q _ H (Same.rfl' H) (hd.same g)⟩
theorem tz_lst {H : Hp} {Q : VK} (h : TZs H ta σ ds) (hl : ds.length ≤ 1000) (q : ∀ a xs H', Same H H' → H a = none → H' a = some (.lst xs) → TDs H' xs ds → Q (.ref a) H') : tLst ta σ H Q :=
  h H _ (Same.rfl' H) fun vs H1 s1 r1 => ⟨by have := r1.length; have := sl; omega, fun a na => q a vs _ (s1.trans (same_new na _)) ((Fr.of (fp := []) s1).s _ na) upd_same (r1.same (same_new na _))⟩
end
end Mus

set_option maxRecDepth 100000
set_option maxHeartbeats 4000000
namespace Mus
open PySem L2
local macro_rules | `(tactic| walk_at "rd") => `(tactic| first
  | refine ⟨_, rfl, ?_⟩ | refine ⟨(True.intro : True), ?_⟩
  | refine ⟨_, _, rfl, rfl, (⟨by decide, by decide, by decide⟩ : CPow _ _), ?_⟩
  | refine ⟨_, _, rfl, rfl, (⟨by decide, by decide⟩ : CDiv _ _), ?_⟩
  | refine ⟨_, _, rfl, rfl, (by show (0 : Int) < _; decide), ?_⟩
  | refine ⟨_, _, rfl, rfl, ?_⟩ | refine ⟨rfl, ?_⟩ | refine iteT ?_ | refine iteF ?_ | refine ⟨_, _, rfl, ?_⟩ | refine .inl ⟨_, rfl, ?_⟩
  | refine ⟨_, _, _, _, _, rfl, (by assumption), (by assumption), (by assumption), rfl, ?_⟩ | refine ⟨_, _, _, _, rfl, rfl, SqT.of (by assumption), rfl, ?_⟩ | refine ⟨_, _, rfl, SqT.of (by assumption), rfl, ?_⟩
  | refine ⟨_, _, _, _, _, rfl, .ty _, Rp.ty (by assumption), kit_int _, ?_⟩ | refine ⟨_, _, _, _, _, rfl, .ty _, Rp.ty (by assumption), kit_bool _, ?_⟩
  | refine ⟨_, _, _, _, _, rfl, .ty _, Rp.ty (by assumption), kit_str _, ?_⟩ | refine ⟨_, _, _, _, _, rfl, .ty _, Rp.ty (by assumption), kit_tup _, ?_⟩)
local macro_rules | `(tactic| walk_at "cal") => `(tactic| first
  | refine ⟨_, _, _, _, _, rfl, (by assumption), ?_⟩ | refine ⟨_, _, _, _, _, rfl, (by assumption), (by assumption), ?_⟩)
local macro_rules | `(tactic| walk_at "sq") => `(tactic| first
  | refine ⟨_, _, rfl, Or.inr (SqT.of (by assumption)), ?_⟩ | refine ⟨_, _, _, _, rfl, rfl, SqT.of (by assumption), rfl, ?_⟩)
local macro_rules | `(tactic| walk_at "rds") => `(tactic| repeat first | walk_at "rd" | walk_at "cal" | walk_at "sq")
local macro_rules | `(tactic| walk_at "ze") => `(tactic| repeat first
  | exact zes_nil | exact ze_bl | exact ze_str | exact ze_non | apply zes_cons | apply ze_tup | apply ze_lst | apply ze_cat | exact di_c | exact di_v rfl | apply di_opC | apply di_op | apply di_neg | apply ze_i | (refine (⟨?_, ?_, ?_⟩ : CPow _ _) <;> decide) | exact Nat.le_of_ble_eq_true rfl | exact ze_varD rfl (by assumption))
local macro_rules | `(tactic| walk_at "rdz") => `(tactic| repeat (fail_if_success (first | show tLst _ _ _ _ | show tAsg (tLst _) _ _ _ _ | show tSeq (tAsg (tLst _) _) _ _ _ _)); first | walk_at "rd" | walk_at "cal" | walk_at "sq")
local macro_rules | `(tactic| walk_at "tz") => `(tactic| repeat first
  | exact tzs_nil | exact tz_bl | exact tz_str | apply tzs_cons | apply tz_tup | exact di_c | exact di_v rfl | apply di_opC | apply di_op | apply di_neg | apply tz_i | exact Nat.le_of_ble_eq_true rfl)
def sp_law (K : PySem.W.Frag) (cP : Addr) : Sp := fun vs H Q _ => ∃ (a : Addr) (ns : List Int), vs = [.ref a] ∧ SqL K H a (ns.map V.int) ∧ ns.length ≤ 63 ∧ GxR.TabG H cP ∧ ∀ H', Q (.bl true) H'
def pkD (N : Nat) : PyData := .tuple [.int 0, .int ((N : Int) - 1), .tuple [.str "higher", .tuple [.int 0, .int 1], .tuple [.int 2, .tuple [.int 0, .int 1]], .tuple [.int 3, .tuple [.int 0, .int 1]]]]
theorem pk_lay (N : Nat) : SeqAt.shaped (.list [pkD N]) = true ∧ PyData.eqv (.list [pkD N]) (.list [pkD N]) = true := by
  have s : PyData.strOk "higher" = true := by decide +kernel
  have c : (PyData.list [pkD N]).canLay0 = true := by simp [pkD, PyData.canLay0, PyData.canLayAll0, s]
  refine ⟨?_, SeqAt.eqv_refl _ c⟩
  unfold SeqAt.shaped
  rw [Bool.and_eq_true, decide_eq_true_eq]
  refine ⟨c, ?_⟩
  simp [pkD, PyData.depth, PyData.depthAll]
theorem sq_keep {K : PySem.W.Frag} {H H' : Hp} {a : Addr} {xs : List V} (h : SqL K H a xs) (k : ∀ o, H a = some o → (∀ q, o ≠ .tbl q) → (∀ C d f, o ≠ .ins C d f) → H' a = some o) : SqL K H' a xs := by
  rcases h with (h | ⟨o, h⟩) | h
  · exact .inl (.inl (k _ h (fun q z => by cases z) (fun C d f z => by cases z)))
  · exact .inl (.inr ⟨o, k _ h (fun q z => by cases z) (fun C d f z => by cases z)⟩)
  · exact .inr h
theorem tab_same {H H' : Hp} {cP : Addr} (t : GxR.TabG H cP) (s : Same H H') : GxR.TabG H' cP := by
  obtain ⟨ps, e, tr⟩ := t
  exact ⟨ps, s _ _ e, tr⟩
structure S51 (CN cP a : Addr) (ns : List Int) (K : PySem.W.Frag) (H : Hp) (N : Nat) (p lp m t t2 : Addr) (ms : List Int) : Prop where
  nat : NAt CN H p lp N [.ref t] (dueG (at0 ms) N)
  hm : H m = some (.lst (ms.map V.int))
  ml : ms.length = N
  tab : GxR.TabG H cP
  pk : TD H (.ref t) (pkD N)
  pk2 : TD H (.ref t2) (pkD N)
  sc : SqL K H a (ns.map V.int)
section
variable {P : Program} {w : World} {K : PySem.W.Frag} {mg : Str → Option Value} {base : Heap} {CN CB cP a p lp m t t2 : Addr} {ns ms : List Int} {N : Nat} {H H' : Hp}
theorem S51.same (S : S51 CN cP a ns K H N p lp m t t2 ms) (s : Same H H') : S51 CN cP a ns K H' N p lp m t t2 ms :=
  ⟨S.nat.same s, s _ _ S.hm, S.ml, tab_same S.tab s, S.pk.same s, S.pk2.same s, s.seq S.sc⟩
theorem S51.but (S : S51 CN cP a ns K H N p lp m t t2 ms) (b : But cP H H') (tb : GxR.TabG H' cP) : S51 CN cP a ns K H' N p lp m t t2 ms :=
  ⟨S.nat.but S.tab b, b _ _ S.hm (tab_ne S.tab S.hm fun q z => by cases z), S.ml, tb, S.pk.mono fun c xs hc => b _ _ hc (tab_ne S.tab hc fun q z => by cases z), S.pk2.mono fun c xs hc => b _ _ hc (tab_ne S.tab hc fun q z => by cases z), sq_keep S.sc fun o ho h1 _ => b _ _ ho (tab_ne S.tab ho h1)⟩
/-- the net changed, new marks -/
theorem S51.net {m' : Addr} {ms' : List Int} (S : S51 CN cP a ns K H N p lp m t t2 ms) (n : NAt CN H' p lp N [.ref t] (dueG (at0 ms') N)) (f : Fr [p] [p] H H') (hm : H m' = some (.lst (ms'.map V.int))) (ml : ms'.length = N) : S51 CN cP a ns K H' N p lp m' t t2 ms' := by
  obtain ⟨⟨dx, g, h1, h3⟩, h2⟩ := S.nat
  have k : ∀ {b : Addr} {o : HO}, H b = some o → (∀ C d f, o ≠ .ins C d f) → H' b = some o := fun {b o} hb hi => f.k _ _ hb fun z => by
    rw [List.mem_singleton] at z
    rw [z, h1] at hb
    exact hi _ _ _ (Option.some.inj hb).symm
  refine ⟨n, k hm (fun C d f z => by cases z), ml, ?_, S.pk.mono f.t, S.pk2.mono f.t, sq_keep S.sc fun o ho _ h4 => k ho h4⟩
  obtain ⟨ps, e, tr⟩ := S.tab
  exact ⟨ps, k e (fun C d f z => by cases z), tr⟩
theorem S51.net2 {m' : Addr} {ms' : List Int} {H2 : Hp} (S : S51 CN cP a ns K H N p lp m t t2 ms) (n : NAt CN H' p lp N [.ref t] (dueG (at0 ms') N)) (f : Fr [p] [p] H H') (s : Same H' H2) (hm : H2 m' = some (.lst (ms'.map V.int))) (ml : ms'.length = N) : S51 CN cP a ns K H2 N p lp m' t t2 ms' := by
  obtain ⟨⟨dx, g, h1, h3⟩, h2⟩ := S.nat
  have k : ∀ {b : Addr} {o : HO}, H b = some o → (∀ C d f, o ≠ .ins C d f) → H' b = some o := fun {b o} hb hi => f.k _ _ hb fun z => by
    rw [List.mem_singleton] at z
    rw [z, h1] at hb
    exact hi _ _ _ (Option.some.inj hb).symm
  refine ⟨n.same s, hm, ml, ?_, (S.pk.mono f.t).same s, (S.pk2.mono f.t).same s, s.seq (sq_keep S.sc fun o ho _ h4 => k ho h4)⟩
  obtain ⟨ps, e, tr⟩ := S.tab
  exact ⟨ps, s _ _ (k e (fun C d f z => by cases z)), tr⟩
theorem due_nil {N : Nat} (h : 1 ≤ N) : dueG (at0 (mksOf N [])) N = [upI N] := by
  have e : restG N [] = upI N := by
    unfold restG
    exact List.filter_eq_self.mpr fun x _ => rfl
  refine (parts_due (ss := []) (L := [upI N]) (grs_nil N) rfl (fun j g s hj => by simp at hj) ?_ (List.pairwise_singleton _ _)).symm
  rw [e, if_pos (by rw [upI_len]; omega)]
  exact List.Perm.refl _
theorem ints_inj : ∀ {g h : List Int}, g.map PyData.int = h.map PyData.int → g = h
  | [], [], _ => rfl
  | [], _ :: _, e => by cases e
  | _ :: _, [], e => by cases e
  | x :: g, y :: h, e => by
    rw [List.map_cons, List.map_cons, List.cons.injEq] at e
    cases e.1
    rw [ints_inj e.2]
theorem eGs_inj : ∀ {gs hs : List (List Int)}, PyData.tuple (gs.map eI) = .tuple (hs.map eI) → gs = hs
  | [], [], _ => rfl
  | [], _ :: _, e => by cases e
  | _ :: _, [], e => by cases e
  | x :: g, y :: h, e => by
    have e : (x :: g).map eI = (y :: h).map eI := by injection e
    rw [List.map_cons, List.map_cons, List.cons.injEq] at e
    have e1 : x.map PyData.int = y.map PyData.int := by
      have := e.1
      unfold eI at this
      injection this
    rw [ints_inj e1, eGs_inj (show PyData.tuple (g.map eI) = .tuple (h.map eI) by rw [e.2])]
theorem fit_gs {gs : List (List Int)} (h1 : gs.length ≤ 5) (h2 : ∀ g ∈ gs, g.length ≤ 12) : fit 3 (eGs gs) := by
  refine ⟨by rw [List.length_map]; omega, fun d hd => ?_⟩
  obtain ⟨g, hg, rfl⟩ := List.mem_map.mp hd
  refine ⟨by rw [List.length_map]; have := h2 g hg; omega, fun e he => ?_⟩
  obtain ⟨x, hx, rfl⟩ := List.mem_map.mp he
  trivial
abbrev s_law : Stmt := top 23
abbrev N_law : List Str := ["script", "first", "count", "net", "packet", "marks", "k", "bag", "groups", "right", "told", "actual"]
abbrev P_law : List Str := ["script"]
theorem sc_law : FnScope N_law P_law (defScope s_law) := ⟨rfl, rfl, rfl, by decide +kernel, rfl, by decide +kernel, by decide +kernel⟩
theorem ok_law {f cP : Addr} {fd : FuncData} (T : Tx K mg CN CB) (k_Net : MkOk P w K mg base CN "Net" P_Net___init__ 1 (sp_ninit CN)) (m_Net_send : MethOk P w K mg base CX0 CN "send" P_Net_send 1 (sp_send CN)) (m_Net_heal : MethOk P w K mg base CX0 CN "heal" P_Net_heal 5 (sp_heal CN)) (m_Net_packets : MethOk P w K mg base CX0 CN "packets" P_Net_packets 1 (sp_packs CN))
    (c__law_bag : DefOk P w K mg base CX0 "_law_bag" P__law_bag 1 (sp_bag K)) (c__law_draw : DefOk P w K mg base CX0 "_law_draw" P__law_draw 1 (sp_draw)) (c__law_groups : DefOk P w K mg base CX0 "_law_groups" P__law_groups 2 (sp_lgr)) (c__law_odd : DefOk P w K mg base CX0 "_law_odd" P__law_odd 2 (sp_odd)) (c__law_spoilt : DefOk P w K mg base CX0 "_law_spoilt" P__law_spoilt 5 (sp_spoilt 3)) (c__law_is_groups : DefOk P w K mg base CX0 "_law_is_groups" P__law_is_groups 2 (sp_lig)) (c_is_groups : DefOk P w K mg base CX0 "is_groups" P_is_groups 3 (spS2 isGr)) (c__law_marks : DefOk P w K mg base CX0 "_law_marks" P__law_marks 1 (sp_marks)) (c__law_told : DefOk P w K mg base CX0 "_law_told" P__law_told 5 (sp_told CN)) (c__law_right : DefOk P w K mg base CX0 "_law_right" P__law_right 3 (sp_lright CN cP)) (F : Fun K "law" "law" s_law f fd) : FnOk P w K mg base CX0 7 f fd P_law (sp_law K cP) := by
  have nd := sc_law.nd
  refine F.ok sc_law (fun vs H Q E h => ?_) (fun cdv A outer s H vs Q E hr h => ?_)
  · obtain ⟨_, _, rfl, _⟩ := h
    rfl
  · obtain ⟨a, ns, rfl, hS, hlen, hT, q⟩ := h
    have hu := hu_of hr
    have hs := sl
    have c1 := T.cl_Net
    refine ⟨_, (pss_cons (ps_set (i := 1) nd rfl (Or.inl rfl) (pcall c__law_bag hr (pa_cons (pv 0) (pa_cons pe_int pa_nil))))
      (pss_cons (ps_set (i := 2) nd rfl (Or.inl rfl) (pe_op op_add pe_int (pcall c__law_draw hr (pa_cons (pv 1) (pa_cons pe_int pa_nil)))))
      (pss_cons (ps_set (i := 3) nd rfl (Or.inl rfl) (pmake k_Net hr (pa_cons (pv 2) pa_nil)))
      (pss_cons (ps_set (i := 4) nd rfl (Or.inl rfl) (pe_tup (pa_cons pe_int (pa_cons (pe_op op_sub (pv 2) pe_int) (pa_cons (pe_tup (pa_cons pe_str (pa_cons (pe_tup (pa_cons pe_int (pa_cons pe_int pa_nil))) (pa_cons (pe_tup (pa_cons pe_int (pa_cons (pe_tup (pa_cons pe_int (pa_cons pe_int pa_nil))) pa_nil))) (pa_cons (pe_tup (pa_cons pe_int (pa_cons (pe_tup (pa_cons pe_int (pa_cons pe_int pa_nil))) pa_nil))) pa_nil))))) pa_nil)))))
      (pss_cons (ps_expr (pmeth m_Net_send T.cl_Net (pv 3) hr (pa_cons (pe_ix ix_tup (pv 4) pe_int (fun _ _ => rfl)) (pa_cons (pe_ix ix_tup (pv 4) pe_int (fun _ _ => rfl)) (pa_cons (pe_ix ix_tup (pv 4) pe_int (fun _ _ => rfl)) pa_nil)))))
      (pss_cons (ps_set (i := 5) nd rfl (Or.inl rfl) (pcall c__law_marks hr (pa_cons (pv 2) (pa_cons (pe_tup pa_nil) pa_nil))))
      (pss_cons (ps_for PassesOwn.never rfl (pi_range1 (by rfl) T.b_range (pa_cons (pe_callB (call_min2 rfl) (by rfl) T.b_min (by decide +kernel) (pa_cons pe_int (pa_cons (pe_callB call_len_seq (by rfl) T.b_len (by decide +kernel) (pa_cons (pv 0) pa_nil)) pa_nil))) pa_nil)) (pg_name (i := 6) nd rfl (Or.inl rfl))
        (pss_cons (ps_set (i := 7) nd rfl (Or.inl rfl) (pcall c__law_bag hr (pa_cons (pv 0) (pa_cons (pv 6) pa_nil))))
        (C8.pss_cut (ps_if (pt_cmpR op_eq (pcall c__law_draw hr (pa_cons (pv 7) (pa_cons pe_int pa_nil))) pe_int (nomark _))
          (pss_cons (ps_if (pt_cmpR op_notN (pmeth0 m_Net_heal T.cl_Net (pv 3) hr) pe_non (nomark _))
            (pss_one (ps_ret pe_bl))
            pss_nil)
          (pss_one (ps_set (i := 5) nd rfl (Or.inl rfl) (pcall c__law_marks hr (pa_cons (pv 2) (pa_cons (pe_tup pa_nil) pa_nil))))))
          (pss_cons (ps_set (i := 8) nd rfl (Or.inl rfl) (pcall c__law_groups hr (pa_cons (pv 7) (pa_cons (pv 2) pa_nil))))
          (C8.pss_cut (ps_if (pt_cmpR op_eq (pcall c__law_draw hr (pa_cons (pv 7) (pa_cons pe_int pa_nil))) pe_int (nomark _))
            (pss_one (ps_set (i := 8) nd rfl (Or.inl rfl) (pcall c__law_spoilt hr (pa_cons (pv 7) (pa_cons (pv 8) (pa_cons (pcall c__law_odd hr (pa_cons (pv 7) (pa_cons (pv 2) pa_nil))) pa_nil))))))
            pss_nil)
          (pss_cons (ps_set (i := 9) nd rfl (Or.inl rfl) (pcall c__law_is_groups hr (pa_cons (pv 2) (pa_cons (pv 8) pa_nil))))
          (pss_cons (ps_set (i := 10) nd rfl (Or.inl rfl) (pcall c_is_groups hr (pa_cons (pv 2) (pa_cons (pv 8) pa_nil))))
          (pss_cons (ps_if (PW.pt (pw_or (pt_not (pt_val (pe_callB call_isi (by rfl) T.b_isinstance (by decide +kernel) (pa_cons (pv 10) (pa_cons (pe_ty "bool" T.b_bool) pa_nil))))) (pw_or1 (pt_cmpR op_ne (pv 10) (pv 9) (nomark _)))))
            (pss_one (ps_ret pe_bl))
            pss_nil)
          (pss_cons (ps_if (pt_truth (pv 9) (by intro _; rfl))
            (pss_one (ps_set (i := 5) nd rfl (Or.inl rfl) (pcall c__law_marks hr (pa_cons (pv 2) (pa_cons (pv 8) pa_nil)))))
            pss_nil)
          (pss_cons (ps_set (i := 11) nd rfl (Or.inl rfl) (pcall c__law_told hr (pa_cons (pv 3) (pa_cons (pv 8) pa_nil))))
          (pss_one (ps_if (PW.pt (pw_or (PW.pt (pw_and (pt_truth (pv 9) (by intro _; rfl)) (pw_and1 (pt_cmpR op_notN (pv 11) pe_non (nomark _))))) (pw_or1 (PW.pt (pw_and (pt_not (pt_truth (pv 9) (by intro _; rfl))) (pw_and1 (pt_cmpR (op_neD hr.units) (pv 11) (pe_tup (pa_cons pe_int (pa_cons pe_str pa_nil))) (nomark _))))))))
            (pss_one (ps_ret pe_bl))
            pss_nil))))))))))
        (pss_one (ps_if (PW.pt (pw_or (pt_not (pt_val (pcall c__law_right hr (pa_cons (pv 3) (pa_cons (pv 2) (pa_cons (pv 5) pa_nil)))))) (pw_or1 (pt_cmpR (op_neD hr.units) (pmeth0 m_Net_packets T.cl_Net (pv 3) hr) (pe_lst (pa_cons (pv 4) pa_nil)) (nomark _)))))
          (pss_one (ps_ret pe_bl))
          pss_nil)))))
      (pss_one (ps_ret (pe_and (pcall c__law_right hr (pa_cons (pv 3) (pa_cons (pv 2) (pa_cons (pv 5) pa_nil)))) (pe_one (pe_cmpR op_is_bl (pcall c_is_groups hr (pa_cons (pe_ix ix_list (pe_lst (pa_cons pe_int (pa_cons pe_int (pa_cons pe_non (pa_cons pe_bl pa_nil))))) (pe_op op_mod (pv 2) pe_int) (fun _ _ => rfl)) (pa_cons (pe_tup (pa_cons (pe_tup (pa_cons pe_int pa_nil)) pa_nil)) pa_nil))) pe_bl (nomark _))))))))))))), ?_⟩
    refine ⟨_, rfl, a, ns, 0, rfl, hS, fun b0 H1 nb0 s1 g1 => ?_⟩
    walk_at "rds"
    refine ⟨b0, _, 12, rfl, g1, by decide, by decide, fun r H2 r0 r1 b2 g2 => ?_⟩
    have s2 : Same H H2 := fun b o hb => b2 _ _ (s1 _ _ hb) (ne_of_none hb nb0)
    obtain ⟨N, rN⟩ : ∃ N : Nat, 1 + r = (N : Int) := ⟨(1 + r).toNat, by omega⟩
    have n1 : 1 ≤ N := by omega
    have n2 : N ≤ 12 := by omega
    walk_at "rds"
    dsimp only [tNil]
    rw [rN]
    refine fun p dx np ndx ndp => ⟨p, dx, N, rfl, upd_same, n1, n2, fun lp H3 nl hn3 fr fn => ⟨rfl, ?_⟩⟩
    have s3 : Same H2 H3 := fun b o hb => fr b o (by rw [upd_ne (ne_of_none hb np), upd_ne (ne_of_none hb ndx)]; exact hb) (ne_of_none hb np)
    have hT3 := tab_same (tab_same hT s2) s3
    have hS3 := s3.seq (s2.seq hS)
    have nl2 : H2 lp = none := by
      cases e : H2 lp with
      | none => rfl
      | some o => rw [upd_ne (ne_of_none e np), upd_ne (ne_of_none e ndx), e] at nl; cases nl
    clear fr fn nl np ndx ndp s1 g1 b2 g2
    rw [← due_nil n1] at hn3
    show tAsg (tTup _) _ _ _ _
    show tTup _ _ _ _
    refine (by walk_at "tz" : TZ H3 _ _ (pkD N)) H3 _ (Same.rfl' H3) fun v H4 s4 t4 => ?_
    have hn4 := hn3.same s4
    have hT4 := tab_same hT3 s4
    have hS4 := s4.seq hS3
    have t4' := t4
    obtain _ | _ | _ | _ | @⟨t2, xs, _, ht2, _, hr2⟩ := t4'
    obtain _ | @⟨v1, _, _, _, k1, r2⟩ := hr2
    obtain _ | @⟨v2, _, _, _, k2, r3⟩ := r2
    obtain _ | @⟨v3, _, _, _, k3, r4⟩ := r3
    cases r4
    cases k1
    cases k2
    obtain ⟨⟨dx4, g4, h1, h3⟩, h2⟩ := id hn4
    refine ⟨_, rfl, p, dx4, _, rfl, h1, rfl, ?_⟩
    walk_at "rds"
    refine ⟨p, lp, N, [], _, .int 0, .int ((N : Int) - 1), v3, rfl, hn4, by decide, fun t nt => ?_⟩
    have st := same_new nt (.tup [V.int 0, .int ((N : Int) - 1), v3])
    have htt : (upd H4 t (.tup [V.int 0, .int ((N : Int) - 1), v3])) t = some (.tup [V.int 0, .int ((N : Int) - 1), v3]) := upd_same
    obtain ⟨H5, e5⟩ : ∃ H5, H5 = upd (upd H4 t (.tup [V.int 0, .int ((N : Int) - 1), v3])) lp (.lst ([] ++ [V.ref t])) := ⟨_, rfl⟩
    rw [← e5]
    have k5 : ∀ {b : Addr} {o : HO}, H4 b = some o → b ≠ lp → H5 b = some o := fun {b o} hb hn => by rw [e5, upd_ne hn]; exact st _ _ hb
    have h2' : H4 lp = some (.lst []) := h2
    have kt : TupK (upd H4 t (.tup [V.int 0, .int ((N : Int) - 1), v3])) H5 := fun c zs hc => by
      rw [e5, upd_ne (fun z => by rw [z, st _ _ h2'] at hc; cases hc)]; exact hc
    have kt4 : TupK H4 H5 := (TupK.of st).trans kt
    have n5 : NAt CN H5 p lp N [.ref t] (dueG (at0 (mksOf N [])) N) := ⟨⟨dx4, g4, k5 h1 (fun z => by rw [z, h2'] at h1; cases h1), h3.mono kt4⟩, by rw [e5]; exact upd_same⟩
    have T5 : GxR.TabG H5 cP := by
      obtain ⟨ps, e, tr⟩ := hT4
      exact ⟨ps, k5 e (fun z => by rw [z, h2'] at e; cases e), tr⟩
    have S5 : SqL K H5 a (ns.map V.int) := sq_keep (s2.seq hS) fun o ho _ _ => k5 (s4 _ _ (s3 _ _ ho)) (ne_of_none ho nl2)
    have td5 : TD H5 (.ref t) (pkD N) := .tup (by rw [e5, upd_ne (ne_of_none h2' nt).symm]; exact htt) (by show 3 ≤ 100000; decide) (.cons (.int _) (.cons (.int _) (.cons (k3.mono kt4) .nil)))
    have t25 := t4.mono kt4
    clear e5 k5 kt kt4 htt st nt h2' h1 h2 h3 hn3 hn4 hT4 hT3 hS3 hS4 nl2 s3 s4 t4 k3 ht2 s2
    refine ⟨_, rfl, by show 0 ≤ sizeLine; omega, fun e0 ne0 => ?_⟩
    have s6 := same_new ne0 (.tup [])
    refine ⟨e0, N, [], [], rfl, upd_same, .nil, grs_nil N, n1, n2, fun m H6 nm s7 hm => ?_⟩
    have S0 : S51 CN cP a ns K H6 N p lp m t t2 (mksOf N []) := ⟨(n5.same s6).same s7, hm, mksOf_len _ _, tab_same (tab_same T5 s6) s7, (td5.same s6).same s7, (t25.same s6).same s7, s7.seq (s6.seq S5)⟩
    clear n5 T5 S5 td5 t25 s6 s7 hm nm ne0
    have eln : (ns.map V.int).length = ns.length := List.length_map _
    refine ⟨_, rfl, a, _, rfl, .inl S0.sc, 24, _, rfl, ?_⟩
    obtain ⟨T24, e24, l24⟩ : ∃ T24 : Nat, (if (((ns.map V.int).length : Nat) : Int) < 24 then (((ns.map V.int).length : Nat) : Int) else 24) = (T24 : Int) ∧ T24 ≤ 24 := by
      by_cases h : (((ns.map V.int).length : Nat) : Int) < 24
      · rw [if_pos h]; exact ⟨_, rfl, by omega⟩
      · rw [if_neg h]; exact ⟨24, rfl, by omega⟩
    rw [e24]
    refine ⟨T24, rfl, by omega, by omega, for_range (lo := 0) (n := ((T24 : Nat) : Int).toNat) (fun i σ H' => ∃ (m : Addr) (ms : List Int) (x6 x7 x8 x9 x10 x11 : Option V), σ = [some (.ref a), some (.ref b0), some (.int N), some (.ref p), some (.ref t2), some (.ref m), x6, x7, x8, x9, x10, x11] ∧ S51 CN cP a ns K H' N p lp m t t2 ms) ?_ ?_ ?_⟩
    · exact ⟨_, _, _, _, _, _, _, _, rfl, S0⟩
    · clear S0
      rintro i σ H7 hi ⟨m, ms, x6, x7, x8, x9, x10, x11, rfl, S7⟩
      have hi63 : i < 24 := by omega
      rw [Int.zero_add]
      refine ⟨_, rfl, _, rfl, a, ns, i, rfl, S7.sc, fun b H8 nb s8 g8 => ?_⟩
      have S8 := S7.same s8
      refine ⟨fun σ' H' => ∃ (m : Addr) (ms : List Int) (x8 x9 x10 x11 : Option V), σ' = [some (.ref a), some (.ref b0), some (.int N), some (.ref p), some (.ref t2), some (.ref m), some (.int i), some (.ref b), x8, x9, x10, x11] ∧ S51 CN cP a ns K H' N p lp m t t2 ms, ?_, ?_⟩
      · refine ⟨_, rfl, b, _, 6, rfl, g8, by decide, by decide, fun r6 H9 r60 r61 b9 g9 => ?_⟩
        have s9 : Same H7 H9 := fun c o hc => b9 _ _ (s8 _ _ hc) (ne_of_none hc nb)
        have S9 := S7.same s9
        obtain ⟨⟨dx9, g9', h1, h3⟩, h2⟩ := id S9.nat
        walk_at "rds"
        refine iB (fun _ => ?_) (fun _ => ?_)
        · refine ⟨_, rfl, p, dx9, _, rfl, h1, rfl, p, lp, N, _, _, rfl, S9.nat, n1, n2, fun H10 n10 f10 => ?_⟩
          walk_at "rds"
          refine ⟨by show 0 ≤ sizeLine; omega, fun e1 ne1 => ?_⟩
          have s11 := same_new ne1 (.tup [])
          refine ⟨e1, N, [], [], rfl, upd_same, .nil, grs_nil N, n1, n2, fun m' H12 nm s12 hm => ?_⟩
          exact ⟨m', mksOf N [], _, _, _, _, rfl, S9.net2 n10 f10 (s11.trans s12) hm (mksOf_len _ _)⟩
        · refine ⟨_, rfl, _, rfl, b, _, N, rfl, g9, n2, fun v gs H10 rv lgs l12 b10 g10 => ?_⟩
          have s10 : Same H7 H10 := fun c o hc => b10 _ _ (s9 _ _ hc) (ne_of_none hc nb)
          refine ⟨fun σ' H' => ∃ (v8 : V) (d : PyData), σ' = [some (.ref a), some (.ref b0), some (.int N), some (.ref p), some (.ref t2), some (.ref m), some (.int i), some (.ref b), some v8, x9, x10, x11] ∧ Rp b H' v8 d ∧ Same H7 H' ∧ Bag b i H', ?_, ?_⟩
          · refine ⟨_, rfl, b, _, 3, rfl, g10, by decide, by decide, fun r3 H11 r30 r31 b11 g11 => ?_⟩
            have s11 : Same H7 H11 := fun c o hc => b11 _ _ (s10 _ _ hc) (ne_of_none hc nb)
            have rv11 := rv.mono b11
            walk_at "rds"
            refine iB (fun _ => ?_) (fun _ => ?_)
            · refine ⟨_, rfl, _, rfl, _, rfl, _, rfl, b, _, N, rfl, g11, fun o e H12 ro b12 g12 => ?_⟩
              have s12 : Same H7 H12 := fun c o hc => b12 _ _ (s11 _ _ hc) (ne_of_none hc nb)
              refine ⟨b, _, v, o, _, e, rfl, g12, rv11.mono b12, ro, fit_gs lgs l12, fun v' d' H13 rv' _ b13 g13 => ?_⟩
              exact ⟨v', d', rfl, rv', fun c o hc => b13 _ _ (s12 _ _ hc) (ne_of_none hc nb), g13⟩
            · exact ⟨v, _, rfl, rv11, s11, g11⟩
          · rintro σ' H11 ⟨v8, d, rfl, rv11, s11, g11⟩
            refine ⟨_, rfl, _, rfl, b, v8, d, N, rfl, rv11, n1, n2, fun H12 s12 => ?_⟩
            have rv12 := rv11.same s12
            refine ⟨_, rfl, _, rfl, b, .int N, v8, .int N, d, rfl, .int _, rv12, fun H13 s13 => ?_⟩
            have rv13 := rv12.same s13
            have s7_13 := s11.trans (s12.trans s13)
            have S13 := S7.same s7_13
            walk_at "rds"
            refine ⟨_, _, _, _, true, rfl, .ty _, .base (.bl _), kit_ty (by decide +kernel), ?_⟩
            walk_at "rds"
            cases hR : isGr (.int N) d with
            | true =>
              obtain ⟨gs', rfl, G⟩ := isGr_inv hR
              have rv13' := rv13
              obtain _ | _ | _ | _ | _ | @⟨ad, xs, _, had, _, hxl, hrr⟩ := rv13'
              walk_at "rds"
              refine ⟨ad, N, xs, gs', rfl, had, gps_of hrr, G, n1, n2, fun m' H14 nm s14 hm' => ?_⟩
              have S14 := S13.same s14
              obtain ⟨⟨dx14, g14, k1, k3⟩, k2⟩ := id S14.nat
              refine ⟨_, rfl, _, rfl, p, lp, b, .ref ad, _, N, _, _, rfl, S14.nat, rv13.same s14, n1, n2, fun z => ?_, fun gs2 _ e2 G2 H15 n15 f15 => ?_⟩
              · rw [hR] at z; cases z
              · obtain rfl : gs2 = gs' := eGs_inj e2.symm
                walk_at "rds"
                exact ⟨m', _, _, _, _, _, rfl, S14.net n15 f15 hm' (mksOf_len _ _)⟩
            | false =>
              walk_at "rds"
              obtain ⟨⟨dx14, g14, k1, k3⟩, k2⟩ := id S13.nat
              refine ⟨p, lp, b, v8, d, N, _, _, rfl, S13.nat, rv13, n1, n2, fun _ t5 H14 s14 ht5 => ?_, fun gs2 z => ?_⟩
              · walk_at "rds"
                refine ⟨by show 2 ≤ sizeLine; omega, fun t6 nt6 => ?_⟩
                have s15 := same_new nt6 (.tup [V.int 0, .str "groups"])
                have sg : PyData.strOk "groups" = true := by decide +kernel
                have c0 : (PyData.tuple [.int 0, .str "groups"]).canLay0 = true := by simp [PyData.canLay0, PyData.canLayAll0, sg]
                have sh : SeqAt.shaped (.tuple [.int 0, .str "groups"]) = true := by
                  unfold SeqAt.shaped
                  rw [Bool.and_eq_true, decide_eq_true_eq]
                  exact ⟨c0, by simp [PyData.depth, PyData.depthAll]⟩
                refine ⟨.tuple [.int 0, .str "groups"], .tuple [.int 0, .str "groups"], .tup (SqT.of (s15 _ _ ht5)) (.cons (.int _) (.cons (.str _) .nil)), .tup (SqT.of upd_same) (.cons (.int _) (.cons (.str _) .nil)), sh, sh, ?_⟩
                rw [SeqAt.eqv_refl _ c0]
                walk_at "rds"
                exact ⟨m, _, _, _, _, _, rfl, (S13.same s14).same s15⟩
              · rw [hR] at z; cases z
      · rintro σ' H9 ⟨m, ms, x8, x9, x10, x11, rfl, S9⟩
        refine ⟨_, rfl, _, rfl, _, rfl, p, lp, m, N, _, ms, rfl, S9.nat, S9.hm, S9.ml, n1, n2, S9.tab, fun H10 b10 t10 => ?_⟩
        have S10 := S9.but b10 t10
        obtain ⟨⟨dx9, g9, h1, h3⟩, h2⟩ := id S10.nat
        walk_at "rds"
        refine ⟨p, dx9, _, rfl, h1, rfl, p, lp, N, _, _, rfl, S10.nat, fun u nu => ?_⟩
        have su := same_new nu (.lst [V.ref t])
        refine ⟨_, rfl, by show 1 ≤ sizeLine; omega, fun l nl => ?_⟩
        have sl' := same_new nl (.lst [V.ref t2])
        have hu' : (upd (upd H10 u (.lst [V.ref t])) l (.lst [V.ref t2])) u = some (.lst [V.ref t]) := sl' _ _ upd_same
        have hl' : (upd (upd H10 u (.lst [V.ref t])) l (.lst [V.ref t2])) l = some (.lst [V.ref t2]) := upd_same
        have S12 := (S10.same su).same sl'
        generalize upd (upd H10 u (.lst [V.ref t])) l (.lst [V.ref t2]) = H12 at *
        obtain ⟨sh, ev⟩ := pk_lay N
        refine ⟨.list [pkD N], .list [pkD N], .lst (SqL.of hu') (.cons S12.pk.dp .nil), .lst (SqL.of hl') (.cons S12.pk2.dp .nil), sh, sh, ?_⟩
        rw [ev]
        walk_at "rds"
        exact ⟨m, ms, _, _, _, _, _, _, rfl, S12⟩
    · clear S0
      rintro σ H7 ⟨m, ms, x6, x7, x8, x9, x10, x11, rfl, S7⟩
      refine ⟨_, rfl, _, rfl, _, rfl, p, lp, m, N, _, ms, rfl, S7.nat, S7.hm, S7.ml, n1, n2, S7.tab, fun H8 b8 t8 => ?_⟩
      refine ⟨true, rfl, ?_⟩
      refine iteT ?_
      refine ⟨by show 4 ≤ sizeLine; omega, fun l nl => ?_⟩
      have hl' : (upd H8 l (.lst [V.int 0, .int 13, .non, .bl true])) l = some (.lst [V.int 0, .int 13, .non, .bl true]) := upd_same
      generalize upd H8 l (.lst [V.int 0, .int 13, .non, .bl true]) = H9 at *
      have m0 : (0 : Int) ≤ (N : Int) % 4 := Int.emod_nonneg _ (by decide)
      have m1 : (N : Int) % 4 < 4 := Int.emod_lt_of_pos _ (by decide)
      obtain ⟨x, hx, ax⟩ := atI_mem (xs := [V.int 0, .int 13, .non, .bl true]) m0 m1
      refine ⟨_, rfl, _, _, rfl, rfl, (by show (0 : Int) < 4; decide), l, _, _, x, rfl, rfl, SqL.of hl', ax, ?_⟩
      refine ⟨by show 1 ≤ sizeLine; omega, fun t6 nt6 => ?_⟩
      refine ⟨by show 1 ≤ sizeLine; omega, fun t7 nt7 => ?_⟩
      have e67 : t6 ≠ t7 := ne_of_none upd_same nt7
      have r6 : Rp l (upd (upd H9 t6 (.tup [V.int 0])) t7 (.tup [V.ref t6])) (.ref t7) (.tuple [.tuple [.int 0]]) := .tup upd_same (fun z => by
          rw [z, upd_ne (ne_of_none hl' nt6), hl'] at nt7; cases nt7) (by show 1 ≤ 100000; decide) (.cons (.tup (by rw [upd_ne e67]; exact upd_same) (fun z => by rw [z, hl'] at nt6; cases nt6) (by show 1 ≤ 100000; decide) (.cons (.int 0) .nil)) .nil)
      obtain ⟨c, rc, ec⟩ : ∃ c : PyData, (∀ H', Rp l H' x c) ∧ isGr c (.tuple [.tuple [.int 0]]) = false := by
        simp only [List.mem_cons, List.not_mem_nil, or_false] at hx
        rcases hx with rfl | rfl | rfl | rfl
        · exact ⟨.int 0, fun _ => .int 0, by decide +kernel⟩
        · exact ⟨.int 13, fun _ => .int 13, by decide +kernel⟩
        · exact ⟨.none, fun _ => .non, by decide +kernel⟩
        · exact ⟨.bool true, fun _ => .bl true, by decide +kernel⟩
      refine ⟨l, x, .ref t7, c, _, rfl, rc _, r6, fun H10 s10 => ?_⟩
      rw [ec]
      refine ⟨false, false, rfl, rfl, ?_⟩
      exact q _
end
end Mus

set_option maxRecDepth 100000
set_option maxHeartbeats 4000000
/-! What the head's one run is asked besides: own error classes with an __init__, a def's code object and its table. -/
namespace Mus
open PySem L2
def excB (K : PySem.W.Frag) (C : Addr) : Bool := match K.lookup C with
  | some ⟨.type "type", _, .cls cd, sl⟩ => (match cd.mro with
      | .ref c :: bm => decide (c = C) && PySem.HandSPX.refsVE bm
      | _ => false) && (cd.hasDict && !cd.hasDel) && (match sl.toList with
      | [_, _, _, _, some (.builtin "ValueError.__new__"), _] => true
      | _ => false)
  | _ => false
theorem excB_ok {K : PySem.W.Frag} {C : Addr} (h : excB K C = true) : ∃ nm q N bs bm sn sub ab col dd k0 k1 k2 k3 k5, K.lookup C = some (excClassObj nm q C N bs bm true sn sub ab col dd k0 k1 k2 k3 k5 "ValueError.__new__") ∧ PySem.HandSPX.refsVE bm = true := by
  unfold excB at h
  split at h
  · rename_i dd cd sl e
    rw [Bool.and_eq_true, Bool.and_eq_true, Bool.and_eq_true] at h
    obtain ⟨⟨h1, h2, h3⟩, h4⟩ := h
    split at h1
    · rename_i c bm em
      rw [Bool.and_eq_true, decide_eq_true_eq] at h1
      obtain ⟨rfl, hr⟩ := h1
      split at h4
      · rename_i k0 k1 k2 k3 k5 el
        obtain ⟨nm, bs, mro, ns, q, hdct, sn, sub, ab, col, hdel⟩ := cd
        simp only at em h2 h3
        subst em
        subst h2
        have h3 : hdel = false := by simpa using h3
        subst h3
        refine ⟨nm, q, ns, bs, bm, sn, sub, ab, col, dd, k0, k1, k2, k3, k5, ?_, hr⟩
        rw [e]
        have : sl = #[k0, k1, k2, k3, some (.builtin "ValueError.__new__"), k5] := by
          rw [← Array.toArray_toList (xs := sl), el]
        rw [this]
      · cases h4
    · cases h1
  · cases h
/-- the code object of the def at f, its table -/
def cOf (K : PySem.W.Frag) (f : Addr) : Addr := match K.lookup f with
  | some ⟨_, _, .func fd, _⟩ => (match fd.code with
      | .ref c => c
      | _ => 0)
  | _ => 0
def pOf (K : PySem.W.Frag) (c : Addr) : Addr := match K.lookup c with
  | some ⟨_, _, .fields vs, _⟩ => (match (vs[11]? : Option Value) with
      | some (.ref P) => P
      | _ => 0)
  | _ => 0
def tabB : Option Obj → Bool
  | some ⟨.none, none, .fields vs, sl⟩ => vs.isEmpty && sl.isEmpty
  | _ => false
theorem tabB_ok {o : Option Obj} (h : tabB o = true) : o = some { cls := .none, data := .fields #[] } := by
  unfold tabB at h
  split at h
  · rename_i vs sl
    rw [Bool.and_eq_true, Array.isEmpty_iff, Array.isEmpty_iff] at h
    rw [h.1, h.2]
  · cases h
theorem tab_gx {base : Heap} {mg : Str → Option Value} {c P : Addr} (h : LamX.TabB base mg c P) : GxR.TabB base mg c P := ⟨h.code, h.bm, h.gP⟩
theorem cod_ref {K : PySem.W.Frag} {f : Addr} {oc : Value} {od an : Option Addr} {osl : Array (Option Value)} {nm q : Str} {pr : Arguments} {bd : List Stmt} {sc : Scope} {dV kV dc pm cd ct : Value}
    (l : K.lookup f = some ⟨oc, od, .func (PySem.W.fnOf nm q pr bd sc dV kV dc pm an cd ct), osl⟩) (c : PySem.W.codeIn K cd q = true) : cd = .ref (cOf K f) := by
  cases cd <;> first | (cases c; done) | skip
  rename_i a
  unfold cOf
  rw [l]
end Mus

set_option maxRecDepth 100000
set_option maxHeartbeats 4000000
namespace Mus
open PySem L2
def at_mk {K : PySem.W.Frag} {h : Heap} {mg : Str → Option Value} {x : Str} {ps : List Str} {st : Stmt} {f : Addr} {oc : Value} {od an : Option Addr} {osl : Array (Option Value)} {kV dc pm cd ct : Value} (X : K.In h) (G : h.Ns mainGlobals mg) (a : PySem.W.nsIn K mainGlobals x = some (some (.ref f)))
    (l : K.lookup f = some ⟨oc, od, .func (PySem.W.fnOf x x (defArgs st) (defBody st) (defScope st) .none kV dc pm an cd ct), osl⟩) (c : PySem.W.codeIn K cd x = true) (k : PySem.W.keepIn K (.ref f) = true)
    (hb : ∀ (kV doc pm : Value) (an : Option Addr) (cdv ct : Value) (us : List Value), us.length = ps.length → bindArgs (PySem.W.fnOf x x (defArgs st) (defBody st) (defScope st) .none kV doc pm an cdv ct) ⟨us, []⟩ = pure (ps.zip us)) : DefAt K mg x ps st :=
  ⟨f, _, fun_mk (st := st) l c k, PySem.W.mg_of X G a, (fun_mk (st := st) l c k).binds hb⟩
def meth_mk {K : PySem.W.Frag} {C : Addr} {x qual : Str} {ps : List Str} {st : Stmt} {f : Addr} {oc : Value} {od an : Option Addr} {osl : Array (Option Value)} {kV dc pm cd ct : Value} (a : PySem.W.findIn K (.ref C) x = some (some (.ref f))) (i : PySem.W.isFn K (.ref f) = true)
    (l : K.lookup f = some ⟨oc, od, .func (PySem.W.fnOf x qual (defArgs st) (defBody st) (defScope st) .none kV dc pm an cd ct), osl⟩) (c : PySem.W.codeIn K cd qual = true) (k : PySem.W.keepIn K (.ref f) = true)
    (hb : ∀ (kV doc pm : Value) (an : Option Addr) (cdv ct : Value) (us : List Value), us.length = ps.length → bindArgs (PySem.W.fnOf x qual (defArgs st) (defBody st) (defScope st) .none kV doc pm an cdv ct) ⟨us, []⟩ = pure (ps.zip us)) : MethAt K C x qual ps st :=
  ⟨f, _, fun_mk (st := st) l c k, ⟨a, i, k⟩, (fun_mk (st := st) l c k).binds hb⟩
theorem walk_ofX {l : PySem.W.OpenLaw} {n k : Nat} {q : Program} {loose : List Str} {XP : (Str → Option Value) → Heap → Prop} {YP : World → Heap → Prop} {d : DefRec} {K : Params → PySem.W.Frag} {sp : World → Sp} {x : Str}
    (most : l.most = some n) (few : n ≤ sizeLine) (nod : d.params.defaults = []) (room : Room k callerA) (kin : ∀ (w : World) (h : Heap), YP w h → (K w.params).In h)
    (F : ∀ (w : World) (mg : Str → Option Value) (at1 : Addr) (h : Heap), (K w.params).In h → h.Ns mainGlobals mg → XP mg h → mg d.name = some (.ref at1) →
      ∃ fd : FuncData, (∀ (s : Shared) (u : Value), BindsTo s fd ⟨[u], []⟩ [(x, u)]) ∧ ∀ base : Heap, (K w.params).In base → base.Ns mainGlobals mg → FnOk l.prog w (K w.params) mg base CX0 k at1 fd [x] (sp w))
    (hsp : ∀ (w : World) (H : Hp) (a : Addr) (ns : List Int), ns.length ≤ n → Only H → SqL (K w.params) H a (ns.map V.int) → sp w [.ref a] H (fun v _ => v = .bl true) fun _ _ _ => False) :
    PySem.W.WalkO q loose XP YP l.row.toRowW d [] (fun f vs => PySem.call f vs) := by
  refine Att.attach_call most nod fun w sb sc mg mB at1 o pm1 cd1 doc1 a vs ns G Y ho1 hd1 hc1 hm1 ob1 in1 ln1 hg1 => ?_
  have inK := kin w _ Y
  obtain ⟨fd, bnd, pr⟩ := F w mg at1 _ inK G.T.g G.X hm1
  exact law_call inK G.T.g G.T.b G.T.builtins G.T.nolimit hg1 ob1 in1 (Nat.le_trans ln1 few) room pr bnd (fun H hO hS => hsp w H a ns ln1 hO hS) fun H e s' z => z
theorem loose_int {n : Str} {i : Int} {mg : Str → Option Value} {h : Heap} (x : PySem.W.LooseAre [(n, PySem.W.WData.int i)] mg h) : ∃ t, mg n = some (.int i t) := by
  obtain ⟨v, h1, h2⟩ := x.val _ (List.mem_singleton.mpr rfl)
  cases h2
  exact ⟨_, h1⟩
theorem all_mk {l : PySem.W.OpenLaw} {w : World} {K : PySem.W.Frag} {h : Heap} {mg : Str → Option Value} {fa : Addr} (X : K.In h) (G : h.Ns mainGlobals mg) (hfa : mg "law" = some (.ref fa))
    {C_Net : Addr}
    {odx_Net___init__ anx_Net___init__ : Option Addr} {slx_Net___init__ : Array (Option Value)} {ocx_Net___init__ kVx_Net___init__ dcx_Net___init__ pmx_Net___init__ cdx_Net___init__ ctx_Net___init__ : Value} {fx_Net___init__ : Addr}
    {odx_Net_send anx_Net_send : Option Addr} {slx_Net_send : Array (Option Value)} {ocx_Net_send kVx_Net_send dcx_Net_send pmx_Net_send cdx_Net_send ctx_Net_send : Value} {fx_Net_send : Addr}
    {odx_Net_packets anx_Net_packets : Option Addr} {slx_Net_packets : Array (Option Value)} {ocx_Net_packets kVx_Net_packets dcx_Net_packets pmx_Net_packets cdx_Net_packets ctx_Net_packets : Value} {fx_Net_packets : Addr}
    {odx_Net_part anx_Net_part : Option Addr} {slx_Net_part : Array (Option Value)} {ocx_Net_part kVx_Net_part dcx_Net_part pmx_Net_part cdx_Net_part ctx_Net_part : Value} {fx_Net_part : Addr}
    {odx_Net_heal anx_Net_heal : Option Addr} {slx_Net_heal : Array (Option Value)} {ocx_Net_heal kVx_Net_heal dcx_Net_heal pmx_Net_heal cdx_Net_heal ctx_Net_heal : Value} {fx_Net_heal : Addr}
    {odx_Net_joined anx_Net_joined : Option Addr} {slx_Net_joined : Array (Option Value)} {ocx_Net_joined kVx_Net_joined dcx_Net_joined pmx_Net_joined ctx_Net_joined : Value} {fx_Net_joined : Addr}
    {odx_Net_groups anx_Net_groups : Option Addr} {slx_Net_groups : Array (Option Value)} {ocx_Net_groups kVx_Net_groups dcx_Net_groups pmx_Net_groups cdx_Net_groups ctx_Net_groups : Value} {fx_Net_groups : Addr}
    {C_BadSchedule : Addr}
    {odxIBadSchedule anxIBadSchedule : Option Addr} {slxIBadSchedule : Array (Option Value)} {ocxIBadSchedule kVxIBadSchedule dcxIBadSchedule pmxIBadSchedule cdxIBadSchedule ctxIBadSchedule : Value} {fxIBadSchedule : Addr}
    {c_joined P_joined : Addr}
    {odx_is_integer anx_is_integer : Option Addr} {slx_is_integer : Array (Option Value)} {ocx_is_integer kVx_is_integer dcx_is_integer pmx_is_integer cdx_is_integer ctx_is_integer : Value} {fx_is_integer : Addr}
    {odx_is_process anx_is_process : Option Addr} {slx_is_process : Array (Option Value)} {ocx_is_process kVx_is_process dcx_is_process pmx_is_process cdx_is_process ctx_is_process : Value} {fx_is_process : Addr}
    {odx_is_groups anx_is_groups : Option Addr} {slx_is_groups : Array (Option Value)} {ocx_is_groups kVx_is_groups dcx_is_groups pmx_is_groups cdx_is_groups ctx_is_groups : Value} {fx_is_groups : Addr}
    {odx__law_bag anx__law_bag : Option Addr} {slx__law_bag : Array (Option Value)} {ocx__law_bag kVx__law_bag dcx__law_bag pmx__law_bag cdx__law_bag ctx__law_bag : Value} {fx__law_bag : Addr}
    {odx__law_draw anx__law_draw : Option Addr} {slx__law_draw : Array (Option Value)} {ocx__law_draw kVx__law_draw dcx__law_draw pmx__law_draw cdx__law_draw ctx__law_draw : Value} {fx__law_draw : Addr}
    {odx__law_is_int anx__law_is_int : Option Addr} {slx__law_is_int : Array (Option Value)} {ocx__law_is_int kVx__law_is_int dcx__law_is_int pmx__law_is_int cdx__law_is_int ctx__law_is_int : Value} {fx__law_is_int : Addr}
    {odx__law_spoilt anx__law_spoilt : Option Addr} {slx__law_spoilt : Array (Option Value)} {ocx__law_spoilt kVx__law_spoilt dcx__law_spoilt pmx__law_spoilt cdx__law_spoilt ctx__law_spoilt : Value} {fx__law_spoilt : Addr}
    {odx__law_odd anx__law_odd : Option Addr} {slx__law_odd : Array (Option Value)} {ocx__law_odd kVx__law_odd dcx__law_odd pmx__law_odd cdx__law_odd ctx__law_odd : Value} {fx__law_odd : Addr}
    {odx__law_groups anx__law_groups : Option Addr} {slx__law_groups : Array (Option Value)} {ocx__law_groups kVx__law_groups dcx__law_groups pmx__law_groups cdx__law_groups ctx__law_groups : Value} {fx__law_groups : Addr}
    {odx__law_is_groups anx__law_is_groups : Option Addr} {slx__law_is_groups : Array (Option Value)} {ocx__law_is_groups kVx__law_is_groups dcx__law_is_groups pmx__law_is_groups cdx__law_is_groups ctx__law_is_groups : Value} {fx__law_is_groups : Addr}
    {odx__law_marks anx__law_marks : Option Addr} {slx__law_marks : Array (Option Value)} {ocx__law_marks kVx__law_marks dcx__law_marks pmx__law_marks cdx__law_marks ctx__law_marks : Value} {fx__law_marks : Addr}
    {odx__law_right anx__law_right : Option Addr} {slx__law_right : Array (Option Value)} {ocx__law_right kVx__law_right dcx__law_right pmx__law_right cdx__law_right ctx__law_right : Value} {fx__law_right : Addr}
    {odx__law_told anx__law_told : Option Addr} {slx__law_told : Array (Option Value)} {ocx__law_told kVx__law_told dcx__law_told pmx__law_told cdx__law_told ctx__law_told : Value} {fx__law_told : Addr}
    {odx_law anx_law : Option Addr} {slx_law : Array (Option Value)} {ocx_law kVx_law dcx_law pmx_law cdx_law ctx_law : Value} {fx_law : Addr}
    {tMOST_PROCESSES : Tok}
    (aC_Net : PySem.W.nsIn K mainGlobals "Net" = some (some (.ref C_Net)))
    (pg_Net : PySem.W.plainGet K C_Net Str.empty = true)
    (hd_Net : PySem.W.hasDictIn K C_Net = true)
    (po_Net : PySem.W.plainOver K C_Net = true)
    (sa_Net : PySem.W.findIn K (.ref C_Net) "__setattr__" = some (some (.builtin "object.__setattr__")))
    (mk_Net : PySem.W.makesIn K C_Net = true)
    (kc_Net : PySem.W.keepIn K (.ref C_Net) = true)
    (n_Net__count : PySem.W.findIn K (.ref C_Net) "_count" = some none)
    (n_Net__packets : PySem.W.findIn K (.ref C_Net) "_packets" = some none)
    (n_Net__groups : PySem.W.findIn K (.ref C_Net) "_groups" = some none)
    (ax_Net___init__ : PySem.W.findIn K (.ref C_Net) "__init__" = some (some (.ref fx_Net___init__)))
    (ix_Net___init__ : PySem.W.isFn K (.ref fx_Net___init__) = true)
    (lx_Net___init__ : K.lookup fx_Net___init__ = some ⟨ocx_Net___init__, odx_Net___init__, .func (PySem.W.fnOf "__init__" "Net.__init__" (defArgs s_Net___init__) (defBody s_Net___init__) (defScope s_Net___init__) .none kVx_Net___init__ dcx_Net___init__ pmx_Net___init__ anx_Net___init__ cdx_Net___init__ ctx_Net___init__), slx_Net___init__⟩)
    (cx_Net___init__ : PySem.W.codeIn K cdx_Net___init__ "Net.__init__" = true)
    (kx_Net___init__ : PySem.W.keepIn K (.ref fx_Net___init__) = true)
    (ax_Net_send : PySem.W.findIn K (.ref C_Net) "send" = some (some (.ref fx_Net_send)))
    (ix_Net_send : PySem.W.isFn K (.ref fx_Net_send) = true)
    (lx_Net_send : K.lookup fx_Net_send = some ⟨ocx_Net_send, odx_Net_send, .func (PySem.W.fnOf "send" "Net.send" (defArgs s_Net_send) (defBody s_Net_send) (defScope s_Net_send) .none kVx_Net_send dcx_Net_send pmx_Net_send anx_Net_send cdx_Net_send ctx_Net_send), slx_Net_send⟩)
    (cx_Net_send : PySem.W.codeIn K cdx_Net_send "Net.send" = true)
    (kx_Net_send : PySem.W.keepIn K (.ref fx_Net_send) = true)
    (ax_Net_packets : PySem.W.findIn K (.ref C_Net) "packets" = some (some (.ref fx_Net_packets)))
    (ix_Net_packets : PySem.W.isFn K (.ref fx_Net_packets) = true)
    (lx_Net_packets : K.lookup fx_Net_packets = some ⟨ocx_Net_packets, odx_Net_packets, .func (PySem.W.fnOf "packets" "Net.packets" (defArgs s_Net_packets) (defBody s_Net_packets) (defScope s_Net_packets) .none kVx_Net_packets dcx_Net_packets pmx_Net_packets anx_Net_packets cdx_Net_packets ctx_Net_packets), slx_Net_packets⟩)
    (cx_Net_packets : PySem.W.codeIn K cdx_Net_packets "Net.packets" = true)
    (kx_Net_packets : PySem.W.keepIn K (.ref fx_Net_packets) = true)
    (ax_Net_part : PySem.W.findIn K (.ref C_Net) "part" = some (some (.ref fx_Net_part)))
    (ix_Net_part : PySem.W.isFn K (.ref fx_Net_part) = true)
    (lx_Net_part : K.lookup fx_Net_part = some ⟨ocx_Net_part, odx_Net_part, .func (PySem.W.fnOf "part" "Net.part" (defArgs s_Net_part) (defBody s_Net_part) (defScope s_Net_part) .none kVx_Net_part dcx_Net_part pmx_Net_part anx_Net_part cdx_Net_part ctx_Net_part), slx_Net_part⟩)
    (cx_Net_part : PySem.W.codeIn K cdx_Net_part "Net.part" = true)
    (kx_Net_part : PySem.W.keepIn K (.ref fx_Net_part) = true)
    (ax_Net_heal : PySem.W.findIn K (.ref C_Net) "heal" = some (some (.ref fx_Net_heal)))
    (ix_Net_heal : PySem.W.isFn K (.ref fx_Net_heal) = true)
    (lx_Net_heal : K.lookup fx_Net_heal = some ⟨ocx_Net_heal, odx_Net_heal, .func (PySem.W.fnOf "heal" "Net.heal" (defArgs s_Net_heal) (defBody s_Net_heal) (defScope s_Net_heal) .none kVx_Net_heal dcx_Net_heal pmx_Net_heal anx_Net_heal cdx_Net_heal ctx_Net_heal), slx_Net_heal⟩)
    (cx_Net_heal : PySem.W.codeIn K cdx_Net_heal "Net.heal" = true)
    (kx_Net_heal : PySem.W.keepIn K (.ref fx_Net_heal) = true)
    (ax_Net_joined : PySem.W.findIn K (.ref C_Net) "joined" = some (some (.ref fx_Net_joined)))
    (ix_Net_joined : PySem.W.isFn K (.ref fx_Net_joined) = true)
    (lx_Net_joined : K.lookup fx_Net_joined = some ⟨ocx_Net_joined, odx_Net_joined, .func (PySem.W.fnOf "joined" "Net.joined" (defArgs s_Net_joined) (defBody s_Net_joined) (defScope s_Net_joined) .none kVx_Net_joined dcx_Net_joined pmx_Net_joined anx_Net_joined (.ref c_joined) ctx_Net_joined), slx_Net_joined⟩)
    (cx_Net_joined : PySem.W.codeIn K (.ref c_joined) "Net.joined" = true)
    (kx_Net_joined : PySem.W.keepIn K (.ref fx_Net_joined) = true)
    (ax_Net_groups : PySem.W.findIn K (.ref C_Net) "groups" = some (some (.ref fx_Net_groups)))
    (ix_Net_groups : PySem.W.isFn K (.ref fx_Net_groups) = true)
    (lx_Net_groups : K.lookup fx_Net_groups = some ⟨ocx_Net_groups, odx_Net_groups, .func (PySem.W.fnOf "groups" "Net.groups" (defArgs s_Net_groups) (defBody s_Net_groups) (defScope s_Net_groups) .none kVx_Net_groups dcx_Net_groups pmx_Net_groups anx_Net_groups cdx_Net_groups ctx_Net_groups), slx_Net_groups⟩)
    (cx_Net_groups : PySem.W.codeIn K cdx_Net_groups "Net.groups" = true)
    (kx_Net_groups : PySem.W.keepIn K (.ref fx_Net_groups) = true)
    (aC_BadSchedule : PySem.W.nsIn K mainGlobals "BadSchedule" = some (some (.ref C_BadSchedule)))
    (xL_BadSchedule : excB K C_BadSchedule = true)
    (sa_BadSchedule : PySem.W.findIn K (.ref C_BadSchedule) "__setattr__" = some (some (.builtin "object.__setattr__")))
    (ty_BadSchedule : PySem.W.typeIn K (.ref C_BadSchedule) = some (.type "type"))
    (hs_BadSchedule : PySem.W.subIn K (.ref C_BadSchedule) (.type "BaseException") = some true)
    (kC_BadSchedule : PySem.W.keepIn K (.ref C_BadSchedule) = true)
    (hg_BadSchedule : PySem.W.findIn K (.ref C_BadSchedule) "__getattribute__" = some (some (.builtin "BaseException.__getattribute__")))
    (hk_BadSchedule : PySem.W.findIn K (.ref C_BadSchedule) "__getattr__" = some none)
    (hd_BadSchedule : PySem.W.hasDictIn K C_BadSchedule = true)
    (n_BadSchedule_line : PySem.W.findIn K (.ref C_BadSchedule) "line" = some none)
    (n_BadSchedule_reason : PySem.W.findIn K (.ref C_BadSchedule) "reason" = some none)
    (iI_BadSchedule : PySem.W.findIn K (.ref C_BadSchedule) "__init__" = some (some (.ref fxIBadSchedule)))
    (lxIBadSchedule : K.lookup fxIBadSchedule = some ⟨ocxIBadSchedule, odxIBadSchedule, .func (PySem.W.fnOf "__init__" "BadSchedule.__init__" (defArgs s_BadSchedule___init__) (defBody s_BadSchedule___init__) (defScope s_BadSchedule___init__) .none kVxIBadSchedule dcxIBadSchedule pmxIBadSchedule anxIBadSchedule cdxIBadSchedule ctxIBadSchedule), slxIBadSchedule⟩)
    (cxIBadSchedule : PySem.W.codeIn K cdxIBadSchedule "BadSchedule.__init__" = true)
    (kxIBadSchedule : PySem.W.keepIn K (.ref fxIBadSchedule) = true)
    (tI_BadSchedule : PySem.W.typeIn K (.ref fxIBadSchedule) = some (.type "function"))
    (m_BB : PySem.W.exmOne K (.ref C_BadSchedule) (.ref C_BadSchedule) = some true)
    (ax_is_integer : PySem.W.nsIn K mainGlobals "is_integer" = some (some (.ref fx_is_integer)))
    (lx_is_integer : K.lookup fx_is_integer = some ⟨ocx_is_integer, odx_is_integer, .func (PySem.W.fnOf "is_integer" "is_integer" (defArgs s_is_integer) (defBody s_is_integer) (defScope s_is_integer) .none kVx_is_integer dcx_is_integer pmx_is_integer anx_is_integer cdx_is_integer ctx_is_integer), slx_is_integer⟩)
    (cx_is_integer : PySem.W.codeIn K cdx_is_integer "is_integer" = true)
    (kx_is_integer : PySem.W.keepIn K (.ref fx_is_integer) = true)
    (ax_is_process : PySem.W.nsIn K mainGlobals "is_process" = some (some (.ref fx_is_process)))
    (lx_is_process : K.lookup fx_is_process = some ⟨ocx_is_process, odx_is_process, .func (PySem.W.fnOf "is_process" "is_process" (defArgs s_is_process) (defBody s_is_process) (defScope s_is_process) .none kVx_is_process dcx_is_process pmx_is_process anx_is_process cdx_is_process ctx_is_process), slx_is_process⟩)
    (cx_is_process : PySem.W.codeIn K cdx_is_process "is_process" = true)
    (kx_is_process : PySem.W.keepIn K (.ref fx_is_process) = true)
    (ax_is_groups : PySem.W.nsIn K mainGlobals "is_groups" = some (some (.ref fx_is_groups)))
    (lx_is_groups : K.lookup fx_is_groups = some ⟨ocx_is_groups, odx_is_groups, .func (PySem.W.fnOf "is_groups" "is_groups" (defArgs s_is_groups) (defBody s_is_groups) (defScope s_is_groups) .none kVx_is_groups dcx_is_groups pmx_is_groups anx_is_groups cdx_is_groups ctx_is_groups), slx_is_groups⟩)
    (cx_is_groups : PySem.W.codeIn K cdx_is_groups "is_groups" = true)
    (kx_is_groups : PySem.W.keepIn K (.ref fx_is_groups) = true)
    (ax__law_bag : PySem.W.nsIn K mainGlobals "_law_bag" = some (some (.ref fx__law_bag)))
    (lx__law_bag : K.lookup fx__law_bag = some ⟨ocx__law_bag, odx__law_bag, .func (PySem.W.fnOf "_law_bag" "_law_bag" (defArgs s__law_bag) (defBody s__law_bag) (defScope s__law_bag) .none kVx__law_bag dcx__law_bag pmx__law_bag anx__law_bag cdx__law_bag ctx__law_bag), slx__law_bag⟩)
    (cx__law_bag : PySem.W.codeIn K cdx__law_bag "_law_bag" = true)
    (kx__law_bag : PySem.W.keepIn K (.ref fx__law_bag) = true)
    (ax__law_draw : PySem.W.nsIn K mainGlobals "_law_draw" = some (some (.ref fx__law_draw)))
    (lx__law_draw : K.lookup fx__law_draw = some ⟨ocx__law_draw, odx__law_draw, .func (PySem.W.fnOf "_law_draw" "_law_draw" (defArgs s__law_draw) (defBody s__law_draw) (defScope s__law_draw) .none kVx__law_draw dcx__law_draw pmx__law_draw anx__law_draw cdx__law_draw ctx__law_draw), slx__law_draw⟩)
    (cx__law_draw : PySem.W.codeIn K cdx__law_draw "_law_draw" = true)
    (kx__law_draw : PySem.W.keepIn K (.ref fx__law_draw) = true)
    (ax__law_is_int : PySem.W.nsIn K mainGlobals "_law_is_int" = some (some (.ref fx__law_is_int)))
    (lx__law_is_int : K.lookup fx__law_is_int = some ⟨ocx__law_is_int, odx__law_is_int, .func (PySem.W.fnOf "_law_is_int" "_law_is_int" (defArgs s__law_is_int) (defBody s__law_is_int) (defScope s__law_is_int) .none kVx__law_is_int dcx__law_is_int pmx__law_is_int anx__law_is_int cdx__law_is_int ctx__law_is_int), slx__law_is_int⟩)
    (cx__law_is_int : PySem.W.codeIn K cdx__law_is_int "_law_is_int" = true)
    (kx__law_is_int : PySem.W.keepIn K (.ref fx__law_is_int) = true)
    (ax__law_spoilt : PySem.W.nsIn K mainGlobals "_law_spoilt" = some (some (.ref fx__law_spoilt)))
    (lx__law_spoilt : K.lookup fx__law_spoilt = some ⟨ocx__law_spoilt, odx__law_spoilt, .func (PySem.W.fnOf "_law_spoilt" "_law_spoilt" (defArgs s__law_spoilt) (defBody s__law_spoilt) (defScope s__law_spoilt) .none kVx__law_spoilt dcx__law_spoilt pmx__law_spoilt anx__law_spoilt cdx__law_spoilt ctx__law_spoilt), slx__law_spoilt⟩)
    (cx__law_spoilt : PySem.W.codeIn K cdx__law_spoilt "_law_spoilt" = true)
    (kx__law_spoilt : PySem.W.keepIn K (.ref fx__law_spoilt) = true)
    (ax__law_odd : PySem.W.nsIn K mainGlobals "_law_odd" = some (some (.ref fx__law_odd)))
    (lx__law_odd : K.lookup fx__law_odd = some ⟨ocx__law_odd, odx__law_odd, .func (PySem.W.fnOf "_law_odd" "_law_odd" (defArgs s__law_odd) (defBody s__law_odd) (defScope s__law_odd) .none kVx__law_odd dcx__law_odd pmx__law_odd anx__law_odd cdx__law_odd ctx__law_odd), slx__law_odd⟩)
    (cx__law_odd : PySem.W.codeIn K cdx__law_odd "_law_odd" = true)
    (kx__law_odd : PySem.W.keepIn K (.ref fx__law_odd) = true)
    (ax__law_groups : PySem.W.nsIn K mainGlobals "_law_groups" = some (some (.ref fx__law_groups)))
    (lx__law_groups : K.lookup fx__law_groups = some ⟨ocx__law_groups, odx__law_groups, .func (PySem.W.fnOf "_law_groups" "_law_groups" (defArgs s__law_groups) (defBody s__law_groups) (defScope s__law_groups) .none kVx__law_groups dcx__law_groups pmx__law_groups anx__law_groups cdx__law_groups ctx__law_groups), slx__law_groups⟩)
    (cx__law_groups : PySem.W.codeIn K cdx__law_groups "_law_groups" = true)
    (kx__law_groups : PySem.W.keepIn K (.ref fx__law_groups) = true)
    (ax__law_is_groups : PySem.W.nsIn K mainGlobals "_law_is_groups" = some (some (.ref fx__law_is_groups)))
    (lx__law_is_groups : K.lookup fx__law_is_groups = some ⟨ocx__law_is_groups, odx__law_is_groups, .func (PySem.W.fnOf "_law_is_groups" "_law_is_groups" (defArgs s__law_is_groups) (defBody s__law_is_groups) (defScope s__law_is_groups) .none kVx__law_is_groups dcx__law_is_groups pmx__law_is_groups anx__law_is_groups cdx__law_is_groups ctx__law_is_groups), slx__law_is_groups⟩)
    (cx__law_is_groups : PySem.W.codeIn K cdx__law_is_groups "_law_is_groups" = true)
    (kx__law_is_groups : PySem.W.keepIn K (.ref fx__law_is_groups) = true)
    (ax__law_marks : PySem.W.nsIn K mainGlobals "_law_marks" = some (some (.ref fx__law_marks)))
    (lx__law_marks : K.lookup fx__law_marks = some ⟨ocx__law_marks, odx__law_marks, .func (PySem.W.fnOf "_law_marks" "_law_marks" (defArgs s__law_marks) (defBody s__law_marks) (defScope s__law_marks) .none kVx__law_marks dcx__law_marks pmx__law_marks anx__law_marks cdx__law_marks ctx__law_marks), slx__law_marks⟩)
    (cx__law_marks : PySem.W.codeIn K cdx__law_marks "_law_marks" = true)
    (kx__law_marks : PySem.W.keepIn K (.ref fx__law_marks) = true)
    (ax__law_right : PySem.W.nsIn K mainGlobals "_law_right" = some (some (.ref fx__law_right)))
    (lx__law_right : K.lookup fx__law_right = some ⟨ocx__law_right, odx__law_right, .func (PySem.W.fnOf "_law_right" "_law_right" (defArgs s__law_right) (defBody s__law_right) (defScope s__law_right) .none kVx__law_right dcx__law_right pmx__law_right anx__law_right cdx__law_right ctx__law_right), slx__law_right⟩)
    (cx__law_right : PySem.W.codeIn K cdx__law_right "_law_right" = true)
    (kx__law_right : PySem.W.keepIn K (.ref fx__law_right) = true)
    (ax__law_told : PySem.W.nsIn K mainGlobals "_law_told" = some (some (.ref fx__law_told)))
    (lx__law_told : K.lookup fx__law_told = some ⟨ocx__law_told, odx__law_told, .func (PySem.W.fnOf "_law_told" "_law_told" (defArgs s__law_told) (defBody s__law_told) (defScope s__law_told) .none kVx__law_told dcx__law_told pmx__law_told anx__law_told cdx__law_told ctx__law_told), slx__law_told⟩)
    (cx__law_told : PySem.W.codeIn K cdx__law_told "_law_told" = true)
    (kx__law_told : PySem.W.keepIn K (.ref fx__law_told) = true)
    (ax_law : PySem.W.nsIn K mainGlobals "law" = some (some (.ref fx_law)))
    (lx_law : K.lookup fx_law = some ⟨ocx_law, odx_law, .func (PySem.W.fnOf "law" "law" (defArgs s_law) (defBody s_law) (defScope s_law) .none kVx_law dcx_law pmx_law anx_law cdx_law ctx_law), slx_law⟩)
    (cx_law : PySem.W.codeIn K cdx_law "law" = true)
    (kx_law : PySem.W.keepIn K (.ref fx_law) = true)
    (vMOST_PROCESSES : PySem.W.nsIn K mainGlobals "MOST_PROCESSES" = some (some (.int 12 tMOST_PROCESSES)))
    (zlen : PySem.W.nsIn K mainGlobals "len" = some none)
    (zisinstance : PySem.W.nsIn K mainGlobals "isinstance" = some none)
    (zint : PySem.W.nsIn K mainGlobals "int" = some none)
    (zbool : PySem.W.nsIn K mainGlobals "bool" = some none)
    (ztuple : PySem.W.nsIn K mainGlobals "tuple" = some none)
    (zlist : PySem.W.nsIn K mainGlobals "list" = some none)
    (zrange : PySem.W.nsIn K mainGlobals "range" = some none)
    (zsorted : PySem.W.nsIn K mainGlobals "sorted" = some none)
    (zany : PySem.W.nsIn K mainGlobals "any" = some none)
    (zall : PySem.W.nsIn K mainGlobals "all" = some none)
    (zmin : PySem.W.nsIn K mainGlobals "min" = some none) :
    ∃ fd : FuncData, (∀ (s : Shared) (v : Value), BindsTo s fd ⟨[v], []⟩ [("script", v)]) ∧ ∀ base : Heap, K.In base → base.Ns mainGlobals mg → GxR.TabB base mg c_joined P_joined → FnOk l.prog w K mg base CX0 7 fa fd ["script"] (sp_law K P_joined) := by
  have e := hfa.symm.trans (PySem.W.mg_of X G ax_law)
  cases e
  have T : Tx K mg C_Net C_BadSchedule := {
    b_len := PySem.W.mg_none_of X G zlen
    b_isinstance := PySem.W.mg_none_of X G zisinstance
    b_int := PySem.W.mg_none_of X G zint
    b_bool := PySem.W.mg_none_of X G zbool
    b_tuple := PySem.W.mg_none_of X G ztuple
    b_list := PySem.W.mg_none_of X G zlist
    b_range := PySem.W.mg_none_of X G zrange
    b_sorted := PySem.W.mg_none_of X G zsorted
    b_any := PySem.W.mg_none_of X G zany
    b_all := PySem.W.mg_none_of X G zall
    b_min := PySem.W.mg_none_of X G zmin
    c_MOST_PROCESSES := ⟨_, PySem.W.mg_of X G vMOST_PROCESSES⟩
    g_Net := PySem.W.mg_of X G aC_Net
    cl_Net := ⟨pg_Net, hd_Net, po_Net, sa_Net⟩
    n_Net__count := n_Net__count
    n_Net__packets := n_Net__packets
    n_Net__groups := n_Net__groups
    g_BadSchedule := PySem.W.mg_of X G aC_BadSchedule
    o_BadSchedule := { cls := excB_ok xL_BadSchedule, sa := sa_BadSchedule, exC := hs_BadSchedule, tyC := ty_BadSchedule, kC := kC_BadSchedule }
    f_BadSchedule := ⟨hg_BadSchedule, hk_BadSchedule, hs_BadSchedule, hd_BadSchedule⟩
    n_line := n_BadSchedule_line
    n_reason := n_BadSchedule_reason
    m_BB := m_BB }
  have F_BadSchedule := fun_mk (st := s_BadSchedule___init__) lxIBadSchedule cxIBadSchedule kxIBadSchedule
  let a_Net___init__ : MethAt K C_Net "__init__" "Net.__init__" P_Net___init__ s_Net___init__ := meth_mk ax_Net___init__ ix_Net___init__ lx_Net___init__ cx_Net___init__ kx_Net___init__ fun _ _ _ _ _ _ us hl => match us, hl with | [_, _], _ => rfl
  let a_Net_send : MethAt K C_Net "send" "Net.send" P_Net_send s_Net_send := meth_mk ax_Net_send ix_Net_send lx_Net_send cx_Net_send kx_Net_send fun _ _ _ _ _ _ us hl => match us, hl with | [_, _, _, _], _ => rfl
  let a_Net_packets : MethAt K C_Net "packets" "Net.packets" P_Net_packets s_Net_packets := meth_mk ax_Net_packets ix_Net_packets lx_Net_packets cx_Net_packets kx_Net_packets fun _ _ _ _ _ _ us hl => match us, hl with | [_], _ => rfl
  let a_Net_part : MethAt K C_Net "part" "Net.part" P_Net_part s_Net_part := meth_mk ax_Net_part ix_Net_part lx_Net_part cx_Net_part kx_Net_part fun _ _ _ _ _ _ us hl => match us, hl with | [_, _], _ => rfl
  let a_Net_heal : MethAt K C_Net "heal" "Net.heal" P_Net_heal s_Net_heal := meth_mk ax_Net_heal ix_Net_heal lx_Net_heal cx_Net_heal kx_Net_heal fun _ _ _ _ _ _ us hl => match us, hl with | [_], _ => rfl
  let a_Net_joined : MethAt K C_Net "joined" "Net.joined" P_Net_joined s_Net_joined := meth_mk ax_Net_joined ix_Net_joined lx_Net_joined cx_Net_joined kx_Net_joined fun _ _ _ _ _ _ us hl => match us, hl with | [_, _, _], _ => rfl
  let a_Net_groups : MethAt K C_Net "groups" "Net.groups" P_Net_groups s_Net_groups := meth_mk ax_Net_groups ix_Net_groups lx_Net_groups cx_Net_groups kx_Net_groups fun _ _ _ _ _ _ us hl => match us, hl with | [_], _ => rfl
  let a_is_integer : DefAt K mg "is_integer" P_is_integer s_is_integer := at_mk X G ax_is_integer lx_is_integer cx_is_integer kx_is_integer fun _ _ _ _ _ _ us hl => match us, hl with | [_, _, _], _ => rfl
  let a_is_process : DefAt K mg "is_process" P_is_process s_is_process := at_mk X G ax_is_process lx_is_process cx_is_process kx_is_process fun _ _ _ _ _ _ us hl => match us, hl with | [_, _], _ => rfl
  let a_is_groups : DefAt K mg "is_groups" P_is_groups s_is_groups := at_mk X G ax_is_groups lx_is_groups cx_is_groups kx_is_groups fun _ _ _ _ _ _ us hl => match us, hl with | [_, _], _ => rfl
  let a__law_bag : DefAt K mg "_law_bag" P__law_bag s__law_bag := at_mk X G ax__law_bag lx__law_bag cx__law_bag kx__law_bag fun _ _ _ _ _ _ us hl => match us, hl with | [_, _], _ => rfl
  let a__law_draw : DefAt K mg "_law_draw" P__law_draw s__law_draw := at_mk X G ax__law_draw lx__law_draw cx__law_draw kx__law_draw fun _ _ _ _ _ _ us hl => match us, hl with | [_, _], _ => rfl
  let a__law_is_int : DefAt K mg "_law_is_int" P__law_is_int s__law_is_int := at_mk X G ax__law_is_int lx__law_is_int cx__law_is_int kx__law_is_int fun _ _ _ _ _ _ us hl => match us, hl with | [_, _, _], _ => rfl
  let a__law_spoilt : DefAt K mg "_law_spoilt" P__law_spoilt s__law_spoilt := at_mk X G ax__law_spoilt lx__law_spoilt cx__law_spoilt kx__law_spoilt fun _ _ _ _ _ _ us hl => match us, hl with | [_, _, _], _ => rfl
  let a__law_odd : DefAt K mg "_law_odd" P__law_odd s__law_odd := at_mk X G ax__law_odd lx__law_odd cx__law_odd kx__law_odd fun _ _ _ _ _ _ us hl => match us, hl with | [_, _], _ => rfl
  let a__law_groups : DefAt K mg "_law_groups" P__law_groups s__law_groups := at_mk X G ax__law_groups lx__law_groups cx__law_groups kx__law_groups fun _ _ _ _ _ _ us hl => match us, hl with | [_, _], _ => rfl
  let a__law_is_groups : DefAt K mg "_law_is_groups" P__law_is_groups s__law_is_groups := at_mk X G ax__law_is_groups lx__law_is_groups cx__law_is_groups kx__law_is_groups fun _ _ _ _ _ _ us hl => match us, hl with | [_, _], _ => rfl
  let a__law_marks : DefAt K mg "_law_marks" P__law_marks s__law_marks := at_mk X G ax__law_marks lx__law_marks cx__law_marks kx__law_marks fun _ _ _ _ _ _ us hl => match us, hl with | [_, _], _ => rfl
  let a__law_right : DefAt K mg "_law_right" P__law_right s__law_right := at_mk X G ax__law_right lx__law_right cx__law_right kx__law_right fun _ _ _ _ _ _ us hl => match us, hl with | [_, _, _], _ => rfl
  let a__law_told : DefAt K mg "_law_told" P__law_told s__law_told := at_mk X G ax__law_told lx__law_told cx__law_told kx__law_told fun _ _ _ _ _ _ us hl => match us, hl with | [_, _], _ => rfl
  have F_law := fun_mk (st := s_law) lx_law cx_law kx_law
  refine ⟨PySem.W.fnOf "law" "law" (defArgs s_law) (defBody s_law) (defScope s_law) .none kVx_law dcx_law pmx_law anx_law cdx_law ctx_law, fun s v => .of_eq rfl, fun base _ _ TB => ?_⟩
  let x_BadSchedule : ExOk l.prog w K mg base C_BadSchedule "BadSchedule" P_BadSchedule___init__ 1 (sp_bs C_BadSchedule) := ⟨_, _, ok_bs T F_BadSchedule, T.o_BadSchedule, iI_BadSchedule, tI_BadSchedule, T.g_BadSchedule, F_BadSchedule.binds (ps := P_BadSchedule___init__) fun _ _ _ _ _ _ us hl => match us, hl with | [_, _, _], _ => rfl⟩
  let m_Net_joined : MethOk l.prog w K mg base CX0 C_Net "joined" P_Net_joined 2 (sp_joined C_Net P_joined) := ⟨_, _, ok_joined T TB (funC_mk (st := s_Net_joined) lx_Net_joined cx_Net_joined kx_Net_joined), ⟨ax_Net_joined, ix_Net_joined, kx_Net_joined⟩, a_Net_joined.b⟩
  let k_Net : MkOk l.prog w K mg base C_Net "Net" P_Net___init__ 1 (sp_ninit C_Net) := a_Net___init__.mk' mk_Net kc_Net T.g_Net fun F => ok_ninit T F
  let c__law_draw : DefOk l.prog w K mg base CX0 "_law_draw" P__law_draw (1) ((sp_draw)) := a__law_draw.ok fun F => ok__law_draw T F
  let c__law_spoilt : DefOk l.prog w K mg base CX0 "_law_spoilt" P__law_spoilt 5 (sp_spoilt 3) := mk_spoilt T a__law_spoilt c__law_draw 3
  let m_Net_send : MethOk l.prog w K mg base CX0 C_Net "send" P_Net_send 1 ((sp_send C_Net)) := a_Net_send.ok fun F => ok_send T F
  let c_is_integer : DefOk l.prog w K mg base CX0 "is_integer" P_is_integer (1) ((spI)) := a_is_integer.ok fun F => ok_is_integer T F
  let c_is_process : DefOk l.prog w K mg base CX0 "is_process" P_is_process (2) ((spB2 isProc)) := a_is_process.ok fun F => ok_is_process T c_is_integer F
  let c_is_groups : DefOk l.prog w K mg base CX0 "is_groups" P_is_groups (3) ((spS2 isGr)) := a_is_groups.ok fun F => ok_is_groups T c_is_process F
  let m_Net_part : MethOk l.prog w K mg base (L2.CX l.prog w) C_Net "part" P_Net_part 4 ((sp_part C_Net C_BadSchedule)) := a_Net_part.ok fun F => ok_part T x_BadSchedule c_is_groups F
  let m_Net_heal : MethOk l.prog w K mg base CX0 C_Net "heal" P_Net_heal 5 ((sp_heal C_Net)) := a_Net_heal.ok fun F => ok_heal T m_Net_part F
  let m_Net_packets : MethOk l.prog w K mg base CX0 C_Net "packets" P_Net_packets 1 ((sp_packs C_Net)) := a_Net_packets.ok fun F => ok_packs T F
  let c__law_bag : DefOk l.prog w K mg base CX0 "_law_bag" P__law_bag (1) ((sp_bag K)) := a__law_bag.ok fun F => ok__law_bag T F
  let c__law_groups : DefOk l.prog w K mg base CX0 "_law_groups" P__law_groups (2) ((sp_lgr)) := a__law_groups.ok fun F => ok__law_groups T c__law_draw F
  let c__law_odd : DefOk l.prog w K mg base CX0 "_law_odd" P__law_odd (2) ((sp_odd)) := a__law_odd.ok fun F => ok__law_odd T c__law_draw F
  let c__law_is_int : DefOk l.prog w K mg base CX0 "_law_is_int" P__law_is_int (1) ((spI)) := a__law_is_int.ok fun F => ok__law_is_int T F
  let c__law_is_groups : DefOk l.prog w K mg base CX0 "_law_is_groups" P__law_is_groups (2) ((sp_lig)) := a__law_is_groups.ok fun F => ok__law_is_groups T c__law_is_int F
  let c__law_marks : DefOk l.prog w K mg base CX0 "_law_marks" P__law_marks (1) ((sp_marks)) := a__law_marks.ok fun F => ok__law_marks T F
  let c__law_told : DefOk l.prog w K mg base CX0 "_law_told" P__law_told 5 ((sp_told C_Net)) := a__law_told.ok fun F => ok__law_told T m_Net_part F
  let m_Net_groups : MethOk l.prog w K mg base CX0 C_Net "groups" P_Net_groups 1 ((sp_groups C_Net)) := a_Net_groups.ok fun F => ok_groups T F
  let c__law_right : DefOk l.prog w K mg base CX0 "_law_right" P__law_right 3 ((sp_lright C_Net P_joined)) := a__law_right.ok fun F => ok__law_right T m_Net_joined m_Net_groups F
  exact ok_law T k_Net m_Net_send m_Net_heal m_Net_packets c__law_bag c__law_draw c__law_groups c__law_odd c__law_spoilt c__law_is_groups c_is_groups c__law_marks c__law_told c__law_right F_law
end Mus

set_option maxRecDepth 100000
set_option maxHeartbeats 4000000
namespace Mus
open PySem PySem.Spec PyProof.Rows L2
/-! ### the head, by one run -/
def intB (K : PySem.W.Frag) (x : Str) (i : Int) : Bool := match PySem.W.nsIn K mainGlobals x with
  | some (some (.int j _)) => decide (j = i)
  | _ => false
theorem intB_ok {K : PySem.W.Frag} {x : Str} {i : Int} (c : intB K x i = true) : ∃ t, PySem.W.nsIn K mainGlobals x = some (some (.int i t)) := by
  unfold intB at c
  split at c
  · rename_i j t e
    have ej : j = i := of_decide_eq_true c
    exact ⟨t, by rw [e, ej]⟩
  · cases c
def ExP0 (K : PySem.W.Frag) : Prop := (PySem.W.nsIn K mainGlobals "Net" = some (some (.ref (He.ga K "Net")))) ∧ (PySem.W.plainGet K (He.ga K "Net") Str.empty = true) ∧ (PySem.W.hasDictIn K (He.ga K "Net") = true) ∧ (PySem.W.plainOver K (He.ga K "Net") = true) ∧ (PySem.W.findIn K (.ref (He.ga K "Net")) "__setattr__" = some (some (.builtin "object.__setattr__"))) ∧ (PySem.W.makesIn K (He.ga K "Net") = true) ∧ (PySem.W.keepIn K (.ref (He.ga K "Net")) = true) ∧ (PySem.W.findIn K (.ref (He.ga K "Net")) "_count" = some none) ∧ (PySem.W.findIn K (.ref (He.ga K "Net")) "_packets" = some none) ∧ (PySem.W.findIn K (.ref (He.ga K "Net")) "_groups" = some none) ∧ (PySem.W.findIn K (.ref (He.ga K "Net")) "__init__" = some (some (.ref (He.fAd K ("Net", some "__init__"))))) ∧ (PySem.W.isFn K (.ref (He.fAd K ("Net", some "__init__"))) = true)
instance (K : PySem.W.Frag) : Decidable (ExP0 K) := by unfold ExP0; infer_instance
def ExP1 (K : PySem.W.Frag) : Prop := (PySem.W.findIn K (.ref (He.ga K "Net")) "send" = some (some (.ref (He.fAd K ("Net", some "send"))))) ∧ (PySem.W.isFn K (.ref (He.fAd K ("Net", some "send"))) = true) ∧ (PySem.W.findIn K (.ref (He.ga K "Net")) "packets" = some (some (.ref (He.fAd K ("Net", some "packets"))))) ∧ (PySem.W.isFn K (.ref (He.fAd K ("Net", some "packets"))) = true) ∧ (PySem.W.findIn K (.ref (He.ga K "Net")) "part" = some (some (.ref (He.fAd K ("Net", some "part"))))) ∧ (PySem.W.isFn K (.ref (He.fAd K ("Net", some "part"))) = true) ∧ (PySem.W.findIn K (.ref (He.ga K "Net")) "heal" = some (some (.ref (He.fAd K ("Net", some "heal"))))) ∧ (PySem.W.isFn K (.ref (He.fAd K ("Net", some "heal"))) = true) ∧ (PySem.W.findIn K (.ref (He.ga K "Net")) "joined" = some (some (.ref (He.fAd K ("Net", some "joined"))))) ∧ (PySem.W.isFn K (.ref (He.fAd K ("Net", some "joined"))) = true) ∧ (PySem.W.findIn K (.ref (He.ga K "Net")) "groups" = some (some (.ref (He.fAd K ("Net", some "groups"))))) ∧ (PySem.W.isFn K (.ref (He.fAd K ("Net", some "groups"))) = true)
instance (K : PySem.W.Frag) : Decidable (ExP1 K) := by unfold ExP1; infer_instance
def ExP2 (K : PySem.W.Frag) : Prop := (PySem.W.nsIn K mainGlobals "BadSchedule" = some (some (.ref (He.ga K "BadSchedule")))) ∧ (excB K (He.ga K "BadSchedule") = true) ∧ (PySem.W.findIn K (.ref (He.ga K "BadSchedule")) "__setattr__" = some (some (.builtin "object.__setattr__"))) ∧ (PySem.W.typeIn K (.ref (He.ga K "BadSchedule")) = some (.type "type")) ∧ (PySem.W.subIn K (.ref (He.ga K "BadSchedule")) (.type "BaseException") = some true) ∧ (PySem.W.keepIn K (.ref (He.ga K "BadSchedule")) = true) ∧ (PySem.W.findIn K (.ref (He.ga K "BadSchedule")) "__getattribute__" = some (some (.builtin "BaseException.__getattribute__"))) ∧ (PySem.W.findIn K (.ref (He.ga K "BadSchedule")) "__getattr__" = some none) ∧ (PySem.W.hasDictIn K (He.ga K "BadSchedule") = true) ∧ (PySem.W.findIn K (.ref (He.ga K "BadSchedule")) "line" = some none) ∧ (PySem.W.findIn K (.ref (He.ga K "BadSchedule")) "reason" = some none) ∧ (PySem.W.findIn K (.ref (He.ga K "BadSchedule")) "__init__" = some (some (.ref (He.fAd K ("BadSchedule", some "__init__")))))
instance (K : PySem.W.Frag) : Decidable (ExP2 K) := by unfold ExP2; infer_instance
def ExP3 (K : PySem.W.Frag) : Prop := (PySem.W.typeIn K (.ref (He.fAd K ("BadSchedule", some "__init__"))) = some (.type "function")) ∧ (PySem.W.exmOne K (.ref (He.ga K "BadSchedule")) (.ref (He.ga K "BadSchedule")) = some true) ∧ (PySem.W.nsIn K mainGlobals "is_integer" = some (some (.ref (He.fAd K ("is_integer", none))))) ∧ (PySem.W.nsIn K mainGlobals "is_process" = some (some (.ref (He.fAd K ("is_process", none))))) ∧ (PySem.W.nsIn K mainGlobals "is_groups" = some (some (.ref (He.fAd K ("is_groups", none))))) ∧ (PySem.W.nsIn K mainGlobals "_law_bag" = some (some (.ref (He.fAd K ("_law_bag", none))))) ∧ (PySem.W.nsIn K mainGlobals "_law_draw" = some (some (.ref (He.fAd K ("_law_draw", none))))) ∧ (PySem.W.nsIn K mainGlobals "_law_is_int" = some (some (.ref (He.fAd K ("_law_is_int", none))))) ∧ (PySem.W.nsIn K mainGlobals "_law_spoilt" = some (some (.ref (He.fAd K ("_law_spoilt", none))))) ∧ (PySem.W.nsIn K mainGlobals "_law_odd" = some (some (.ref (He.fAd K ("_law_odd", none))))) ∧ (PySem.W.nsIn K mainGlobals "_law_groups" = some (some (.ref (He.fAd K ("_law_groups", none))))) ∧ (PySem.W.nsIn K mainGlobals "_law_is_groups" = some (some (.ref (He.fAd K ("_law_is_groups", none)))))
instance (K : PySem.W.Frag) : Decidable (ExP3 K) := by unfold ExP3; infer_instance
def ExP4 (K : PySem.W.Frag) : Prop := (PySem.W.nsIn K mainGlobals "_law_marks" = some (some (.ref (He.fAd K ("_law_marks", none))))) ∧ (PySem.W.nsIn K mainGlobals "_law_right" = some (some (.ref (He.fAd K ("_law_right", none))))) ∧ (PySem.W.nsIn K mainGlobals "_law_told" = some (some (.ref (He.fAd K ("_law_told", none))))) ∧ (PySem.W.nsIn K mainGlobals "law" = some (some (.ref (He.fAd K ("law", none))))) ∧ (PySem.W.nsIn K mainGlobals "len" = some none) ∧ (PySem.W.nsIn K mainGlobals "isinstance" = some none) ∧ (PySem.W.nsIn K mainGlobals "int" = some none) ∧ (PySem.W.nsIn K mainGlobals "bool" = some none) ∧ (PySem.W.nsIn K mainGlobals "tuple" = some none) ∧ (PySem.W.nsIn K mainGlobals "list" = some none) ∧ (PySem.W.nsIn K mainGlobals "range" = some none) ∧ (PySem.W.nsIn K mainGlobals "sorted" = some none)
instance (K : PySem.W.Frag) : Decidable (ExP4 K) := by unfold ExP4; infer_instance
def ExP5 (K : PySem.W.Frag) : Prop := (PySem.W.nsIn K mainGlobals "any" = some none) ∧ (PySem.W.nsIn K mainGlobals "all" = some none) ∧ (PySem.W.nsIn K mainGlobals "min" = some none)
instance (K : PySem.W.Frag) : Decidable (ExP5 K) := by unfold ExP5; infer_instance
def hCd (K : PySem.W.Frag) : Addr := cOf K (He.fAd K ("Net", some "joined"))
def hTb (K : PySem.W.Frag) : Addr := pOf K (hCd K)
def hEx (K : PySem.W.Frag) : Bool := PySem.W.codeHdIn K (hCd K) (hTb K) && ((K.lookup (hTb K)).isNone && (decide (ExP0 K) && (decide (ExP1 K) && (decide (ExP2 K) && (decide (ExP3 K) && (decide (ExP4 K) && (decide (ExP5 K) && ([(("MOST_PROCESSES" : Str), (12 : Int))].all fun q => intB K q.1 q.2))))))))
def hFn0 : List He.DefD := [⟨("Net", some "__init__"), "__init__", "Net.__init__", defArgs s_Net___init__, defBody s_Net___init__, defScope s_Net___init__, [], []⟩, ⟨("Net", some "send"), "send", "Net.send", defArgs s_Net_send, defBody s_Net_send, defScope s_Net_send, [], []⟩, ⟨("Net", some "packets"), "packets", "Net.packets", defArgs s_Net_packets, defBody s_Net_packets, defScope s_Net_packets, [], []⟩, ⟨("Net", some "part"), "part", "Net.part", defArgs s_Net_part, defBody s_Net_part, defScope s_Net_part, [], []⟩, ⟨("Net", some "heal"), "heal", "Net.heal", defArgs s_Net_heal, defBody s_Net_heal, defScope s_Net_heal, [], []⟩, ⟨("Net", some "joined"), "joined", "Net.joined", defArgs s_Net_joined, defBody s_Net_joined, defScope s_Net_joined, [], []⟩, ⟨("Net", some "groups"), "groups", "Net.groups", defArgs s_Net_groups, defBody s_Net_groups, defScope s_Net_groups, [], []⟩, ⟨("BadSchedule", some "__init__"), "__init__", "BadSchedule.__init__", defArgs s_BadSchedule___init__, defBody s_BadSchedule___init__, defScope s_BadSchedule___init__, [], []⟩, ⟨("is_integer", none), "is_integer", "is_integer", defArgs s_is_integer, defBody s_is_integer, defScope s_is_integer, [], []⟩, ⟨("is_process", none), "is_process", "is_process", defArgs s_is_process, defBody s_is_process, defScope s_is_process, [], []⟩, ⟨("is_groups", none), "is_groups", "is_groups", defArgs s_is_groups, defBody s_is_groups, defScope s_is_groups, [], []⟩, ⟨("_law_bag", none), "_law_bag", "_law_bag", defArgs s__law_bag, defBody s__law_bag, defScope s__law_bag, [], []⟩, ⟨("_law_draw", none), "_law_draw", "_law_draw", defArgs s__law_draw, defBody s__law_draw, defScope s__law_draw, [], []⟩, ⟨("_law_is_int", none), "_law_is_int", "_law_is_int", defArgs s__law_is_int, defBody s__law_is_int, defScope s__law_is_int, [], []⟩, ⟨("_law_spoilt", none), "_law_spoilt", "_law_spoilt", defArgs s__law_spoilt, defBody s__law_spoilt, defScope s__law_spoilt, [], []⟩, ⟨("_law_odd", none), "_law_odd", "_law_odd", defArgs s__law_odd, defBody s__law_odd, defScope s__law_odd, [], []⟩, ⟨("_law_groups", none), "_law_groups", "_law_groups", defArgs s__law_groups, defBody s__law_groups, defScope s__law_groups, [], []⟩, ⟨("_law_is_groups", none), "_law_is_groups", "_law_is_groups", defArgs s__law_is_groups, defBody s__law_is_groups, defScope s__law_is_groups, [], []⟩, ⟨("_law_marks", none), "_law_marks", "_law_marks", defArgs s__law_marks, defBody s__law_marks, defScope s__law_marks, [], []⟩, ⟨("_law_right", none), "_law_right", "_law_right", defArgs s__law_right, defBody s__law_right, defScope s__law_right, [], []⟩, ⟨("_law_told", none), "_law_told", "_law_told", defArgs s__law_told, defBody s__law_told, defScope s__law_told, [], []⟩, ⟨("law", none), "law", "law", defArgs s_law, defBody s_law, defScope s_law, [], []⟩]
def hFn : List He.DefD := hFn0
def hTs : List He.Tab := []
def hNm0 : List PySem.Str := ["_wall", "MusterError", "BadSchedule", "MOST_PROCESSES", "is_integer", "is_process", "is_groups", "Net", "_law_bag", "_law_draw", "_law_is_int", "_law_spoilt", "_law_odd", "_law_groups", "_law_is_groups", "_law_marks", "_law_right", "_law_told"]
def hNm : List PySem.Str := hNm0
abbrev hR : PySem.W.OpenRow := PySem.W.OpenLaw.row PySem.Challenge.rw_mustercall_k51_parted_networks
def hAs0 : List Addr := [3, 31, 51, 60, 67, 74, 159, 170, 177, 184, 191, 198, 203, 210, 215, 220, 227, 234, 30, 50, 59, 66, 73, 158, 169, 176, 183, 190, 197, 202, 209, 214, 219, 226, 233, 48]
def hAs1 : List Addr := [88, 95, 123, 128, 135, 142, 149, 47, 87, 94, 122, 127, 134, 141, 148]
def hAs : List Addr := hAs0 ++ (hAs1)
/-- what is looked at: the defs, the tables, the facts, of the objects at hAs -/
def hobs (g : Addr → Option Obj) : He.AlX := (He.obsT [] hFn hTs (He.frG g hAs), hEx (He.frG g hAs) && tabB (g (hTb (He.frG g hAs))))
def hSays (w : World) (h : Heap) : Prop := ∃ K : PySem.W.Frag, K.In h ∧ (He.SaysT [] hFn hTs w K ∧ hEx K = true) ∧ h.get? (hTb K) = some { cls := .none, data := .fields #[] }
def hk : PySem.W.Hook := { α := He.AlX, obs := fun s => hobs s.heap.get?, val := fun w => (He.valT hFn hTs w, true), says := hSays, of := fun w s e => ⟨He.frG s.heap.get? hAs, He.frG_in, ⟨(Prod.mk.inj e).1, (He.ba (Prod.mk.inj e).2).1⟩, tabB_ok (He.ba (Prod.mk.inj e).2).2⟩, keeps := fun w h h' y z => y.elim fun K y => ⟨K, y.1.keeps z, y.2.1, z _ _ y.2.2⟩ }
abbrev hq : Program := PySem.W.view hR.prog [23]
def hob (s : PySem.W.SharedT) : He.AlX := hobs (HandSHeadRun.getT s)
theorem hob_eq (s : PySem.W.SharedT) : hob s = hk.obs s.abs := congrArg hobs (funext (HandSHeadRun.getT_eq s))
end Mus

set_option maxRecDepth 100000
set_option maxHeartbeats 4000000
namespace Mus
open PySem PySem.Spec PyProof.Rows L2
theorem hrunF (w : World) : HandSHeadRun.RunEq hR hq hk hob 8000 hNm (w.withFollow "special-get-raises" false) := by
  intro os
  kernel_rfl
theorem hrunT (w : World) : HandSHeadRun.RunEq hR hq hk hob 8000 hNm (w.withFollow "special-get-raises" true) := by
  intro os
  kernel_rfl
theorem hrun (w : World) : HandSHeadRun.RunEq hR hq hk hob 8000 hNm w := PySem.W.byRow2 "special-get-raises" (P := fun w => HandSHeadRun.RunEq hR hq hk hob 8000 hNm w) hrunF hrunT w
end Mus

set_option maxRecDepth 100000
set_option maxHeartbeats 4000000
namespace Mus
open PySem PySem.Spec PyProof.Rows L2
theorem fx {K : PySem.W.Frag} (c : He.SaysD [] hFn K) (i : Nat) {d : He.DefD} (h : hFn[i]? = some d) (hd : d.dfl = []) : ∃ (oc : Value) (od an : Option Addr) (sl : Array (Option Value)) (kV dc pm cd ct : Value), K.lookup (He.fAd K d.at_) = some ⟨oc, od, .func (PySem.W.fnOf d.name d.qual d.params d.body d.scope .none kV dc pm an cd ct), sl⟩ ∧ PySem.W.codeIn K cd d.qual = true ∧ PySem.W.keepIn K (.ref (He.fAd K d.at_)) = true := by
  obtain ⟨fd, F⟩ := c.def_ i h
  obtain ⟨oc, od, dV, kV, dc, pm, an, cd, ct, sl, rfl, lk, hc, hD, _⟩ := F.ex
  rcases hD with ⟨_, rfl⟩ | ⟨e, _⟩
  · exact ⟨oc, od, an, sl, kV, dc, pm, cd, ct, lk, hc, F.kp⟩
  · exact absurd (by unfold He.DefD.dvs; rw [hd]; rfl) e
theorem hfacts {l : PySem.W.OpenLaw} {w : World} {K : PySem.W.Frag} {h : Heap} {mg : Str → Option Value} {fa : Addr} (X : K.In h) (G : h.Ns mainGlobals mg) (hfa : mg "law" = some (.ref fa)) (c : He.SaysT [] hFn hTs w K) (cm : hEx K = true) :
    ∃ fd : FuncData, (∀ (s : Shared) (v : Value), BindsTo s fd ⟨[v], []⟩ [("script", v)]) ∧ ∀ base : Heap, K.In base → base.Ns mainGlobals mg → GxR.TabB base mg (hCd K) (hTb K) → FnOk l.prog w K mg base CX0 7 fa fd ["script"] (sp_law K (hTb K)) := by
  unfold hEx at cm
  obtain ⟨hcd0, cm⟩ := He.ba cm
  obtain ⟨hnt0, cm⟩ := He.ba cm
  obtain ⟨z0, cm⟩ := He.ba cm
  obtain ⟨aC_Net, pg_Net, hd_Net, po_Net, sa_Net, mk_Net, kc_Net, n_Net__count, n_Net__packets, n_Net__groups, ax_Net___init__, ix_Net___init__⟩ := of_decide_eq_true z0
  obtain ⟨z0, cm⟩ := He.ba cm
  obtain ⟨ax_Net_send, ix_Net_send, ax_Net_packets, ix_Net_packets, ax_Net_part, ix_Net_part, ax_Net_heal, ix_Net_heal, ax_Net_joined, ix_Net_joined, ax_Net_groups, ix_Net_groups⟩ := of_decide_eq_true z0
  obtain ⟨z0, cm⟩ := He.ba cm
  obtain ⟨aC_BadSchedule, xL_BadSchedule, sa_BadSchedule, ty_BadSchedule, hs_BadSchedule, kC_BadSchedule, hg_BadSchedule, hk_BadSchedule, hd_BadSchedule, n_BadSchedule_line, n_BadSchedule_reason, iI_BadSchedule⟩ := of_decide_eq_true z0
  obtain ⟨z0, cm⟩ := He.ba cm
  obtain ⟨tI_BadSchedule, m_BB, ax_is_integer, ax_is_process, ax_is_groups, ax__law_bag, ax__law_draw, ax__law_is_int, ax__law_spoilt, ax__law_odd, ax__law_groups, ax__law_is_groups⟩ := of_decide_eq_true z0
  obtain ⟨z0, cm⟩ := He.ba cm
  obtain ⟨ax__law_marks, ax__law_right, ax__law_told, ax_law, zlen, zisinstance, zint, zbool, ztuple, zlist, zrange, zsorted⟩ := of_decide_eq_true z0
  obtain ⟨z0, cm⟩ := He.ba cm
  obtain ⟨zany, zall, zmin⟩ := of_decide_eq_true z0
  have ci := List.all_eq_true.mp cm
  obtain ⟨t_vMOST_PROCESSES, i_vMOST_PROCESSES⟩ := intB_ok (ci ("MOST_PROCESSES", 12) (by simp))
  obtain ⟨_, _, _, _, _, _, _, _, _, lx_Net___init__, cx_Net___init__, kx_Net___init__⟩ := fx c.d 0 (d := ⟨("Net", some "__init__"), "__init__", "Net.__init__", defArgs s_Net___init__, defBody s_Net___init__, defScope s_Net___init__, [], []⟩) rfl rfl
  obtain ⟨_, _, _, _, _, _, _, _, _, lx_Net_send, cx_Net_send, kx_Net_send⟩ := fx c.d 1 (d := ⟨("Net", some "send"), "send", "Net.send", defArgs s_Net_send, defBody s_Net_send, defScope s_Net_send, [], []⟩) rfl rfl
  obtain ⟨_, _, _, _, _, _, _, _, _, lx_Net_packets, cx_Net_packets, kx_Net_packets⟩ := fx c.d 2 (d := ⟨("Net", some "packets"), "packets", "Net.packets", defArgs s_Net_packets, defBody s_Net_packets, defScope s_Net_packets, [], []⟩) rfl rfl
  obtain ⟨_, _, _, _, _, _, _, _, _, lx_Net_part, cx_Net_part, kx_Net_part⟩ := fx c.d 3 (d := ⟨("Net", some "part"), "part", "Net.part", defArgs s_Net_part, defBody s_Net_part, defScope s_Net_part, [], []⟩) rfl rfl
  obtain ⟨_, _, _, _, _, _, _, _, _, lx_Net_heal, cx_Net_heal, kx_Net_heal⟩ := fx c.d 4 (d := ⟨("Net", some "heal"), "heal", "Net.heal", defArgs s_Net_heal, defBody s_Net_heal, defScope s_Net_heal, [], []⟩) rfl rfl
  obtain ⟨_, _, _, _, _, _, _, _, _, lx_Net_joined, cx_Net_joined, kx_Net_joined⟩ := fx c.d 5 (d := ⟨("Net", some "joined"), "joined", "Net.joined", defArgs s_Net_joined, defBody s_Net_joined, defScope s_Net_joined, [], []⟩) rfl rfl
  obtain ⟨_, _, _, _, _, _, _, _, _, lx_Net_groups, cx_Net_groups, kx_Net_groups⟩ := fx c.d 6 (d := ⟨("Net", some "groups"), "groups", "Net.groups", defArgs s_Net_groups, defBody s_Net_groups, defScope s_Net_groups, [], []⟩) rfl rfl
  obtain ⟨_, _, _, _, _, _, _, _, _, lxIBadSchedule, cxIBadSchedule, kxIBadSchedule⟩ := fx c.d 7 (d := ⟨("BadSchedule", some "__init__"), "__init__", "BadSchedule.__init__", defArgs s_BadSchedule___init__, defBody s_BadSchedule___init__, defScope s_BadSchedule___init__, [], []⟩) rfl rfl
  obtain ⟨_, _, _, _, _, _, _, _, _, lx_is_integer, cx_is_integer, kx_is_integer⟩ := fx c.d 8 (d := ⟨("is_integer", none), "is_integer", "is_integer", defArgs s_is_integer, defBody s_is_integer, defScope s_is_integer, [], []⟩) rfl rfl
  obtain ⟨_, _, _, _, _, _, _, _, _, lx_is_process, cx_is_process, kx_is_process⟩ := fx c.d 9 (d := ⟨("is_process", none), "is_process", "is_process", defArgs s_is_process, defBody s_is_process, defScope s_is_process, [], []⟩) rfl rfl
  obtain ⟨_, _, _, _, _, _, _, _, _, lx_is_groups, cx_is_groups, kx_is_groups⟩ := fx c.d 10 (d := ⟨("is_groups", none), "is_groups", "is_groups", defArgs s_is_groups, defBody s_is_groups, defScope s_is_groups, [], []⟩) rfl rfl
  obtain ⟨_, _, _, _, _, _, _, _, _, lx__law_bag, cx__law_bag, kx__law_bag⟩ := fx c.d 11 (d := ⟨("_law_bag", none), "_law_bag", "_law_bag", defArgs s__law_bag, defBody s__law_bag, defScope s__law_bag, [], []⟩) rfl rfl
  obtain ⟨_, _, _, _, _, _, _, _, _, lx__law_draw, cx__law_draw, kx__law_draw⟩ := fx c.d 12 (d := ⟨("_law_draw", none), "_law_draw", "_law_draw", defArgs s__law_draw, defBody s__law_draw, defScope s__law_draw, [], []⟩) rfl rfl
  obtain ⟨_, _, _, _, _, _, _, _, _, lx__law_is_int, cx__law_is_int, kx__law_is_int⟩ := fx c.d 13 (d := ⟨("_law_is_int", none), "_law_is_int", "_law_is_int", defArgs s__law_is_int, defBody s__law_is_int, defScope s__law_is_int, [], []⟩) rfl rfl
  obtain ⟨_, _, _, _, _, _, _, _, _, lx__law_spoilt, cx__law_spoilt, kx__law_spoilt⟩ := fx c.d 14 (d := ⟨("_law_spoilt", none), "_law_spoilt", "_law_spoilt", defArgs s__law_spoilt, defBody s__law_spoilt, defScope s__law_spoilt, [], []⟩) rfl rfl
  obtain ⟨_, _, _, _, _, _, _, _, _, lx__law_odd, cx__law_odd, kx__law_odd⟩ := fx c.d 15 (d := ⟨("_law_odd", none), "_law_odd", "_law_odd", defArgs s__law_odd, defBody s__law_odd, defScope s__law_odd, [], []⟩) rfl rfl
  obtain ⟨_, _, _, _, _, _, _, _, _, lx__law_groups, cx__law_groups, kx__law_groups⟩ := fx c.d 16 (d := ⟨("_law_groups", none), "_law_groups", "_law_groups", defArgs s__law_groups, defBody s__law_groups, defScope s__law_groups, [], []⟩) rfl rfl
  obtain ⟨_, _, _, _, _, _, _, _, _, lx__law_is_groups, cx__law_is_groups, kx__law_is_groups⟩ := fx c.d 17 (d := ⟨("_law_is_groups", none), "_law_is_groups", "_law_is_groups", defArgs s__law_is_groups, defBody s__law_is_groups, defScope s__law_is_groups, [], []⟩) rfl rfl
  obtain ⟨_, _, _, _, _, _, _, _, _, lx__law_marks, cx__law_marks, kx__law_marks⟩ := fx c.d 18 (d := ⟨("_law_marks", none), "_law_marks", "_law_marks", defArgs s__law_marks, defBody s__law_marks, defScope s__law_marks, [], []⟩) rfl rfl
  obtain ⟨_, _, _, _, _, _, _, _, _, lx__law_right, cx__law_right, kx__law_right⟩ := fx c.d 19 (d := ⟨("_law_right", none), "_law_right", "_law_right", defArgs s__law_right, defBody s__law_right, defScope s__law_right, [], []⟩) rfl rfl
  obtain ⟨_, _, _, _, _, _, _, _, _, lx__law_told, cx__law_told, kx__law_told⟩ := fx c.d 20 (d := ⟨("_law_told", none), "_law_told", "_law_told", defArgs s__law_told, defBody s__law_told, defScope s__law_told, [], []⟩) rfl rfl
  obtain ⟨_, _, _, _, _, _, _, _, _, lx_law, cx_law, kx_law⟩ := fx c.d 21 (d := ⟨("law", none), "law", "law", defArgs s_law, defBody s_law, defScope s_law, [], []⟩) rfl rfl
  obtain rfl := cod_ref lx_Net_joined cx_Net_joined
  exact all_mk X G hfa  aC_Net pg_Net hd_Net po_Net sa_Net mk_Net kc_Net n_Net__count n_Net__packets n_Net__groups ax_Net___init__ ix_Net___init__ lx_Net___init__ cx_Net___init__ kx_Net___init__ ax_Net_send ix_Net_send lx_Net_send cx_Net_send kx_Net_send ax_Net_packets ix_Net_packets lx_Net_packets cx_Net_packets kx_Net_packets ax_Net_part ix_Net_part lx_Net_part cx_Net_part kx_Net_part ax_Net_heal ix_Net_heal lx_Net_heal cx_Net_heal kx_Net_heal ax_Net_joined ix_Net_joined lx_Net_joined cx_Net_joined kx_Net_joined ax_Net_groups ix_Net_groups lx_Net_groups cx_Net_groups kx_Net_groups aC_BadSchedule xL_BadSchedule sa_BadSchedule ty_BadSchedule hs_BadSchedule kC_BadSchedule hg_BadSchedule hk_BadSchedule hd_BadSchedule n_BadSchedule_line n_BadSchedule_reason iI_BadSchedule lxIBadSchedule cxIBadSchedule kxIBadSchedule tI_BadSchedule m_BB ax_is_integer lx_is_integer cx_is_integer kx_is_integer ax_is_process lx_is_process cx_is_process kx_is_process ax_is_groups lx_is_groups cx_is_groups kx_is_groups ax__law_bag lx__law_bag cx__law_bag kx__law_bag ax__law_draw lx__law_draw cx__law_draw kx__law_draw ax__law_is_int lx__law_is_int cx__law_is_int kx__law_is_int ax__law_spoilt lx__law_spoilt cx__law_spoilt kx__law_spoilt ax__law_odd lx__law_odd cx__law_odd kx__law_odd ax__law_groups lx__law_groups cx__law_groups kx__law_groups ax__law_is_groups lx__law_is_groups cx__law_is_groups kx__law_is_groups ax__law_marks lx__law_marks cx__law_marks kx__law_marks ax__law_right lx__law_right cx__law_right kx__law_right ax__law_told lx__law_told cx__law_told kx__law_told ax_law lx_law cx_law kx_law i_vMOST_PROCESSES zlen zisinstance zint zbool ztuple zlist zrange zsorted zany zall zmin
end Mus
open PySem PySem.W PySem.Calls PyProof.Rows
set_option maxHeartbeats 0 in
theorem PySem.Challenge.cw_mustercall_k51_parted_networks_holds : PySem.Challenge.rw_mustercall_k51_parted_networks.Holds := by
  w_on; o_law
  refine HandSHeadRun.head_any (r := OpenLaw.row PySem.Challenge.rw_mustercall_k51_parted_networks) (q := view (OpenLaw.row PySem.Challenge.rw_mustercall_k51_parted_networks).prog [23]) (H := Mus.hk) (ob := Mus.hob) (M := 8000) (loose := Mus.hNm) (d := HandSHeadRun.topDef (OpenLaw.row PySem.Challenge.rw_mustercall_k51_parted_networks).prog 23) (kwd := []) Mus.hob_eq
    (by kernel_rfl) (fun s => by kernel_rfl) Mus.hrun (by kernel_rfl) (by kernel_rfl) (by kernel_rfl) (by rfl) (by first | assumption | decide +kernel) (by decide +kernel) ⟨rfl, rfl, rfl, rfl, rfl, by decide +kernel⟩ ?hw ?hc
  case hw => w_witness2
  case hc =>
    refine LamX.walk_ofTsE (l := PySem.Challenge.rw_mustercall_k51_parted_networks) (n := 63) (k := 7) (x := "script") (CX := fun _ => L2.CX0) rfl (by decide) (by kernel_rfl) ⟨rfl, by decide, by decide⟩ ?F (fun _ _ _ _ _ z => z)
    intro w mg fa h Y G hmg0
    obtain ⟨K, KX, ⟨c, cm⟩, tb⟩ := Y
    have hmg : mg ("law" : PySem.Str) = some (.ref fa) := by
      have e : (HandSHeadRun.topDef (OpenLaw.row PySem.Challenge.rw_mustercall_k51_parted_networks).prog 23).name = ("law" : PySem.Str) := by kernel_rfl
      rw [← e]
      exact hmg0
    have cm2 := cm
    unfold Mus.hEx at cm2
    obtain ⟨hcd0, cm2⟩ := He.ba cm2
    obtain ⟨hnt0, _⟩ := He.ba cm2
    obtain ⟨fd, hb, hF⟩ := Mus.hfacts (l := PySem.Challenge.rw_mustercall_k51_parted_networks) (w := w) KX G hmg c cm
    refine ⟨K, KX, fd, [(Mus.hCd K, Mus.hTb K)], Mus.sp_law K (Mus.hTb K), ?_, ?_, ?_, hb, fun H a ns hl _ hT hS => ⟨a, ns, rfl, hS, hl, ⟨#[], hT _ (List.mem_singleton.mpr rfl), trivial⟩, fun _ => rfl⟩, fun base k1 k2 k3 => hF base k1 k2 (Mus.tab_gx (k3 _ (List.mem_singleton.mpr rfl)))⟩
    · intro p hp
      rw [List.mem_singleton.mp hp]; exact tb
    · intro p hp
      rw [List.mem_singleton.mp hp]; exact Option.isNone_iff_eq_none.mp hnt0
    · intro p hp
      rw [List.mem_singleton.mp hp]; exact codeHd_of_K KX hcd0

