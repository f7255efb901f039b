import PyProof.Rows.All
import Wide.All
import OpenK.AllK
import Wide.FinOn
import HandS.Base
import HandS.Call
import HandS.List
import HandS.Comp
import HandS.Ends
import HandS.Iter
import HandS.Text
import HandS.Words
import HandS.WordsList
import HandS.Wide
import HandS.IsInst
import HandS.TupAny
import HandS.Dict
import HandS.WordsDict
import HandS.Conv
import HandS.More
import HandS.Codes
import HandS.SortRule
import HandS.Walk
import HandS.FStr
import HandS.StrMore
import HandS.Exc
import HandS.ExcOwn
import HandS.TryOnly
import HandS.WordsExc
import HandS.TryMany
import HandS.ExcIs
import HandS.StrSplit
import HandS.CallLocal
import HandS.Zip
import KE.GoesZip
import KE.GoesEnum
import HandS.TupLe
import KE.GoesEnumKw
import HandS.SortKw
import HandS.Defaults
import HandS.Head0
import HandS.Head1
import HandS.Head2
import HandS.HeadEnd
import HandS.HeadHook1
import HandS.HeadHook2
import HandS.HeadHook3
import HandS.HeadHook4
import PySem.Challenge.RW_mustercall_k52_schedules_read_back
set_option Elab.async false
set_option linter.all false
set_option maxRecDepth 100000
set_option maxHeartbeats 4000000
/-! What my proofs share: a def with its promise as one thing, small rules, heaps. -/
namespace Mus
open PySem L2
/-- a def of the text that keeps a promise, and all that a call of it asks -/
structure DefOk (P : Program) (w : World) (K : PySem.W.Frag) (mg : Str → Option Value) (base : Heap) (CX : CXT) (x : Str) (ps : List Str) (k : Nat) (sp : Sp) where
  f : Addr
  fd : FuncData
  G : FnOk P w K mg base CX k f fd ps sp
  m : mg x = some (.ref f)
  kp : PySem.W.keepIn K (.ref f) = true
  b : Binds K fd ps []
def DefOk.mono {P : Program} {w : World} {K : PySem.W.Frag} {mg : Str → Option Value} {base : Heap} {CX : CXT} {x : Str} {ps : List Str} {j k : Nat} {sp : Sp} (c : DefOk P w K mg base CX x ps j sp) (h : j ≤ k) : DefOk P w K mg base CX x ps k sp :=
  ⟨c.f, c.fd, c.G.mono h, c.m, c.kp, c.b⟩
/-- a def of the text as the top left it: no promise yet -/
structure DefAt (K : PySem.W.Frag) (mg : Str → Option Value) (x : Str) (ps : List Str) (st : Stmt) where
  f : Addr
  fd : FuncData
  F : Fun K x x st f fd
  m : mg x = some (.ref f)
  b : Binds K fd ps []
def DefAt.ok {P : Program} {w : World} {K : PySem.W.Frag} {mg : Str → Option Value} {base : Heap} {CX : CXT} {x : Str} {ps : List Str} {st : Stmt} {k : Nat} {sp : Sp} (d : DefAt K mg x ps st) (h : ∀ {f : Addr} {fd : FuncData}, Fun K x x st f fd → FnOk P w K mg base CX k f fd ps sp) : DefOk P w K mg base CX x ps k sp :=
  ⟨d.f, d.fd, h d.F, d.m, d.F.kp, d.b⟩
section
variable {X : Cx}
theorem pcall {x : Str} {ps : List Str} {j k : Nat} {sp : Sp} {e : Expr} {es : List Expr} {t : TA} {p pos : Pos} (c : DefOk X.prog X.w X.K X.mg X.base CX0 x ps j sp) (hr : Room k X.A) (ha : PA X (e :: es) t) (hj : j ≤ k := by first | decide | omega) (hg : Gl X x := by rfl)
    (db0 : (x == ("__debug__" : Str)) = false := by decide) (st0 : starEach (e :: es) X.env = (false, eval e X.env) :: starEach es X.env := by rfl) (pl0 : (backTo pos (starEach es X.env)).any (·.1) = false := by rfl) :
    PE X (.Call (.Name x p) (e :: es) [] pos) (tCall sp [] E0 t) := pe_call c.G (hr.mono hj) hg c.m c.kp c.b .nil pass0 ha db0 st0 pl0
/-- a text n times -/
theorem op_mul_str : OpR X (binaryOp .Mult) (fun x y H Q => ∃ (z : Str) (n : Int), x = .str z ∧ y = .int n ∧ 2 ≤ n ∧ n ≤ 1000 ∧ 1 ≤ z.length ∧ z.length ≤ 1000 ∧ ∀ r : Str, TL.tl r = (List.replicate n.toNat (TL.tl z)).flatten → Q (.str r) H) := by
  intro pins s σ H x y v u Q I rx ry h
  obtain ⟨z, n, rfl, rfl, h2, h3, h4, h5, q⟩ := h
  obtain ⟨t, rfl⟩ := rx
  obtain ⟨t', rfl⟩ := ry
  have n1 : ¬ n < 1 := by omega
  have n2 : ¬ (n == 1 || z.length == 0) = true := by
    rw [Bool.or_eq_true, beq_iff_eq, beq_iff_eq]; omega
  have hr : (decide (n < -(2 ^ 63 : Int)) || decide (n ≥ 2 ^ 63)) = false := by
    rw [decide_eq_false (by omega), decide_eq_false (by omega)]; rfl
  have hm : z.length * n.toNat ≤ 1000 * 1000 := Nat.mul_le_mul h5 (by omega)
  have hl : Builtin.Str.tooLong (z.length * n.toNat) = false := by
    unfold Builtin.Str.tooLong
    have e : sizeLine = 16777216 := sizeLine_eq
    rw [decide_eq_false (by omega)]
  have hb : ¬ ((z.length : Int) > (2 ^ 63 - 1) / n) := by
    have : (1000 : Int) ≤ (2 ^ 63 - 1) / n := by
      rw [Int.le_ediv_iff_mul_le (by omega)]
      omega
    omega
  refine PySem.P.mul_str hr (fun _ _ => hb) (fun _ _ => hl) ?_
  rw [if_neg n1, if_neg n2]
  have hf : ∀ (k : Nat) (acc : Array Nat), ((List.replicate k z.cps).foldl (· ++ ·) acc).toList = acc.toList ++ (List.replicate k z.cps.toList).flatten := by
    intro k
    induction k with
    | zero => intro acc; simp
    | succ k ih =>
      intro acc
      rw [List.replicate_succ, List.foldl_cons, ih, List.replicate_succ, List.flatten_cons, Array.toList_append, List.append_assoc]
  have hr : TL.tl (⟨(List.replicate n.toNat z.cps).foldl (· ++ ·) #[]⟩ : Str) = (List.replicate n.toNat (TL.tl z)).flatten := by
    show ((List.replicate n.toNat z.cps).foldl (· ++ ·) #[]).toList = _
    rw [hf]; rfl
  have hlen : (⟨(List.replicate n.toNat z.cps).foldl (· ++ ·) #[]⟩ : Str).length ≤ sizeLine := by
    rw [TL.len_tl, hr]
    have e : sizeLine = 16777216 := sizeLine_eq
    have z2 : ((List.replicate n.toNat (TL.tl z)).flatten).length = z.length * n.toNat := by
      rw [TL.len_tl]
      generalize n.toNat = k
      induction k with
      | zero => rfl
      | succ k ih => rw [List.replicate_succ, List.flatten_cons, List.length_append, ih, Nat.mul_succ, Nat.add_comm]
    omega
  exact ⟨hlen, .str _, H, I.tok _, ⟨_, rfl⟩, q _ hr⟩
/-- for c in a text -/
theorem for_str {z : Str} {g : TG} {tb : TS} {D : Ends} {σ : St} {H : Hp} (Pv : Nat → St → Hp → Prop) (h0 : Pv 0 σ H)
    (hs : ∀ i c σ H, (TL.tl z)[i]? = some c → Pv i σ H → g (.str ⟨#[c]⟩) σ H fun σ2 H2 => tb { D with nx := Pv (i + 1), ct := Pv (i + 1), bk := D.nx } σ2 H2) (hd : ∀ σ H, Pv (TL.tl z).length σ H → D.nx σ H) :
    ∃ W : Nat → Nat → St → Hp → Prop, (∃ m, W 0 m σ H) ∧ ∀ i m σ H, W i m σ H →
      ((Its z).stop i H ∧ D.nx σ H) ∨ ((Its z).go i H ∧ ∃ N : St → Hp → Prop, (∀ σ' H', N σ' H' → ∃ m', m' < m ∧ W (i + 1) m' σ' H') ∧ ∀ x H', (Its z).yld i H x H' → g x σ H' fun σ2 H2 => tb { D with nx := N, ct := N, bk := D.nx } σ2 H2) := by
  have hl : (TL.tl z).length = z.cps.size := Array.length_toList
  refine ⟨fun i m σ H => m = (TL.tl z).length - i ∧ i ≤ (TL.tl z).length ∧ Pv i σ H, ⟨(TL.tl z).length, rfl, Nat.zero_le _, h0⟩, ?_⟩
  rintro i m σ H ⟨rfl, le1, pv1⟩
  by_cases lt1 : i < (TL.tl z).length
  · refine .inr ⟨(by show i < z.cps.size; omega), Pv (i + 1), fun σ' H' p' => ⟨(TL.tl z).length - (i + 1), by omega, rfl, lt1, p'⟩, fun x H' y => ?_⟩
    obtain ⟨e, c, hc, ex⟩ := y
    subst e
    subst ex
    exact hs i c σ H' (by rw [Array.getElem?_toList]; exact hc) pv1
  · have e : i = (TL.tl z).length := by omega
    subst e
    exact .inl ⟨(by show z.cps.size ≤ _; omega), hd σ H pv1⟩
end
/-! ### heaps -/
/-- all but what stands at p is as it was -/
def But (p : Addr) (H H' : Hp) : Prop := ∀ b o, H b = some o → b ≠ p → H' b = some o
theorem But.refl (p : Addr) (H : Hp) : But p H H := fun _ _ h _ => h
theorem But.trans {p : Addr} {H H1 H2 : Hp} (a : But p H H1) (b : But p H1 H2) : But p H H2 := fun c o h n => b c o (a c o h n) n
theorem But.of {p : Addr} {H H' : Hp} (a : Same H H') : But p H H' := fun c o h _ => a c o h
theorem same_new {H : Hp} {p : Addr} (h : H p = none) (o : HO) : Same H (upd H p o) := fun b u q => by rw [upd_ne (ne_of_none q h)]; exact q
theorem but_upd {H : Hp} {p : Addr} (o : HO) : But p H (upd H p o) := fun b u q n => by rw [upd_ne n]; exact q
theorem same_seqT {K : PySem.W.Frag} {H H' : Hp} {a : Addr} {xs : List V} (e : Same H H') (h : SqT K H a xs) : SqT K H' a xs := by
  rcases h with (h | ⟨o, h⟩) | h
  · exact .inl (.inl (e _ _ h))
  · exact .inl (.inr ⟨o, e _ _ h⟩)
  · exact .inr h
/-- tuples stay where only a list may change -/
theorem But.seqT {K : PySem.W.Frag} {H H' : Hp} {p a : Addr} {xs ys : List V} (e : But p H H') (hp : H p = some (.lst ys)) (h : SqT K H a xs) : SqT K H' a xs := by
  rcases h with (h | ⟨o, h⟩) | h
  · exact .inl (.inl (e _ _ h (ne_of h hp (by intro z; cases z))))
  · exact .inl (.inr ⟨o, e _ _ h (ne_of h hp (by intro z; cases z))⟩)
  · exact .inr h
theorem But.seqL {K : PySem.W.Frag} {H H' : Hp} {p a : Addr} {xs : List V} (e : But p H H') (hp : a ≠ p) (h : SqL K H a xs) : SqL K H' a xs := by
  rcases h with (h | ⟨o, h⟩) | h
  · exact .inl (.inl (e _ _ h hp))
  · exact .inl (.inr ⟨o, e _ _ h hp⟩)
  · exact .inr h
end Mus

set_option maxRecDepth 100000
set_option maxHeartbeats 4000000
/-! Plain data of any kind in the heap, beside one list (the bag, at p) that changes. -/
namespace Mus
open PySem L2
theorem sl : sizeLine = 16777216 := sizeLine_eq
theorem dT {p : Prop} [Decidable p] {A B : Prop} (h : p) (a : A) : if decide p = true then A else B := by
  rw [decide_eq_true h]; exact iteT a
theorem dF {p : Prop} [Decidable p] {A B : Prop} (h : ¬ p) (b : B) : if decide p = true then A else B := by
  rw [decide_eq_false h]; exact iteF b
theorem nT {p : Prop} [Decidable p] {A B : Prop} (h : ¬ p) (a : A) : if (!decide p) = true then A else B := by
  rw [decide_eq_false h]; exact iteT a
theorem nF {p : Prop} [Decidable p] {A B : Prop} (h : p) (b : B) : if (!decide p) = true then A else B := by
  rw [decide_eq_true h]; exact iteF b
theorem at_int {α : Type} {xs : List α} {i : Int} {v : α} (h0 : 0 ≤ i) (h : xs[i.toNat]? = some v) : atI xs i = some v := by
  have e : i = ((i.toNat : Nat) : Int) := by omega
  rw [e]
  exact atI_nat h
theorem pe_const {X : Cx} {x : Str} {i : Int} {pos : Pos} (hm : ∃ t, X.mg x = some (.int i t)) (hg : Gl X x := by rfl) (hd : (x == ("__debug__" : Str)) = false := by decide) : PE X (.Name x pos) (tC (.int i)) := by
  obtain ⟨t, h⟩ := hm
  exact pe_glob hg h ⟨t, rfl⟩ hd
theorem pe_ty {X : Cx} {x : Str} {pos : Pos} (n : String) (hm : X.mg x = none) (hv : bootBuiltins x = some (.type n) := by decide +kernel) (hg : Gl X x := by rfl) (hn : x ≠ "__name__" := by decide) (hd : (x == ("__debug__" : Str)) = false := by decide) : PE X (.Name x pos) (tC (.ty n)) := pe_bltn hg hm hv rfl hn hd
theorem pe_cls {X : Cx} {x : Str} {C : Addr} {pos : Pos} (hm : X.mg x = some (.ref C)) (hg : Gl X x := by rfl) (hd : (x == ("__debug__" : Str)) = false := by decide) : PE X (.Name x pos) (tC (.ref C)) := pe_glob (v := .ref C) hg hm rfl hd
mutual
/-- the value v stands for the data d, all of it tracked and none of it at p -/
inductive Rp (p : Addr) (H : Hp) : V → PyData → Prop
  | non : Rp p H .non .none
  | bl (b : Bool) : Rp p H (.bl b) (.bool b)
  | int (i : Int) : Rp p H (.int i) (.int i)
  | str (x : Str) : Rp p H (.str x) (.str x)
  | lst {a : Addr} {xs : List V} {ds : List PyData} : H a = some (.lst xs) → a ≠ p → Rps p H xs ds → Rp p H (.ref a) (.list ds)
  | tup {a : Addr} {xs : List V} {ds : List PyData} : H a = some (.tup xs) → a ≠ p → xs.length ≤ 100000 → Rps p H xs ds → Rp p H (.ref a) (.tuple ds)
inductive Rps (p : Addr) (H : Hp) : List V → List PyData → Prop
  | nil : Rps p H [] []
  | cons {v : V} {vs : List V} {d : PyData} {ds : List PyData} : Rp p H v d → Rps p H vs ds → Rps p H (v :: vs) (d :: ds)
end
mutual
theorem Rp.mono {p : Addr} {H H' : Hp} (k : But p H H') : ∀ {v : V} {d : PyData}, Rp p H v d → Rp p H' v d
  | _, _, .non => .non
  | _, _, .bl b => .bl b
  | _, _, .int i => .int i
  | _, _, .str x => .str x
  | _, _, .lst h n r => .lst (k _ _ h n) n (Rps.mono k r)
  | _, _, .tup h n l r => .tup (k _ _ h n) n l (Rps.mono k r)
theorem Rps.mono {p : Addr} {H H' : Hp} (k : But p H H') : ∀ {vs : List V} {ds : List PyData}, Rps p H vs ds → Rps p H' vs ds
  | _, _, .nil => .nil
  | _, _, .cons a b => .cons (Rp.mono k a) (Rps.mono k b)
end
mutual
theorem Rp.dp {p : Addr} {K : PySem.W.Frag} {H : Hp} : ∀ {v : V} {d : PyData}, Rp p H v d → Dp K H v d
  | _, _, .non => .non
  | _, _, .bl b => .bl b
  | _, _, .int i => .int i
  | _, _, .str x => .str x
  | _, _, .lst h n r => .lst (SqL.of h) (Rps.dp r)
  | _, _, .tup h n _ r => .tup (SqT.of h) (Rps.dp r)
theorem Rps.dp {p : Addr} {K : PySem.W.Frag} {H : Hp} : ∀ {vs : List V} {ds : List PyData}, Rps p H vs ds → DpAll K H vs ds
  | _, _, .nil => .nil
  | _, _, .cons a b => .cons (Rp.dp a) (Rps.dp b)
end
theorem Rp.same {p : Addr} {H H' : Hp} {v : V} {d : PyData} (k : Same H H') (h : Rp p H v d) : Rp p H' v d := h.mono (But.of k)
theorem Rps.same {p : Addr} {H H' : Hp} {vs : List V} {ds : List PyData} (k : Same H H') (h : Rps p H vs ds) : Rps p H' vs ds := h.mono (But.of k)
theorem Rps.length {p : Addr} {H : Hp} : ∀ {vs : List V} {ds : List PyData}, Rps p H vs ds → vs.length = ds.length
  | _, _, .nil => rfl
  | _, _, .cons _ r => by rw [List.length_cons, List.length_cons, Rps.length r]
theorem Rps.at {p : Addr} {H : Hp} : ∀ {vs : List V} {ds : List PyData} {i : Nat} {v : V}, Rps p H vs ds → vs[i]? = some v → ∃ d, ds[i]? = some d ∧ Rp p H v d
  | _, _, i, v, .nil, h => by simp at h
  | _, _, 0, v, .cons a _, h => by cases h; exact ⟨_, rfl, a⟩
  | _, _, i + 1, v, .cons _ r, h => Rps.at (i := i) r (by simpa using h)
theorem Rps.get {p : Addr} {H : Hp} : ∀ {vs : List V} {ds : List PyData} {i : Nat} {d : PyData}, Rps p H vs ds → ds[i]? = some d → ∃ v, vs[i]? = some v ∧ Rp p H v d
  | _, _, i, v, .nil, h => by simp at h
  | _, _, 0, v, .cons a _, h => by cases h; exact ⟨_, rfl, a⟩
  | _, _, i + 1, v, .cons _ r, h => Rps.get (i := i) r (by simpa using h)
theorem Rps.append {p : Addr} {H : Hp} : ∀ {vs ws : List V} {ds es : List PyData}, Rps p H vs ds → Rps p H ws es → Rps p H (vs ++ ws) (ds ++ es)
  | _, _, _, _, .nil, r => r
  | _, _, _, _, .cons a q, r => .cons a (Rps.append q r)
theorem Rps.take {p : Addr} {H : Hp} : ∀ {vs : List V} {ds : List PyData} (n : Nat), Rps p H vs ds → Rps p H (vs.take n) (ds.take n)
  | _, _, 0, _ => .nil
  | _, _, n + 1, .nil => .nil
  | _, _, n + 1, .cons a q => .cons a (Rps.take n q)
theorem Rps.drop {p : Addr} {H : Hp} : ∀ {vs : List V} {ds : List PyData} (n : Nat), Rps p H vs ds → Rps p H (vs.drop n) (ds.drop n)
  | _, _, 0, r => r
  | _, _, n + 1, .nil => .nil
  | _, _, n + 1, .cons a q => Rps.drop n q
/-! ### classes of data -/
def tyD : PyData → Value
  | .none => .type "NoneType" | .bool _ => .type "bool" | .int _ => .type "int" | .str _ => .type "str" | .list _ => .type "list" | .tuple _ => .type "tuple" | .dict _ => .type "dict"
theorem Rp.ty {p : Addr} {K : PySem.W.Frag} {H : Hp} {v : V} {d : PyData} (h : Rp p H v d) : TyX K H v (tyD d) := by
  cases h with
  | non => exact .base .non
  | bl b => exact .base (.bl b)
  | int i => exact .base (.int i)
  | str x => exact .base (.str x)
  | lst h _ _ => exact .base (.lst h)
  | tup h _ _ _ => exact .base (.tup h)
def dInt : PyData → Bool
  | .int _ => true | .bool _ => true | _ => false
def dBool : PyData → Bool
  | .bool _ => true | _ => false
def dStr : PyData → Bool
  | .str _ => true | _ => false
def dTup : PyData → Bool
  | .tuple _ => true | _ => false
theorem kit_int {K : PySem.W.Frag} : ∀ d : PyData, PySem.W.kitOne K (tyD d) (.type "int") = some (dInt d)
  | .none => kit_ty (r := false) (by decide +kernel)
  | .bool _ => kit_ty (r := true) (by decide +kernel)
  | .int _ => kit_ty (r := true) (by decide +kernel)
  | .str _ => kit_ty (r := false) (by decide +kernel)
  | .list _ => kit_ty (r := false) (by decide +kernel)
  | .tuple _ => kit_ty (r := false) (by decide +kernel)
  | .dict _ => kit_ty (r := false) (by decide +kernel)
theorem kit_bool {K : PySem.W.Frag} : ∀ d : PyData, PySem.W.kitOne K (tyD d) (.type "bool") = some (dBool d)
  | .none => kit_ty (r := false) (by decide +kernel)
  | .bool _ => kit_ty (r := true) (by decide +kernel)
  | .int _ => kit_ty (r := false) (by decide +kernel)
  | .str _ => kit_ty (r := false) (by decide +kernel)
  | .list _ => kit_ty (r := false) (by decide +kernel)
  | .tuple _ => kit_ty (r := false) (by decide +kernel)
  | .dict _ => kit_ty (r := false) (by decide +kernel)
theorem kit_str {K : PySem.W.Frag} : ∀ d : PyData, PySem.W.kitOne K (tyD d) (.type "str") = some (dStr d)
  | .none => kit_ty (r := false) (by decide +kernel)
  | .bool _ => kit_ty (r := false) (by decide +kernel)
  | .int _ => kit_ty (r := false) (by decide +kernel)
  | .str _ => kit_ty (r := true) (by decide +kernel)
  | .list _ => kit_ty (r := false) (by decide +kernel)
  | .tuple _ => kit_ty (r := false) (by decide +kernel)
  | .dict _ => kit_ty (r := false) (by decide +kernel)
theorem kit_tup {K : PySem.W.Frag} : ∀ d : PyData, PySem.W.kitOne K (tyD d) (.type "tuple") = some (dTup d)
  | .none => kit_ty (r := false) (by decide +kernel)
  | .bool _ => kit_ty (r := false) (by decide +kernel)
  | .int _ => kit_ty (r := false) (by decide +kernel)
  | .str _ => kit_ty (r := false) (by decide +kernel)
  | .list _ => kit_ty (r := false) (by decide +kernel)
  | .tuple _ => kit_ty (r := true) (by decide +kernel)
  | .dict _ => kit_ty (r := false) (by decide +kernel)
end Mus
namespace Mus
open PySem L2
/-! ### members and view ids, as functions of data -/
def isInt (d : PyData) (a b : Int) : Bool := match d with | .int i => decide (a ≤ i) && decide (i ≤ b) | _ => false
def isProc (c d : PyData) : Bool := match c with | .int n => (decide (1 ≤ n) && decide (n ≤ 12)) && isInt d 0 (n - 1) | _ => false
def isMem (c : PyData) : PyData → Bool
  | .tuple [x, y] => isProc c x && isInt y 1 1000000000000
  | _ => false
def isVid (c : PyData) : PyData → Bool
  | .tuple [x, y] => isInt x 0 1000000000000 && isMem c y
  | _ => false
def procOf : PyData → Int
  | .tuple (.int i :: _) => i
  | _ => 0
def memsFrom (c : PyData) : Int → List PyData → Bool
  | _, [] => true
  | l, d :: ds => isMem c d && decide (l < procOf d) && memsFrom c (procOf d) ds
def isMems (c : PyData) : PyData → Bool
  | .tuple ds => !ds.isEmpty && memsFrom c (-1) ds
  | _ => false
theorem isProc_int {c d : PyData} (h : isProc c d = true) : ∃ n i, c = .int n ∧ d = .int i ∧ 1 ≤ n ∧ n ≤ 12 ∧ 0 ≤ i ∧ i < n := by
  cases c <;> try (simp [isProc] at h; done)
  rename_i n
  cases d <;> try (simp [isProc, isInt] at h; done)
  rename_i i
  simp [isProc, isInt] at h
  exact ⟨n, i, rfl, rfl, by omega, by omega, by omega, by omega⟩
theorem isInt_int {d : PyData} {a b : Int} (h : isInt d a b = true) : ∃ i, d = .int i ∧ a ≤ i ∧ i ≤ b := by
  cases d <;> try (simp [isInt] at h; done)
  rename_i i
  simp [isInt] at h
  exact ⟨i, rfl, h.1, h.2⟩
theorem isMem_int {c d : PyData} (h : isMem c d = true) : ∃ n i l, c = .int n ∧ d = .tuple [.int i, .int l] ∧ 1 ≤ n ∧ n ≤ 12 ∧ 0 ≤ i ∧ i < n ∧ 1 ≤ l ∧ l ≤ 1000000000000 := by
  unfold isMem at h
  split at h
  · rename_i x y
    rw [Bool.and_eq_true] at h
    obtain ⟨n, i, rfl, rfl, h1, h2, h3, h4⟩ := isProc_int h.1
    obtain ⟨l, rfl, h5, h6⟩ := isInt_int h.2
    exact ⟨n, i, l, rfl, rfl, h1, h2, h3, h4, h5, h6⟩
  · cases h
/-! ### promises: a truth told of data, nothing changed -/
def spI : Sp := fun vs H Q _ => ∃ (p : Addr) (v : V) (d : PyData) (a b : Int), vs = [v, .int a, .int b] ∧ Rp p H v d ∧ Q (.bl (isInt d a b)) H
def spB1 (f : PyData → Bool) : Sp := fun vs H Q _ => ∃ (p : Addr) (v : V) (d : PyData), vs = [v] ∧ Rp p H v d ∧ Q (.bl (f d)) H
def spB2 (f : PyData → PyData → Bool) : Sp := fun vs H Q _ => ∃ (p : Addr) (u v : V) (c d : PyData), vs = [u, v] ∧ Rp p H u c ∧ Rp p H v d ∧ Q (.bl (f c d)) H
/-- the same where new things may have come -/
def spS1 (f : PyData → Bool) : Sp := fun vs H Q _ => ∃ (p : Addr) (v : V) (d : PyData), vs = [v] ∧ Rp p H v d ∧ ∀ H', Same H H' → Q (.bl (f d)) H'
def spS2 (f : PyData → PyData → Bool) : Sp := fun vs H Q _ => ∃ (p : Addr) (u v : V) (c d : PyData), vs = [u, v] ∧ Rp p H u c ∧ Rp p H v d ∧ ∀ H', Same H H' → Q (.bl (f c d)) H'
theorem ansB {Q : VK} {H : Hp} {b c : Bool} (q : Q (.bl b) H) (e : b = c) : Q (.bl c) H := e ▸ q
theorem iB {A B : Prop} {b : Bool} (h1 : b = true → A) (h2 : b = false → B) : if b = true then A else B := by
  cases b
  · exact iteF (h2 rfl)
  · exact iteT (h1 rfl)
theorem vint_ne {a b : Int} (h : a ≠ b) : ¬ V.int a = V.int b := fun e => h (V.int.inj e)
theorem drop_cons {α : Type} {xs : List α} {i : Nat} {x : α} (h : xs[i]? = some x) : xs.drop i = x :: xs.drop (i + 1) := by
  obtain ⟨hi, e⟩ := List.getElem?_eq_some_iff.mp h
  rw [List.drop_eq_getElem_cons hi, e]
section
variable {P : Program} {w : World} {K : PySem.W.Frag} {mg : Str → Option Value} {base : Heap}
theorem no_call {CX : CXT} {k : Nat} {f : Addr} {fd : FuncData} {ps : List Str} {sp : Sp} (no : ∀ vs H Q E, ¬ sp vs H Q E) : FnOk P w K mg base CX k f fd ps sp :=
  ⟨fun vs H Q E h => absurd h (no vs H Q E), fun A outer s H args us vs Q E _ _ _ _ h => absurd h (no vs H Q E)⟩
end
end Mus

set_option maxRecDepth 100000
set_option maxHeartbeats 4000000
/-! The bag of a law's draws, new things beside it, displays of data, tuples cut and joined. -/
namespace Mus
open PySem L2
def Bag (p : Addr) (c : Int) (H : Hp) : Prop := ∃ x y : Int, H p = some (.lst [.int x, .int y, .int c])
theorem Bag.seqT {K : PySem.W.Frag} {p : Addr} {c : Int} {H H' : Hp} (g : Bag p c H) (b : But p H H') {a : Addr} {xs : List V} (h : SqT K H a xs) : SqT K H' a xs := by
  obtain ⟨x, y, hp⟩ := g
  exact b.seqT hp h
theorem Bag.ne {p D : Addr} {c : Int} {H : Hp} (g : Bag p c H) (h : H D = none) : p ≠ D := by
  obtain ⟨x, y, hp⟩ := g
  exact ne_of_none hp h
theorem Bag.upd {p D : Addr} {c : Int} {H : Hp} {o : HO} (g : Bag p c H) (h : p ≠ D) : Bag p c (upd H D o) := by
  obtain ⟨x, y, hp⟩ := g
  exact ⟨x, y, by rw [upd_ne h]; exact hp⟩
theorem Bag.new {p D : Addr} {c : Int} {H : Hp} {o : HO} (g : Bag p c H) (h : H D = none) : Bag p c (L2.upd H D o) := g.upd (g.ne h)
theorem Bag.same {p : Addr} {c : Int} {H H' : Hp} (g : Bag p c H) (s : Same H H') : Bag p c H' := by
  obtain ⟨x, y, hp⟩ := g
  exact ⟨x, y, s _ _ hp⟩
/-- a new thing -/
theorem But.new {p D : Addr} {H H' : Hp} {o : HO} (b : But p H H') (h : H' D = none) : But p H (L2.upd H' D o) := fun a u e n => by
  have z := b a u e n
  rw [upd_ne (ne_of_none z h)]; exact z
/-- a change at what was not there at first -/
theorem But.later {p D : Addr} {H H' : Hp} {o : HO} (b : But p H H') (h : H D = none) : But p H (L2.upd H' D o) := fun a u e n => by
  rw [upd_ne (ne_of_none e h)]; exact b a u e n
theorem But.free {p D : Addr} {H H' : Hp} (b : But p H H') (h : H' D = none) (n : D ≠ p) : H D = none := by
  cases e : H D with
  | none => rfl
  | some o =>
    have z := b D o e n
    rw [h] at z; cases z
/-! ### displays -/
/-- the expression gives the int i, and that is all -/
def DI (te : TE) (σ : St) (i : Int) : Prop := ∀ (H : Hp) (Q : VK), Q (.int i) H → te σ H Q
/-- the expression gives the data d, new things beside what was -/
def DE (p : Addr) (te : TE) (σ : St) (d : PyData) : Prop := ∀ (c : Int) (H : Hp) (Q : VK), Bag p c H → (∀ v H', Same H H' → Bag p c H' → Rp p H' v d → Q v H') → te σ H Q
def DEs (p : Addr) (ta : TA) (σ : St) (ds : List PyData) : Prop := ∀ (c : Int) (H : Hp) (Q : List V → Hp → Prop), Bag p c H → (∀ vs H', Same H H' → Bag p c H' → Rps p H' vs ds → Q vs H') → ta σ H Q
section
variable {p : Addr} {σ : St} {te ta1 tb1 : TE} {ta : TA} {i j : Int} {d : PyData} {ds : List PyData}
theorem Same.rfl' (H : Hp) : Same H H := fun _ _ h => h
theorem di_c : DI (tC (.int i)) σ i := fun _ _ q => q
theorem di_v {n : Nat} (h : σ[n]? = some (some (.int i))) : DI (tVar n) σ i := fun _ _ q => ⟨_, h, q⟩
theorem di_op {f : Int → Int → Int} (h1 : DI ta1 σ i) (h2 : DI tb1 σ j) : DI (tOp (rI0 fun i j => .int (f i j)) ta1 tb1) σ (f i j) := fun H Q q => h1 H _ (h2 H _ ⟨i, j, rfl, rfl, q⟩)
theorem di_opC {C : Int → Int → Prop} {f : Int → Int → Int} (h1 : DI ta1 σ i) (h2 : DI tb1 σ j) (hc : C i j) : DI (tOp (rI C fun i j => .int (f i j)) ta1 tb1) σ (f i j) := fun H Q q => h1 H _ (h2 H _ ⟨i, j, rfl, rfl, hc, q⟩)
theorem di_neg (h1 : DI te σ i) : DI (tUn (rU fun i => .int (-i)) te) σ (-i) := fun H Q q => h1 H _ ⟨i, rfl, q⟩
theorem de_i (h : DI te σ i) : DE p te σ (.int i) := fun c H Q g q => h H Q (q _ H (Same.rfl' H) g (.int i))
theorem de_bl {b : Bool} : DE p (tC (.bl b)) σ (.bool b) := fun c H Q g q => q _ H (Same.rfl' H) g (.bl b)
theorem de_str {z : Str} : DE p (tC (.str z)) σ (.str z) := fun c H Q g q => q _ H (Same.rfl' H) g (.str z)
theorem de_non : DE p (tC .non) σ .none := fun c H Q g q => q _ H (Same.rfl' H) g .non
theorem des_nil : DEs p tNil σ [] := fun c H Q g q => q [] H (Same.rfl' H) g .nil
theorem des_cons (h1 : DE p te σ d) (h2 : DEs p ta σ ds) : DEs p (tCons te ta) σ (d :: ds) := fun c H Q g q =>
  h1 c H _ g fun v H1 s1 g1 r1 => h2 c H1 _ g1 fun vs H2 s2 g2 r2 => q _ H2 (s1.trans s2) g2 (.cons (r1.same s2) r2)
theorem de_tup (h : DEs p ta σ ds) (hl : ds.length ≤ 1000) : DE p (tTup ta) σ (.tuple ds) := fun c H Q g q =>
  h c H _ g fun vs H1 s1 g1 r1 => ⟨by have := r1.length; have := sl; omega, fun a na => q _ _ (s1.trans (same_new na _)) (g1.new na) (.tup upd_same (g1.ne na).symm (by have := r1.length; omega) (r1.same (same_new na _)))⟩
theorem de_lst (h : DEs p ta σ ds) (hl : ds.length ≤ 1000) : DE p (tLst ta) σ (.list ds) := fun c H Q g q =>
  h c H _ g fun vs H1 s1 g1 r1 => ⟨by have := r1.length; have := sl; omega, fun a na => q _ _ (s1.trans (same_new na _)) (g1.new na) (.lst upd_same (g1.ne na).symm (r1.same (same_new na _)))⟩
theorem de_lstN (n : Nat) (R : PyData → Prop) {c : Int} {H : Hp} {Q : VK} (h : ∃ ds, DEs p ta σ ds ∧ ds.length = n ∧ ∀ d ∈ ds, R d) (hn : n ≤ 1000) (g : Bag p c H)
    (q : ∀ ds v H', ds.length = n → (∀ d ∈ ds, R d) → Same H H' → Bag p c H' → Rp p H' v (.list ds) → Q v H') : tLst ta σ H Q := by
  obtain ⟨ds, h1, h2, h3⟩ := h
  exact de_lst h1 (by omega) c H Q g fun v H' => q ds v H' h2 h3
theorem de_cat {es : List PyData} (h1 : DE p ta1 σ (.list ds)) (h2 : DE p tb1 σ (.list es)) (hl : ds.length + es.length ≤ 1000) : DE p (tOp rCat ta1 tb1) σ (.list (ds ++ es)) := fun c H Q g q =>
  h1 c H _ g fun v H1 s1 g1 r1 => h2 c H1 _ g1 fun u H2 s2 g2 r2 => by
    obtain _ | _ | _ | _ | @⟨a, xs, _, ha, na, hr⟩ | _ := r1.same s2
    obtain _ | _ | _ | _ | @⟨b, ys, _, hb, nb, hr2⟩ | _ := r2
    refine ⟨a, b, xs, ys, rfl, rfl, ha, hb, ?_, fun t nt => q _ _ (s1.trans (s2.trans (same_new nt _))) (g2.new nt) (.lst upd_same (g2.ne nt).symm ((hr.append hr2).same (same_new nt _)))⟩
    have := hr.length; have := hr2.length; have := sl; omega
theorem de_varD {n : Nat} {v : V} (h : σ[n]? = some (some v)) (hd : ∀ H, Rp p H v d) : DE p (tVar n) σ d := fun c H Q g q => ⟨_, h, q _ H (Same.rfl' H) g (hd H)⟩
end
/-! ### tuples cut and joined -/
def cutD (ds : List PyData) (lo hi : Option Int) : List PyData := (ds.drop (HT.sIx ds.length 0 lo)).take (HT.sIx ds.length ds.length hi - HT.sIx ds.length 0 lo)
theorem Rps.cut {p : Addr} {H : Hp} {vs : List V} {ds : List PyData} (r : Rps p H vs ds) (lo hi : Option Int) : Rps p H (cutV vs lo hi) (cutD ds lo hi) := by
  unfold cutV cutD
  rw [r.length]
  exact (r.drop _).take _
theorem cutD_len (ds : List PyData) (lo hi : Option Int) : (cutD ds lo hi).length ≤ ds.length := by
  unfold cutD
  rw [List.length_take, List.length_drop]; omega
theorem cutD_mem {ds : List PyData} {lo hi : Option Int} {d : PyData} (h : d ∈ cutD ds lo hi) : d ∈ ds := List.mem_of_mem_drop (List.mem_of_mem_take h)
theorem cut_whole {xs : List V} {lo hi : Option Int} (h : HT.sIx xs.length 0 lo = 0 ∧ HT.sIx xs.length xs.length hi = xs.length) : cutV xs lo hi = xs := by
  unfold cutV
  rw [h.1, h.2, List.drop_zero, Nat.sub_zero, List.take_length]
section
variable {K : PySem.W.Frag} {p : Addr} {c : Int} {H : Hp} {Q : VK}
theorem rd_cut {a : Addr} {ds : List PyData} {lo hi : Option Int} (r : Rp p H (.ref a) (.tuple ds)) (g : Bag p c H)
    (q : ∀ b H', Same H H' → Bag p c H' → Rp p H' (.ref b) (.tuple (cutD ds lo hi)) → Q (.ref b) H') : rSlA K (.ref a) lo hi H Q := by
  obtain _ | _ | _ | _ | _ | @⟨_, xs, _, ha, na, hw, hr⟩ := r
  refine ⟨a, xs, rfl, SqT.of ha, fun w => ?_, fun w b nb => ?_⟩
  · refine q _ _ (Same.rfl' H) g (.tup ha na hw ?_)
    have z := hr.cut lo hi
    rw [cut_whole w] at z
    exact z
  · exact q _ _ (same_new nb _) (g.new nb) (.tup upd_same (g.ne nb).symm (Nat.le_trans (cutV_length _ _ _) hw) ((hr.cut lo hi).same (same_new nb _)))
theorem rd_cat {a b : Addr} {ds es : List PyData} (r1 : Rp p H (.ref a) (.tuple ds)) (r2 : Rp p H (.ref b) (.tuple es)) (g : Bag p c H) (hl : ds.length + es.length ≤ 100000)
    (q : ∀ t H', Same H H' → Bag p c H' → Rp p H' (.ref t) (.tuple (ds ++ es)) → Q (.ref t) H') : rCatA K (.ref a) (.ref b) H Q := by
  have k2 := r2
  have k1 := r1
  obtain _ | _ | _ | _ | _ | @⟨_, xs, _, ha, na, hw, hr⟩ := r1
  obtain _ | _ | _ | _ | _ | @⟨_, ys, _, hb, nb, hw2, hr2⟩ := r2
  have l1 := hr.length
  have l2 := hr2.length
  have hs := sl
  refine ⟨a, b, xs, ys, rfl, rfl, SqT.of ha, SqT.of hb, by omega, fun e => ?_, fun _ e => ?_, fun _ _ t nt => ?_⟩
  · subst e
    cases ds with
    | nil => exact q _ _ (Same.rfl' H) g k2
    | cons _ _ => cases l1
  · subst e
    cases es with
    | nil => rw [List.append_nil] at q; exact q _ _ (Same.rfl' H) g k1
    | cons _ _ => cases l2
  · exact q _ _ (same_new nt _) (g.new nt) (.tup upd_same (g.ne nt).symm (by rw [List.length_append]; omega) ((hr.append hr2).same (same_new nt _)))
end
/-! ### how deep and wide, what its texts are -/
def fit : Nat → PyData → Prop
  | 0, .tuple _ => False
  | n + 1, .tuple ds => ds.length ≤ 3000 ∧ ∀ d ∈ ds, fit n d
  | _, _ => True
inductive Her (P : Str → Prop) : PyData → Prop
  | tup {ds : List PyData} : (∀ d ∈ ds, Her P d) → Her P (.tuple ds)
  | str {z : Str} : P z → Her P (.str z)
  | non : Her P .none
  | bl (b : Bool) : Her P (.bool b)
  | int (i : Int) : Her P (.int i)
  | lst (ds : List PyData) : Her P (.list ds)
theorem Her.mem {P : Str → Prop} {ds : List PyData} (h : Her P (.tuple ds)) : ∀ d ∈ ds, Her P d := by
  cases h with
  | tup h => exact h
theorem Her.cut {P : Str → Prop} {ds : List PyData} (h : Her P (.tuple ds)) (lo hi : Option Int) : Her P (.tuple (cutD ds lo hi)) := .tup fun d m => h.mem d (cutD_mem m)
theorem Her.app {P : Str → Prop} {ds es : List PyData} (h : Her P (.tuple ds)) (k : Her P (.tuple es)) : Her P (.tuple (ds ++ es)) := .tup fun d m => by
  rcases List.mem_append.mp m with m | m
  · exact h.mem d m
  · exact k.mem d m
theorem Her.one {P : Str → Prop} {d : PyData} (h : Her P d) : Her P (.tuple [d]) := .tup fun e m => by rw [List.mem_singleton.mp m]; exact h
/-- one level less, if there is one -/
def spv (sp : Nat → Sp) (n : Nat) : Sp := fun vs H Q E => ∃ m, n = m + 1 ∧ sp m vs H Q E
/-- a thing spoilt: some data, its texts from the two -/
def sp_spoilt (n : Nat) : Sp := fun vs H Q _ => ∃ (p : Addr) (c : Int) (v o : V) (d e : PyData), vs = [.ref p, v, o] ∧ Bag p c H ∧ Rp p H v d ∧ Rp p H o e ∧ fit n d ∧
  ∀ v' d' H', Rp p H' v' d' → (∀ P, Her P d → Her P e → Her P d') → But p H H' → Bag p c H' → Q v' H'
def sp_bag (K : PySem.W.Frag) : Sp := fun vs H Q _ => ∃ (a : Addr) (ns : List Int) (k : Nat), vs = [.ref a, .int k] ∧ SqL K H a (ns.map V.int) ∧ ∀ p H', H p = none → Same H H' → Bag p k H' → Q (.ref p) H'
def sp_draw : Sp := fun vs H Q _ => ∃ (p : Addr) (c m : Int), vs = [.ref p, .int m] ∧ Bag p c H ∧ 0 < m ∧ m.natAbs < 2 ^ 100 ∧ ∀ r H', 0 ≤ r → r < m → But p H H' → Bag p c H' → Q (.int r) H'
/-- an int at least 1 and at most 10 ** 12 -/
def sp_pos : Sp := fun vs H Q _ => ∃ (p : Addr) (c : Int), vs = [.ref p] ∧ Bag p c H ∧ ∀ r H', 1 ≤ r → r ≤ 1000000000000 → But p H H' → Bag p c H' → Q (.int r) H'
end Mus
namespace Mus
open PySem L2
/-- no list in it -/
inductive NoL : PyData → Prop
  | tup {ds : List PyData} : (∀ d ∈ ds, NoL d) → NoL (.tuple ds)
  | str (z : Str) : NoL (.str z)
  | non : NoL .none
  | bl (b : Bool) : NoL (.bool b)
  | int (i : Int) : NoL (.int i)
theorem NoL.mem {ds : List PyData} (h : NoL (.tuple ds)) : ∀ d ∈ ds, NoL d := by
  cases h with
  | tup h => exact h
theorem NoL.two {a b : PyData} (h : NoL a) (k : NoL b) : NoL (.tuple [a, b]) := .tup fun d m => by
  rcases List.mem_cons.mp m with rfl | m
  · exact h
  · rw [List.mem_singleton.mp m]; exact k
theorem NoL.three {a b c : PyData} (h : NoL a) (k : NoL b) (l : NoL c) : NoL (.tuple [a, b, c]) := .tup fun d m => by
  rcases List.mem_cons.mp m with rfl | m
  · exact h
  · rcases List.mem_cons.mp m with rfl | m
    · exact k
    · rw [List.mem_singleton.mp m]; exact l
mutual
theorem Rp.upL {p D : Addr} {H H' : Hp} {ys : List V} (hD : H D = some (.lst ys)) (k : ∀ b o, H b = some o → b ≠ p → b ≠ D → H' b = some o) : ∀ {v : V} {d : PyData}, Rp p H v d → NoL d → Rp p H' v d
  | _, _, .non, _ => .non
  | _, _, .bl b, _ => .bl b
  | _, _, .int i, _ => .int i
  | _, _, .str x, _ => .str x
  | _, _, .lst h n r, z => nomatch z
  | _, _, .tup h n l r, z => .tup (k _ _ h n (ne_of h hD (by intro z; cases z))) n l (Rps.upL hD k r z.mem)
theorem Rps.upL {p D : Addr} {H H' : Hp} {ys : List V} (hD : H D = some (.lst ys)) (k : ∀ b o, H b = some o → b ≠ p → b ≠ D → H' b = some o) : ∀ {vs : List V} {ds : List PyData}, Rps p H vs ds → (∀ d ∈ ds, NoL d) → Rps p H' vs ds
  | _, _, .nil, _ => .nil
  | _, _, .cons a b, z => .cons (Rp.upL hD k a (z _ List.mem_cons_self)) (Rps.upL hD k b fun d m => z d (List.mem_cons_of_mem _ m))
end
/-- a change at the list at D -/
theorem Rps.updL {p D : Addr} {H : Hp} {ys : List V} {o : HO} (hD : H D = some (.lst ys)) {vs : List V} {ds : List PyData} (r : Rps p H vs ds) (z : ∀ d ∈ ds, NoL d) : Rps p (upd H D o) vs ds :=
  r.upL hD (fun b o h _ n => by rw [upd_ne n]; exact h) z
theorem Rp.updL {p D : Addr} {H : Hp} {ys : List V} {o : HO} (hD : H D = some (.lst ys)) {v : V} {d : PyData} (r : Rp p H v d) (z : NoL d) : Rp p (upd H D o) v d :=
  r.upL hD (fun b o h _ n => by rw [upd_ne n]; exact h) z
end Mus

set_option maxRecDepth 100000
set_option maxHeartbeats 4000000
/-! The texts of lives, as lists of signs. -/
namespace Mus
open PySem L2 TL PySem.NumText
def allD (l : List Nat) : Bool := l.all fun c => decide (48 ≤ c) && decide (c ≤ 57)
theorem allD_iff {l : List Nat} : allD l = true ↔ AllDigits l := by
  unfold allD AllDigits
  rw [List.all_eq_true]
  constructor
  · intro h c hc
    have := h c hc
    rw [Bool.and_eq_true, decide_eq_true_eq, decide_eq_true_eq] at this
    exact this
  · intro h c hc
    rw [Bool.and_eq_true, decide_eq_true_eq, decide_eq_true_eq]
    exact h c hc
/-- the text of a life -/
def lifeT (n : Nat) : List Nat := numL n ++ 61 :: numL n
/-- the life of a text, or 0 -/
def lifeF (l : List Nat) : Nat :=
  if (l.takeWhile fun c => decide (c ≠ 61)).length ≤ 13 ∧ allD (l.takeWhile fun c => decide (c ≠ 61)) = true ∧ (l.takeWhile fun c => decide (c ≠ 61)) ≠ [] then
    (if 1 ≤ digitsVal (l.takeWhile fun c => decide (c ≠ 61)) ∧ digitsVal (l.takeWhile fun c => decide (c ≠ 61)) ≤ 1000000000000 ∧ lifeT (digitsVal (l.takeWhile fun c => decide (c ≠ 61))) = l then digitsVal (l.takeWhile fun c => decide (c ≠ 61)) else 0)
  else 0
theorem lifeF_ne {l : List Nat} (h : lifeF l ≠ 0) : ∃ n, l = lifeT n ∧ 1 ≤ n ∧ n ≤ 1000000000000 ∧ lifeF l = n := by
  unfold lifeF at h ⊢
  by_cases h1 : (l.takeWhile fun c => decide (c ≠ 61)).length ≤ 13 ∧ allD (l.takeWhile fun c => decide (c ≠ 61)) = true ∧ (l.takeWhile fun c => decide (c ≠ 61)) ≠ []
  · rw [if_pos h1] at h ⊢
    by_cases h2 : 1 ≤ digitsVal (l.takeWhile fun c => decide (c ≠ 61)) ∧ digitsVal (l.takeWhile fun c => decide (c ≠ 61)) ≤ 1000000000000 ∧ lifeT (digitsVal (l.takeWhile fun c => decide (c ≠ 61))) = l
    · rw [if_pos h2] at h ⊢
      exact ⟨_, h2.2.2.symm, h2.1, h2.2.1, rfl⟩
    · rw [if_neg h2] at h; exact absurd rfl h
  · rw [if_neg h1] at h; exact absurd rfl h
theorem take_free {d r : List Nat} (h : 61 ∉ d) : (d ++ 61 :: r).takeWhile (fun c => decide (c ≠ 61)) = d := by
  induction d with
  | nil => simp [List.takeWhile]
  | cons c d ih =>
    have hc : c ≠ 61 := fun e => h (by rw [e]; exact List.mem_cons_self)
    rw [List.cons_append, List.takeWhile_cons, decide_eq_true hc, if_pos rfl, ih fun m => h (List.mem_cons_of_mem _ m)]
theorem dig_free {d : List Nat} (h : AllDigits d) : 61 ∉ d := fun m => by have := h 61 m; omega
theorem numL_head0 : ∀ n : Nat, 1 ≤ n → ∃ c r, numL n = c :: r ∧ 49 ≤ c := by
  intro n
  induction n using Nat.strongRecOn with
  | _ n ih =>
    intro h
    by_cases h10 : n < 10
    · exact ⟨48 + n, [], numL_lt h10, by omega⟩
    · obtain ⟨c, r, e, hc⟩ := ih (n / 10) (by omega) (by omega)
      exact ⟨c, r ++ [48 + n % 10], by rw [numL_step (by omega), e, List.cons_append], hc⟩
theorem map_chars : ∀ {l : List Nat}, AllDigits l → (l.map Char.ofNat).map Char.toNat = l
  | [], _ => rfl
  | c :: l, h => by
    have hc := h.head
    have e : (Char.ofNat c).toNat = c := by
      have : c = 48 ∨ c = 49 ∨ c = 50 ∨ c = 51 ∨ c = 52 ∨ c = 53 ∨ c = 54 ∨ c = 55 ∨ c = 56 ∨ c = 57 := by omega
      rcases this with rfl | rfl | rfl | rfl | rfl | rfl | rfl | rfl | rfl | rfl <;> decide
    rw [List.map_cons, List.map_cons, e, map_chars h.tail]
theorem numL_back {d : List Nat} (h : AllDigits d) {c : Nat} {r : List Nat} (e : d = c :: r) (hc : 49 ≤ c) : numL (digitsVal d) = d := by
  unfold numL
  rw [toDigits_digitsVal r.length d (by rw [e]; rfl) h (.inr ⟨c, r, e, hc⟩), map_chars h]
theorem lifeF_T {n : Nat} (h1 : 1 ≤ n) (h2 : n ≤ 1000000000000) : lifeF (lifeT n) = n := by
  unfold lifeF lifeT
  rw [take_free (dig_free (numL_digits n)), numL_val]
  have hl : (numL n).length ≤ 13 := numL_len (k := 13) (by decide) (by omega)
  rw [if_pos ⟨hl, allD_iff.mpr (numL_digits n), numL_ne n⟩, if_pos ⟨h1, h2, rfl⟩]
theorem lifeF_big {n : Nat} (h : n = 0 ∨ 1000000000000 < n) : lifeF (lifeT n) = 0 := by
  cases e : lifeF (lifeT n) with
  | zero => rfl
  | succ k =>
    exfalso
    obtain ⟨m, e1, e2, e3, _⟩ := lifeF_ne (l := lifeT n) (by rw [e]; simp)
    have hl := congrArg List.length e1
    unfold lifeT at e1 hl
    rw [List.length_append, List.length_append, List.length_cons, List.length_cons] at hl
    have := (List.append_inj e1 (by omega)).1
    have := numL_inj this
    omega
/-- the law's way -/
def chk (d : List Nat) : Nat := if allD d = true then (if d.length > 13 ∨ d.head? = some 48 ∨ digitsVal d > 1000000000000 then 0 else digitsVal d) else 0
def Half (l : List Nat) (k : Nat) : Prop := l[k]? = some 61 ∧ l.take k = l.drop (k + 1)
theorem half_eq {l : List Nat} {k : Nat} (h : Half l k) : l = l.take k ++ 61 :: l.take k := by
  obtain ⟨h1, h2⟩ := h
  obtain ⟨hk, e⟩ := List.getElem?_eq_some_iff.mp h1
  have e2 := List.take_append_drop k l
  rw [List.drop_eq_getElem_cons hk, e, ← h2] at e2
  exact e2.symm
theorem halves {d e : List Nat} (h : d ++ 61 :: d = e ++ 61 :: e) : d = e := by
  have hl := congrArg List.length h
  rw [List.length_append, List.length_append, List.length_cons, List.length_cons] at hl
  exact (List.append_inj h (by omega)).1
theorem due_yes {l : List Nat} {k : Nat} (h1 : 1 ≤ k) (hk : k < l.length) (h : Half l k) : chk (l.take k) = lifeF l := by
  have e := half_eq h
  have hlen : (l.take k).length = k := by rw [List.length_take]; omega
  generalize l.take k = d at e hlen
  subst e
  cases hd : allD d with
  | false =>
    have e1 : chk d = 0 := by unfold chk; rw [hd]; rfl
    rw [e1]
    cases e2 : lifeF (d ++ 61 :: d) with
    | zero => rfl
    | succ m =>
      exfalso
      obtain ⟨n, e3, _⟩ := lifeF_ne (l := d ++ 61 :: d) (by rw [e2]; simp)
      have := halves e3
      rw [this, allD_iff.mpr (numL_digits n)] at hd
      cases hd
  | true =>
    have ad := allD_iff.mp hd
    have tw := take_free (r := d) (dig_free ad)
    have dne : d ≠ [] := fun z => by rw [z] at hlen; simp at hlen; omega
    unfold chk lifeF
    rw [tw, hd, if_pos rfl]
    by_cases h13 : d.length ≤ 13
    · rw [if_pos (show d.length ≤ 13 ∧ true = true ∧ d ≠ [] from ⟨h13, rfl, dne⟩)]
      obtain ⟨c, r, ec⟩ : ∃ c r, d = c :: r := by
        cases d with
        | nil => exact absurd rfl dne
        | cons c r => exact ⟨c, r, rfl⟩
      have hc := ad c (by rw [ec]; exact List.mem_cons_self)
      by_cases h48 : c = 48
      · rw [if_pos (.inr (.inl (by rw [ec, h48]; rfl)))]
        rw [if_neg]
        rintro ⟨q1, _, q3⟩
        have e5 := halves q3
        obtain ⟨c', r', e6, e7⟩ := numL_head0 _ q1
        rw [e5, ec] at e6
        cases e6
        omega
      · by_cases hv : digitsVal d > 1000000000000
        · rw [if_pos (.inr (.inr hv)), if_neg (by rintro ⟨_, q2, _⟩; omega)]
        · have e8 := numL_back ad ec (by omega)
          have n1 : ¬ (d.length > 13 ∨ d.head? = some 48 ∨ digitsVal d > 1000000000000) := by
            rintro (q | q | q)
            · omega
            · rw [ec] at q; simp at q; exact h48 q
            · exact hv q
          have n2 : 1 ≤ digitsVal d ∧ digitsVal d ≤ 1000000000000 ∧ lifeT (digitsVal d) = d ++ 61 :: d := by
            refine ⟨?_, by omega, ?_⟩
            · rw [ec]; exact digitsVal_pos (by omega)
            · unfold lifeT; rw [e8]
          rw [if_neg n1, if_pos n2]
    · rw [if_pos (.inl (by omega)), if_neg (by rintro ⟨q, _⟩; exact h13 q)]
theorem due_no {l : List Nat} (h : ∀ k, 1 ≤ k → k < l.length → ¬ Half l k) : lifeF l = 0 := by
  cases e2 : lifeF l with
  | zero => rfl
  | succ m =>
    exfalso
    obtain ⟨n, e3, _⟩ := lifeF_ne (l := l) (by rw [e2]; simp)
    have hp : 1 ≤ (numL n).length := List.length_pos_iff.mpr (numL_ne n)
    refine h (numL n).length hp ?_ ⟨?_, ?_⟩
    · rw [e3]; unfold lifeT; rw [List.length_append, List.length_cons]; omega
    · rw [e3]; unfold lifeT; rw [List.getElem?_append_right (Nat.le_refl _), Nat.sub_self]; rfl
    · rw [e3]; unfold lifeT
      rw [List.take_left, ← List.drop_drop, List.drop_left]; rfl
end Mus

set_option maxRecDepth 100000
set_option maxHeartbeats 4000000
/-! Methods and makers of own classes, as DefOk is for defs. -/
namespace Mus
open PySem L2
structure MethOk (P : Program) (w : World) (K : PySem.W.Frag) (mg : Str → Option Value) (base : Heap) (CX : CXT) (C : Addr) (x : Str) (ps : List Str) (k : Nat) (sp : Sp) where
  f : Addr
  fd : FuncData
  G : FnOk P w K mg base CX k f fd ps sp
  m : Meth K C x f
  b : Binds K fd ps []
structure MethAt (K : PySem.W.Frag) (C : Addr) (x qual : Str) (ps : List Str) (st : Stmt) where
  f : Addr
  fd : FuncData
  F : Fun K x qual st f fd
  m : Meth K C x f
  b : Binds K fd ps []
def MethAt.ok {P : Program} {w : World} {K : PySem.W.Frag} {mg : Str → Option Value} {base : Heap} {CX : CXT} {C : Addr} {x qual : Str} {ps : List Str} {st : Stmt} {k : Nat} {sp : Sp} (d : MethAt K C x qual ps st) (h : ∀ {f : Addr} {fd : FuncData}, Fun K x qual st f fd → FnOk P w K mg base CX k f fd ps sp) : MethOk P w K mg base CX C x ps k sp :=
  ⟨d.f, d.fd, h d.F, d.m, d.b⟩
/-- a class whose __init__ keeps the promise -/
structure MkOk (P : Program) (w : World) (K : PySem.W.Frag) (mg : Str → Option Value) (base : Heap) (C : Addr) (x : Str) (ps : List Str) (k : Nat) (sp : Sp) where
  f : Addr
  fd : FuncData
  G : FnOk P w K mg base CX0 k f fd ps sp
  M : Mk K C f
  g : mg x = some (.ref C)
  b : Binds K fd ps []
def MethAt.mk' {P : Program} {w : World} {K : PySem.W.Frag} {mg : Str → Option Value} {base : Heap} {C : Addr} {x : Str} {qual : Str} {ps : List Str} {st : Stmt} {k : Nat} {sp : Sp} (d : MethAt K C "__init__" qual ps st) (hm : PySem.W.makesIn K C = true) (hk : PySem.W.keepIn K (.ref C) = true) (g : mg x = some (.ref C))
    (h : ∀ {f : Addr} {fd : FuncData}, Fun K "__init__" qual st f fd → FnOk P w K mg base CX0 k f fd ps sp) : MkOk P w K mg base C x ps k sp :=
  ⟨d.f, d.fd, h d.F, ⟨hm, d.m.at_, d.m.fn, hk⟩, g, d.b⟩
section
variable {X : Cx} {C : Addr} {x m : Str} {ps : List Str} {j k : Nat} {sp : Sp} {o e : Expr} {es : List Expr} {to : TE} {t : TA} {p pos apos : Pos}
theorem pmeth {pl : Sem Bool} (c : MethOk X.prog X.w X.K X.mg X.base CX0 C m ps j sp) (cl : Cls X.K C) (ho : PE X o to) (hr : Room k X.A) (ha : PA X (e :: es) t) (hj : j ≤ k := by first | decide | omega)
    (st0 : starEach (e :: es) X.env = (false, eval e X.env) :: starEach es X.env := by rfl) (pl0 : (backTo pos (starEach es X.env)).any (·.1) = false := by rfl)
    (ht : eval (.Call (.Attribute o m apos) (e :: es) [] pos) X.env = (do
      let v ← eval o X.env; standAt apos.atName; let (f, one) ← holding [v] (getMethod v m pl)
      callWith pos f one (backTo pos (starEach (e :: es) X.env)) (backToKw pos (keywordEach [] X.env))) := by rfl) :
    PE X (.Call (.Attribute o m apos) (e :: es) [] pos) (tMeth C m sp [] E0 to t) := pe_meth ho cl c.m c.G (hr.mono hj) c.b .nil pass0 ha st0 pl0 ht
theorem pmeth0 {pl : Sem Bool} (c : MethOk X.prog X.w X.K X.mg X.base CX0 C m ps j sp) (cl : Cls X.K C) (ho : PE X o to) (hr : Room k X.A) (hj : j ≤ k := by first | decide | omega)
    (ht : eval (.Call (.Attribute o m apos) [] [] pos) X.env = (do
      let v ← eval o X.env; standAt apos.atName; let (f, one) ← holding [v] (getMethod v m pl)
      callWith pos f one (backTo pos (starEach [] X.env)) (backToKw pos (keywordEach [] X.env))) := by rfl) :
    PE X (.Call (.Attribute o m apos) [] [] pos) (tMeth C m sp [] E0 to tNil) := pe_meth0 ho cl c.m c.G (hr.mono hj) c.b .nil pass0 ht
theorem pmake (c : MkOk X.prog X.w X.K X.mg X.base C x ps j sp) (hr : Room k X.A) (ha : PA X (e :: es) t) (hj : j + 1 ≤ k := by first | decide | omega) (hg : Gl X x := by rfl)
    (d0 : (x == ("__debug__" : Str)) = false := by decide) (st0 : starEach (e :: es) X.env = (false, eval e X.env) :: starEach es X.env := by rfl) (pl0 : (backTo pos (starEach es X.env)).any (·.1) = false := by rfl) :
    PE X (.Call (.Name x p) (e :: es) [] pos) (tMake C sp [] E0 t) := pe_make c.M c.G (hr.mono hj) hg c.g c.b .nil pass0 ha d0 st0 pl0
theorem pmake0 (c : MkOk X.prog X.w X.K X.mg X.base C x ps j sp) (hr : Room k X.A) (hj : j + 1 ≤ k := by first | decide | omega) (hg : Gl X x := by rfl) (d0 : (x == ("__debug__" : Str)) = false := by decide) :
    PE X (.Call (.Name x p) [] [] pos) (tMake C sp [] E0 tNil) := pe_make0 c.M c.G (hr.mono hj) hg c.g c.b .nil pass0 d0
end
end Mus

set_option maxRecDepth 100000
set_option maxHeartbeats 4000000
namespace Mus
open PySem L2 TL PySem.NumText
/-- a text n times, n from 0 -/
theorem op_mul_strN {X : Cx} : OpR X (binaryOp .Mult) (fun x y H Q => ∃ (z : Str) (n : Int), x = .str z ∧ y = .int n ∧ 0 ≤ n ∧ n ≤ 1000 ∧ 1 ≤ z.length ∧ z.length ≤ 1000 ∧ ∀ r : Str, TL.tl r = (List.replicate n.toNat (TL.tl z)).flatten → Q (.str r) H) := by
  intro pins s σ H x y v u Q I rx ry h
  obtain ⟨z, n, rfl, rfl, h2, h3, h4, h5, q⟩ := h
  by_cases n2 : 2 ≤ n
  · exact op_mul_str pins s σ H _ _ v u Q I rx ry ⟨z, n, rfl, rfl, n2, h3, h4, h5, q⟩
  obtain ⟨t, rfl⟩ := rx
  obtain ⟨t', rfl⟩ := ry
  have hr : (decide (n < -(2 ^ 63 : Int)) || decide (n ≥ 2 ^ 63)) = false := by
    rw [decide_eq_false (by omega), decide_eq_false (by omega)]; rfl
  have hl : Builtin.Str.tooLong (z.length * n.toNat) = false := by
    unfold Builtin.Str.tooLong
    have e : sizeLine = 16777216 := sizeLine_eq
    have : z.length * n.toNat ≤ 1000 * 1 := Nat.mul_le_mul h5 (by omega)
    rw [decide_eq_false (by omega)]
  have hz : z.length ≤ sizeLine := by rw [sizeLine_eq]; omega
  by_cases n0 : n = 0
  · subst n0
    refine PySem.P.mul_str hr (fun a _ => absurd (by decide) a) (fun a _ => absurd (by decide) a) ?_
    rw [if_pos (by decide)]
    exact ⟨by decide, .str _, H, I.tok _, ⟨_, rfl⟩, q _ (by simp; rfl)⟩
  · have e : n = 1 := by omega
    subst e
    refine PySem.P.mul_str hr (fun _ a => by simp at a) (fun _ a => by simp at a) ?_
    rw [if_neg (by decide), if_pos (by simp)]
    exact ⟨.str _, H, I, ⟨_, rfl⟩, q _ (by simp)⟩
end Mus

set_option maxRecDepth 100000
/-! Plain values and their canonical texts: the mathematics. -/
namespace Txt4
open PySem L2 PySem.NumText TL
/-- a plain value -/
inductive D where
  | int (i : Int)
  | str (z : Str)
  | tup (ds : List D)
/-- the signs of an int -/
def numI (i : Int) : List Nat := if i < 0 then 45 :: numL i.natAbs else numL i.natAbs
mutual
def enc : D → List Nat
  | .int i => numI i
  | .str z => numL (tl z).length ++ 58 :: tl z
  | .tup ds => 40 :: (encs ds ++ [41])
def encs : List D → List Nat
  | [] => []
  | d :: ds => enc d ++ 59 :: encs ds
end
mutual
def dep : D → Nat
  | .int _ => 0
  | .str _ => 0
  | .tup ds => deps ds + 1
def deps : List D → Nat
  | [] => 0
  | d :: ds => max (dep d) (deps ds)
end
/-- a printable sign -/
def Pr (c : Nat) : Prop := 32 ≤ c ∧ c ≤ 126 ∧ c ≠ 37
mutual
def ok : D → Prop
  | .int i => i.natAbs < 10 ^ 24
  | .str z => ∀ c ∈ tl z, Pr c
  | .tup ds => oks ds
def oks : List D → Prop
  | [] => True
  | d :: ds => ok d ∧ oks ds
end
/-- what may stand behind a value's text -/
def tailOk (r : List Nat) : Prop := r = [] ∨ ∃ q, r = 59 :: q
/-- no digit at the head -/
def nd (r : List Nat) : Prop := ∀ c q, r = c :: q → ¬ (48 ≤ c ∧ c ≤ 57)
theorem tailOk.nd {r : List Nat} (h : tailOk r) : nd r := by
  intro c q e
  rcases h with h | ⟨s, h⟩
  · rw [h] at e; cases e
  · rw [h] at e; cases e; omega
theorem nd_cons {c : Nat} {q : List Nat} (h : ¬ (48 ≤ c ∧ c ≤ 57)) : nd (c :: q) := by
  intro d s e; cases e; exact h
/-- two runs of digits -/
theorem run_eq : ∀ {a b r s : List Nat}, AllDigits a → AllDigits b → nd r → nd s → a ++ r = b ++ s → a = b ∧ r = s
  | [], [], _, _, _, _, _, _, e => ⟨rfl, e⟩
  | [], y :: b, r, s, _, hb, hr, _, e => by
    have z : r = y :: (b ++ s) := e
    exact absurd hb.head (hr _ _ z)
  | x :: a, [], r, s, ha, _, _, hs, e => by
    have z : s = x :: (a ++ r) := e.symm
    exact absurd ha.head (hs _ _ z)
  | x :: a, y :: b, r, s, ha, hb, hr, hs, e => by
    have z : x = y ∧ a ++ r = b ++ s := List.cons.inj e
    obtain ⟨h1, h2⟩ := run_eq ha.tail hb.tail hr hs z.2
    exact ⟨by rw [z.1, h1], h2⟩
theorem numI_inj {i j : Int} (h : numI i = numI j) : i = j := by
  unfold numI at h
  have d1 := numL_digits i.natAbs
  have d2 := numL_digits j.natAbs
  split at h <;> split at h
  · have := numL_inj (List.cons.inj h).2; omega
  · exfalso
    rw [← h] at d2
    have := d2.head; omega
  · exfalso
    rw [h] at d1
    have := d1.head; omega
  · have := numL_inj h; omega
theorem numL_head (n : Nat) : ∃ c q, numL n = c :: q ∧ 48 ≤ c ∧ c ≤ 57 := by
  have d := numL_digits n
  cases e : numL n with
  | nil => exact absurd e (numL_ne n)
  | cons c q =>
    rw [e] at d
    exact ⟨c, q, rfl, d.head⟩
theorem numI_run {i j : Int} {r s : List Nat} (hr : nd r) (hs : nd s) (e : numI i ++ r = numI j ++ s) : i = j ∧ r = s := by
  have d1 := numL_digits i.natAbs
  have d2 := numL_digits j.natAbs
  by_cases hi : i < 0 <;> by_cases hj : j < 0
  · have e' : 45 :: (numL i.natAbs ++ r) = 45 :: (numL j.natAbs ++ s) := by
      unfold numI at e; rw [if_pos hi, if_pos hj] at e; exact e
    obtain ⟨h1, h2⟩ := run_eq d1 d2 hr hs (List.cons.inj e').2
    have := numL_inj h1
    exact ⟨by omega, h2⟩
  · exfalso
    obtain ⟨c, q, h, hc⟩ := numL_head j.natAbs
    unfold numI at e; rw [if_pos hi, if_neg hj, h] at e
    have := (List.cons.inj e).1
    omega
  · exfalso
    obtain ⟨c, q, h, hc⟩ := numL_head i.natAbs
    unfold numI at e; rw [if_neg hi, if_pos hj, h] at e
    have := (List.cons.inj e).1
    omega
  · unfold numI at e; rw [if_neg hi, if_neg hj] at e
    obtain ⟨h1, h2⟩ := run_eq d1 d2 hr hs e
    have := numL_inj h1
    exact ⟨by omega, h2⟩
theorem numI_not40 {i : Int} {r q : List Nat} (e : numI i ++ r = 40 :: q) : False := by
  unfold numI at e
  split at e
  · have := (List.cons.inj e).1; omega
  · obtain ⟨c, p, h, hc⟩ := numL_head i.natAbs
    rw [h] at e
    have := (List.cons.inj e).1; omega
theorem numL_not40 {n : Nat} {r q : List Nat} (e : numL n ++ r = 40 :: q) : False := by
  obtain ⟨c, p, h, hc⟩ := numL_head n
  rw [h] at e
  have := (List.cons.inj e).1; omega
theorem int_str {i : Int} {n : Nat} {r q : List Nat} (hr : tailOk r) (e : numI i ++ r = numL n ++ 58 :: q) : False := by
  unfold numI at e
  split at e
  · obtain ⟨c, p, h, hc⟩ := numL_head n
    rw [h] at e
    have := (List.cons.inj e).1; omega
  · obtain ⟨_, h2⟩ := run_eq (numL_digits _) (numL_digits _) hr.nd (nd_cons (by omega)) e
    rcases hr with hr | ⟨s, hr⟩
    · rw [hr] at h2; cases h2
    · rw [hr] at h2; have := (List.cons.inj h2).1; omega
theorem cat_len {a b r s : List Nat} (h : a.length = b.length) (e : a ++ r = b ++ s) : a = b ∧ r = s := List.append_inj e h
mutual
/-- a text ahead of an end or a semicolon is one value's -/
theorem enc_run : ∀ (d e : D) (r s : List Nat), tailOk r → tailOk s → enc d ++ r = enc e ++ s → d = e ∧ r = s
  | .int i, .int j, r, s, hr, hs, h => by
    obtain ⟨h1, h2⟩ := numI_run hr.nd hs.nd h
    exact ⟨by rw [h1], h2⟩
  | .int i, .str z, r, s, hr, hs, h => by
    have h' : numI i ++ r = numL (tl z).length ++ 58 :: (tl z ++ s) := by
      have h0 : numI i ++ r = (numL (tl z).length ++ 58 :: tl z) ++ s := h
      rw [h0, List.append_assoc]; rfl
    exact (int_str hr h').elim
  | .int i, .tup es, r, s, hr, hs, h => (numI_not40 (h : numI i ++ r = 40 :: ((encs es ++ [41]) ++ s))).elim
  | .str z, .int j, r, s, hr, hs, h => by
    have h' : numI j ++ s = numL (tl z).length ++ 58 :: (tl z ++ r) := by
      have h0 : (numL (tl z).length ++ 58 :: tl z) ++ r = numI j ++ s := h
      rw [← h0, List.append_assoc]; rfl
    exact (int_str hs h').elim
  | .str z, .str y, r, s, hr, hs, h => by
    have h' : numL (tl z).length ++ 58 :: (tl z ++ r) = numL (tl y).length ++ 58 :: (tl y ++ s) := by
      have h0 : (numL (tl z).length ++ 58 :: tl z) ++ r = (numL (tl y).length ++ 58 :: tl y) ++ s := h
      rw [List.append_assoc, List.append_assoc] at h0; exact h0
    obtain ⟨h1, h2⟩ := run_eq (numL_digits _) (numL_digits _) (nd_cons (by omega)) (nd_cons (by omega)) h'
    obtain ⟨h3, h4⟩ := cat_len (numL_inj h1) (List.cons.inj h2).2
    exact ⟨by rw [ext_tl h3], h4⟩
  | .str z, .tup es, r, s, hr, hs, h => by
    have h0 : (numL (tl z).length ++ 58 :: tl z) ++ r = 40 :: ((encs es ++ [41]) ++ s) := h
    rw [List.append_assoc] at h0
    exact (numL_not40 h0).elim
  | .tup ds, .int j, r, s, hr, hs, h => (numI_not40 (h.symm : numI j ++ s = 40 :: ((encs ds ++ [41]) ++ r))).elim
  | .tup ds, .str z, r, s, hr, hs, h => by
    have h0 : (numL (tl z).length ++ 58 :: tl z) ++ s = 40 :: ((encs ds ++ [41]) ++ r) := h.symm
    rw [List.append_assoc] at h0
    exact (numL_not40 h0).elim
  | .tup ds, .tup es, r, s, hr, hs, h => by
    have h0 : 40 :: ((encs ds ++ [41]) ++ r) = 40 :: ((encs es ++ [41]) ++ s) := h
    have h1 := (List.cons.inj h0).2
    rw [List.append_assoc, List.append_assoc] at h1
    obtain ⟨h2, h3⟩ := encs_run ds es r s h1
    exact ⟨by rw [h2], h3⟩
theorem encs_run : ∀ (ds es : List D) (r s : List Nat), encs ds ++ 41 :: r = encs es ++ 41 :: s → ds = es ∧ r = s
  | [], [], r, s, h => ⟨rfl, (List.cons.inj h).2⟩
  | [], e :: es, r, s, h => by
    exfalso
    have h0 : 41 :: r = (enc e ++ 59 :: encs es) ++ 41 :: s := h
    rw [List.append_assoc] at h0
    exact enc_not41 e h0.symm
  | d :: ds, [], r, s, h => by
    exfalso
    have h0 : (enc d ++ 59 :: encs ds) ++ 41 :: r = 41 :: s := h
    rw [List.append_assoc] at h0
    exact enc_not41 d h0
  | d :: ds, e :: es, r, s, h => by
    have h0 : (enc d ++ 59 :: encs ds) ++ 41 :: r = (enc e ++ 59 :: encs es) ++ 41 :: s := h
    rw [List.append_assoc, List.append_assoc] at h0
    obtain ⟨h1, h2⟩ := enc_run d e _ _ (.inr ⟨_, rfl⟩) (.inr ⟨_, rfl⟩) h0
    obtain ⟨h3, h4⟩ := encs_run ds es r s (List.cons.inj h2).2
    exact ⟨by rw [h1, h3], h4⟩
theorem enc_not41 : ∀ (d : D) {r q : List Nat}, enc d ++ r = 41 :: q → False
  | .int i, r, q, h => by
    have h0 : numI i ++ r = 41 :: q := h
    unfold numI at h0
    split at h0
    · have := (List.cons.inj h0).1; omega
    · obtain ⟨c, p, e, hc⟩ := numL_head i.natAbs
      rw [e] at h0
      have := (List.cons.inj h0).1; omega
  | .str z, r, q, h => by
    obtain ⟨c, p, e, hc⟩ := numL_head (tl z).length
    have h0 : (numL (tl z).length ++ 58 :: tl z) ++ r = 41 :: q := h
    rw [e] at h0
    have := (List.cons.inj h0).1; omega
  | .tup ds, r, q, h => by
    have := (List.cons.inj (h : 40 :: ((encs ds ++ [41]) ++ r) = 41 :: q)).1; omega
end
/-- equal texts, equal values -/
theorem enc_inj {d e : D} (h : enc d = enc e) : d = e := (enc_run d e [] [] (.inl rfl) (.inl rfl) (by rw [List.append_nil, List.append_nil]; exact h)).1
/-- no text goes on behind another one with a semicolon -/
theorem enc_pre {d e : D} {q : List Nat} (h : enc e = enc d ++ 59 :: q) : False := by
  have z := enc_run e d [] (59 :: q) (.inl rfl) (.inr ⟨_, rfl⟩) (by rw [List.append_nil]; exact h)
  cases z.2
/-- every sign of a text is printable -/
theorem pr_digits {l : List Nat} (h : AllDigits l) : ∀ c ∈ l, Pr c := fun c hc => by
  have := h c hc
  exact ⟨by omega, by omega, by omega⟩
mutual
theorem enc_pr : ∀ (d : D), ok d → ∀ c ∈ enc d, Pr c
  | .int i, _, c, hc => by
    have hc' : c ∈ numI i := hc
    unfold numI at hc'
    split at hc'
    · rcases List.mem_cons.mp hc' with e | hc'
      · rw [e]; exact ⟨by omega, by omega, by omega⟩
      · exact pr_digits (numL_digits _) c hc'
    · exact pr_digits (numL_digits _) c hc'
  | .str z, h, c, hc => by
    have hc' : c ∈ numL (tl z).length ++ 58 :: tl z := hc
    rcases List.mem_append.mp hc' with hc' | hc'
    · exact pr_digits (numL_digits _) c hc'
    · rcases List.mem_cons.mp hc' with e | hc'
      · rw [e]; exact ⟨by omega, by omega, by omega⟩
      · exact h c hc'
  | .tup ds, h, c, hc => by
    have hc' : c ∈ 40 :: (encs ds ++ [41]) := hc
    rcases List.mem_cons.mp hc' with e | hc'
    · rw [e]; exact ⟨by omega, by omega, by omega⟩
    · rcases List.mem_append.mp hc' with hc' | hc'
      · exact encs_pr ds h c hc'
      · rw [List.mem_singleton.mp hc']; exact ⟨by omega, by omega, by omega⟩
theorem encs_pr : ∀ (ds : List D), oks ds → ∀ c ∈ encs ds, Pr c
  | [], _, c, hc => absurd (hc : c ∈ ([] : List Nat)) (List.not_mem_nil)
  | d :: ds, h, c, hc => by
    have hc' : c ∈ enc d ++ 59 :: encs ds := hc
    have h' : ok d ∧ oks ds := h
    rcases List.mem_append.mp hc' with hc' | hc'
    · exact enc_pr d h'.1 c hc'
    · rcases List.mem_cons.mp hc' with e | hc'
      · rw [e]; exact ⟨by omega, by omega, by omega⟩
      · exact encs_pr ds h'.2 c hc'
end
theorem enc_len (d : D) : 1 ≤ (enc d).length := by
  cases d with
  | int i =>
    have e : enc (.int i) = numI i := by rw [enc]
    rw [e]; unfold numI
    split
    · simp
    · obtain ⟨c, q, h, _⟩ := numL_head i.natAbs
      rw [h]; simp
  | str z => rw [enc, List.length_append, List.length_cons]; omega
  | tup ds => rw [enc]; simp

/-! ### parts -/
theorem encs_append : ∀ a b : List D, encs (a ++ b) = encs a ++ encs b
  | [], _ => rfl
  | d :: a, b => by
    show enc d ++ 59 :: encs (a ++ b) = (enc d ++ 59 :: encs a) ++ encs b
    rw [encs_append a b, List.append_assoc]; rfl
theorem encs_one (d : D) : encs [d] = enc d ++ [59] := rfl
theorem take_more {α : Type} {l : List α} {i : Nat} {x : α} (h : l[i]? = some x) : l.take (i + 1) = l.take i ++ [x] := by
  have hi : i < l.length := (List.getElem?_eq_some_iff.mp h).1
  have e : l[i] = x := (List.getElem?_eq_some_iff.mp h).2
  rw [List.take_succ_eq_append_getElem hi, e]
theorem encs_take {ds : List D} {i : Nat} {d : D} (h : ds[i]? = some d) : encs (ds.take (i + 1)) = encs (ds.take i) ++ (enc d ++ [59]) := by
  rw [take_more h, encs_append, encs_one]
theorem encs_take_le (ds : List D) (i : Nat) : (encs (ds.take i)).length ≤ (encs ds).length := by
  have e : encs ds = encs (ds.take i) ++ encs (ds.drop i) := by rw [← encs_append, List.take_append_drop]
  rw [e, List.length_append]; omega
theorem oks_at : ∀ {ds : List D} {i : Nat} {d : D}, oks ds → ds[i]? = some d → ok d
  | [], _, _, _, h => by simp at h
  | e :: ds, 0, d, k, h => by
    have z : e = d := Option.some.inj h
    rw [← z]; exact (k : ok e ∧ oks ds).1
  | e :: ds, i + 1, d, k, h => oks_at (k : ok e ∧ oks ds).2 (by simpa using h)
theorem deps_at : ∀ {ds : List D} {i : Nat} {d : D}, ds[i]? = some d → dep d ≤ deps ds
  | [], _, _, h => by simp at h
  | e :: ds, 0, d, h => by
    have z : e = d := Option.some.inj h
    rw [← z]; exact Nat.le_max_left _ _
  | e :: ds, i + 1, d, h => Nat.le_trans (deps_at (ds := ds) (by simpa using h)) (Nat.le_max_right _ _)
theorem oks_snoc : ∀ {ds : List D} {d : D}, oks ds → ok d → oks (ds ++ [d])
  | [], d, _, k => ⟨k, trivial⟩
  | e :: ds, d, h, k => ⟨(h : ok e ∧ oks ds).1, oks_snoc (h : ok e ∧ oks ds).2 k⟩
theorem deps_snoc : ∀ {ds : List D} {d : D} {n : Nat}, deps ds ≤ n → dep d ≤ n → deps (ds ++ [d]) ≤ n
  | [], d, n, _, k => Nat.max_le.mpr ⟨k, Nat.zero_le _⟩
  | e :: ds, d, n, h, k => Nat.max_le.mpr ⟨(Nat.max_le.mp h).1, deps_snoc (Nat.max_le.mp h).2 k⟩
theorem encs_len : ∀ ds : List D, ds.length ≤ (encs ds).length
  | [] => Nat.le_refl _
  | d :: ds => by
    have h := encs_len ds
    show ds.length + 1 ≤ (enc d ++ 59 :: encs ds).length
    rw [List.length_append, List.length_cons]; omega
/-- texts one behind the other -/
def flat (ws : List Str) : List Nat := (ws.map tl).flatten
theorem flat_append (a b : List Str) : flat (a ++ b) = flat a ++ flat b := by
  unfold flat; rw [List.map_append, List.flatten_append]
theorem flat_one (z : Str) : flat [z] = tl z := by
  unfold flat; simp
theorem joinL_nil : ∀ l : List (List Nat), joinL [] l = l.flatten
  | [] => rfl
  | [p] => by simp [joinL]
  | p :: q :: r => by
    show p ++ ([] ++ joinL [] (q :: r)) = _
    rw [joinL_nil (q :: r)]; rfl
theorem tl_glue (ws : List Str) : tl (Txt.join Str.empty ws) = flat ws := by
  rw [join_eq, tl_join]
  exact joinL_nil _
theorem flat_len (ws : List Str) : (ws.map (·.length)).sum = (flat ws).length := by
  induction ws with
  | nil => rfl
  | cons z r ih =>
    rw [List.map_cons, List.sum_cons, ih]
    show z.length + (flat r).length = (flat ([z] ++ r)).length
    rw [flat_append, flat_one, List.length_append, len_tl]

/-! ### numbers as texts -/
theorem tl_int (i : Int) : tl (Str.ofString (toString i)) = numI i := by
  cases i with
  | ofNat m =>
    have e : numI (Int.ofNat m) = numL m := by
      unfold numI
      rw [if_neg (by simp)]
      rfl
    rw [e]
    exact tl_num m
  | negSucc m =>
    have e : numI (Int.negSucc m) = 45 :: numL (m + 1) := by
      unfold numI
      rw [if_pos (by omega)]
      rfl
    rw [e, tl_ofString]
    have e2 : toString (Int.negSucc m) = "-" ++ toString (m + 1) := rfl
    rw [e2, String.toList_append, List.map_append]
    have e3 := tl_num (m + 1)
    rw [tl_ofString] at e3
    have e4 : (toString (((m + 1 : Nat)) : Int)) = toString (m + 1) := rfl
    rw [e4] at e3
    rw [e3]
    rfl
theorem numI_len {i : Int} (h : i.natAbs < 10 ^ 24) : (numI i).length ≤ 25 := by
  have z := numL_len (n := i.natAbs) (k := 24) (by omega) h
  unfold numI
  split
  · rw [List.length_cons]; omega
  · omega
theorem intText_numI {z : Str} {i : Int} (e : tl z = numI i) (h : i.natAbs < 10 ^ 24) : intText? z = some i := by
  have hl := numI_len h
  have hz : z.length ≤ 4300 := by rw [len_tl, e]; omega
  by_cases hi : i < 0
  · have e1 : z.cps.toList = 45 :: numL i.natAbs := by
      have e0 : tl z = numI i := e
      unfold numI at e0; rw [if_pos hi] at e0; exact e0
    rw [intText_neg e1 (numL_digits _) (numL_ne _) hz, numL_val]
    exact congrArg some (by omega)
  · have e1 : z.cps.toList = numL i.natAbs := by
      have e0 : tl z = numI i := e
      unfold numI at e0; rw [if_neg hi] at e0; exact e0
    have e2 := intText_digits (x := z) (by rw [e1]; exact numL_digits _) (by rw [e1]; exact numL_ne _) hz
    rw [e2, e1, numL_val]
    exact congrArg some (by omega)
end Txt4

set_option maxRecDepth 100000
set_option maxHeartbeats 4000000
/-! Data stand where a thing that is no list and no tuple changes. -/
namespace Mus
open PySem L2
mutual
theorem Rp.upN {p D : Addr} {H : Hp} {o : HO} (h1 : ∀ xs, H D ≠ some (.lst xs)) (h2 : ∀ xs, H D ≠ some (.tup xs)) : ∀ {v : V} {d : PyData}, Rp p H v d → Rp p (upd H D o) v d
  | _, _, .non => .non
  | _, _, .bl b => .bl b
  | _, _, .int i => .int i
  | _, _, .str x => .str x
  | _, _, .lst h n r => .lst (by rw [upd_ne fun z => h1 _ (by rw [← z]; exact h)]; exact h) n (Rps.upN h1 h2 r)
  | _, _, .tup h n l r => .tup (by rw [upd_ne fun z => h2 _ (by rw [← z]; exact h)]; exact h) n l (Rps.upN h1 h2 r)
theorem Rps.upN {p D : Addr} {H : Hp} {o : HO} (h1 : ∀ xs, H D ≠ some (.lst xs)) (h2 : ∀ xs, H D ≠ some (.tup xs)) : ∀ {vs : List V} {ds : List PyData}, Rps p H vs ds → Rps p (upd H D o) vs ds
  | _, _, .nil => .nil
  | _, _, .cons a b => .cons (Rp.upN h1 h2 a) (Rps.upN h1 h2 b)
end
theorem rp_tup {p t : Addr} {c : Int} {H : Hp} {vs : List V} {ds : List PyData} (g : Bag p c H) (nt : H t = none) (r : Rps p H vs ds) (hl : vs.length ≤ 100000 := by exact Nat.le_of_ble_eq_true rfl) : Rp p (upd H t (.tup vs)) (.ref t) (.tuple ds) :=
  .tup upd_same (g.ne nt).symm hl (r.same (same_new nt _))
theorem atI_intsU {ns : List Int} {r : Int} (h0 : 0 ≤ r) (h1 : r < ns.length) : ∃ x, x ∈ ns ∧ atI (ns.map V.int) r = some (.int x) := by
  have hi : r.toNat < ns.length := by omega
  refine ⟨ns[r.toNat], List.getElem_mem _, at_int h0 ?_⟩
  rw [List.getElem?_map, List.getElem?_eq_getElem hi]; rfl
/-- one of the listed values -/
theorem atI_mem {xs : List V} {r : Int} (h0 : 0 ≤ r) (h1 : r < xs.length) : ∃ x, x ∈ xs ∧ atI xs r = some x := by
  have hi : r.toNat < xs.length := by omega
  exact ⟨xs[r.toNat], List.getElem_mem _, at_int h0 (List.getElem?_eq_getElem hi)⟩
end Mus

set_option maxRecDepth 100000
set_option maxHeartbeats 4000000
/-! Errors of the program's own: made without arguments, let out by methods. -/
namespace Mus
open PySem PySem.Spec PyProof.Rows L2
section
variable {X : Cx} {C : Addr} {bmB : List Value} {B newId initId : String}
theorem pmk_own0 {x : Str} {p pos : Pos} (F : ExcBaseFacts B newId initId bmB) (q : PySem.W.excIn X.K C bmB newId = true) (gC : X.mg x = some (.ref C)) (kC : PySem.W.keepIn X.K (.ref C) = true) (r : Raises X (.ref C)) (hg : Gl X x := by rfl)
    (hdb : (x == ("__debug__" : Str)) = false := by decide) : PMk X (.Call (.Name x p) [] [] pos) (fun _ H Q => Q (.ref C) none H) := by
  intro pins s σ H Q I h
  refine wpAny_Call_Name_kw (ld_glob I hg gC ?_ hdb)
  refine PySem.W.callWith_K0 I.kIn kC ?_
  show wpAny _ _ (call (.ref C) []) _ _ _
  obtain ⟨mem, g, dw, tn, io⟩ := s
  obtain ⟨chain, N, nm0, qn, bs, hdct, sn, sub, ab, col, dd, k0, k1, k2, k3, k5, mN, cC, hN, hni, T⟩ := exc_obj I.kIn q
  exact wpAny_call_exc_subT F T cC hN hni (fun h' a hm => mk_of I hm r h (I.hok.gone hm.new)) (by show 0 ≤ sizeLine; rw [sizeLine_eq]; omega)
end
section
variable {X : Cx} {C : Addr} {x m : Str} {ps : List Str} {j k : Nat} {sp : Sp} {o e : Expr} {es : List Expr} {to : TE} {t : TA} {p pos apos : Pos} {W : WX} {E : XK}
/-- o.m(e, ..), what it lets out leaves this def, too -/
theorem pmethE {pl : Sem Bool} (c : MethOk X.prog X.w X.K X.mg X.base (L2.CX X.prog X.w) C m ps j sp) (cl : Cls X.K C) (tk : Takes X W) (hW : ∀ cls d σ H, E cls d H → W cls d σ H) (ho : PE X o to) (hr : Room k X.A) (ha : PA X (e :: es) t) (hj : j ≤ k := by first | decide | omega)
    (st0 : starEach (e :: es) X.env = (false, eval e X.env) :: starEach es X.env := by rfl) (pl0 : (backTo pos (starEach es X.env)).any (·.1) = false := by rfl)
    (ht : eval (.Call (.Attribute o m apos) (e :: es) [] pos) X.env = (do
      let v ← eval o X.env; standAt apos.atName; let (f, one) ← holding [v] (getMethod v m pl)
      callWith pos f one (backTo pos (starEach (e :: es) X.env)) (backToKw pos (keywordEach [] X.env))) := by rfl) :
    PE X (.Call (.Attribute o m apos) (e :: es) [] pos) (tMeth C m sp [] E to t) := pe_meth ho cl c.m c.G (hr.mono hj) c.b .nil (passes_call tk hW) ha st0 pl0 ht
theorem pmethE0 {pl : Sem Bool} (c : MethOk X.prog X.w X.K X.mg X.base (L2.CX X.prog X.w) C m ps j sp) (cl : Cls X.K C) (tk : Takes X W) (hW : ∀ cls d σ H, E cls d H → W cls d σ H) (ho : PE X o to) (hr : Room k X.A) (hj : j ≤ k := by first | decide | omega)
    (ht : eval (.Call (.Attribute o m apos) [] [] pos) X.env = (do
      let v ← eval o X.env; standAt apos.atName; let (f, one) ← holding [v] (getMethod v m pl)
      callWith pos f one (backTo pos (starEach [] X.env)) (backToKw pos (keywordEach [] X.env))) := by rfl) :
    PE X (.Call (.Attribute o m apos) [] [] pos) (tMeth C m sp [] E to tNil) := pe_meth0 ho cl c.m c.G (hr.mono hj) c.b .nil (passes_call tk hW) ht
/-- f(e, ..), the same of a def -/
theorem pcallE (c : DefOk X.prog X.w X.K X.mg X.base (L2.CX X.prog X.w) x ps j sp) (tk : Takes X W) (hW : ∀ cls d σ H, E cls d H → W cls d σ H) (hr : Room k X.A) (ha : PA X (e :: es) t) (hj : j ≤ k := by first | decide | omega) (hg : Gl X x := by rfl)
    (db0 : (x == ("__debug__" : Str)) = false := by decide) (st0 : starEach (e :: es) X.env = (false, eval e X.env) :: starEach es X.env := by rfl) (pl0 : (backTo pos (starEach es X.env)).any (·.1) = false := by rfl) :
    PE X (.Call (.Name x p) (e :: es) [] pos) (tCall sp [] E t) := pe_call c.G (hr.mono hj) hg c.m c.kp c.b .nil (passes_call tk hW) ha db0 st0 pl0
end
end Mus

set_option maxRecDepth 100000
set_option maxHeartbeats 4000000
/-! Calls whose errors are caught where the slots stand. -/
namespace Mus
open PySem PySem.Spec PyProof.Rows L2
/-! ### calls in a try's body -/
def tMethA (C : Addr) (m : Str) (sp : Sp) (E : L2.St → XK) (ta : TE) (t : TA) : TE := fun σ H Q => ta σ H fun x H1 => ∃ a dx fs, x = .ref a ∧ H1 a = some (.ins C dx fs) ∧ fs.lookup m = none ∧ t σ H1 fun vs H2 => sp (x :: vs) H2 Q (E σ)
section
variable {X : Cx} {C : Addr} {x m : Str} {ps : List Str} {j k : Nat} {sp : Sp} {o e : Expr} {es : List Expr} {to : TE} {t : TA} {p pos apos : Pos} {W : WX}
theorem pmethA {pl : Sem Bool} (c : MethOk X.prog X.w X.K X.mg X.base (L2.CX X.prog X.w) C m ps j sp) (cl : Cls X.K C) (tk : Takes X W) (ho : PE X o to) (hr : Room k X.A) (ha : PA X (e :: es) t) (hj : j ≤ k := by first | decide | omega)
    (st0 : starEach (e :: es) X.env = (false, eval e X.env) :: starEach es X.env := by rfl) (pl0 : (backTo pos (starEach es X.env)).any (·.1) = false := by rfl)
    (ht : eval (.Call (.Attribute o m apos) (e :: es) [] pos) X.env = (do
      let v ← eval o X.env; standAt apos.atName; let (f, one) ← holding [v] (getMethod v m pl)
      callWith pos f one (backTo pos (starEach (e :: es) X.env)) (backToKw pos (keywordEach [] X.env))) := by rfl) :
    PE X (.Call (.Attribute o m apos) (e :: es) [] pos) (tMethA C m sp (WE W) to t) := by
  refine ⟨fun pins s σ H Q I h => ?_⟩
  refine PySem.W.methodCall_KW (pl := pl) (thn (ho.run pins s σ H _ I h) fun u s1 ⟨x, H1, I1, rx, a, dx, fs, ex, ea, l, q⟩ => ?_) ht
  subst ex
  obtain rfl : u = Value.ref a := rx
  refine getmeth_ok I1 ea cl c.m l ?_
  refine PySem.W.callWith_K (first := [.ref a]) (h₀ := X.base) I.ok.mod.kin c.m.kp (thn (ha.run pos pins s1 σ H1 _ I1 q) fun us s2 ⟨vs, H2, I2, r, q2⟩ => ⟨I2.kIn, ?_⟩) st0 pl0
  exact run_fnS (us := .ref a :: us) (vs := .ref a :: vs) c.G (hr.mono hj) c.b (passAt tk σ) I2 (.cons rfl r) q2
theorem pmethA0 {pl : Sem Bool} (c : MethOk X.prog X.w X.K X.mg X.base (L2.CX X.prog X.w) C m ps j sp) (cl : Cls X.K C) (tk : Takes X W) (ho : PE X o to) (hr : Room k X.A) (hj : j ≤ k := by first | decide | omega)
    (ht : eval (.Call (.Attribute o m apos) [] [] pos) X.env = (do
      let v ← eval o X.env; standAt apos.atName; let (f, one) ← holding [v] (getMethod v m pl)
      callWith pos f one (backTo pos (starEach [] X.env)) (backToKw pos (keywordEach [] X.env))) := by rfl) :
    PE X (.Call (.Attribute o m apos) [] [] pos) (tMethA C m sp (WE W) to tNil) := by
  refine ⟨fun pins s σ H Q I h => ?_⟩
  refine PySem.W.methodCall_KW (pl := pl) (thn (ho.run pins s σ H _ I h) fun u s1 ⟨x, H1, I1, rx, a, dx, fs, ex, ea, l, q⟩ => ?_) ht
  subst ex
  obtain rfl : u = Value.ref a := rx
  refine getmeth_ok I1 ea cl c.m l ?_
  refine PySem.W.callWith_K0 (first := [.ref a]) I1.kIn c.m.kp ?_
  exact run_fnS (us := [.ref a]) (vs := [.ref a]) c.G (hr.mono hj) c.b (passAt tk σ) I1 (.cons rfl .nil) q
theorem pcallA (c : DefOk X.prog X.w X.K X.mg X.base (L2.CX X.prog X.w) x ps j sp) (tk : Takes X W) (hr : Room k X.A) (ha : PA X (e :: es) t) (hj : j ≤ k := by first | decide | omega) (hg : Gl X x := by rfl)
    (db0 : (x == ("__debug__" : Str)) = false := by decide) (st0 : starEach (e :: es) X.env = (false, eval e X.env) :: starEach es X.env := by rfl) (pl0 : (backTo pos (starEach es X.env)).any (·.1) = false := by rfl) :
    PE X (.Call (.Name x p) (e :: es) [] pos) (tCallS sp (WE W) t) := pe_callS c.G (hr.mono hj) hg c.m c.kp c.b (fun σ => passAt tk σ) ha db0 st0 pl0
end
end Mus

set_option maxRecDepth 100000
set_option maxHeartbeats 4000000
/-! The same rules, so that Lean finds the inner readings: they may name what they don't depend on. -/
namespace Mus
open PySem PySem.Spec PyProof.Rows L2
def s00 : Shared := {}
def h00 : Hp := fun _ => none
def o00 : Obj := default
def x00 : Value → Shared → Prop := fun _ _ => False
section
variable {X : Cx} {x n : Str} {c : Value} {i : Nat} {body suite : List Stmt} {b₀ : Stmt} {np pos pos' : Pos} {tb : WX → List (Addr × Obj) → (Value → Shared → Prop) → TS} {ts : Addr → Obj → Value → Option Addr → List (Addr × Obj) → TS} {Wout : WX}
theorem ps_tryAs (hs : X.stack = X.env :: X.outer) (hf : X.env.frame = some X.env.locals) (hN : X.N.Nodup) (hi : X.N[i]? = some n) (hln : X.env.kindOf n = some .local) (hc : Names X x c) (tk : Takes X Wout)
    (hb : ∀ W pn xe, Takes (X.tr pn xe) W → PassesOwn (model X.prog X.w) X.A X.env xe → PSs (X.tr pn xe) body (tb W pn xe)) (hsu : ∀ a oe cls d pn, Zc cls d oe → (∃ vs, oe.data = .fields vs) → PSs (X.suite a ((a, oe) :: pn)) (b₀ :: suite) (ts a oe cls d pn))
    (i1 : ∀ W pn xe, tb W pn xe = tb W [] x00 := by intros; rfl) (i2 : ∀ a oe cls d pn, ts a oe cls d pn = ts a o00 cls d [] := by intros; rfl) :
    PS X (.Try body [.ExceptHandler (some (.Name x np)) (some n) (b₀ :: suite) pos'] [] [] pos) (fun D σ H => tb (wAs X.K c i (fun a cls d => ts a o00 cls d []) Wout D) [] x00 D σ H) :=
  ps_try_as (tb := fun W => tb W [] x00) hs hf hN hi hln hc tk (fun W pn xe t p => i1 W pn xe ▸ hb W pn xe t p) fun a oe cls d pn z f => i2 a oe cls d pn ▸ hsu a oe cls d pn z f
end
section
variable {X : Cx} {body : List Stmt} {h₀ : ExceptHandler} {hds : List ExceptHandler} {l : List (Value × (Addr → Value → Option Addr → TS))} {pos : Pos} {tb : WX → List (Addr × Obj) → (Value → Shared → Prop) → TS} {Wout : WX}
theorem ps_tryX (hs : X.stack = X.env :: X.outer) (hf : X.env.frame = some X.env.locals) (tk : Takes X Wout)
    (hb : ∀ W pn xe, Takes (X.tr pn xe) W → PassesOwn (model X.prog X.w) X.A X.env xe → PSs (X.tr pn xe) body (tb W pn xe)) (hh : HdsOk X (h₀ :: hds) l) (i1 : ∀ W pn xe, tb W pn xe = tb W [] x00 := by intros; rfl) :
    PS X (.Try body (h₀ :: hds) [] [] pos) (fun D σ H => tb (wMany X.K Wout D l) [] x00 D σ H) :=
  ps_try_many (tb := fun W => tb W [] x00) hs hf tk (fun W pn xe t p => i1 W pn xe ▸ hb W pn xe t p) hh
theorem hd_one {x : Str} {c : Value} {ts : Addr → Obj → Value → Option Addr → List (Addr × Obj) → TS} {b₀ : Stmt} {suite : List Stmt} {np pos' : Pos} (hc : Names X x c)
    (hsu : ∀ a oe cls d pn, Zc cls d oe → (∃ vs, oe.data = .fields vs) → PSs (X.suite a ((a, oe) :: pn)) (b₀ :: suite) (ts a oe cls d pn)) (r : HdsOk X hds l) (i2 : ∀ a oe cls d pn, ts a oe cls d pn = ts a o00 cls d [] := by intros; rfl) :
    HdsOk X (.ExceptHandler (some (.Name x np)) none (b₀ :: suite) pos' :: hds) ((c, fun a cls d => ts a o00 cls d []) :: l) :=
  .cons hc (fun a oe cls d pn z f => i2 a oe cls d pn ▸ hsu a oe cls d pn z f) r
end
section
variable {X : Cx} {elt tg iter : Expr} {ifs : List Expr} {scope : Scope} {own : List (Str × Nat)} {pos : Pos} {wi : TI} {g : Shared → Hp → Addr → List (Str × Addr) → List Addr → TG} {tt : Shared → Hp → Addr → List (Str × Addr) → List Addr → TT} {te : Shared → Hp → Addr → List (Str × Addr) → List Addr → TE}
theorem pe_lcX (hc : X.calm = true) (hN : X.N.Nodup) (hi : PI X tg iter wi) (ok : BlkOk X.N X.env.scope scope own)
    (hg : ∀ (s : Shared) (H : Hp) (C : Addr) (cl : List (Str × Addr)) (fp : List Addr), PG (X.blk s H scope (compEnvC scope cl C X.env) fp) tg (g s H C cl fp)) (ht : ∀ (s : Shared) (H : Hp) (C : Addr) (cl : List (Str × Addr)) (fp : List Addr), PTs (X.blk s H scope (compEnvC scope cl C X.env) fp) ifs (tt s H C cl fp))
    (he : ∀ (s : Shared) (H : Hp) (C : Addr) (cl : List (Str × Addr)) (fp : List Addr), PE (X.blk s H scope (compEnvC scope cl C X.env) fp) elt (te s H C cl fp)) (hs : ∀ x, foldedSetIterable iter X.env x = pure x := by intro _; rfl)
    (i1 : ∀ s H C cl fp, g s H C cl fp = g s00 h00 0 [] [] := by intros; rfl) (i2 : ∀ s H C cl fp, tt s H C cl fp = tt s00 h00 0 [] [] := by intros; rfl) (i3 : ∀ s H C cl fp, te s H C cl fp = te s00 h00 0 [] [] := by intros; rfl) :
    PE X (.ListComp elt [⟨tg, iter, ifs, 0⟩] scope pos) (tLc wi (g s00 h00 0 [] []) (tt s00 h00 0 [] []) (te s00 h00 0 [] []) (own.map (·.2))) :=
  pe_lc hc hN hi ok (fun s H C cl fp => i1 s H C cl fp ▸ hg s H C cl fp) (fun s H C cl fp => i2 s H C cl fp ▸ ht s H C cl fp) (fun s H C cl fp => i3 s H C cl fp ▸ he s H C cl fp) hs
theorem ps_setLcX {i : Nat} {y : Str} {py : Pos} {spos : Pos} (hc : X.calm = true) (hN : X.N.Nodup) (hy : X.N[i]? = some y) (hyl : X.env.scope.names.lookup y = some .local)
    (hsw : swapsWith (.ListComp elt [⟨tg, iter, ifs, 0⟩] scope pos) (some (.Name y py)) spos.line X.env = pure true) (hi : PI X tg iter wi) (ok : BlkOk X.N X.env.scope scope own)
    (hg : ∀ (s : Shared) (H : Hp) (C : Addr) (cl : List (Str × Addr)) (fp : List Addr), PG (X.blk s H scope (compEnvC scope cl C X.env) fp) tg (g s H C cl fp)) (ht : ∀ (s : Shared) (H : Hp) (C : Addr) (cl : List (Str × Addr)) (fp : List Addr), PTs (X.blk s H scope (compEnvC scope cl C X.env) fp) ifs (tt s H C cl fp))
    (he : ∀ (s : Shared) (H : Hp) (C : Addr) (cl : List (Str × Addr)) (fp : List Addr), PE (X.blk s H scope (compEnvC scope cl C X.env) fp) elt (te s H C cl fp)) (hs : ∀ x, foldedSetIterable iter X.env x = pure x := by intro _; rfl)
    (i1 : ∀ s H C cl fp, g s H C cl fp = g s00 h00 0 [] [] := by intros; rfl) (i2 : ∀ s H C cl fp, tt s H C cl fp = tt s00 h00 0 [] [] := by intros; rfl) (i3 : ∀ s H C cl fp, te s H C cl fp = te s00 h00 0 [] [] := by intros; rfl) :
    PS X (.Assign [.Name y py] (.ListComp elt [⟨tg, iter, ifs, 0⟩] scope pos) spos) (tAsg (tLc wi (g s00 h00 0 [] []) (tt s00 h00 0 [] []) (te s00 h00 0 [] []) (own.map (·.2))) (gName i)) :=
  ps_setLc hc hN hy hyl hsw hi ok (fun s H C cl fp => i1 s H C cl fp ▸ hg s H C cl fp) (fun s H C cl fp => i2 s H C cl fp ▸ ht s H C cl fp) (fun s H C cl fp => i3 s H C cl fp ▸ he s H C cl fp) hs
end
end Mus

set_option maxRecDepth 100000
set_option maxHeartbeats 4000000
namespace Mus
open PySem L2 TL PySem.NumText Txt4
local macro_rules | `(tactic| walk_at "rd") => `(tactic| first
  | refine ⟨_, rfl, ?_⟩ | refine ⟨(True.intro : True), ?_⟩
  | refine ⟨_, _, rfl, rfl, (⟨by decide, by decide, by decide⟩ : CPow _ _), ?_⟩
  | refine ⟨_, _, rfl, rfl, (⟨by decide, by decide⟩ : CDiv _ _), ?_⟩
  | refine ⟨_, _, rfl, rfl, (by show (0 : Int) < _; decide), ?_⟩
  | refine ⟨_, _, rfl, rfl, ?_⟩ | refine ⟨rfl, ?_⟩ | refine iteT ?_ | refine iteF ?_ | refine ⟨_, _, rfl, ?_⟩ | refine .inl ⟨_, rfl, ?_⟩
  | refine ⟨_, _, _, _, _, rfl, (by assumption), (by assumption), (by assumption), rfl, ?_⟩ | refine ⟨_, _, _, _, rfl, rfl, SqT.of (by assumption), rfl, ?_⟩ | refine ⟨_, _, rfl, SqT.of (by assumption), rfl, ?_⟩
  | refine ⟨_, _, _, _, _, rfl, .ty _, Rp.ty (by assumption), kit_int _, ?_⟩ | refine ⟨_, _, _, _, _, rfl, .ty _, Rp.ty (by assumption), kit_bool _, ?_⟩
  | refine ⟨_, _, _, _, _, rfl, .ty _, Rp.ty (by assumption), kit_str _, ?_⟩ | refine ⟨_, _, _, _, _, rfl, .ty _, Rp.ty (by assumption), kit_tup _, ?_⟩)
local macro_rules | `(tactic| walk_at "cal") => `(tactic| first
  | refine ⟨_, _, _, _, _, rfl, (by assumption), ?_⟩ | refine ⟨_, _, _, _, _, rfl, (by assumption), (by assumption), ?_⟩)
local macro_rules | `(tactic| walk_at "sq") => `(tactic| first
  | refine ⟨_, _, rfl, Or.inr (SqT.of (by assumption)), ?_⟩ | refine ⟨_, _, _, _, rfl, rfl, SqT.of (by assumption), rfl, ?_⟩)
local macro_rules | `(tactic| walk_at "rds") => `(tactic| repeat first | walk_at "rd" | walk_at "cal" | walk_at "sq")
local macro_rules | `(tactic| walk_at "ze") => `(tactic| repeat first
  | exact zes_nil | exact ze_bl | exact ze_str | exact ze_non | apply zes_cons | apply ze_tup | apply ze_lst | apply ze_cat | exact di_c | exact di_v rfl | apply di_opC | apply di_op | apply di_neg | apply ze_i | (refine (⟨?_, ?_, ?_⟩ : CPow _ _) <;> decide) | exact Nat.le_of_ble_eq_true rfl | exact ze_varD rfl (by assumption))
local macro_rules | `(tactic| walk_at "rdz") => `(tactic| repeat (fail_if_success (first | show tLst _ _ _ _ | show tAsg (tLst _) _ _ _ _ | show tSeq (tAsg (tLst _) _) _ _ _ _)); first | walk_at "rd" | walk_at "cal" | walk_at "sq")
def top (i : Nat) : Stmt := PySem.Challenge.pw_mustercall_k52_schedules_read_back.main.body.getD i (.Pass ⟨0, 0, 0, 0⟩)
structure Tx (mg : Str → Option Value) : Prop where
  b_len : mg "len" = none
  b_isinstance : mg "isinstance" = none
  b_int : mg "int" = none
  b_bool : mg "bool" = none
  b_str : mg "str" = none
  b_tuple : mg "tuple" = none
  b_list : mg "list" = none
  b_range : mg "range" = none
  b_ord : mg "ord" = none
  b_enumerate : mg "enumerate" = none
  b_zip : mg "zip" = none
  c__REFUSED_CODE : ∃ t, mg "_REFUSED_CODE" = some (.int 37 t)
  c_MOST_NUMBER : ∃ t, mg "MOST_NUMBER" = some (.int 1000000000000 t)
  c_MOST_DIGITS : ∃ t, mg "MOST_DIGITS" = some (.int 24 t)
  c_MOST_DEPTH : ∃ t, mg "MOST_DEPTH" = some (.int 8 t)
  c_MOST_LENGTH : ∃ t, mg "MOST_LENGTH" = some (.int 100000 t)
  c_MOST_TICKS : ∃ t, mg "MOST_TICKS" = some (.int 1000 t)
  c__MOST_DIGITS : ∃ t, mg "_MOST_DIGITS" = some (.int 12 t)
  c__GREATEST : ∃ t, mg "_GREATEST" = some (.int 999999999999 t)
section
variable {P : Program} {w : World} {K : PySem.W.Frag} {mg : Str → Option Value} {base : Heap}
def prB (c : Nat) : Bool := decide (32 ≤ c) && decide (c ≤ 126) && decide (c ≠ 37)
theorem one_lt (a b : Nat) : (decide ([a] < [b])) = decide (a < b) := by
  by_cases h : a < b
  · rw [decide_eq_true h]; exact decide_eq_true (by simp [List.cons_lt_cons_iff, h])
  · rw [decide_eq_false h]; exact decide_eq_false (by simp [List.cons_lt_cons_iff, h])
theorem one_ge {y : Str} {b : Nat} (c : Nat) (e0 : tl y = [b]) : (!decide (tl ⟨#[c]⟩ < tl y)) = decide (b ≤ c) := by
  rw [e0, show tl ⟨#[c]⟩ = [c] from rfl, one_lt]
  by_cases h : c < b
  · rw [decide_eq_true h, decide_eq_false (by omega)]; rfl
  · rw [decide_eq_false h, decide_eq_true (by omega)]; rfl
theorem one_le {y : Str} {b : Nat} (c : Nat) (e0 : tl y = [b]) : (!decide (tl y < tl ⟨#[c]⟩)) = decide (c ≤ b) := by
  rw [e0, show tl ⟨#[c]⟩ = [c] from rfl, one_lt]
  by_cases h : b < c
  · rw [decide_eq_true h, decide_eq_false (by omega)]; rfl
  · rw [decide_eq_false h, decide_eq_true (by omega)]; rfl
abbrev s__is_printable_character : Stmt := top 11
abbrev N__is_printable_character : List Str := ["character"]
abbrev P__is_printable_character : List Str := ["character"]
theorem sc__is_printable_character : FnScope N__is_printable_character P__is_printable_character (defScope s__is_printable_character) := ⟨rfl, rfl, rfl, by decide +kernel, rfl, by decide +kernel, by decide +kernel⟩
def sp__is_printable_character : Sp := fun vs H Q _ => ∃ c : Nat, vs = [.str ⟨#[c]⟩] ∧ Q (.bl (prB c)) H
theorem ok__is_printable_character {f : Addr} {fd : FuncData} (T : Tx mg) (F : Fun K "_is_printable_character" "_is_printable_character" s__is_printable_character f fd) : FnOk P w K mg base CX0 (1) f fd P__is_printable_character (sp__is_printable_character) := by
  have nd := sc__is_printable_character.nd
  refine F.ok sc__is_printable_character (fun vs H Q E h => ?_) (fun cdv A outer s H vs Q E hr h => ?_)
  · obtain ⟨c, rfl, _⟩ := h
    rfl
  · obtain ⟨c, rfl, q⟩ := h
    refine ⟨_, (pss_one (ps_ret (pe_and (pe_chain op_le_str op_le_str pe_str (pv 0) pe_str) (pe_one (pe_cmpR op_ne (pe_callB call_ord (by rfl) T.b_ord (by decide +kernel) (pa_cons (pv 0) pa_nil)) (pe_const T.c__REFUSED_CODE) (nomark _)))))), ?_⟩
    refine ⟨_, rfl, _, _, rfl, rfl, _, rfl, ?_⟩
    have e1 := one_ge (y := Str.ofString " ") (b := 32) c (by decide)
    have e2 := one_le (y := Str.ofString "~") (b := 126) c (by decide)
    rw [e1]
    unfold prB at q
    by_cases h1 : 32 ≤ c
    · rw [decide_eq_true h1] at q ⊢
      refine iteT ?_
      refine ⟨_, _, rfl, rfl, _, rfl, ?_⟩
      rw [e2]
      by_cases h2 : c ≤ 126
      · rw [decide_eq_true h2] at q ⊢
        refine iteT ?_
        refine ⟨_, rfl, _, rfl, rfl, rfl, ?_⟩
        have e3 : (!decide (V.int ((((⟨#[c]⟩ : Str).cps.getD 0 0 : Nat)) : Int) = V.int 37)) = decide (c ≠ 37) := by
          show (!decide (V.int (c : Int) = V.int 37)) = decide (c ≠ 37)
          by_cases h3 : c = 37
          · subst h3; rfl
          · rw [decide_eq_true h3, decide_eq_false (by intro z; cases z; exact h3 rfl)]; rfl
        rw [e3]
        exact q
      · rw [decide_eq_false h2] at q ⊢
        exact iteF q
    · rw [decide_eq_false h1] at q ⊢
      refine iteF ?_
      exact ⟨_, rfl, iteF q⟩
abbrev s_is_printable : Stmt := top 10
abbrev N_is_printable : List Str := ["value", "character"]
abbrev P_is_printable : List Str := ["value"]
theorem sc_is_printable : FnScope N_is_printable P_is_printable (defScope s_is_printable) := ⟨rfl, rfl, rfl, by decide +kernel, rfl, by decide +kernel, by decide +kernel⟩
def sp_is_printable : Sp := fun vs H Q _ => ∃ z : Str, vs = [.str z] ∧ Q (.bl ((tl z).all prB)) H
theorem all_take {l : List Nat} {i c : Nat} (h : l[i]? = some c) (hp : (l.take i).all prB = true) : prB c = true → (l.take (i + 1)).all prB = true := by
  intro hc
  have hi : i < l.length := (List.getElem?_eq_some_iff.mp h).1
  have e : l[i] = c := (List.getElem?_eq_some_iff.mp h).2
  rw [List.take_succ_eq_append_getElem hi, List.all_append, hp, e]
  simp [hc]
theorem all_not {l : List Nat} {i c : Nat} (h : l[i]? = some c) (hc : prB c = false) : l.all prB = false := by
  rw [List.all_eq_false]
  exact ⟨c, List.mem_of_getElem? h, by rw [hc]; simp⟩
theorem ok_is_printable {f : Addr} {fd : FuncData} (T : Tx mg) (c__is_printable_character : DefOk P w K mg base CX0 "_is_printable_character" P__is_printable_character 1 (sp__is_printable_character))(F : Fun K "is_printable" "is_printable" s_is_printable f fd) : FnOk P w K mg base CX0 (2) f fd P_is_printable (sp_is_printable) := by
  have nd := sc_is_printable.nd
  refine F.ok sc_is_printable (fun vs H Q E h => ?_) (fun cdv A outer s H vs Q E hr h => ?_)
  · obtain ⟨c, rfl, _⟩ := h
    rfl
  · obtain ⟨z, rfl, q⟩ := h
    refine ⟨_, (pss_cons (ps_if (pt_not (pt_val (pe_callB call_isi (by rfl) T.b_isinstance (by decide +kernel) (pa_cons (pv 0) (pa_cons (pe_ty "str" T.b_str) pa_nil)))))
        (pss_one (ps_ret pe_bl))
        pss_nil)
      (pss_cons (ps_for PassesOwn.never rfl (pi_str (pv 0)) (pg_name (i := 1) nd rfl (Or.inl rfl))
        (pss_one (ps_if (pt_not (pt_val (pcall c__is_printable_character hr (pa_cons (pv 1) pa_nil))))
          (pss_one (ps_ret pe_bl))
          pss_nil)))
      (pss_one (ps_ret pe_bl)))), ?_⟩
    refine ⟨_, rfl, _, _, _, _, true, rfl, .ty _, .base (.str z), kit_ty (by decide +kernel), _, rfl, ?_⟩
    refine iteF ?_
    refine ⟨_, rfl, z, rfl, for_str (z := z) (fun i σ H' => H' = H ∧ (∃ v, σ = [some (.str z), v]) ∧ ((tl z).take i).all prB = true) ⟨rfl, ⟨none, rfl⟩, rfl⟩ ?_ ?_⟩
    · rintro i c σ H' hc ⟨rfl, ⟨v, rfl⟩, hp⟩
      refine ⟨_, rfl, c, rfl, _, rfl, ?_⟩
      cases hb : prB c with
      | true => exact iteF ⟨rfl, ⟨_, rfl⟩, all_take hc hp hb⟩
      | false =>
        refine iteT ?_
        have e := all_not hc hb
        rw [e] at q
        exact q
    · rintro σ H' ⟨rfl, ⟨v, rfl⟩, hp⟩
      rw [List.take_length] at hp
      rw [hp] at q
      exact q
abbrev s_is_integer : Stmt := top 12
abbrev N_is_integer : List Str := ["value", "least", "greatest"]
abbrev P_is_integer : List Str := ["value", "least", "greatest"]
theorem sc_is_integer : FnScope N_is_integer P_is_integer (defScope s_is_integer) := ⟨rfl, rfl, rfl, by decide +kernel, rfl, by decide +kernel, by decide +kernel⟩
theorem ok_is_integer {f : Addr} {fd : FuncData} (T : Tx mg) (F : Fun K "is_integer" "is_integer" s_is_integer f fd) : FnOk P w K mg base CX0 (1) f fd P_is_integer (spI) := by
  have nd := sc_is_integer.nd
  refine F.ok sc_is_integer (fun vs H Q E h => ?_) (fun cdv A outer s H vs Q E hr h => ?_)
  · obtain ⟨_, _, _, _, _, rfl, _⟩ := h
    rfl
  · obtain ⟨p, v, d, a, b, rfl, hd, q⟩ := h
    refine ⟨_, (pss_cons (ps_if (PW.pt (pw_or (pt_not (pt_val (pe_callB call_isi (by rfl) T.b_isinstance (by decide +kernel) (pa_cons (pv 0) (pa_cons (pe_ty "int" T.b_int) pa_nil))))) (pw_or1 (pt_val (pe_callB call_isi (by rfl) T.b_isinstance (by decide +kernel) (pa_cons (pv 0) (pa_cons (pe_ty "bool" T.b_bool) pa_nil)))))))
        (pss_one (ps_ret pe_bl))
        pss_nil)
      (pss_one (ps_ret (pe_chain op_le op_le (pv 1) (pv 0) (pv 2))))), ?_⟩
    have hd' := hd
    cases hd <;> walk_at "rds"
    case int =>
      refine iB (fun h => ?_) (fun h => ?_)
      · walk_at "rds"
        exact ansB q (by simp [isInt, h])
      · exact ansB q (by simp [isInt, h])
    all_goals exact q
end
mutual
def pyD : D → PyData
  | .int i => .int i
  | .str z => .str z
  | .tup ds => .tuple (pyDs ds)
def pyDs : List D → List PyData
  | [] => []
  | d :: ds => pyD d :: pyDs ds
end
mutual
/-- no long text in it -/
def sml : D → Prop
  | .int _ => True
  | .str z => z.length ≤ 1000
  | .tup ds => smls ds
def smls : List D → Prop
  | [] => True
  | d :: ds => sml d ∧ smls ds
end
theorem smls_at : ∀ {ds : List D} {i : Nat} {d : D}, smls ds → ds[i]? = some d → sml d
  | [], _, _, _, h => by simp at h
  | e :: ds, 0, d, k, h => by
    have z : e = d := Option.some.inj h
    rw [← z]; exact (k : sml e ∧ smls ds).1
  | e :: ds, i + 1, d, k, h => smls_at (k : sml e ∧ smls ds).2 (by simpa using h)
theorem prB_pr {c : Nat} (h : prB c = true) : Pr c := by
  unfold prB at h
  simp only [Bool.and_eq_true, decide_eq_true_eq] at h
  exact ⟨h.1.1, h.1.2, h.2⟩
theorem pyDs_map : ∀ es : List D, pyDs es = es.map pyD
  | [] => rfl
  | e :: es => by show pyD e :: pyDs es = _; rw [pyDs_map es]; rfl
/-! ### plain values in the heap -/
mutual
inductive Rep (H : Hp) : V → D → Prop
  | int (i : Int) : Rep H (.int i) (.int i)
  | str (z : Str) : Rep H (.str z) (.str z)
  | tup {a : Addr} {xs : List V} {ds : List D} : H a = some (.tup xs) → xs.length ≤ 100000 → Reps H xs ds → Rep H (.ref a) (.tup ds)
inductive Reps (H : Hp) : List V → List D → Prop
  | nil : Reps H [] []
  | cons {v : V} {d : D} {vs : List V} {ds : List D} : Rep H v d → Reps H vs ds → Reps H (v :: vs) (d :: ds)
end
mutual
theorem Rep.mono {H H' : Hp} (k : ∀ a xs, H a = some (.tup xs) → H' a = some (.tup xs)) : ∀ {v : V} {d : D}, Rep H v d → Rep H' v d
  | _, _, .int i => .int i
  | _, _, .str z => .str z
  | _, _, .tup h l r => .tup (k _ _ h) l (Reps.mono k r)
theorem Reps.mono {H H' : Hp} (k : ∀ a xs, H a = some (.tup xs) → H' a = some (.tup xs)) : ∀ {vs : List V} {ds : List D}, Reps H vs ds → Reps H' vs ds
  | _, _, .nil => .nil
  | _, _, .cons h r => .cons (Rep.mono k h) (Reps.mono k r)
end
theorem Reps.length {H : Hp} : ∀ {vs : List V} {ds : List D}, Reps H vs ds → vs.length = ds.length
  | _, _, .nil => rfl
  | _, _, .cons _ r => congrArg Nat.succ (Reps.length r)
theorem Reps.at {H : Hp} : ∀ {vs : List V} {ds : List D} {i : Nat} {v : V}, Reps H vs ds → vs[i]? = some v → ∃ d, ds[i]? = some d ∧ Rep H v d
  | _, _, _, _, .nil, h => by simp at h
  | v :: vs, d :: ds, 0, x, .cons r _, h => by
    have e : v = x := Option.some.inj h
    subst e
    exact ⟨d, rfl, r⟩
  | v :: vs, d :: ds, i + 1, x, .cons _ r, h => by
    obtain ⟨e, h1, h2⟩ := Reps.at (i := i) r (by simpa using h)
    exact ⟨e, by simpa using h1, h2⟩
theorem Reps.snoc {H : Hp} : ∀ {vs : List V} {ds : List D} {v : V} {d : D}, Reps H vs ds → Rep H v d → Reps H (vs ++ [v]) (ds ++ [d])
  | _, _, _, _, .nil, h => .cons h .nil
  | _, _, _, _, .cons r s, h => .cons r (Reps.snoc s h)
mutual
theorem Rep.rp {p : Addr} {H : Hp} (hp : ∀ xs, H p ≠ some (.tup xs)) : ∀ {v : V} {d : D}, Rep H v d → Rp p H v (pyD d)
  | _, _, .int i => .int i
  | _, _, .str z => .str z
  | _, _, .tup h l r => .tup h (fun z => hp _ (by rw [← z]; exact h)) l (Reps.rp hp r)
theorem Reps.rp {p : Addr} {H : Hp} (hp : ∀ xs, H p ≠ some (.tup xs)) : ∀ {vs : List V} {ds : List D}, Reps H vs ds → Rps p H vs (pyDs ds)
  | _, _, .nil => .nil
  | _, _, .cons h r => .cons (Rep.rp hp h) (Reps.rp hp r)
end
mutual
theorem rp_rep {p : Addr} {H : Hp} : ∀ {v : V} {d : D}, Rp p H v (pyD d) → Rep H v d
  | _, .int _, h => by cases h; exact .int _
  | _, .str _, h => by cases h; exact .str _
  | _, .tup ds, h => by
    cases h with
    | tup h _ l r => exact .tup h l (rps_reps r)
theorem rps_reps {p : Addr} {H : Hp} : ∀ {vs : List V} {ds : List D}, Rps p H vs (pyDs ds) → Reps H vs ds
  | _, [], h => by cases h; exact .nil
  | _, d :: ds, h => by
    cases h with
    | cons a r => exact .cons (rp_rep a) (rps_reps r)
end
theorem log_small {i : Int} (h : i.natAbs < 2 ^ 1000) : i.natAbs.log2 < 1920 := Nat.lt_of_lt_of_le (PySem.Flt.log2_lt_of (by omega) h) (by omega)
theorem prB_of {c : Nat} (h : Pr c) : prB c = true := by
  obtain ⟨h1, h2, h3⟩ := h
  unfold prB
  rw [decide_eq_true h1, decide_eq_true h2, decide_eq_true h3]; rfl
/-- the error of texts -/
structure Tt (K : PySem.W.Frag) (mg : Str → Option Value) (CT : Addr) : Prop extends Tx mg where
  g_BadText : mg "BadText" = some (.ref CT)
  x_BadText : PySem.W.excIn K CT [.type "ValueError", .type "Exception", .type "BaseException", .type "object"] "ValueError.__new__" = true
  k_BadText : PySem.W.keepIn K (.ref CT) = true
  b_BadText : PySem.W.subIn K (.ref CT) (.type "BaseException") = some true
  t_BadText : PySem.W.typeIn K (.ref CT) = some (.type "type")
  m_TT : PySem.W.exmOne K (.ref CT) (.ref CT) = some true
section
variable {P : Program} {w : World} {K : PySem.W.Frag} {mg : Str → Option Value} {base : Heap} {CT : Addr}
abbrev s__put : Stmt := top 16
abbrev N__put : List Str := ["piece", "room", "parts"]
abbrev P__put : List Str := ["piece", "room", "parts"]
theorem sc__put : FnScope N__put P__put (defScope s__put) := ⟨rfl, rfl, rfl, by decide +kernel, rfl, by decide +kernel, by decide +kernel⟩
def sp__put (CT : Addr) : Sp := fun vs H Q E => ∃ (z : Str) (r : Int) (p : Addr) (xs : List V), vs = [.str z, .int r, .ref p] ∧ H p = some (.lst xs) ∧ z.length ≤ 200000 ∧ r ≤ 100000 ∧ xs.length < sizeLine ∧
  ((z.length : Int) ≤ r → Q (.int (r - z.length)) (upd H p (.lst (xs ++ [.str z])))) ∧ (r < (z.length : Int) → E (.ref CT) none H)
theorem ok__put {f : Addr} {fd : FuncData} (T : Tt K mg CT) (F : Fun K "_put" "_put" s__put f fd) : FnOk P w K mg base (L2.CX P w) 1 f fd P__put (sp__put CT) := by
  have nd := sc__put.nd
  refine F.okX sc__put (fun vs H Q E h => ?_) (fun cdv A outer s H vs Q E hr h => ?_)
  · obtain ⟨_, _, _, _, rfl, _⟩ := h
    rfl
  · obtain ⟨z, r, p, xs, rfl, hp, hz, hr1, hx, q, q2⟩ := h
    have hs := sl
    refine ⟨_, (pss_cons (ps_if (pt_cmpR op_gt (pe_callB call_len_str (by rfl) T.b_len (by decide +kernel) (pa_cons (pv 0) pa_nil)) (pv 1) (nomark _))
        (pss_one (ps_raise rfl (takes_of rfl rfl rfl rfl) (pmk_own0 PySem.F.excBase_ValueError T.x_BadText T.g_BadText T.k_BadText (raises_own T.b_BadText T.t_BadText))))
        pss_nil)
      (pss_cons (ps_expr (pe_bm PySem.F.plainAttrs_list PySem.F.slot_list_append PySem.F.type_list_append mt_append (pv 2) (pa_cons (pv 0) pa_nil)))
      (pss_one (ps_ret (pe_op op_sub (pv 1) (pe_callB call_len_str (by rfl) T.b_len (by decide +kernel) (pa_cons (pv 0) pa_nil))))))), ?_⟩
    refine ⟨_, rfl, _, rfl, by omega, _, rfl, _, _, rfl, rfl, _, rfl, ?_⟩
    by_cases hc : r < (z.length : Int)
    · rw [decide_eq_true hc]
      refine iteT ?_
      exact q2 hc
    rw [decide_eq_false hc]
    refine iteF ?_
    refine ⟨_, rfl, .inl ⟨rfl, _, SqL.of hp⟩, _, rfl, p, xs, _, rfl, rfl, hp, hx, ?_⟩
    exact ⟨_, rfl, _, rfl, _, rfl, by omega, _, _, rfl, rfl, q (by omega)⟩
abbrev s__string_text : Stmt := top 17
abbrev N__string_text : List Str := ["value"]
abbrev P__string_text : List Str := ["value"]
theorem sc__string_text : FnScope N__string_text P__string_text (defScope s__string_text) := ⟨rfl, rfl, rfl, by decide +kernel, rfl, by decide +kernel, by decide +kernel⟩
def sp__string_text : Sp := fun vs H Q _ => ∃ z : Str, vs = [.str z] ∧ (tl z).length ≤ 100000 ∧ (∀ c ∈ tl z, Pr c) ∧ ∀ y : Str, tl y = enc (.str z) → Q (.str y) H
theorem all_pr {l : List Nat} (h : ∀ c ∈ l, Pr c) : l.all prB = true := by
  rw [List.all_eq_true]
  exact fun c hc => prB_of (h c hc)
theorem ok__string_text {f : Addr} {fd : FuncData} (T : Tx mg) (c_is_printable : DefOk P w K mg base CX0 "is_printable" P_is_printable 2 (sp_is_printable))(F : Fun K "_string_text" "_string_text" s__string_text f fd) : FnOk P w K mg base CX0 (3) f fd P__string_text (sp__string_text) := by
  have nd := sc__string_text.nd
  refine F.ok sc__string_text (fun vs H Q E h => ?_) (fun cdv A outer s H vs Q E hr h => ?_)
  · obtain ⟨_, rfl, _⟩ := h
    rfl
  · obtain ⟨z, rfl, hz, hp, q⟩ := h
    have hs := sl
    have hl := len_tl z
    refine ⟨_, (pss_cons (ps_if (PW.pt (pw_or (pt_cmpR op_gt (pe_callB call_len_str (by rfl) T.b_len (by decide +kernel) (pa_cons (pv 0) pa_nil)) (pe_const T.c_MOST_LENGTH) (nomark _)) (pw_or1 (pt_not (pt_val (pcall c_is_printable hr (pa_cons (pv 0) pa_nil)))))))
        (pss_one ps_never)
        pss_nil)
      (pss_one (ps_ret (pe_op op_add_str (pe_joined (.cons (pe_fmt (pe_callB call_len_str (by rfl) T.b_len (by decide +kernel) (pa_cons (pv 0) pa_nil))) (.cons pe_str .nil))) (pv 0))))), ?_⟩
    refine ⟨_, rfl, _, rfl, by omega, _, _, rfl, rfl, _, rfl, ?_⟩
    rw [decide_eq_false (show ¬ (100000 : Int) < (z.length : Int) by omega)]
    refine iteF ?_
    refine ⟨_, rfl, z, rfl, ?_⟩
    rw [all_pr hp]
    refine ⟨_, rfl, iteF ?_⟩
    have e1 : tl (Str.ofString (toString (z.length : Int))) = numL (tl z).length := by rw [hl]; exact tl_num _
    have hn := numL_len (n := (tl z).length) (k := 6) (by omega) (by omega)
    have e2 : tl (Str.empty ++ Str.ofString (toString (z.length : Int))) = numL (tl z).length := by rw [tl_append, e1]; rfl
    have e3 : tl (Str.empty ++ Str.ofString (toString (z.length : Int)) ++ Str.ofString ":") = numL (tl z).length ++ [58] := by rw [tl_append, e2]; rfl
    have z2 : (Str.empty ++ Str.ofString (toString (z.length : Int))).length ≤ sizeLine := by rw [len_tl, e2]; omega
    have z3 : (Str.empty ++ Str.ofString (toString (z.length : Int)) ++ Str.ofString ":").length ≤ 10 := by
      rw [len_tl, e3, List.length_append, List.length_singleton]; omega
    refine ⟨_, rfl, z, rfl, by omega, .inr ⟨(z.length : Int), rfl, log_small (by omega), _, rfl, z2, _, rfl, by omega, ?_⟩⟩
    refine ⟨_, rfl, _, _, rfl, rfl, by omega, q _ ?_⟩
    rw [tl_append, e3, List.append_assoc]
    rfl
abbrev s__integer_text : Stmt := top 18
abbrev N__integer_text : List Str := ["value", "greatest"]
abbrev P__integer_text : List Str := ["value"]
theorem sc__integer_text : FnScope N__integer_text P__integer_text (defScope s__integer_text) := ⟨rfl, rfl, rfl, by decide +kernel, rfl, by decide +kernel, by decide +kernel⟩
def sp__integer_text : Sp := fun vs H Q _ => ∃ i : Int, vs = [.int i] ∧ i.natAbs < 10 ^ 24 ∧ ∀ y : Str, tl y = numI i → Q (.str y) H
theorem ok__integer_text {f : Addr} {fd : FuncData} (T : Tx mg) (c_is_integer : DefOk P w K mg base CX0 "is_integer" P_is_integer 1 (spI))(F : Fun K "_integer_text" "_integer_text" s__integer_text f fd) : FnOk P w K mg base CX0 (2) f fd P__integer_text (sp__integer_text) := by
  have nd := sc__integer_text.nd
  refine F.ok sc__integer_text (fun vs H Q E h => ?_) (fun cdv A outer s H vs Q E hr h => ?_)
  · obtain ⟨_, rfl, _⟩ := h
    rfl
  · obtain ⟨i, rfl, hi, q⟩ := h
    refine ⟨_, (pss_cons (ps_set (i := 1) nd rfl (Or.inl rfl) (pe_callTy call_int_str (by rfl) T.b_int (by decide +kernel) (pa_cons (pe_op op_mul_strN pe_str (pe_const T.c_MOST_DIGITS)) pa_nil)))
      (pss_cons (ps_if (pt_not (pt_val (pcall c_is_integer hr (pa_cons (pv 0) (pa_cons (pe_un un_neg (pv 1)) (pa_cons (pv 1) pa_nil))))))
        (pss_one ps_never)
        pss_nil)
      (pss_one (ps_ret (pe_callTy call_str_int (by rfl) T.b_str (by decide +kernel) (pa_cons (pv 0) pa_nil)))))), ?_⟩
    refine ⟨_, 24, rfl, rfl, by omega, by omega, by decide, by decide, fun r hr1 => ?_⟩
    have e9 : tl r = numL (10 ^ 24 - 1) := by rw [hr1]; decide +kernel
    have n9 : intText? r = some (10 ^ 24 - 1) := by
      rw [intText_numI (i := 10 ^ 24 - 1) (by rw [e9]; rfl) (by decide)]
    refine ⟨r, _, rfl, n9, by rw [len_tl, e9]; decide +kernel, ?_⟩
    refine ⟨_, rfl, _, rfl, _, rfl, _, rfl, 0, .int i, .int i, _, _, rfl, .int i, _, rfl, ?_⟩
    rw [show isInt (.int i) (-(10 ^ 24 - 1)) (10 ^ 24 - 1) = true by simp only [isInt, Bool.and_eq_true, decide_eq_true_eq]; omega]
    refine iteF ?_
    refine ⟨_, rfl, i, rfl, log_small (by omega), q _ (tl_int i)⟩

/-! ### encode -/
def sp__write (CT : Addr) (n : Nat) : Sp := fun vs H Q E => ∃ (v : V) (d : D) (k r : Int) (p : Addr) (zs : List Str), vs = [v, .int k, .int r, .ref p] ∧ Rep H v d ∧ Txt4.ok d ∧ sml d ∧ (dep d : Int) ≤ k ∧ dep d ≤ n ∧
  H p = some (.lst (zs.map V.str)) ∧ 0 ≤ r ∧ (zs.length : Int) + r ≤ 100000 ∧
  (((enc d).length : Int) ≤ r → ∀ ws H', flat ws = enc d → ws.length ≤ (enc d).length → But p H H' → H' p = some (.lst ((zs ++ ws).map V.str)) → Q (.int (r - (enc d).length)) H') ∧ (r < ((enc d).length : Int) → ∀ H', But p H H' → E (.ref CT) none H')
def sp__write_tuple (CT : Addr) (n : Nat) : Sp := fun vs H Q E => ∃ (a : Addr) (xs : List V) (ds : List D) (k r : Int) (p : Addr) (zs : List Str), vs = [.ref a, .int k, .int r, .ref p] ∧ H a = some (.tup xs) ∧ Reps H xs ds ∧ oks ds ∧ smls ds ∧ (deps ds : Int) + 1 ≤ k ∧ deps ds + 1 ≤ n ∧
  H p = some (.lst (zs.map V.str)) ∧ 0 ≤ r ∧ (zs.length : Int) + r ≤ 100000 ∧
  (((enc (.tup ds)).length : Int) ≤ r → ∀ ws H', flat ws = enc (.tup ds) → ws.length ≤ (enc (.tup ds)).length → But p H H' → H' p = some (.lst ((zs ++ ws).map V.str)) → Q (.int (r - (enc (.tup ds)).length)) H') ∧ (r < ((enc (.tup ds)).length : Int) → ∀ H', But p H H' → E (.ref CT) none H')
theorem But.tupK {p : Addr} {H H' : Hp} {ys : List V} (b : But p H H') (hp : H p = some (.lst ys)) : ∀ a xs, H a = some (HO.tup xs) → H' a = some (.tup xs) := fun a xs h => b _ _ h (ne_of h hp (by intro z; cases z))
abbrev s__write : Stmt := top 14
abbrev N__write : List Str := ["value", "depth", "room", "parts"]
abbrev P__write : List Str := ["value", "depth", "room", "parts"]
theorem sc__write : FnScope N__write P__write (defScope s__write) := ⟨rfl, rfl, rfl, by decide +kernel, rfl, by decide +kernel, by decide +kernel⟩
abbrev s__write_tuple : Stmt := top 15
abbrev N__write_tuple : List Str := ["items", "depth", "room", "parts", "item"]
abbrev P__write_tuple : List Str := ["items", "depth", "room", "parts"]
theorem sc__write_tuple : FnScope N__write_tuple P__write_tuple (defScope s__write_tuple) := ⟨rfl, rfl, rfl, by decide +kernel, rfl, by decide +kernel, by decide +kernel⟩
theorem ok__write {f : Addr} {fd : FuncData} {n : Nat} (T : Tt K mg CT) (c__write_tuple : DefOk P w K mg base (L2.CX P w) "_write_tuple" P__write_tuple (3 + 2 * n) (sp__write_tuple CT n)) (c__put : DefOk P w K mg base (L2.CX P w) "_put" P__put 1 (sp__put CT)) (c__string_text : DefOk P w K mg base CX0 "_string_text" P__string_text 3 (sp__string_text)) (c__integer_text : DefOk P w K mg base CX0 "_integer_text" P__integer_text 2 (sp__integer_text)) (F : Fun K "_write" "_write" s__write f fd) : FnOk P w K mg base (L2.CX P w) (3 + 2 * n + 1) f fd P__write (sp__write CT n) := by
  have nd := sc__write.nd
  refine F.okX sc__write (fun vs H Q E h => ?_) (fun cdv A outer s H vs Q E hr h => ?_)
  · obtain ⟨_, _, _, _, _, _, rfl, _⟩ := h
    rfl
  · obtain ⟨v, d, k, r, p, zs, rfl, hv, hd, hsm, hk, hn, hp, hl, hz, q, q2⟩ := h
    have hs := sl
    refine ⟨_, (pss_cons (ps_if (pt_val (pe_callB call_isi (by rfl) T.b_isinstance (by decide +kernel) (pa_cons (pv 0) (pa_cons (pe_ty "tuple" T.b_tuple) pa_nil))))
        (pss_one (ps_ret (pcallE c__write_tuple (takes_of rfl rfl rfl rfl) (fun _ _ _ _ h => h) hr (pa_cons (pv 0) (pa_cons (pv 1) (pa_cons (pv 2) (pa_cons (pv 3) pa_nil)))))))
        pss_nil)
      (pss_cons (ps_if (pt_val (pe_callB call_isi (by rfl) T.b_isinstance (by decide +kernel) (pa_cons (pv 0) (pa_cons (pe_ty "str" T.b_str) pa_nil))))
        (pss_one (ps_ret (pcallE c__put (takes_of rfl rfl rfl rfl) (fun _ _ _ _ h => h) hr (pa_cons (pcall c__string_text hr (pa_cons (pv 0) pa_nil)) (pa_cons (pv 2) (pa_cons (pv 3) pa_nil))))))
        pss_nil)
      (pss_one (ps_ret (pcallE c__put (takes_of rfl rfl rfl rfl) (fun _ _ _ _ h => h) hr (pa_cons (pcall c__integer_text hr (pa_cons (pv 0) pa_nil)) (pa_cons (pv 2) (pa_cons (pv 3) pa_nil)))))))), ?_⟩
    cases hv with
    | @tup a xs ds ht _ hr2 =>
      refine ⟨_, rfl, _, _, _, _, true, rfl, .ty _, .base (.tup ht), kit_ty (by decide +kernel), _, rfl, iteT ?_⟩
      refine ⟨_, rfl, _, rfl, _, rfl, _, rfl, a, xs, ds, k, r, p, zs, rfl, ht, hr2, hd, hsm, hk, hn, hp, hl, hz, q, q2⟩
    | str z =>
      refine ⟨_, rfl, _, _, _, _, false, rfl, .ty _, .base (.str z), kit_ty (by decide +kernel), _, rfl, iteF ?_⟩
      refine ⟨_, rfl, _, _, _, _, true, rfl, .ty _, .base (.str z), kit_ty (by decide +kernel), _, rfl, iteT ?_⟩
      have hl1 : (enc (.str z)).length = (numL (tl z).length).length + ((tl z).length + 1) := by rw [enc, List.length_append, List.length_cons]
      have hsm : z.length ≤ 1000 := hsm
      have hlt := len_tl z
      have hnl := numL_len (n := (tl z).length) (k := 4) (by omega) (by omega)
      have hl2 := enc_len (.str z)
      refine ⟨_, rfl, z, rfl, by omega, hd, fun y hy => ?_⟩
      have hy2 : y.length = (enc (.str z)).length := by rw [len_tl, hy]
      refine ⟨_, rfl, _, rfl, y, r, p, _, rfl, hp, by omega, by omega, by rw [List.length_map]; omega, fun h => ?_, fun h => ?_⟩
      · rw [hy2] at h ⊢
        exact q h [y] _ (by rw [flat_one, hy]) (by simpa using hl2) (but_upd _) (by rw [upd_same, List.map_append]; rfl)
      · rw [hy2] at h
        exact q2 h _ (But.refl _ _)
    | int i =>
      refine ⟨_, rfl, _, _, _, _, false, rfl, .ty _, .base (.int i), kit_ty (by decide +kernel), _, rfl, iteF ?_⟩
      refine ⟨_, rfl, _, _, _, _, false, rfl, .ty _, .base (.int i), kit_ty (by decide +kernel), _, rfl, iteF ?_⟩
      have hl2 := enc_len (.int i)
      have hnl := numI_len (i := i) hd
      have hnl2 : (enc (.int i)).length = (numI i).length := by rw [enc]
      refine ⟨_, rfl, i, rfl, hd, fun y hy => ?_⟩
      have hy2 : y.length = (enc (.int i)).length := by rw [len_tl, hy]; rfl
      refine ⟨_, rfl, _, rfl, y, r, p, _, rfl, hp, by omega, by omega, by rw [List.length_map]; omega, fun h => ?_, fun h => ?_⟩
      · rw [hy2] at h ⊢
        exact q h [y] _ (by rw [flat_one, hy]; rfl) (by simpa using hl2) (but_upd _) (by rw [upd_same, List.map_append]; rfl)
      · rw [hy2] at h
        exact q2 h _ (But.refl _ _)
theorem ok__write_tuple {f : Addr} {fd : FuncData} {n : Nat} (T : Tt K mg CT) (c__write : DefOk P w K mg base (L2.CX P w) "_write" P__write (3 + 2 * n + 1) (sp__write CT n)) (c__put : DefOk P w K mg base (L2.CX P w) "_put" P__put 1 (sp__put CT)) (F : Fun K "_write_tuple" "_write_tuple" s__write_tuple f fd) : FnOk P w K mg base (L2.CX P w) (4 + 2 * n + 1) f fd P__write_tuple (sp__write_tuple CT (n + 1)) := by
  have nd := sc__write_tuple.nd
  refine F.okX sc__write_tuple (fun vs H Q E h => ?_) (fun cdv A outer s H vs Q E hr h => ?_)
  · obtain ⟨_, _, _, _, _, _, _, rfl, _⟩ := h
    rfl
  · obtain ⟨a, xs, ds, k, r, p, zs, rfl, ht, hrs, hd, hsm, hk, hn, hp, hl, hz, q, q2⟩ := h
    have hs := sl
    refine ⟨_, (pss_cons (ps_if (pt_cmpR op_eq (pv 1) pe_int (nomark _))
        (pss_one (ps_raise rfl (takes_of rfl rfl rfl rfl) (pmk_own0 PySem.F.excBase_ValueError T.x_BadText T.g_BadText T.k_BadText (raises_own T.b_BadText T.t_BadText))))
        pss_nil)
      (pss_cons (ps_set (i := 2) nd rfl (Or.inl rfl) (pcallE c__put (takes_of rfl rfl rfl rfl) (fun _ _ _ _ h => h) hr (pa_cons pe_str (pa_cons (pv 2) (pa_cons (pv 3) pa_nil)))))
      (pss_cons (ps_for (passes_of rfl) rfl (pi_tup (pv 0)) (pg_name (i := 4) nd rfl (Or.inl rfl))
        (pss_cons (ps_set (i := 2) nd rfl (Or.inl rfl) (pcallE c__write (takes_of rfl rfl rfl rfl) (fun _ _ _ _ h => h) hr (pa_cons (pv 4) (pa_cons (pe_op op_sub (pv 1) pe_int) (pa_cons (pv 2) (pa_cons (pv 3) pa_nil))))))
        (pss_one (ps_set (i := 2) nd rfl (Or.inl rfl) (pcallE c__put (takes_of rfl rfl rfl rfl) (fun _ _ _ _ h => h) hr (pa_cons pe_str (pa_cons (pv 2) (pa_cons (pv 3) pa_nil))))))))
      (pss_one (ps_ret (pcallE c__put (takes_of rfl rfl rfl rfl) (fun _ _ _ _ h => h) hr (pa_cons pe_str (pa_cons (pv 2) (pa_cons (pv 3) pa_nil))))))))), ?_⟩
    have hlen : (enc (.tup ds)).length = (encs ds).length + 2 := by
      rw [enc, List.length_cons, List.length_append, List.length_singleton]
    refine ⟨_, rfl, rfl, _, rfl, ?_⟩
    rw [decide_eq_false (show ¬ V.int k = V.int 0 by intro z; cases z; omega)]
    refine iteF ?_
    have l1 : (Str.ofString "(").length = 1 := by decide
    have t1 : tl (Str.ofString "(") = [40] := by decide
    refine ⟨_, rfl, _, rfl, _, r, p, _, rfl, hp, by omega, by omega, by rw [List.length_map]; omega, fun hr0 => ?_, fun hr0 => q2 (by omega) _ (But.refl _ _)⟩
    have b0 : But p H (upd H p (.lst (zs.map V.str ++ [.str (Str.ofString "(")]))) := but_upd _
    refine ⟨_, rfl, a, rfl, ⟨xs, SqT.of (b0.tupK hp _ _ ht)⟩, for_tup (K := K) (a := a) (xs := xs) (fun i σ H' => ∃ (ws : List Str) (v : Option V), σ = [some (.ref a), some (.int k), some (.int (r - 1 - (encs (ds.take i)).length)), some (.ref p), v] ∧ But p H H' ∧
      H' p = some (.lst ((zs ++ ws).map V.str)) ∧ flat ws = 40 :: encs (ds.take i) ∧ ws.length ≤ (flat ws).length ∧ (1 + (encs (ds.take i)).length : Int) ≤ r) ?_ ?_ ?_ ?_⟩
    · refine ⟨[Str.ofString "("], none, ?_, b0, ?_, ?_, ?_, ?_⟩
      · have e : (encs (ds.take 0)).length = 0 := rfl
        rw [e, l1]
        show [some (V.ref a), some (V.int k), some (V.int (r - ((1 : Nat) : Int))), some (V.ref p), none] = _
        congr 3
        congr 2
        omega
      · rw [upd_same, List.map_append]; rfl
      · rw [flat_one, t1]; rfl
      · rw [flat_one, t1]; decide
      · have e : (encs (ds.take 0)).length = 0 := rfl
        rw [e]; omega
    · rintro i σ H' hi ⟨ws, v, rfl, b1, h1, _, _⟩
      exact SqT.of (b1.tupK hp _ _ ht)
    · rintro i x σ H' hx ⟨ws, v, rfl, b1, h1, e1, z1, rr⟩
      obtain ⟨d, hdi, rx⟩ := hrs.at hx
      have et := encs_take hdi
      have etl : (encs (ds.take (i + 1))).length = (encs (ds.take i)).length + ((enc d).length + 1) := by rw [et, List.length_append, List.length_append, List.length_singleton]
      have ele := encs_take_le ds (i + 1)
      have l2 : (Str.ofString ";").length = 1 := by decide
      have t2 : tl (Str.ofString ";") = [59] := by decide
      have fl : (flat ws).length = (encs (ds.take i)).length + 1 := by rw [e1, List.length_cons]
      have dd := deps_at hdi
      refine ⟨_, rfl, _, rfl, _, _, rfl, rfl, _, rfl, _, rfl, x, d, k - 1, _, p, zs ++ ws, rfl, rx.mono (b1.tupK hp), oks_at hd hdi, smls_at hsm hdi, by omega, by omega, h1, by omega, by rw [List.length_append]; omega, fun hf ws2 H2 f2 z2 b2 h2 => ?_, fun hf H2 b2 => q2 (by omega) _ (b1.trans b2)⟩
      have z2' : ws2.length ≤ (flat ws2).length := by rw [f2]; exact z2
      have fl2 : (flat ws2).length = (enc d).length := by rw [f2]
      refine ⟨_, rfl, _, rfl, _, _, p, _, rfl, h2, by omega, by omega, by rw [List.length_map, List.length_append, List.length_append]; omega, fun hf2 => ?_, fun hf2 => q2 (by omega) _ (b1.trans b2)⟩
      refine ⟨ws ++ (ws2 ++ [Str.ofString ";"]), some x, ?_, b1.trans (b2.trans (but_upd _)), ?_, ?_, ?_, ?_⟩
      · rw [etl, l2]
        show [some (V.ref a), some (V.int k), some (V.int (r - 1 - ((encs (ds.take i)).length : Int) - ((enc d).length : Int) - ((1 : Nat) : Int))), some (V.ref p), some x] = _
        congr 3
        congr 2
        omega
      · rw [upd_same, ← List.append_assoc, ← List.append_assoc, List.map_append (l₂ := [Str.ofString ";"])]; rfl
      · rw [flat_append, flat_append, flat_one, e1, f2, t2, et]; rfl
      · rw [flat_append, flat_append, flat_one, t2, List.length_append, List.length_append, List.length_append, List.length_append]
        simp only [List.length_singleton]
        omega
      · omega
    · rintro σ H' ⟨ws, v, rfl, b1, h1, e1, z1, rr⟩
      have le : xs.length = ds.length := hrs.length
      rw [le, List.take_length] at e1 rr ⊢
      have l3 : (Str.ofString ")").length = 1 := by decide
      have t3 : tl (Str.ofString ")") = [41] := by decide
      have fl : (flat ws).length = (encs ds).length + 1 := by rw [e1, List.length_cons]
      refine ⟨_, rfl, _, rfl, _, _, p, _, rfl, h1, by omega, by omega, by rw [List.length_map, List.length_append]; omega, fun hf => ?_, fun hf => q2 (by omega) _ b1⟩
      have ee : r - 1 - ((encs ds).length : Int) - (((Str.ofString ")").length : Nat) : Int) = r - ((enc (.tup ds)).length : Int) := by omega
      rw [ee]
      refine q (by omega) (ws ++ [Str.ofString ")"]) _ ?_ ?_ (b1.trans (but_upd _)) ?_
      · rw [flat_append, flat_one, e1, t3]; rfl
      · rw [List.length_append, List.length_singleton]; omega
      · rw [upd_same, ← List.append_assoc, List.map_append (l₂ := [Str.ofString ")"])]; rfl
/-- the two of the writing, for every depth -/
def mk_write (T : Tt K mg CT) (aW : DefAt K mg "_write" P__write s__write) (aT : DefAt K mg "_write_tuple" P__write_tuple s__write_tuple) (c__put : DefOk P w K mg base (L2.CX P w) "_put" P__put 1 (sp__put CT)) (c__string_text : DefOk P w K mg base CX0 "_string_text" P__string_text 3 (sp__string_text)) (c__integer_text : DefOk P w K mg base CX0 "_integer_text" P__integer_text 2 (sp__integer_text)) :
    ∀ n : Nat, DefOk P w K mg base (L2.CX P w) "_write" P__write (3 + 2 * n + 1) (sp__write CT n) × DefOk P w K mg base (L2.CX P w) "_write_tuple" P__write_tuple (3 + 2 * n) (sp__write_tuple CT n)
  | 0 =>
    let t : DefOk P w K mg base (L2.CX P w) "_write_tuple" P__write_tuple (3 + 2 * 0) (sp__write_tuple CT 0) := aT.ok fun _ => no_call (by
      rintro vs H Q E ⟨a, xs, ds, k, r, p, zs, _, _, _, _, _, _, h, _⟩
      omega)
    (aW.ok fun F => ok__write T t c__put c__string_text c__integer_text F, t)
  | n + 1 =>
    let p := mk_write T aW aT c__put c__string_text c__integer_text n
    let t : DefOk P w K mg base (L2.CX P w) "_write_tuple" P__write_tuple (3 + 2 * (n + 1)) (sp__write_tuple CT (n + 1)) := (aT.ok fun F => ok__write_tuple T p.1 c__put F).mono (by omega)
    (aW.ok fun F => ok__write T t c__put c__string_text c__integer_text F, t)
abbrev s_encode : Stmt := top 13
abbrev N_encode : List Str := ["value", "parts"]
abbrev P_encode : List Str := ["value"]
theorem sc_encode : FnScope N_encode P_encode (defScope s_encode) := ⟨rfl, rfl, rfl, by decide +kernel, rfl, by decide +kernel, by decide +kernel⟩
def sp_encode (CT : Addr) : Sp := fun vs H Q E => ∃ (v : V) (d : D), vs = [v] ∧ Rep H v d ∧ Txt4.ok d ∧ sml d ∧ dep d ≤ 8 ∧ ((enc d).length ≤ 100000 → ∀ y H', tl y = enc d → Same H H' → Q (.str y) H') ∧ (100000 < (enc d).length → ∀ H', Same H H' → E (.ref CT) none H')
theorem ok_encode {f : Addr} {fd : FuncData} (T : Tt K mg CT) (c__write : DefOk P w K mg base (L2.CX P w) "_write" P__write 20 (sp__write CT 8)) (F : Fun K "encode" "encode" s_encode f fd) : FnOk P w K mg base (L2.CX P w) 21 f fd P_encode (sp_encode CT) := by
  have nd := sc_encode.nd
  refine F.okX sc_encode (fun vs H Q E h => ?_) (fun cdv A outer s H vs Q E hr h => ?_)
  · obtain ⟨_, _, rfl, _⟩ := h
    rfl
  · obtain ⟨v, d, rfl, hv, hd, hsm, hdep, q, q2⟩ := h
    have hs := sl
    refine ⟨_, (pss_cons (ps_set (i := 1) nd rfl (Or.inl rfl) (pe_lst pa_nil))
      (pss_cons (ps_expr (pcallE c__write (takes_of rfl rfl rfl rfl) (fun _ _ _ _ h => h) hr (pa_cons (pv 0) (pa_cons (pe_const T.c_MOST_DEPTH) (pa_cons (pe_const T.c_MOST_LENGTH) (pa_cons (pv 1) pa_nil))))))
      (pss_one (ps_ret (pe_join pe_str (pv 1)))))), ?_⟩
    refine ⟨by decide, fun p hp => ?_⟩
    have s1 := same_new hp (.lst [])
    refine ⟨_, rfl, _, rfl, v, d, 8, 100000, p, [], rfl, hv.mono (fun a xs h => s1 _ _ h), hd, hsm, by omega, by omega, upd_same, by omega, by decide, fun hf ws H' f1 z1 b1 h1 => ?_, fun hf H' b1 => ?_⟩
    · have s2 : Same H H' := fun b o e => b1 b o (s1 b o e) (ne_of_none e hp)
      have z2 := flat_len ws
      refine ⟨⟨_, rfl⟩, _, rfl, _, p, ws, rfl, rfl, .inl (SqL.of h1), ?_, q (by omega) _ _ ?_ s2⟩
      · rw [z2, f1]
        have : (Str.ofString "").length = 0 := by decide
        rw [this]; omega
      · exact (tl_glue ws).trans f1
    · exact q2 (by omega) _ fun b o e => b1 b o (s1 b o e) (ne_of_none e hp)
end
end Mus

set_option maxRecDepth 100000
set_option maxHeartbeats 4000000
namespace Mus
open PySem L2 TL PySem.NumText Txt4
local macro_rules | `(tactic| walk_at "rd") => `(tactic| first
  | refine ⟨_, rfl, ?_⟩ | refine ⟨(True.intro : True), ?_⟩
  | refine ⟨_, _, rfl, rfl, (⟨by decide, by decide, by decide⟩ : CPow _ _), ?_⟩
  | refine ⟨_, _, rfl, rfl, (⟨by decide, by decide⟩ : CDiv _ _), ?_⟩
  | refine ⟨_, _, rfl, rfl, (by show (0 : Int) < _; decide), ?_⟩
  | refine ⟨_, _, rfl, rfl, ?_⟩ | refine ⟨rfl, ?_⟩ | refine iteT ?_ | refine iteF ?_ | refine ⟨_, _, rfl, ?_⟩ | refine .inl ⟨_, rfl, ?_⟩
  | refine ⟨_, _, _, _, _, rfl, (by assumption), (by assumption), (by assumption), rfl, ?_⟩ | refine ⟨_, _, _, _, rfl, rfl, SqT.of (by assumption), rfl, ?_⟩ | refine ⟨_, _, rfl, SqT.of (by assumption), rfl, ?_⟩
  | refine ⟨_, _, _, _, _, rfl, .ty _, Rp.ty (by assumption), kit_int _, ?_⟩ | refine ⟨_, _, _, _, _, rfl, .ty _, Rp.ty (by assumption), kit_bool _, ?_⟩
  | refine ⟨_, _, _, _, _, rfl, .ty _, Rp.ty (by assumption), kit_str _, ?_⟩ | refine ⟨_, _, _, _, _, rfl, .ty _, Rp.ty (by assumption), kit_tup _, ?_⟩)
local macro_rules | `(tactic| walk_at "cal") => `(tactic| first
  | refine ⟨_, _, _, _, _, rfl, (by assumption), ?_⟩ | refine ⟨_, _, _, _, _, rfl, (by assumption), (by assumption), ?_⟩)
local macro_rules | `(tactic| walk_at "sq") => `(tactic| first
  | refine ⟨_, _, rfl, Or.inr (SqT.of (by assumption)), ?_⟩ | refine ⟨_, _, _, _, rfl, rfl, SqT.of (by assumption), rfl, ?_⟩)
local macro_rules | `(tactic| walk_at "rds") => `(tactic| repeat first | walk_at "rd" | walk_at "cal" | walk_at "sq")
local macro_rules | `(tactic| walk_at "ze") => `(tactic| repeat first
  | exact zes_nil | exact ze_bl | exact ze_str | exact ze_non | apply zes_cons | apply ze_tup | apply ze_lst | apply ze_cat | exact di_c | exact di_v rfl | apply di_opC | apply di_op | apply di_neg | apply ze_i | (refine (⟨?_, ?_, ?_⟩ : CPow _ _) <;> decide) | exact Nat.le_of_ble_eq_true rfl | exact ze_varD rfl (by assumption))
local macro_rules | `(tactic| walk_at "rdz") => `(tactic| repeat (fail_if_success (first | show tLst _ _ _ _ | show tAsg (tLst _) _ _ _ _ | show tSeq (tAsg (tLst _) _) _ _ _ _)); first | walk_at "rd" | walk_at "cal" | walk_at "sq")
section
variable {P : Program} {w : World} {K : PySem.W.Frag} {mg : Str → Option Value} {base : Heap} {CT : Addr}
/-! ### decode -/
theorem cut_mid {z : Str} {pre mid post : List Nat} (e : tl z = pre ++ (mid ++ post)) : tl (cutS z (some (pre.length : Int)) (some ((pre.length : Int) + (mid.length : Int)))) = mid := by
  have hl := len_tl z
  rw [e, List.length_append, List.length_append] at hl
  have e2 : (pre.length : Int) + (mid.length : Int) = ((pre.length + mid.length : Nat) : Int) := by omega
  unfold cutS
  rw [e2, HT.sIx_nat, HT.sIx_nat, Nat.min_eq_left (by omega), Nat.min_eq_left (by omega)]
  show ((tl z).drop pre.length).take (pre.length + mid.length - pre.length) = mid
  rw [e, List.drop_left, Nat.add_sub_cancel_left, List.take_left]
theorem cut_one {z : Str} {pre r : List Nat} (e : tl z = pre ++ r) : tl (cutS z (some (pre.length : Int)) (some ((pre.length : Int) + 1))) = r.take 1 := by
  have hl := len_tl z
  rw [e, List.length_append] at hl
  have e2 : (pre.length : Int) + 1 = ((pre.length + 1 : Nat) : Int) := by omega
  unfold cutS
  rw [e2, HT.sIx_nat, HT.sIx_nat, show min pre.length z.length = pre.length from Nat.min_eq_left (by omega)]
  show ((tl z).drop pre.length).take (min (pre.length + 1) z.length - pre.length) = r.take 1
  rw [e, List.drop_left]
  cases r with
  | nil => simp
  | cons c r =>
    rw [List.length_cons] at hl
    rw [Nat.min_eq_left (by omega), Nat.add_sub_cancel_left]
theorem str_eq {x y : Str} : decide (V.str x = V.str y) = decide (tl x = tl y) := by
  by_cases h : tl x = tl y
  · rw [decide_eq_true h, ext_tl h]; exact decide_eq_true rfl
  · rw [decide_eq_false h]; exact decide_eq_false (by intro z; cases z; exact h rfl)
abbrev s__digits_end : Stmt := top 24
abbrev N__digits_end : List Str := ["text", "start", "end"]
abbrev P__digits_end : List Str := ["text", "start"]
theorem sc__digits_end : FnScope N__digits_end P__digits_end (defScope s__digits_end) := ⟨rfl, rfl, rfl, by decide +kernel, rfl, by decide +kernel, by decide +kernel⟩
def sp__digits_end : Sp := fun vs H Q _ => ∃ (z : Str) (pre ds post : List Nat), vs = [.str z, .int pre.length] ∧ tl z = pre ++ (ds ++ post) ∧ AllDigits ds ∧ nd post ∧ z.length ≤ 100000 ∧ Q (.int ((pre.length : Int) + (ds.length : Int))) H
theorem ok__digits_end {f : Addr} {fd : FuncData} (T : Tx mg) (F : Fun K "_digits_end" "_digits_end" s__digits_end f fd) : FnOk P w K mg base CX0 (1) f fd P__digits_end (sp__digits_end) := by
  have nd := sc__digits_end.nd
  refine F.ok sc__digits_end (fun vs H Q E h => ?_) (fun cdv A outer s H vs Q E hr h => ?_)
  · obtain ⟨_, _, _, _, rfl, _⟩ := h
    rfl
  · obtain ⟨z, pre, ds, post, rfl, e, hd, hn, hz, q⟩ := h
    have hs := sl
    refine ⟨_, (pss_cons (ps_set (i := 2) nd rfl (Or.inl rfl) (pv 1))
      (pss_cons (ps_while PassesOwn.never (PW.pt (pw_and (pt_cmpR op_lt (pv 2) (pe_callB call_len_str (by rfl) T.b_len (by decide +kernel) (pa_cons (pv 0) pa_nil)) (nomark _)) (pw_and1 (pt_chain op_le_str op_le_str pe_str (pe_ix ix_str (pv 0) (pv 2) (fun _ _ => rfl)) pe_str))))
        (pss_one (ps_aug (i := 2) nd rfl (Or.inl rfl) pe_int ip_add)))
      (pss_one (ps_ret (pv 2))))), ?_⟩
    have hl := len_tl z
    rw [e, List.length_append, List.length_append] at hl
    refine ⟨_, rfl, fun m σ H' => H' = H ∧ m ≤ ds.length ∧ σ = [some (.str z), some (.int pre.length), some (.int ((pre.length : Int) + ((ds.length - m : Nat) : Int)))], ⟨ds.length, rfl, Nat.le_refl _, ?_⟩, ?_⟩
    · rw [Nat.sub_self]
      show [some (V.str z), some (V.int pre.length), some (V.int (pre.length : Int))] = _
      congr 3
    · rintro m σ H' ⟨rfl, hm, rfl⟩
      refine ⟨_, rfl, _, rfl, _, rfl, by omega, _, _, rfl, rfl, _, rfl, ?_⟩
      have at1 : ∀ c, (ds ++ post)[ds.length - m]? = some c → atI (tl z) ((pre.length : Int) + ((ds.length - m : Nat) : Int)) = some c := by
        intro c hc
        rw [show (pre.length : Int) + ((ds.length - m : Nat) : Int) = ((pre.length + (ds.length - m) : Nat) : Int) by omega]
        refine atI_nat ?_
        rw [e, List.getElem?_append_right (by omega), Nat.add_sub_cancel_left]
        exact hc
      cases m with
      | zero =>
        rw [Nat.sub_zero] at at1 ⊢
        cases hp : post with
        | nil =>
          rw [hp, List.length_nil] at hl
          rw [decide_eq_false (by omega)]
          exact iteF ⟨_, rfl, q⟩
        | cons c r =>
          rw [hp, List.length_cons] at hl
          rw [decide_eq_true (by omega)]
          refine iteT ?_
          have hc := at1 c (by rw [hp, List.getElem?_append_right (by omega), Nat.sub_self]; rfl)
          refine ⟨_, rfl, _, rfl, z, _, c, rfl, rfl, by omega, hc, _, _, rfl, rfl, _, rfl, ?_⟩
          have e1 := one_ge (y := Str.ofString "0") (b := 48) c (by decide)
          have e2 := one_le (y := Str.ofString "9") (b := 57) c (by decide)
          have hc2 := hn c r hp
          rw [e1]
          by_cases h1 : 48 ≤ c
          · rw [decide_eq_true h1]
            refine iteT ⟨_, _, rfl, rfl, _, rfl, ?_⟩
            rw [e2, decide_eq_false (by omega)]
            exact iteF ⟨_, rfl, q⟩
          · rw [decide_eq_false h1]
            exact iteF ⟨_, rfl, iteF ⟨_, rfl, q⟩⟩
      | succ m =>
        have hj : ds.length - (m + 1) < ds.length := by omega
        rw [decide_eq_true (by omega)]
        refine iteT ?_
        have hc := at1 ds[ds.length - (m + 1)] (by rw [List.getElem?_append_left hj]; exact List.getElem?_eq_getElem hj)
        have hdc := hd _ (List.getElem_mem hj)
        refine ⟨_, rfl, _, rfl, z, _, _, rfl, rfl, by omega, hc, _, _, rfl, rfl, _, rfl, ?_⟩
        rw [one_ge (y := Str.ofString "0") (b := 48) _ (by decide), decide_eq_true hdc.1]
        refine iteT ⟨_, _, rfl, rfl, _, rfl, ?_⟩
        rw [one_le (y := Str.ofString "9") (b := 57) _ (by decide), decide_eq_true hdc.2]
        refine iteT ⟨_, fun σ' H' h => ⟨m, Nat.lt_succ_self m, h⟩, ?_⟩
        refine ⟨_, rfl, _, _, rfl, rfl, rfl, by omega, ?_⟩
        show [some (V.str z), some (V.int pre.length), some (V.int ((pre.length : Int) + ((ds.length - (m + 1) : Nat) : Int) + 1))] = _
        congr 3
        congr 2
        omega
abbrev s__read_integer : Stmt := top 23
abbrev N__read_integer : List Str := ["text", "start", "first_digit", "end", "number"]
abbrev P__read_integer : List Str := ["text", "start"]
theorem sc__read_integer : FnScope N__read_integer P__read_integer (defScope s__read_integer) := ⟨rfl, rfl, rfl, by decide +kernel, rfl, by decide +kernel, by decide +kernel⟩
def sp__read_integer : Sp := fun vs H Q _ => ∃ (z : Str) (pre post : List Nat) (i : Int), vs = [.str z, .int pre.length] ∧ tl z = pre ++ (numI i ++ post) ∧ nd post ∧ i.natAbs < 10 ^ 24 ∧ z.length ≤ 100000 ∧
  ∀ p, H p = none → Q (.ref p) (upd H p (.tup [.int i, .int ((pre.length : Int) + ((numI i).length : Int))]))
theorem take1 {c : Nat} {l : List Nat} : (c :: l).take 1 = [c] := by simp
theorem ok__read_integer {f : Addr} {fd : FuncData} (T : Tx mg) (c__digits_end : DefOk P w K mg base CX0 "_digits_end" P__digits_end 1 (sp__digits_end))(F : Fun K "_read_integer" "_read_integer" s__read_integer f fd) : FnOk P w K mg base CX0 (2) f fd P__read_integer (sp__read_integer) := by
  have nd := sc__read_integer.nd
  refine F.ok sc__read_integer (fun vs H Q E h => ?_) (fun cdv A outer s H vs Q E hr h => ?_)
  · obtain ⟨_, _, _, _, rfl, _⟩ := h
    rfl
  · obtain ⟨z, pre, post, i, rfl, e, hn, hi, hz, q⟩ := h
    have hs := sl
    have h25 := numI_len hi
    have hdl := numL_len (n := i.natAbs) (k := 24) (by omega) hi
    have hdp : 1 ≤ (numL i.natAbs).length := by
      obtain ⟨c, r, e0, _⟩ := numL_head i.natAbs
      rw [e0]; simp
    refine ⟨_, (pss_cons (ps_set (i := 2) nd rfl (Or.inl rfl) (pv 1))
      (pss_cons (ps_if (pt_cmpR op_eq (pe_slice sl_str (pv 0) (po_some (pv 1)) (po_some (pe_op op_add (pv 1) pe_int))) pe_str (nomark _))
        (pss_one (ps_set (i := 2) nd rfl (Or.inl rfl) (pe_op op_add (pv 1) pe_int)))
        pss_nil)
      (pss_cons (ps_set (i := 3) nd rfl (Or.inl rfl) (pcall c__digits_end hr (pa_cons (pv 0) (pa_cons (pv 2) pa_nil))))
      (pss_cons (ps_if (pt_not (pt_chain op_le op_le pe_int (pe_op op_sub (pv 3) (pv 2)) (pe_const T.c_MOST_DIGITS)))
        (pss_one ps_never)
        pss_nil)
      (pss_cons (ps_set (i := 4) nd rfl (Or.inl rfl) (pe_callTy call_int_str (by rfl) T.b_int (by decide +kernel) (pa_cons (pe_slice sl_str (pv 0) (po_some (pv 1)) (po_some (pv 3))) pa_nil)))
      (pss_cons (ps_if (pt_cmpR op_ne (pe_callTy call_str_int (by rfl) T.b_str (by decide +kernel) (pa_cons (pv 4) pa_nil)) (pe_slice sl_str (pv 0) (po_some (pv 1)) (po_some (pv 3))) (nomark _))
        (pss_one ps_never)
        pss_nil)
      (pss_one (ps_ret (pe_tup (pa_cons (pv 4) (pa_cons (pv 3) pa_nil))))))))))), ?_⟩
    refine ⟨_, rfl, _, rfl, _, rfl, _, rfl, _, rfl, _, _, rfl, rfl, _, rfl, z, rfl, by omega, rfl, _, rfl, ?_⟩
    rw [str_eq, cut_one e, show tl (Str.ofString "-") = [45] by decide]
    have mid := cut_mid e
    have it := intText_numI mid hi
    have ml : (cutS z (some (pre.length : Int)) (some ((pre.length : Int) + ((numI i).length : Int)))).length ≤ 640 := by rw [len_tl, mid]; omega
    have key : ∃ pre2 : List Nat, tl z = pre2 ++ (numL i.natAbs ++ post) ∧ (pre2.length : Int) + ((numL i.natAbs).length : Int) = (pre.length : Int) + ((numI i).length : Int) ∧
        ((decide ((numI i ++ post).take 1 = [45]) = true ∧ (pre.length : Int) + 1 = (pre2.length : Int)) ∨ (decide ((numI i ++ post).take 1 = [45]) = false ∧ (pre.length : Int) = (pre2.length : Int))) := by
      by_cases h0 : i < 0
      · have en : numI i = 45 :: numL i.natAbs := by unfold numI; rw [if_pos h0]
        have ln : ((numI i).length : Int) = ((numL i.natAbs).length : Int) + 1 := by rw [en, List.length_cons]; omega
        have lp : ((pre ++ [45]).length : Int) = (pre.length : Int) + 1 := by rw [List.length_append, List.length_singleton]; omega
        refine ⟨pre ++ [45], by rw [e, en, List.append_assoc]; rfl, by omega, .inl ⟨?_, by omega⟩⟩
        rw [en, List.cons_append, take1]; decide
      · have en : numI i = numL i.natAbs := by unfold numI; rw [if_neg h0]
        refine ⟨pre, by rw [e, en], by rw [en], .inr ⟨?_, rfl⟩⟩
        obtain ⟨c, r, e0, hc⟩ := numL_head i.natAbs
        rw [en, e0, List.cons_append, take1]
        exact decide_eq_false (by intro z; have := (List.cons.inj z).1; omega)
    obtain ⟨pre2, e2, hf, hcase⟩ := key
    have e9 : tl (Str.ofString (toString i)) = numI i := tl_int i
    rcases hcase with ⟨hb, hl⟩ | ⟨hb, hl⟩ <;> rw [hb]
    · refine iteT ⟨_, rfl, _, _, rfl, rfl, ?_⟩
      refine ⟨_, rfl, _, rfl, z, pre2, numL i.natAbs, post, congrArg (fun t => [V.str z, V.int t]) hl, e2, numL_digits _, hn, hz, ?_⟩
      rw [hf]
      refine ⟨_, rfl, _, rfl, _, _, rfl, rfl, _, _, rfl, rfl, _, rfl, dT (by omega) ⟨_, _, rfl, rfl, _, rfl, nF (by omega) ?_⟩⟩
      refine ⟨_, rfl, _, rfl, _, rfl, _, rfl, _, rfl, z, rfl, by omega, _, i, rfl, it, ml, ?_⟩
      refine ⟨_, rfl, i, rfl, log_small (by omega), _, rfl, _, rfl, _, rfl, _, rfl, _, rfl, z, rfl, by omega, rfl, _, rfl, ?_⟩
      rw [str_eq, e9, mid]
      refine nF rfl ⟨_, rfl, _, rfl, by show 2 ≤ sizeLine; omega, fun p hp => q p hp⟩
    · refine iteF ?_
      refine ⟨_, rfl, _, rfl, z, pre2, numL i.natAbs, post, congrArg (fun t => [V.str z, V.int t]) hl, e2, numL_digits _, hn, hz, ?_⟩
      rw [hf]
      refine ⟨_, rfl, _, rfl, _, _, rfl, rfl, _, _, rfl, rfl, _, rfl, dT (by omega) ⟨_, _, rfl, rfl, _, rfl, nF (by omega) ?_⟩⟩
      refine ⟨_, rfl, _, rfl, _, rfl, _, rfl, _, rfl, z, rfl, by omega, _, i, rfl, it, ml, ?_⟩
      refine ⟨_, rfl, i, rfl, log_small (by omega), _, rfl, _, rfl, _, rfl, _, rfl, _, rfl, z, rfl, by omega, rfl, _, rfl, ?_⟩
      rw [str_eq, e9, mid]
      refine nF rfl ⟨_, rfl, _, rfl, by show 2 ≤ sizeLine; omega, fun p hp => q p hp⟩
abbrev s__read_characters : Stmt := top 22
abbrev N__read_characters : List Str := ["text", "start", "length", "end"]
abbrev P__read_characters : List Str := ["text", "start", "length"]
theorem sc__read_characters : FnScope N__read_characters P__read_characters (defScope s__read_characters) := ⟨rfl, rfl, rfl, by decide +kernel, rfl, by decide +kernel, by decide +kernel⟩
def sp__read_characters : Sp := fun vs H Q _ => ∃ (z : Str) (pre mid post : List Nat), vs = [.str z, .int pre.length, .int mid.length] ∧ tl z = pre ++ (mid ++ post) ∧ z.length ≤ 100000 ∧
  ∀ p (y : Str), tl y = mid → H p = none → Q (.ref p) (upd H p (.tup [.str y, .int ((pre.length : Int) + (mid.length : Int))]))
theorem ok__read_characters {f : Addr} {fd : FuncData} (T : Tx mg) (F : Fun K "_read_characters" "_read_characters" s__read_characters f fd) : FnOk P w K mg base CX0 (1) f fd P__read_characters (sp__read_characters) := by
  have nd := sc__read_characters.nd
  refine F.ok sc__read_characters (fun vs H Q E h => ?_) (fun cdv A outer s H vs Q E hr h => ?_)
  · obtain ⟨_, _, _, _, rfl, _⟩ := h
    rfl
  · obtain ⟨z, pre, mid, post, rfl, e, hz, q⟩ := h
    have hs := sl
    have hl := len_tl z
    rw [e, List.length_append, List.length_append] at hl
    refine ⟨_, (pss_cons (ps_set (i := 3) nd rfl (Or.inl rfl) (pe_op op_add (pv 1) (pv 2)))
      (pss_cons (ps_if (pt_cmpR op_gt (pv 3) (pe_callB call_len_str (by rfl) T.b_len (by decide +kernel) (pa_cons (pv 0) pa_nil)) (nomark _))
        (pss_one ps_never)
        pss_nil)
      (pss_one (ps_ret (pe_tup (pa_cons (pe_slice sl_str (pv 0) (po_some (pv 1)) (po_some (pv 3))) (pa_cons (pv 3) pa_nil))))))), ?_⟩
    refine ⟨_, rfl, _, rfl, _, _, rfl, rfl, _, rfl, _, rfl, _, rfl, by omega, _, _, rfl, rfl, _, rfl, dF (by omega) ?_⟩
    refine ⟨_, rfl, _, rfl, _, rfl, _, rfl, _, rfl, z, rfl, by omega, _, rfl, by show 2 ≤ sizeLine; omega, fun p hp => ?_⟩
    exact q p _ (cut_mid e) hp
theorem tup2 {H : Hp} {a : Addr} {v : V} {i j : Int} (h : H a = some (.tup [v, .int i])) (e : i = j) : H a = some (.tup [v, .int j]) := e ▸ h
theorem take1_eq {l : List Nat} {c : Nat} (h : l.take 1 = [c]) : ∃ q, l = c :: q := by
  cases l with
  | nil => simp at h
  | cons x r =>
    rw [take1] at h
    exact ⟨r, by rw [(List.cons.inj h).1]⟩
def sp__read (n : Nat) : Sp := fun vs H Q _ => ∃ (z : Str) (pre post : List Nat) (d : D) (k : Int), vs = [.str z, .int pre.length, .int k] ∧ tl z = pre ++ (enc d ++ post) ∧ tailOk post ∧ Txt4.ok d ∧ (dep d : Int) ≤ k ∧ dep d ≤ n ∧ z.length ≤ 100000 ∧
  ∀ v p H', Same H H' → Rep H' v d → H' p = some (.tup [v, .int ((pre.length : Int) + ((enc d).length : Int))]) → Q (.ref p) H'
def sp__read_tuple (n : Nat) : Sp := fun vs H Q _ => ∃ (z : Str) (pre post : List Nat) (ds : List D) (k : Int), vs = [.str z, .int pre.length, .int k] ∧ tl z = pre ++ (encs ds ++ 41 :: post) ∧ oks ds ∧ (deps ds : Int) + 1 ≤ k ∧ deps ds + 1 ≤ n ∧ z.length ≤ 100000 ∧
  ∀ v p H', Same H H' → Rep H' v (.tup ds) → H' p = some (.tup [v, .int ((pre.length : Int) + ((encs ds).length : Int) + 1)]) → Q (.ref p) H'
abbrev s__read : Stmt := top 20
abbrev N__read : List Str := ["text", "start", "depth", "number", "end"]
abbrev P__read : List Str := ["text", "start", "depth"]
theorem sc__read : FnScope N__read P__read (defScope s__read) := ⟨rfl, rfl, rfl, by decide +kernel, rfl, by decide +kernel, by decide +kernel⟩
abbrev s__read_tuple : Stmt := top 21
abbrev N__read_tuple : List Str := ["text", "start", "depth", "items", "place", "item"]
abbrev P__read_tuple : List Str := ["text", "start", "depth"]
theorem sc__read_tuple : FnScope N__read_tuple P__read_tuple (defScope s__read_tuple) := ⟨rfl, rfl, rfl, by decide +kernel, rfl, by decide +kernel, by decide +kernel⟩
theorem ok__read {f : Addr} {fd : FuncData} (T : Tx mg) {n : Nat} (c__read_tuple : DefOk P w K mg base CX0 "_read_tuple" P__read_tuple (3 + 2 * n) (sp__read_tuple n)) (c__read_integer : DefOk P w K mg base CX0 "_read_integer" P__read_integer 2 (sp__read_integer)) (c__read_characters : DefOk P w K mg base CX0 "_read_characters" P__read_characters 1 (sp__read_characters))(F : Fun K "_read" "_read" s__read f fd) : FnOk P w K mg base CX0 (3 + 2 * n + 1) f fd P__read (sp__read n) := by
  have nd := sc__read.nd
  refine F.ok sc__read (fun vs H Q E h => ?_) (fun cdv A outer s H vs Q E hr h => ?_)
  · obtain ⟨_, _, _, _, _, rfl, _⟩ := h
    rfl
  · obtain ⟨z, pre, post, d, k, rfl, e, hp, hd, hk, hn, hz, q⟩ := h
    have hs := sl
    have hl := len_tl z
    have hl2 := hl
    rw [e, List.length_append, List.length_append] at hl2
    refine ⟨_, (pss_cons (ps_if (pt_cmpR op_eq (pe_slice sl_str (pv 0) (po_some (pv 1)) (po_some (pe_op op_add (pv 1) pe_int))) pe_str (nomark _))
        (pss_one (ps_ret (pcall c__read_tuple hr (pa_cons (pv 0) (pa_cons (pe_op op_add (pv 1) pe_int) (pa_cons (pv 2) pa_nil))))))
        pss_nil)
      (pss_cons (ps_asg (pcall c__read_integer hr (pa_cons (pv 0) (pa_cons (pv 1) pa_nil))) (pg_tup (by rfl) (pgs_cons (pg_name (i := 3) nd rfl (Or.inl rfl)) (pgs_cons (pg_name (i := 4) nd rfl (Or.inl rfl)) pgs_nil))))
      (pss_cons (ps_if (PW.pt (pw_or (pt_cmpR op_lt (pv 3) pe_int (nomark _)) (pw_or1 (pt_cmpR op_ne (pe_slice sl_str (pv 0) (po_some (pv 4)) (po_some (pe_op op_add (pv 4) pe_int))) pe_str (nomark _)))))
        (pss_one (ps_ret (pe_tup (pa_cons (pv 3) (pa_cons (pv 4) pa_nil)))))
        pss_nil)
      (pss_one (ps_ret (pcall c__read_characters hr (pa_cons (pv 0) (pa_cons (pe_op op_add (pv 4) pe_int) (pa_cons (pv 3) pa_nil))))))))), ?_⟩
    refine ⟨_, rfl, _, rfl, _, rfl, _, rfl, _, _, rfl, rfl, _, rfl, z, rfl, by omega, rfl, _, rfl, ?_⟩
    rw [str_eq, cut_one e, show tl (Str.ofString "(") = [40] by decide]
    cases d with
    | tup ds =>
      have en : enc (.tup ds) = 40 :: (encs ds ++ [41]) := by rw [enc]
      have e2 : tl z = (pre ++ [40]) ++ (encs ds ++ 41 :: post) := by
        rw [e, en, List.append_assoc, List.cons_append, List.append_assoc]; rfl
      have lp : ((pre ++ [40]).length : Int) = (pre.length : Int) + 1 := by rw [List.length_append, List.length_singleton]; omega
      have le : (enc (.tup ds)).length = (encs ds).length + 2 := by rw [en, List.length_cons, List.length_append, List.length_singleton]
      refine dT (by rw [en]; rfl) ?_
      refine ⟨_, rfl, _, rfl, _, _, rfl, rfl, _, rfl, z, pre ++ [40], post, ds, k, by rw [lp]; rfl, e2, hd, hk, hn, hz, fun v p H' s1 r1 h1 => q v p H' s1 r1 (tup2 h1 (by omega))⟩
    | int i =>
      have en : enc (.int i) = numI i := by rw [enc]
      refine dF (fun h => ?_) ?_
      · obtain ⟨r, h1⟩ := take1_eq h
        exact numI_not40 h1
      refine ⟨_, rfl, _, rfl, z, pre, post, i, rfl, e, hp.nd, hd, hz, fun p np => ?_⟩
      refine ⟨p, _, rfl, SqT.of upd_same, rfl, _, _, rfl, _, _, rfl, rfl, ?_⟩
      refine ⟨_, rfl, _, _, rfl, rfl, _, rfl, ?_⟩
      have s1 := same_new np (.tup [.int i, .int ((pre.length : Int) + ((numI i).length : Int))])
      by_cases h0 : i < 0
      · refine dT h0 (iteT ⟨_, rfl, _, rfl, by show 2 ≤ sizeLine; omega, fun p2 np2 => ?_⟩)
        exact q _ p2 _ (s1.trans (same_new np2 _)) (.int i) (by rw [upd_same]; rfl)
      · refine dF h0 ?_
        have e2 : tl z = (pre ++ numI i) ++ post := by rw [e, en, List.append_assoc]
        have lp : ((pre ++ numI i).length : Int) = (pre.length : Int) + ((numI i).length : Int) := by rw [List.length_append]; omega
        refine ⟨_, rfl, _, rfl, _, rfl, _, rfl, _, _, rfl, rfl, _, rfl, z, rfl, by omega, rfl, _, rfl, ?_⟩
        rw [← lp, str_eq, cut_one e2, show tl (Str.ofString ":") = [58] by decide]
        have hc : ¬ post.take 1 = [58] := by
          intro h
          obtain ⟨r, h1⟩ := take1_eq h
          rcases hp with hp | ⟨s, hp⟩
          · rw [hp] at h1; cases h1
          · rw [hp] at h1; have := (List.cons.inj h1).1; omega
        rw [decide_eq_false hc, lp]
        refine iteT ⟨_, rfl, _, rfl, by show 2 ≤ sizeLine; omega, fun p2 np2 => ?_⟩
        exact q _ p2 _ (s1.trans (same_new np2 _)) (.int i) (by rw [upd_same]; rfl)
    | str y =>
      have en : enc (.str y) = numL (tl y).length ++ 58 :: tl y := by rw [enc]
      have ei : numI ((tl y).length : Int) = numL (tl y).length := by unfold numI; rw [if_neg (by omega)]; rfl
      have le : (enc (.str y)).length = (numL (tl y).length).length + ((tl y).length + 1) := by rw [en, List.length_append, List.length_cons]
      refine dF (fun h => ?_) ?_
      · obtain ⟨r, h1⟩ := take1_eq h
        rw [en, List.append_assoc] at h1
        exact numL_not40 h1
      have e1 : tl z = pre ++ (numI ((tl y).length : Int) ++ (58 :: (tl y ++ post))) := by rw [e, en, ei, List.append_assoc]; rfl
      refine ⟨_, rfl, _, rfl, z, pre, 58 :: (tl y ++ post), ((tl y).length : Int), rfl, e1, nd_cons (by omega), by omega, hz, fun p np => ?_⟩
      refine ⟨p, _, rfl, SqT.of upd_same, rfl, _, _, rfl, _, _, rfl, rfl, ?_⟩
      refine ⟨_, rfl, _, _, rfl, rfl, _, rfl, dF (by omega) ?_⟩
      have e2 : tl z = (pre ++ numI ((tl y).length : Int)) ++ (58 :: (tl y ++ post)) := by rw [e1, List.append_assoc]
      have lp : ((pre ++ numI ((tl y).length : Int)).length : Int) = (pre.length : Int) + ((numI ((tl y).length : Int)).length : Int) := by rw [List.length_append]; omega
      have e3 : tl z = ((pre ++ numI ((tl y).length : Int)) ++ [58]) ++ (tl y ++ post) := by rw [e2, List.append_assoc _ [58]]; rfl
      have lp2 : ((((pre ++ numI ((tl y).length : Int)) ++ [58]).length : Nat) : Int) = ((pre ++ numI ((tl y).length : Int)).length : Int) + 1 := by rw [List.length_append, List.length_singleton]; omega
      rw [← lp]
      have s1 := same_new np (.tup [.int ((tl y).length : Int), .int ((pre ++ numI ((tl y).length : Int)).length : Int)])
      refine ⟨_, rfl, _, rfl, _, rfl, _, rfl, _, _, rfl, rfl, _, rfl, z, rfl, by omega, rfl, _, rfl, ?_⟩
      rw [str_eq, cut_one e2, show tl (Str.ofString ":") = [58] by decide, take1, decide_eq_true rfl]
      refine iteF ⟨_, rfl, _, rfl, _, _, rfl, rfl, _, rfl, z, (pre ++ numI ((tl y).length : Int)) ++ [58], tl y, post, by rw [lp2]; rfl, e3, hz, fun p2 y2 hy np2 => ?_⟩
      have ey : y2 = y := ext_tl hy
      rw [ey]
      have lei : ((numI ((tl y).length : Int)).length : Int) = ((numL (tl y).length).length : Int) := by rw [ei]
      exact q _ p2 _ (s1.trans (same_new np2 _)) (.str y) (tup2 upd_same (by omega))
theorem ok__read_tuple {f : Addr} {fd : FuncData} (T : Tx mg) {n : Nat} (c__read : DefOk P w K mg base CX0 "_read" P__read (3 + 2 * n + 1) (sp__read n))(F : Fun K "_read_tuple" "_read_tuple" s__read_tuple f fd) : FnOk P w K mg base CX0 (4 + 2 * n + 1) f fd P__read_tuple (sp__read_tuple (n + 1)) := by
  have nd := sc__read_tuple.nd
  refine F.ok sc__read_tuple (fun vs H Q E h => ?_) (fun cdv A outer s H vs Q E hr h => ?_)
  · obtain ⟨_, _, _, _, _, rfl, _⟩ := h
    rfl
  · obtain ⟨z, pre, post, ds, k, rfl, e, hd, hk, hn, hz, q⟩ := h
    have hs := sl
    have hl := len_tl z
    have hl2 := hl
    rw [e, List.length_append, List.length_append] at hl2
    refine ⟨_, (pss_cons (ps_if (pt_cmpR op_eq (pv 2) pe_int (nomark _))
        (pss_one ps_never)
        pss_nil)
      (pss_cons (ps_set (i := 3) nd rfl (Or.inl rfl) (pe_lst pa_nil))
      (pss_cons (ps_set (i := 4) nd rfl (Or.inl rfl) (pv 1))
      (pss_cons (ps_while PassesOwn.never (pt_cmpR op_ne (pe_slice sl_str (pv 0) (po_some (pv 4)) (po_some (pe_op op_add (pv 4) pe_int))) pe_str (nomark _))
        (pss_cons (ps_asg (pcall c__read hr (pa_cons (pv 0) (pa_cons (pv 4) (pa_cons (pe_op op_sub (pv 2) pe_int) pa_nil)))) (pg_tup (by rfl) (pgs_cons (pg_name (i := 5) nd rfl (Or.inl rfl)) (pgs_cons (pg_name (i := 4) nd rfl (Or.inl rfl)) pgs_nil))))
        (pss_cons (ps_if (pt_cmpR op_ne (pe_slice sl_str (pv 0) (po_some (pv 4)) (po_some (pe_op op_add (pv 4) pe_int))) pe_str (nomark _))
          (pss_one ps_never)
          pss_nil)
        (pss_cons (ps_expr (pe_bm PySem.F.plainAttrs_list PySem.F.slot_list_append PySem.F.type_list_append mt_append (pv 3) (pa_cons (pv 5) pa_nil)))
        (pss_one (ps_aug (i := 4) nd rfl (Or.inl rfl) pe_int ip_add))))))
      (pss_one (ps_ret (pe_tup (pa_cons (pe_callTy call_tuple_of (by rfl) T.b_tuple (by decide +kernel) (pa_cons (pv 3) pa_nil)) (pa_cons (pe_op op_add (pv 4) pe_int) pa_nil))))))))), ?_⟩
    refine ⟨_, rfl, rfl, _, rfl, dF (by intro z; cases z; omega) ?_⟩
    refine ⟨by decide, fun p np => ⟨_, rfl, ?_⟩⟩
    refine ⟨fun m σ H' => ∃ (xs : List V) (v : Option V), m ≤ ds.length ∧ σ = [some (.str z), some (.int pre.length), some (.int k), some (.ref p), some (.int ((pre.length : Int) + ((encs (ds.take (ds.length - m))).length : Int))), v] ∧ Same H H' ∧
      H' p = some (.lst xs) ∧ Reps H' xs (ds.take (ds.length - m)), ⟨ds.length, [], none, Nat.le_refl _, ?_, same_new np _, upd_same, ?_⟩, ?_⟩
    · rw [Nat.sub_self]
      show [some (V.str z), some (V.int pre.length), some (V.int k), some (V.ref p), some (V.int (pre.length : Int)), none] = _
      congr 5
    · rw [Nat.sub_self]
      exact .nil
    · rintro m σ H' ⟨xs, v, hm, rfl, s1, hp, hr2⟩
      have ej : encs ds = encs (ds.take (ds.length - m)) ++ encs (ds.drop (ds.length - m)) := by rw [← encs_append, List.take_append_drop]
      have e2 : tl z = (pre ++ encs (ds.take (ds.length - m))) ++ (encs (ds.drop (ds.length - m)) ++ 41 :: post) := by rw [e, ej, List.append_assoc, List.append_assoc]
      have lp : ((pre ++ encs (ds.take (ds.length - m))).length : Int) = (pre.length : Int) + ((encs (ds.take (ds.length - m))).length : Int) := by rw [List.length_append]; omega
      rw [← lp]
      refine ⟨_, rfl, _, rfl, _, rfl, _, rfl, _, _, rfl, rfl, _, rfl, z, rfl, by omega, rfl, _, rfl, ?_⟩
      rw [str_eq, cut_one e2, show tl (Str.ofString ")") = [41] by decide]
      cases m with
      | zero =>
        rw [Nat.sub_zero, List.take_length] at hr2 lp ⊢
        rw [List.drop_length]
        refine nF take1 ?_
        refine ⟨_, rfl, p, xs, rfl, .inl ⟨SqL.of hp, fun a na => ?_⟩⟩
        refine ⟨_, rfl, _, _, rfl, rfl, by show 2 ≤ sizeLine; omega, fun p2 np2 => ?_⟩
        have s2 := same_new na (.tup xs)
        have s3 := same_new np2 (.tup [.ref a, .int (((pre ++ encs ds).length : Int) + 1)])
        refine q (.ref a) p2 _ (s1.trans (s2.trans s3)) (.tup (s3 _ _ upd_same) (by have h5 := hr2.length; have h6 := encs_len ds; rw [List.length_append] at lp; omega) (hr2.mono fun b ys h => s3 _ _ (s2 _ _ h))) (tup2 upd_same (by omega))
      | succ m =>
        have hj : ds.length - (m + 1) < ds.length := by omega
        have hat : ds[ds.length - (m + 1)]? = some ds[ds.length - (m + 1)] := List.getElem?_eq_getElem hj
        have ed : ds.drop (ds.length - (m + 1)) = ds[ds.length - (m + 1)] :: ds.drop (ds.length - (m + 1) + 1) := List.drop_eq_getElem_cons hj
        generalize ds[ds.length - (m + 1)] = d at hat ed
        have ee : encs (ds.drop (ds.length - (m + 1))) = enc d ++ 59 :: encs (ds.drop (ds.length - (m + 1) + 1)) := by rw [ed]; rfl
        have e3 : tl z = (pre ++ encs (ds.take (ds.length - (m + 1)))) ++ (enc d ++ (59 :: (encs (ds.drop (ds.length - (m + 1) + 1)) ++ 41 :: post))) := by rw [e2, ee, List.append_assoc (enc d)]; rfl
        have dd := deps_at hat
        refine nT (fun h => ?_) ?_
        · obtain ⟨r, h1⟩ := take1_eq h
          rw [ee, List.append_assoc] at h1
          exact enc_not41 d h1
        refine ⟨_, fun σ' H' h => ⟨m, Nat.lt_succ_self m, h⟩, ?_⟩
        refine ⟨_, rfl, _, rfl, _, rfl, _, _, rfl, rfl, z, _, _, d, k - 1, rfl, e3, .inr ⟨_, rfl⟩, oks_at hd hat, by omega, by omega, hz, fun u p2 H2 s2 ru h2 => ?_⟩
        refine ⟨p2, _, rfl, SqT.of h2, rfl, _, _, rfl, _, _, rfl, rfl, ?_⟩
        have e4 : tl z = ((pre ++ encs (ds.take (ds.length - (m + 1)))) ++ enc d) ++ (59 :: (encs (ds.drop (ds.length - (m + 1) + 1)) ++ 41 :: post)) := by rw [e3, ← List.append_assoc]
        have lp4 : (((pre ++ encs (ds.take (ds.length - (m + 1)))) ++ enc d).length : Int) = ((pre ++ encs (ds.take (ds.length - (m + 1)))).length : Int) + ((enc d).length : Int) := by rw [List.length_append]; omega
        rw [← lp4]
        refine ⟨_, rfl, _, rfl, _, rfl, _, rfl, _, _, rfl, rfl, _, rfl, z, rfl, by omega, rfl, _, rfl, ?_⟩
        rw [str_eq, cut_one e4, show tl (Str.ofString ";") = [59] by decide]
        refine nF take1 ?_
        have hp2 := s2 _ _ hp
        have hln := hr2.length
        rw [List.length_take] at hln
        have hz3 := encs_len ds
        refine ⟨_, rfl, .inl ⟨rfl, _, SqL.of hp2⟩, _, rfl, p, xs, _, rfl, rfl, hp2, by omega, ?_⟩
        refine ⟨_, rfl, _, _, rfl, rfl, ?_⟩
        have b3 : But p H2 (upd H2 p (.lst (xs ++ [u]))) := but_upd _
        have ej : ds.length - m = ds.length - (m + 1) + 1 := by omega
        have et := take_more hat
        have etl : (encs (ds.take (ds.length - (m + 1) + 1))).length = (encs (ds.take (ds.length - (m + 1)))).length + ((enc d).length + 1) := by rw [encs_take hat, List.length_append, List.length_append, List.length_singleton]
        refine ⟨xs ++ [u], some u, by omega, ?_, fun b o h => b3 b o (s2 b o (s1 b o h)) (ne_of_none h np), upd_same, ?_⟩
        · rw [ej]
          show [some (V.str z), some (V.int pre.length), some (V.int k), some (V.ref p), some (V.int (((pre ++ encs (ds.take (ds.length - (m + 1)))) ++ enc d).length + 1)), some u] = _
          congr 5
          congr 2
          omega
        · rw [ej, et]
          exact (hr2.mono fun b ys h => b3.tupK hp2 _ _ (s2 _ _ h)).snoc (ru.mono (b3.tupK hp2))
/-- the two of the reading, for every depth -/
def mk_read (T : Tx mg) (aR : DefAt K mg "_read" P__read s__read) (aT : DefAt K mg "_read_tuple" P__read_tuple s__read_tuple) (c__read_integer : DefOk P w K mg base CX0 "_read_integer" P__read_integer 2 (sp__read_integer)) (c__read_characters : DefOk P w K mg base CX0 "_read_characters" P__read_characters 1 (sp__read_characters)) :
    ∀ n : Nat, DefOk P w K mg base CX0 "_read" P__read (3 + 2 * n + 1) (sp__read n) × DefOk P w K mg base CX0 "_read_tuple" P__read_tuple (3 + 2 * n) (sp__read_tuple n)
  | 0 =>
    let t : DefOk P w K mg base CX0 "_read_tuple" P__read_tuple (3 + 2 * 0) (sp__read_tuple 0) := aT.ok fun _ => no_call (by
      rintro vs H Q E ⟨z, pre, post, ds, k, _, _, _, _, h, _⟩
      omega)
    (aR.ok fun F => ok__read T t c__read_integer c__read_characters F, t)
  | n + 1 =>
    let p := mk_read T aR aT c__read_integer c__read_characters n
    let t : DefOk P w K mg base CX0 "_read_tuple" P__read_tuple (3 + 2 * (n + 1)) (sp__read_tuple (n + 1)) := (aT.ok fun F => ok__read_tuple T p.1 F).mono (by omega)
    (aR.ok fun F => ok__read T t c__read_integer c__read_characters F, t)
abbrev s_decode : Stmt := top 19
abbrev N_decode : List Str := ["text", "value", "end"]
abbrev P_decode : List Str := ["text"]
theorem sc_decode : FnScope N_decode P_decode (defScope s_decode) := ⟨rfl, rfl, rfl, by decide +kernel, rfl, by decide +kernel, by decide +kernel⟩
def sp_decode : Sp := fun vs H Q _ => ∃ (z : Str) (d : D), vs = [.str z] ∧ tl z = enc d ∧ Txt4.ok d ∧ dep d ≤ 8 ∧ (enc d).length ≤ 100000 ∧ ∀ v H', Same H H' → Rep H' v d → Q v H'
theorem ok_decode {f : Addr} {fd : FuncData} (T : Tx mg) (c_is_printable : DefOk P w K mg base CX0 "is_printable" P_is_printable 2 (sp_is_printable)) (c__read : DefOk P w K mg base CX0 "_read" P__read 20 (sp__read 8))(F : Fun K "decode" "decode" s_decode f fd) : FnOk P w K mg base CX0 (21) f fd P_decode (sp_decode) := by
  have nd := sc_decode.nd
  refine F.ok sc_decode (fun vs H Q E h => ?_) (fun cdv A outer s H vs Q E hr h => ?_)
  · obtain ⟨_, _, rfl, _⟩ := h
    rfl
  · obtain ⟨z, d, rfl, e, hd, hdep, hz, q⟩ := h
    have hs := sl
    have hl := len_tl z
    rw [e] at hl
    refine ⟨_, (pss_cons (ps_if (PW.pt (pw_or (pt_not (pt_val (pe_callB call_isi (by rfl) T.b_isinstance (by decide +kernel) (pa_cons (pv 0) (pa_cons (pe_ty "str" T.b_str) pa_nil))))) (pw_or (pt_cmpR op_gt (pe_callB call_len_str (by rfl) T.b_len (by decide +kernel) (pa_cons (pv 0) pa_nil)) (pe_const T.c_MOST_LENGTH) (nomark _)) (pw_or1 (pt_not (pt_val (pcall c_is_printable hr (pa_cons (pv 0) pa_nil))))))))
        (pss_one ps_never)
        pss_nil)
      (pss_cons (ps_asg (pcall c__read hr (pa_cons (pv 0) (pa_cons pe_int (pa_cons (pe_const T.c_MOST_DEPTH) pa_nil)))) (pg_tup (by rfl) (pgs_cons (pg_name (i := 1) nd rfl (Or.inl rfl)) (pgs_cons (pg_name (i := 2) nd rfl (Or.inl rfl)) pgs_nil))))
      (pss_cons (ps_if (pt_cmpR op_ne (pv 2) (pe_callB call_len_str (by rfl) T.b_len (by decide +kernel) (pa_cons (pv 0) pa_nil)) (nomark _))
        (pss_one ps_never)
        pss_nil)
      (pss_one (ps_ret (pv 1)))))), ?_⟩
    refine ⟨_, rfl, _, _, _, _, true, rfl, .ty _, .base (.str z), kit_ty (by decide +kernel), _, rfl, iteF ?_⟩
    refine ⟨_, rfl, _, rfl, by omega, _, _, rfl, rfl, _, rfl, dF (by omega) ?_⟩
    refine ⟨_, rfl, z, rfl, ?_⟩
    rw [all_pr (by rw [e]; exact enc_pr d hd)]
    refine ⟨_, rfl, iteF ?_⟩
    refine ⟨_, rfl, z, [], [], d, 8, rfl, by rw [e, List.append_nil]; rfl, .inl rfl, hd, by omega, hdep, by omega, fun v p H' s1 r1 h1 => ?_⟩
    refine ⟨p, _, rfl, SqT.of h1, rfl, _, _, rfl, _, _, rfl, rfl, ?_⟩
    refine ⟨_, rfl, _, rfl, _, rfl, by omega, rfl, _, rfl, nF ?_ ⟨_, rfl, q v H' s1 r1⟩⟩
    rw [hl]
    congr 1
    show (0 : Int) + _ = _
    omega
end
end Mus

set_option maxRecDepth 100000
set_option maxHeartbeats 4000000
/-! a text split at its first few blanks -/
namespace Mus
open PySem L2 TL PySem.NumText PySem.StrLaws PySem.Builtin PySem.Builtin.Str
theorem lim_run (s sub : Str) (hi limit lo : Nat) (hw : 1 ≤ sub.length) : ∀ (m cur : Nat) (st : Array Nat × Nat), ChainG s sub hi lo st.fst.toList st.snd → (st.fst.size < limit → ∀ k, st.snd ≤ k → k < cur → ¬ At s sub hi k) → st.fst.size ≤ limit →
    ChainG s sub hi lo (forIn (List.range' cur m) st (occBody s sub hi limit)).run.fst.toList (forIn (List.range' cur m) st (occBody s sub hi limit)).run.snd ∧
    ((forIn (List.range' cur m) st (occBody s sub hi limit)).run.fst.size < limit → ∀ k, (forIn (List.range' cur m) st (occBody s sub hi limit)).run.snd ≤ k → k < cur + m → ¬ At s sub hi k) ∧
    (forIn (List.range' cur m) st (occBody s sub hi limit)).run.fst.size ≤ limit
  | 0, cur, st, h, hn, hl => ⟨h, hn, hl⟩
  | m + 1, cur, st, h, hn, hl => by
    rw [List.range'_succ, List.forIn_cons]
    unfold occBody
    have e : cur + (m + 1) = (cur + 1) + m := by omega
    rw [e]
    split
    · rename_i hc
      refine lim_run s sub hi limit lo hw m (cur + 1) _ ?_ ?_ ?_
      · show ChainG s sub hi lo (st.fst.push cur).toList (cur + sub.length)
        rw [Array.toList_push]
        exact chainG_snoc h hc.1.1.2 ⟨hc.1.2, hc.2⟩ (hn hc.1.1.1)
      · intro _ k h1 h2
        have h1' : cur + sub.length ≤ k := h1
        omega
      · show (st.fst.push cur).size ≤ limit
        have := hc.1.1.1
        rw [Array.size_push]; omega
    · rename_i hc
      refine lim_run s sub hi limit lo hw m (cur + 1) _ h ?_ hl
      intro hs k h1 h2 hA
      by_cases hk : k < cur
      · exact hn hs k h1 hk hA
      · have ek : k = cur := by omega
        subst ek
        exact hc ⟨⟨⟨hs, h1⟩, hA.1⟩, hA.2⟩
theorem occ_lim (x y : Str) (hw : 1 ≤ y.length) (limit : Nat) : ∃ f, ChainG x y x.length 0 (occurrences x y 0 x.length limit) f ∧ ((occurrences x y 0 x.length limit).length < limit → ∀ k, f ≤ k → ¬ At x y x.length k) ∧ (occurrences x y 0 x.length limit).length ≤ limit := by
  rw [occ_eq]
  have key := lim_run x y x.length limit 0 hw (x.length + 1 - 0) 0 ((#[] : Array Nat), 0) rfl (fun _ k _ h => by omega) (Nat.zero_le _)
  refine ⟨_, key.1, fun hs k hk hA => ?_, by rw [Array.length_toList]; exact key.2.2⟩
  rw [Array.length_toList] at hs
  exact key.2.1 hs k hk (by have := hA.1; omega) hA
def blank : Str := Str.ofString " "
theorem tl_blank : tl blank = [32] := by decide
theorem at_blank {x : Str} {i : Nat} : At x blank x.length i ↔ ∃ r, (tl x).drop i = 32 :: r := by
  rw [at_iff (by rw [tl_blank]; simp), tl_blank]
  unfold pre
  constructor
  · intro h
    have h : ((tl x).drop i).take 1 = [32] := eq_of_beq h
    cases e : (tl x).drop i with
    | nil => rw [e] at h; cases h
    | cons c r =>
      rw [e] at h
      have : c = 32 := by simpa using h
      exact ⟨r, by rw [this]⟩
  · rintro ⟨r, h⟩
    rw [h]; rfl
/-- the words ws, a blank behind each, and the rest -/
def spread : List Str → List Nat → List Nat
  | [], last => last
  | w :: ws, last => tl w ++ 32 :: spread ws last
theorem parts_lim {x : Str} : ∀ (ws : List Str) (last : List Nat) (cuts : List Nat) (a f : Nat), (∀ w ∈ ws, 32 ∉ tl w) → (tl x).drop a = spread ws last → a ≤ (tl x).length → ChainG x blank x.length a cuts f → (cuts.length < ws.length → ∀ k, f ≤ k → ¬ At x blank x.length k) → cuts.length ≤ ws.length →
    (partsFrom x blank.length a cuts).map tl = ws.map tl ++ [last]
  | [], last, cuts, a, f, _, hd, ha, h, hn, hl => by
    cases cuts with
    | nil =>
      show [tl (strSub x a x.length)] = [last]
      rw [tl_strSub_end, hd]; rfl
    | cons c r => exact absurd hl (by simp)
  | w :: ws, last, cuts, a, f, hw, hd, ha, h, hn, hl => by
    have hd : (tl x).drop a = tl w ++ 32 :: spread ws last := hd
    have l1 : blank.length = 1 := by decide
    have there : At x blank x.length (a + (tl w).length) := at_blank.mpr ⟨spread ws last, by rw [← List.drop_drop, hd, List.drop_left]⟩
    cases cuts with
    | nil =>
      have e : f = a := h
      exact absurd there (hn (by simp) _ (by omega))
    | cons c r =>
      obtain ⟨h1, h2, h3, h4⟩ := h
      have c1 : c ≤ a + (tl w).length := Nat.le_of_not_lt fun z => h3 _ (Nat.le_add_right _ _) z there
      have c2 : a + (tl w).length ≤ c := Nat.le_of_not_lt fun z => by
        obtain ⟨q, hq⟩ := at_blank.mp h2
        have e : c = a + (c - a) := by omega
        rw [e, ← List.drop_drop, hd, List.drop_append_of_le_length (by omega)] at hq
        cases e2 : (tl w).drop (c - a) with
        | nil =>
          have := congrArg List.length e2
          rw [List.length_drop, List.length_nil] at this
          omega
        | cons d q2 =>
          rw [e2] at hq
          have : d = 32 := (List.cons.inj hq).1
          subst this
          exact hw w List.mem_cons_self (List.mem_of_mem_drop (by rw [e2]; exact List.mem_cons_self))
      have ec : c = a + (tl w).length := by omega
      have ed : (tl x).drop (c + blank.length) = spread ws last := by
        rw [l1, ec, Nat.add_assoc, ← List.drop_drop, hd, ← List.drop_drop, List.drop_left]; rfl
      have hlen : c + 1 ≤ (tl x).length := by
        obtain ⟨q, hq⟩ := at_blank.mp h2
        have := congrArg List.length hq
        rw [List.length_drop, List.length_cons] at this
        omega
      have ih := parts_lim ws last r (c + blank.length) f (fun y hy => hw y (List.mem_cons_of_mem _ hy)) ed (by rw [l1]; exact hlen) h4 (fun z => hn (by simpa using z)) (by simpa using hl)
      show tl (strSub x a c) :: (partsFrom x blank.length (c + blank.length) r).map tl = tl w :: (ws.map tl ++ [last])
      rw [ih, tl_strSub, hd, ec, Nat.add_sub_cancel_left, List.take_left]
theorem map_tl_inj2 {a b : List Str} (h : a.map tl = b.map tl) : a = b := map_tl_inj h
/-- a line split at as many blanks as it has words ahead of the last -/
theorem splitMax_line {x last : Str} {ws : List Str} (hx : tl x = spread ws (tl last)) (hw : ∀ w ∈ ws, 32 ∉ tl w) (h0 : ws ≠ []) : Txt.splitMax x blank (ws.length : Nat) = ws ++ [last] := by
  refine map_tl_inj ?_
  rw [List.map_append]
  have lim : limitOf x ((ws.length : Nat) : Int) = ws.length := by
    unfold limitOf
    rw [if_neg (by omega), Int.toNat_natCast]
  obtain ⟨f, hc, hn, hl⟩ := occ_lim x blank (by decide) ws.length
  have key := parts_lim ws (tl last) _ 0 f hw (by rw [List.drop_zero]; exact hx) (Nat.zero_le _) hc hn hl
  have hk : ¬ strKind x < strKind blank := kind_ok (by decide +kernel)
  have hlen : ¬ x.length < blank.length := by
    cases ws with
    | nil => exact absurd rfl h0
    | cons w ws =>
      have : (tl x).length = _ := congrArg List.length hx
      rw [show spread (w :: ws) (tl last) = tl w ++ 32 :: spread ws (tl last) from rfl, List.length_append, List.length_cons] at this
      have l1 : blank.length = 1 := by decide
      have := len_tl x
      omega
  have ne : (occurrences x blank 0 x.length ws.length) ≠ [] := fun z => by
    rw [z] at key
    have := congrArg List.length key
    simp [partsFrom] at this
    exact h0 this
  unfold Txt.splitMax
  rw [lim, decide_eq_false hlen, decide_eq_false hk]
  rw [if_neg (by simp), if_neg (by simp [ne]), partsBetween_eq]
  exact key
end Mus

set_option maxRecDepth 100000
set_option maxHeartbeats 4000000
/-! A written dict: a text that is none of its keys is not in it. -/
namespace Mus
open PySem PySem.Spec PyProof.Rows L2
def keyT (e : DictEntry) : Option Str := match e.key with | .str x _ => some x | _ => none
theorem kd_none {K : PySem.W.Frag} {D : Addr} {es : Array DictEntry} {n : Nat} {ks : List Str} {z : Str} (h : K.lookup D = some ⟨.type "dict", none, .dict es n, #[]⟩) (hk : es.toList.map keyT = ks.map some) (hz : z ∉ ks) : PySem.W.nsIn K D z = some none := by
  have all : ∀ e ∈ es.toList, ∃ x t, e.key = .str x t ∧ x ∈ ks := fun e he => by
    have m : keyT e ∈ ks.map some := by rw [← hk]; exact List.mem_map.mpr ⟨e, he, rfl⟩
    obtain ⟨x, hx, ex⟩ := List.mem_map.mp m
    unfold keyT at ex
    split at ex
    · rename_i x' t ek
      cases ex
      exact ⟨_, _, ek, hx⟩
    · cases ex
  unfold PySem.W.nsIn
  rw [h]
  have f : es.toList.find? (·.key.isStr z) = none := by
    rw [List.find?_eq_none]
    intro e he
    obtain ⟨x, t, ek, hx⟩ := all e he
    rw [ek]
    intro w
    have w : x = z := by simpa [Value.isStr] using w
    exact hz (w ▸ hx)
  have g : es.toList.any (·.refKey) = false := by
    rw [List.any_eq_false]
    intro e he
    obtain ⟨x, t, ek, hx⟩ := all e he
    unfold DictEntry.refKey
    rw [ek]
    exact Bool.false_ne_true
  simp only [f, g]
  rfl
end Mus

set_option maxRecDepth 100000
set_option maxHeartbeats 4000000
namespace Mus
open PySem L2 TL PySem.NumText Txt4 RZ
local macro_rules | `(tactic| walk_at "rd") => `(tactic| first
  | refine ⟨_, rfl, ?_⟩ | refine ⟨(True.intro : True), ?_⟩
  | refine ⟨_, _, rfl, rfl, (⟨by decide, by decide, by decide⟩ : CPow _ _), ?_⟩
  | refine ⟨_, _, rfl, rfl, (⟨by decide, by decide⟩ : CDiv _ _), ?_⟩
  | refine ⟨_, _, rfl, rfl, (by show (0 : Int) < _; decide), ?_⟩
  | refine ⟨_, _, rfl, rfl, ?_⟩ | refine ⟨rfl, ?_⟩ | refine iteT ?_ | refine iteF ?_ | refine ⟨_, _, rfl, ?_⟩ | refine .inl ⟨_, rfl, ?_⟩
  | refine ⟨_, _, _, _, _, rfl, (by assumption), (by assumption), (by assumption), rfl, ?_⟩ | refine ⟨_, _, _, _, rfl, rfl, SqT.of (by assumption), rfl, ?_⟩ | refine ⟨_, _, rfl, SqT.of (by assumption), rfl, ?_⟩
  | refine ⟨_, _, _, _, _, rfl, .ty _, Rp.ty (by assumption), kit_int _, ?_⟩ | refine ⟨_, _, _, _, _, rfl, .ty _, Rp.ty (by assumption), kit_bool _, ?_⟩
  | refine ⟨_, _, _, _, _, rfl, .ty _, Rp.ty (by assumption), kit_str _, ?_⟩ | refine ⟨_, _, _, _, _, rfl, .ty _, Rp.ty (by assumption), kit_tup _, ?_⟩)
local macro_rules | `(tactic| walk_at "cal") => `(tactic| first
  | refine ⟨_, _, _, _, _, rfl, (by assumption), ?_⟩ | refine ⟨_, _, _, _, _, rfl, (by assumption), (by assumption), ?_⟩)
local macro_rules | `(tactic| walk_at "sq") => `(tactic| first
  | refine ⟨_, _, rfl, Or.inr (SqT.of (by assumption)), ?_⟩ | refine ⟨_, _, _, _, rfl, rfl, SqT.of (by assumption), rfl, ?_⟩)
local macro_rules | `(tactic| walk_at "rds") => `(tactic| repeat first | walk_at "rd" | walk_at "cal" | walk_at "sq")
local macro_rules | `(tactic| walk_at "ze") => `(tactic| repeat first
  | exact zes_nil | exact ze_bl | exact ze_str | exact ze_non | apply zes_cons | apply ze_tup | apply ze_lst | apply ze_cat | exact di_c | exact di_v rfl | apply di_opC | apply di_op | apply di_neg | apply ze_i | (refine (⟨?_, ?_, ?_⟩ : CPow _ _) <;> decide) | exact Nat.le_of_ble_eq_true rfl | exact ze_varD rfl (by assumption))
local macro_rules | `(tactic| walk_at "rdz") => `(tactic| repeat (fail_if_success (first | show tLst _ _ _ _ | show tAsg (tLst _) _ _ _ _ | show tSeq (tAsg (tLst _) _) _ _ _ _)); first | walk_at "rd" | walk_at "cal" | walk_at "sq")
/-! ### kinds of acts -/
def kindT : List (Str × List Str) := [("tick", ["ticks"]), ("calm", ["ticks"]), ("round", []), ("deliver", ["position"]), ("lose", ["position"]), ("double", ["position"]), ("move", ["position"]), ("cast", ["process", "payload"]), ("part", ["groups"]), ("heal", []), ("crash", ["process"]), ("start", ["process"]), ("arm", ["process", "count", "keep"])]
/-- the dict of the items, the tuple of the names of texts -/
structure Ti (w : World) (K : PySem.W.Frag) (mg : Str → Option Value) (DI AT : Addr) : Prop where
  g__ITEMS : mg "_ITEMS" = some (.ref DI)
  D : ∃ es n, KDict K w DI es n
  at_ : ∀ k ns, (k, ns) ∈ kindT → ∃ a, PySem.W.nsIn K DI k = some (some (.ref a)) ∧ ∀ H, SqT K H a (ns.map V.str)
  no : PySem.W.nsIn K DI "group" = some none
  g__TEXTS : mg "_TEXTS" = some (.ref AT)
  t_ : ∀ H, SqT K H AT [.str "payload", .str "groups"]
section
variable {P : Program} {w : World} {K : PySem.W.Frag} {mg : Str → Option Value} {base : Heap} {CT DI AT : Addr}
abbrev s_is_kind : Stmt := top 28
abbrev N_is_kind : List Str := ["value"]
abbrev P_is_kind : List Str := ["value"]
theorem sc_is_kind : FnScope N_is_kind P_is_kind (defScope s_is_kind) := ⟨rfl, rfl, rfl, by decide +kernel, rfl, by decide +kernel, by decide +kernel⟩
def sp_kind : Sp := fun vs H Q _ => ∃ k ns, vs = [.str k] ∧ (k, ns) ∈ kindT ∧ Q (.bl true) H
theorem ok_is_kind {f : Addr} {fd : FuncData} (T : Tx mg) (I : Ti w K mg DI AT) (F : Fun K "is_kind" "is_kind" s_is_kind f fd) : FnOk P w K mg base CX0 1 f fd P_is_kind sp_kind := by
  have nd := sc_is_kind.nd
  obtain ⟨es, en, D⟩ := I.D
  refine F.ok sc_is_kind (fun vs H Q E h => ?_) (fun cdv A outer s H vs Q E hr h => ?_)
  · obtain ⟨_, _, rfl, _⟩ := h
    rfl
  · obtain ⟨k, ns, rfl, hk, q⟩ := h
    obtain ⟨a, ha, _⟩ := I.at_ k ns hk
    refine ⟨_, (pss_one (ps_ret (pe_and (pe_callB call_isi (by rfl) T.b_isinstance (by decide +kernel) (pa_cons (pv 0) (pa_cons (pe_ty "str" T.b_str) pa_nil))) (pe_one (pe_cmpR (op_in_kd D) (pv 0) (pe_cls I.g__ITEMS) (by rfl)))))), ?_⟩
    refine ⟨_, rfl, _, _, _, _, true, rfl, .ty _, .base (.str k), kit_ty (by decide +kernel), ?_⟩
    refine ⟨true, rfl, iteT ?_⟩
    exact ⟨_, rfl, k, _, rfl, rfl, ha, q⟩
abbrev s_item_names : Stmt := top 29
abbrev N_item_names : List Str := ["kind"]
abbrev P_item_names : List Str := ["kind"]
theorem sc_item_names : FnScope N_item_names P_item_names (defScope s_item_names) := ⟨rfl, rfl, rfl, by decide +kernel, rfl, by decide +kernel, by decide +kernel⟩
def sp_names (K : PySem.W.Frag) : Sp := fun vs H Q _ => ∃ k ns, vs = [.str k] ∧ (k, ns) ∈ kindT ∧ ∀ a, (∀ H, SqT K H a (ns.map V.str)) → Q (.ref a) H
theorem ok_item_names {f : Addr} {fd : FuncData} (T : Tx mg) (I : Ti w K mg DI AT) (F : Fun K "item_names" "item_names" s_item_names f fd) : FnOk P w K mg base CX0 1 f fd P_item_names (sp_names K) := by
  have nd := sc_item_names.nd
  obtain ⟨es, en, D⟩ := I.D
  refine F.ok sc_item_names (fun vs H Q E h => ?_) (fun cdv A outer s H vs Q E hr h => ?_)
  · obtain ⟨_, _, rfl, _⟩ := h
    rfl
  · obtain ⟨k, ns, rfl, hk, q⟩ := h
    obtain ⟨a, ha, ht⟩ := I.at_ k ns hk
    refine ⟨_, (pss_one (ps_ret (pe_ix ix_kdict (pe_cls I.g__ITEMS) (pv 0) (fun _ _ => rfl)))), ?_⟩
    exact ⟨_, rfl, DI, k, .ref a, rfl, rfl, ⟨es, en, _, D.at_, D.lit, ha, rfl⟩, q a ht⟩
abbrev s__has_right_number : Stmt := top 31
abbrev N__has_right_number : List Str := ["name", "item"]
abbrev P__has_right_number : List Str := ["name", "item"]
theorem sc__has_right_number : FnScope N__has_right_number P__has_right_number (defScope s__has_right_number) := ⟨rfl, rfl, rfl, by decide +kernel, rfl, by decide +kernel, by decide +kernel⟩
def numN : List Str := ["ticks", "position", "process", "count", "keep"]
inductive ItemOk : Str → D → Prop
  | num {n : Str} {i : Int} : n ∈ numN → 0 ≤ i → i ≤ 999999999999 → (n = "ticks" → 1 ≤ i ∧ i ≤ 1000) → ItemOk n (.int i)
  | pay {z : Str} : (∀ c ∈ tl z, Pr c) → z.length ≤ 60 → ItemOk "payload" (.str z)
  | grp {ds : List D} : Txt4.oks ds → smls ds → deps ds ≤ 7 → (encs ds).length ≤ 2000 → ItemOk "groups" (.tup ds)
def sp_hrn : Sp := fun vs H Q _ => ∃ n v d, vs = [.str n, v] ∧ Rep H v d ∧ ItemOk n d ∧ ∀ H', Same H H' → Q (.bl true) H'
theorem ok__has_right_number {f : Addr} {fd : FuncData} (T : Tx mg) (c_is_integer : DefOk P w K mg base CX0 "is_integer" P_is_integer 1 (spI))(F : Fun K "_has_right_number" "_has_right_number" s__has_right_number f fd) : FnOk P w K mg base CX0 (2) f fd P__has_right_number (sp_hrn) := by
  have nd := sc__has_right_number.nd
  refine F.ok sc__has_right_number (fun vs H Q E h => ?_) (fun cdv A outer s H vs Q E hr h => ?_)
  · obtain ⟨_, _, _, rfl, _⟩ := h
    rfl
  · obtain ⟨n, v, d, rfl, rv, hd, q⟩ := h
    have hs := sl
    refine ⟨_, (pss_cons (ps_if (pt_cmpR op_eq (pv 0) pe_str (nomark _))
        (pss_one (ps_ret (pcall c_is_integer hr (pa_cons (pv 1) (pa_cons pe_int (pa_cons (pe_const T.c_MOST_TICKS) pa_nil))))))
        pss_nil)
      (pss_cons (ps_if (pt_cmpR op_in_seq (pv 0) (pe_tup (pa_cons pe_str (pa_cons pe_str (pa_cons pe_str pa_nil)))) (by rfl))
        (pss_one (ps_ret (pcall c_is_integer hr (pa_cons (pv 1) (pa_cons pe_int (pa_cons (pe_const T.c_MOST_NUMBER) pa_nil))))))
        pss_nil)
      (pss_one (ps_ret pe_bl)))), ?_⟩
    cases hd with
    | num hn i0 i1 it =>
      rename_i i
      cases rv
      simp only [numN, List.mem_cons, List.not_mem_nil, or_false] at hn
      rcases hn with rfl | rfl | rfl | rfl | rfl
      · walk_at "rds"
        refine ⟨0, .int i, .int i, 1, 1000, rfl, .int i, ?_⟩
        have := it rfl
        rw [show isInt (.int i) 1 1000 = true by simp only [isInt, Bool.and_eq_true, decide_eq_true_eq]; omega]
        exact q H (Same.rfl' H)
      all_goals
        walk_at "rds"
        refine ⟨by show 3 ≤ sizeLine; omega, fun t nt => ?_⟩
        have st := same_new nt (.tup [V.str "position", V.str "count", V.str "keep"])
        refine ⟨t, _, rfl, .inr (SqT.of upd_same), rfl, rfl, ?_⟩
        refine ⟨_, rfl, iB (fun h => ?_) (fun h => q _ st)⟩
        refine ⟨_, rfl, 0, .int i, .int i, 0, 1000000000000, rfl, .int i, ?_⟩
        rw [show isInt (.int i) 0 1000000000000 = true by simp only [isInt, Bool.and_eq_true, decide_eq_true_eq]; omega]
        exact q _ st
    | pay h1 h2 =>
      cases rv
      walk_at "rds"
      refine ⟨by show 3 ≤ sizeLine; omega, fun t nt => ?_⟩
      have st := same_new nt (.tup [V.str "position", V.str "count", V.str "keep"])
      refine ⟨t, _, rfl, .inr (SqT.of upd_same), rfl, rfl, ?_⟩
      refine ⟨_, rfl, iB (fun h => ?_) (fun h => q _ st)⟩
      exact absurd h (by decide +kernel)
    | grp h1 h2 h3 h4 =>
      walk_at "rds"
      refine ⟨by show 3 ≤ sizeLine; omega, fun t nt => ?_⟩
      have st := same_new nt (.tup [V.str "position", V.str "count", V.str "keep"])
      refine ⟨t, _, rfl, .inr (SqT.of upd_same), rfl, rfl, ?_⟩
      refine ⟨_, rfl, iB (fun h => ?_) (fun h => q _ st)⟩
      exact absurd h (by decide +kernel)
inductive Items : List Str → List D → Prop
  | nil : Items [] []
  | cons {n : Str} {d : D} {ns : List Str} {ds : List D} : ItemOk n d → Items ns ds → Items (n :: ns) (d :: ds)
theorem Items.length : ∀ {ns : List Str} {ds : List D}, Items ns ds → ns.length = ds.length
  | _, _, .nil => rfl
  | _, _, .cons _ r => congrArg Nat.succ (Items.length r)
theorem Items.at : ∀ {ns : List Str} {ds : List D} {i : Nat} {n : Str} {d : D}, Items ns ds → ns[i]? = some n → ds[i]? = some d → ItemOk n d
  | _, _, _, _, _, .nil, h, _ => by simp at h
  | _, _, 0, _, _, .cons a _, h, k => by cases h; cases k; exact a
  | _, _, i + 1, _, _, .cons _ r, h, k => Items.at (i := i) r (by simpa using h) (by simpa using k)
theorem cutT (x : V) (vs : List V) : cutV (x :: vs) (some 1) none = vs := by
  unfold cutV
  have e : HT.sIx (x :: vs).length 0 (some 1) = 1 := by
    rw [show (1 : Int) = ((1 : Nat) : Int) from rfl, HT.sIx_nat, List.length_cons]; omega
  rw [e]
  show (vs.take (vs.length + 1 - 1)) = vs
  rw [Nat.add_sub_cancel, List.take_length]
theorem sIxT (n d : Nat) : HT.sIx (n + 1) d (some 1) = 1 := by
  rw [show (1 : Int) = ((1 : Nat) : Int) from rfl, HT.sIx_nat]; omega
abbrev s_check_act : Stmt := top 30
abbrev N_check_act : List Str := ["act", "names", "name", "item"]
abbrev P_check_act : List Str := ["act"]
theorem sc_check_act : FnScope N_check_act P_check_act (defScope s_check_act) := ⟨rfl, rfl, rfl, by decide +kernel, rfl, by decide +kernel, by decide +kernel⟩
/-- a tuple stands for an act: its kind, its items -/
structure ActAt (H : Hp) (a : Addr) (k : Str) (vs : List V) (ns : List Str) (ds : List D) : Prop where
  at_ : H a = some (.tup (.str k :: vs))
  reps : Reps H vs ds
  kind : (k, ns) ∈ kindT
  items : Items ns ds
theorem ActAt.same {H H' : Hp} {a : Addr} {k : Str} {vs : List V} {ns : List Str} {ds : List D} (h : ActAt H a k vs ns ds) (s : Same H H') : ActAt H' a k vs ns ds :=
  ⟨s _ _ h.at_, h.reps.mono fun b xs e => s _ _ e, h.kind, h.items⟩
theorem kind_len {k : Str} {ns : List Str} (h : (k, ns) ∈ kindT) : ns.length ≤ 3 := by
  simp only [kindT, List.mem_cons, List.not_mem_nil, or_false, Prod.mk.injEq] at h
  rcases h with ⟨_, rfl⟩ | ⟨_, rfl⟩ | ⟨_, rfl⟩ | ⟨_, rfl⟩ | ⟨_, rfl⟩ | ⟨_, rfl⟩ | ⟨_, rfl⟩ | ⟨_, rfl⟩ | ⟨_, rfl⟩ | ⟨_, rfl⟩ | ⟨_, rfl⟩ | ⟨_, rfl⟩ | ⟨_, rfl⟩ <;> decide
def sp_chka : Sp := fun vs H Q _ => ∃ a k us ns ds, vs = [.ref a] ∧ ActAt H a k us ns ds ∧ ∀ H', Same H H' → Q .non H'
theorem ok_check_act {f : Addr} {fd : FuncData} (T : Tx mg) (c_is_kind : DefOk P w K mg base CX0 "is_kind" P_is_kind 1 (sp_kind)) (c_item_names : DefOk P w K mg base CX0 "item_names" P_item_names 1 (sp_names K)) (c__has_right_number : DefOk P w K mg base CX0 "_has_right_number" P__has_right_number 2 (sp_hrn))(F : Fun K "check_act" "check_act" s_check_act f fd) : FnOk P w K mg base CX0 (3) f fd P_check_act (sp_chka) := by
  have nd := sc_check_act.nd
  refine F.ok sc_check_act (fun vs H Q E h => ?_) (fun cdv A outer s H vs Q E hr h => ?_)
  · obtain ⟨_, _, _, _, _, rfl, _⟩ := h
    rfl
  · obtain ⟨a, k, us, ns, ds, rfl, AA, q⟩ := h
    have hs := sl
    have ha := AA.at_
    have l1 := AA.items.length
    have l2 := AA.reps.length
    have l3 := kind_len AA.kind
    refine ⟨_, (pss_cons (ps_if (PW.pt (pw_or (pt_not (pt_val (pe_callB call_isi (by rfl) T.b_isinstance (by decide +kernel) (pa_cons (pv 0) (pa_cons (pe_ty "tuple" T.b_tuple) pa_nil))))) (pw_or (pt_cmpR op_eq (pe_callB call_len_seq (by rfl) T.b_len (by decide +kernel) (pa_cons (pv 0) pa_nil)) pe_int (nomark _)) (pw_or1 (pt_not (pt_val (pcall c_is_kind hr (pa_cons (pe_ix ix_tup (pv 0) pe_int (fun _ _ => rfl)) pa_nil))))))))
        (pss_one ps_never)
        pss_nil)
      (pss_cons (ps_set (i := 1) nd rfl (Or.inl rfl) (pcall c_item_names hr (pa_cons (pe_ix ix_tup (pv 0) pe_int (fun _ _ => rfl)) pa_nil)))
      (pss_cons (ps_if (pt_cmpR op_ne (pe_callB call_len_seq (by rfl) T.b_len (by decide +kernel) (pa_cons (pv 0) pa_nil)) (pe_op op_add pe_int (pe_callB call_len_seq (by rfl) T.b_len (by decide +kernel) (pa_cons (pv 1) pa_nil))) (nomark _))
        (pss_one ps_never)
        pss_nil)
      (pss_one (ps_for PassesOwn.never rfl (pi_zipA (by rfl) T.b_zip (pa_cons (pv 1) (pa_cons (pe_slice sl_tupA (pv 0) (po_some pe_int) po_none) pa_nil))) (pg_tup (by rfl) (pgs_cons (pg_name (i := 2) nd rfl (Or.inl rfl)) (pgs_cons (pg_name (i := 3) nd rfl (Or.inl rfl)) pgs_nil)))
        (pss_one (ps_if (pt_not (pt_val (pcall c__has_right_number hr (pa_cons (pv 2) (pa_cons (pv 3) pa_nil)))))
          (pss_one ps_never)
          pss_nil))))))), ?_⟩
    walk_at "rds"
    refine ⟨_, _, _, _, true, rfl, .ty _, .base (.tup ha), kit_ty (by decide +kernel), ?_⟩
    walk_at "rds"
    have a0 : ∀ (x : V) (r : List V), atI (x :: r) 0 = some x := fun x r => at_int (by decide) rfl
    refine ⟨a, _, _, _, rfl, rfl, SqT.of ha, a0 _ _, ?_⟩
    refine ⟨k, ns, rfl, AA.kind, ?_⟩
    walk_at "rds"
    refine ⟨a, _, _, _, rfl, rfl, SqT.of ha, a0 _ _, ?_⟩
    refine ⟨k, ns, rfl, AA.kind, fun an hn => ?_⟩
    walk_at "rds"
    refine ⟨an, _, rfl, .inr (hn _), ?_⟩
    walk_at "rds"
    refine nF (by simp only [List.length_cons, List.length_map]; congr 1; omega) ?_
    walk_at "rds"
    refine ⟨a, _, rfl, SqT.of ha, fun z => absurd z.1 (by show ¬ (HT.sIx (us.length + 1) 0 (some 1) = 0); rw [sIxT]; decide), fun _ t nt => ?_⟩
    rw [cutT]
    have st := same_new nt (.tup us)
    have ht : (upd H t (.tup us)) t = some (.tup us) := upd_same
    generalize upd H t (.tup us) = H1 at *
    have A1 := AA.same st
    refine ⟨an, t, ns.map V.str, us, rfl, .inr ⟨hn _, SqT.of ht, ?_⟩⟩
    refine for_zipT (K := K) (a := an) (b := t) (xs := ns.map V.str) (ys := us) (by rw [List.length_map]; omega) (fun i σ H' => ∃ (x2 x3 : Option V), σ = [some (.ref a), some (.ref an), x2, x3] ∧ Same H1 H') ⟨_, _, rfl, Same.rfl' _⟩ ?_ ?_ ?_
    · rintro i σ H' ⟨_, _, _, s2⟩
      exact ⟨hn _, SqT.of (s2 _ _ ht)⟩
    · rintro i x y T' σ H' hx hy ⟨x2, x3, rfl, s2⟩ nT'
      rw [List.getElem?_map] at hx
      obtain ⟨n, hn1, rfl⟩ := Option.map_eq_some_iff.mp hx
      obtain ⟨d, hd, rd⟩ := A1.reps.at hy
      have s3 := same_new nT' (.tup [V.str n, y])
      have hT' : (upd H' T' (.tup [V.str n, y])) T' = some (.tup [V.str n, y]) := upd_same
      generalize upd H' T' (.tup [V.str n, y]) = H3 at *
      walk_at "rds"
      refine ⟨n, y, d, rfl, rd.mono (fun b xs e => s3 _ _ (s2 _ _ e)), AA.items.at hn1 hd, fun H4 s4 => ?_⟩
      walk_at "rds"
      exact s2.trans (s3.trans s4)
    · rintro σ H' ⟨_, _, rfl, s2⟩
      exact q _ (st.trans s2)
end
end Mus

set_option maxRecDepth 100000
set_option maxHeartbeats 4000000
namespace Mus
open PySem L2 TL PySem.NumText Txt4 RZ
local macro_rules | `(tactic| walk_at "rd") => `(tactic| first
  | refine ⟨_, rfl, ?_⟩ | refine ⟨(True.intro : True), ?_⟩
  | refine ⟨_, _, rfl, rfl, (⟨by decide, by decide, by decide⟩ : CPow _ _), ?_⟩
  | refine ⟨_, _, rfl, rfl, (⟨by decide, by decide⟩ : CDiv _ _), ?_⟩
  | refine ⟨_, _, rfl, rfl, (by show (0 : Int) < _; decide), ?_⟩
  | refine ⟨_, _, rfl, rfl, ?_⟩ | refine ⟨rfl, ?_⟩ | refine iteT ?_ | refine iteF ?_ | refine ⟨_, _, rfl, ?_⟩ | refine .inl ⟨_, rfl, ?_⟩
  | refine ⟨_, _, _, _, _, rfl, (by assumption), (by assumption), (by assumption), rfl, ?_⟩ | refine ⟨_, _, _, _, rfl, rfl, SqT.of (by assumption), rfl, ?_⟩ | refine ⟨_, _, rfl, SqT.of (by assumption), rfl, ?_⟩
  | refine ⟨_, _, _, _, _, rfl, .ty _, Rp.ty (by assumption), kit_int _, ?_⟩ | refine ⟨_, _, _, _, _, rfl, .ty _, Rp.ty (by assumption), kit_bool _, ?_⟩
  | refine ⟨_, _, _, _, _, rfl, .ty _, Rp.ty (by assumption), kit_str _, ?_⟩ | refine ⟨_, _, _, _, _, rfl, .ty _, Rp.ty (by assumption), kit_tup _, ?_⟩)
local macro_rules | `(tactic| walk_at "cal") => `(tactic| first
  | refine ⟨_, _, _, _, _, rfl, (by assumption), ?_⟩ | refine ⟨_, _, _, _, _, rfl, (by assumption), (by assumption), ?_⟩)
local macro_rules | `(tactic| walk_at "sq") => `(tactic| first
  | refine ⟨_, _, rfl, Or.inr (SqT.of (by assumption)), ?_⟩ | refine ⟨_, _, _, _, rfl, rfl, SqT.of (by assumption), rfl, ?_⟩)
local macro_rules | `(tactic| walk_at "rds") => `(tactic| repeat first | walk_at "rd" | walk_at "cal" | walk_at "sq")
local macro_rules | `(tactic| walk_at "ze") => `(tactic| repeat first
  | exact zes_nil | exact ze_bl | exact ze_str | exact ze_non | apply zes_cons | apply ze_tup | apply ze_lst | apply ze_cat | exact di_c | exact di_v rfl | apply di_opC | apply di_op | apply di_neg | apply ze_i | (refine (⟨?_, ?_, ?_⟩ : CPow _ _) <;> decide) | exact Nat.le_of_ble_eq_true rfl | exact ze_varD rfl (by assumption))
local macro_rules | `(tactic| walk_at "rdz") => `(tactic| repeat (fail_if_success (first | show tLst _ _ _ _ | show tAsg (tLst _) _ _ _ _ | show tSeq (tAsg (tLst _) _) _ _ _ _)); first | walk_at "rd" | walk_at "cal" | walk_at "sq")
structure Tb (K : PySem.W.Frag) (mg : Str → Option Value) (CT CB : Addr) : Prop extends Tt K mg CT where
  g_BadSchedule : mg "BadSchedule" = some (.ref CB)
def lineL (k : Str) (ds : List D) : List Nat := joinL [32] (tl k :: ds.map enc)
theorem item_len {n : Str} {d : D} (h : ItemOk n d) : (enc d).length ≤ 2002 ∧ Txt4.ok d ∧ sml d ∧ dep d ≤ 8 := by
  cases h with
  | @num n i h0 h1 h2 h3 =>
    have hi : i.natAbs < 10 ^ 24 := by omega
    have := numI_len hi
    exact ⟨by show (numI i).length ≤ 2002; omega, hi, trivial, Nat.zero_le _⟩
  | @pay z h1 h2 =>
    have hl := len_tl z
    have := numL_len (n := (tl z).length) (k := 2) (by omega) (by omega)
    refine ⟨?_, h1, (by show z.length ≤ 1000; omega), Nat.zero_le _⟩
    show (numL (tl z).length ++ 58 :: tl z).length ≤ 2002
    rw [List.length_append, List.length_cons]; omega
  | @grp ds h1 h2 h3 h4 =>
    refine ⟨?_, h1, h2, (by show deps ds + 1 ≤ 8; omega)⟩
    show (40 :: (encs ds ++ [41])).length ≤ 2002
    rw [List.length_cons, List.length_append, List.length_singleton]; omega
section
variable {P : Program} {w : World} {K : PySem.W.Frag} {mg : Str → Option Value} {base : Heap} {CT CB DI AT : Addr}
abbrev s__is_text_of : Stmt := top 43
abbrev N__is_text_of : List Str := ["name", "value"]
abbrev P__is_text_of : List Str := ["name", "value"]
theorem sc__is_text_of : FnScope N__is_text_of P__is_text_of (defScope s__is_text_of) := ⟨rfl, rfl, rfl, by decide +kernel, rfl, by decide +kernel, by decide +kernel⟩
def sp_tof : Sp := fun vs H Q _ => ∃ n v d, vs = [.str n, v] ∧ Rep H v d ∧ ((n = "payload" ∧ ∃ z, d = .str z) ∨ (n = "groups" ∧ ∃ ds, d = .tup ds)) ∧ Q (.bl true) H
theorem ok__is_text_of {f : Addr} {fd : FuncData} (T : Tx mg) (F : Fun K "_is_text_of" "_is_text_of" s__is_text_of f fd) : FnOk P w K mg base CX0 (1) f fd P__is_text_of (sp_tof) := by
  have nd := sc__is_text_of.nd
  refine F.ok sc__is_text_of (fun vs H Q E h => ?_) (fun cdv A outer s H vs Q E hr h => ?_)
  · obtain ⟨_, _, _, rfl, _⟩ := h
    rfl
  · obtain ⟨n, v, d, rfl, rv, hd, q⟩ := h
    refine ⟨_, (pss_one (ps_ret (pe_ifExp (pt_cmpR op_eq (pv 0) pe_str (nomark _)) (pe_callB call_isi (by rfl) T.b_isinstance (by decide +kernel) (pa_cons (pv 1) (pa_cons (pe_ty "str" T.b_str) pa_nil))) (pe_callB call_isi (by rfl) T.b_isinstance (by decide +kernel) (pa_cons (pv 1) (pa_cons (pe_ty "tuple" T.b_tuple) pa_nil)))))), ?_⟩
    rcases hd with ⟨rfl, z, rfl⟩ | ⟨rfl, ds, rfl⟩
    · cases rv
      walk_at "rds"
      exact ⟨_, _, _, _, true, rfl, .ty _, .base (.str z), kit_ty (by decide +kernel), q⟩
    · cases rv with
      | tup h _ _ =>
      walk_at "rds"
      exact ⟨_, _, _, _, true, rfl, .ty _, .base (.tup h), kit_ty (by decide +kernel), q⟩
abbrev s__word_of : Stmt := top 44
abbrev N__word_of : List Str := ["name", "item"]
abbrev P__word_of : List Str := ["name", "item"]
theorem sc__word_of : FnScope N__word_of P__word_of (defScope s__word_of) := ⟨rfl, rfl, rfl, by decide +kernel, rfl, by decide +kernel, by decide +kernel⟩
def sp_word : Sp := fun vs H Q _ => ∃ n v d, vs = [.str n, v] ∧ Rep H v d ∧ ItemOk n d ∧ ∀ y H', tl y = enc d → Same H H' → Q (.str y) H'
theorem ok__word_of {f : Addr} {fd : FuncData} (T : Tb K mg CT CB) (I : Ti w K mg DI AT) (c_is_integer : DefOk P w K mg base CX0 "is_integer" P_is_integer 1 (spI)) (c__is_text_of : DefOk P w K mg base CX0 "_is_text_of" P__is_text_of 1 (sp_tof)) (c_encode : DefOk P w K mg base (L2.CX P w) "encode" P_encode 21 (sp_encode CT)) (F : Fun K "_word_of" "_word_of" s__word_of f fd) : FnOk P w K mg base CX0 22 f fd P__word_of sp_word := by
  have nd := sc__word_of.nd
  refine F.ok sc__word_of (fun vs H Q E h => ?_) (fun cdv A outer s H vs Q E hr h => ?_)
  · obtain ⟨_, _, _, rfl, _⟩ := h
    rfl
  · obtain ⟨n, v, d, rfl, rv, hd, q⟩ := h
    have hs := sl
    obtain ⟨il, iok, ism, idp⟩ := item_len hd
    refine ⟨_, (pss_cons (ps_if (pt_cmpR op_notIn_seq (pv 0) (pe_cls I.g__TEXTS) (by rfl))
        (pss_cons (ps_if (pt_not (pt_val (pcall c_is_integer hr (pa_cons (pv 1) (pa_cons pe_int (pa_cons (pe_const T.c__GREATEST) pa_nil))))))
          (pss_one ps_never)
          pss_nil)
        (pss_one (ps_ret (pe_callTy call_str_int (by rfl) T.b_str (by decide +kernel) (pa_cons (pv 1) pa_nil)))))
        pss_nil)
      (pss_cons (ps_if (pt_not (pt_val (pcall c__is_text_of hr (pa_cons (pv 0) (pa_cons (pv 1) pa_nil)))))
        (pss_one ps_never)
        pss_nil)
      (pss_one (ps_tryX rfl rfl takes0 (fun W pn xe tk _ => (pss_one (ps_ret (pcallA c_encode tk hr (pa_cons (pv 1) pa_nil)))))
        (hd_one ⟨rfl, by decide, .inl T.g_BadText⟩ (fun a oe cls d pn hz hf => (pss_one ps_never)) .nil))))), ?_⟩
    walk_at "rds"
    refine ⟨AT, _, rfl, .inr (I.t_ _), rfl, rfl, ?_⟩
    cases hd with
    | @num _ i hn i0 i1 it =>
      cases rv
      refine ⟨_, rfl, iB (fun h => ?_) (fun h => ?_)⟩
      · walk_at "rds"
        refine ⟨0, .int i, .int i, _, _, rfl, .int i, ?_⟩
        rw [show isInt (.int i) 0 999999999999 = true by simp only [isInt, Bool.and_eq_true, decide_eq_true_eq]; omega]
        walk_at "rds"
        exact ⟨log_small (by omega), q _ _ (tl_int i) (Same.rfl' H)⟩
      · simp only [numN, List.mem_cons, List.not_mem_nil, or_false] at hn
        rcases hn with rfl | rfl | rfl | rfl | rfl <;> exact absurd h (by decide +kernel)
    | @pay z h1 h2 =>
      refine ⟨_, rfl, iB (fun h => absurd h (by decide +kernel)) (fun h => ?_)⟩
      walk_at "rds"
      refine ⟨_, v, .str z, rfl, rv, .inl ⟨rfl, z, rfl⟩, ?_⟩
      walk_at "rds"
      exact ⟨v, .str z, rfl, rv, iok, ism, idp, fun _ y H' ey s1 => q _ _ ey s1, fun h => by omega⟩
    | @grp ds h1 h2 h3 h4 =>
      refine ⟨_, rfl, iB (fun h => absurd h (by decide +kernel)) (fun h => ?_)⟩
      walk_at "rds"
      refine ⟨_, v, .tup ds, rfl, rv, .inr ⟨rfl, ds, rfl⟩, ?_⟩
      walk_at "rds"
      exact ⟨v, .tup ds, rfl, rv, iok, ism, idp, fun _ y H' ey s1 => q _ _ ey s1, fun h => by omega⟩
abbrev s_act_line : Stmt := top 37
abbrev N_act_line : List Str := ["act", "words", "name", "item"]
abbrev P_act_line : List Str := ["act"]
theorem sc_act_line : FnScope N_act_line P_act_line (defScope s_act_line) := ⟨rfl, rfl, rfl, by decide +kernel, rfl, by decide +kernel, by decide +kernel⟩
def sp_aline : Sp := fun vs H Q _ => ∃ a k us ns ds, vs = [.ref a] ∧ ActAt H a k us ns ds ∧ ∀ y H', tl y = lineL k ds → Same H H' → Q (.str y) H'
theorem kind_short {k : Str} {ns : List Str} (h : (k, ns) ∈ kindT) : k.length ≤ 7 ∧ 32 ∉ tl k ∧ (tl k).all prB = true ∧ ∃ c r, tl k = c :: r ∧ c ≠ 35 := by
  simp only [kindT, List.mem_cons, List.not_mem_nil, or_false, Prod.mk.injEq] at h
  rcases h with ⟨rfl, _⟩ | ⟨rfl, _⟩ | ⟨rfl, _⟩ | ⟨rfl, _⟩ | ⟨rfl, _⟩ | ⟨rfl, _⟩ | ⟨rfl, _⟩ | ⟨rfl, _⟩ | ⟨rfl, _⟩ | ⟨rfl, _⟩ | ⟨rfl, _⟩ | ⟨rfl, _⟩ | ⟨rfl, _⟩ <;> exact ⟨by decide +kernel, by decide +kernel, by decide +kernel, _, _, rfl, by decide⟩
theorem ok_act_line {f : Addr} {fd : FuncData} (T : Tb K mg CT CB) (c_check_act : DefOk P w K mg base CX0 "check_act" P_check_act 3 (sp_chka)) (c_item_names : DefOk P w K mg base CX0 "item_names" P_item_names 1 (sp_names K)) (c__word_of : DefOk P w K mg base CX0 "_word_of" P__word_of 22 (sp_word)) (F : Fun K "act_line" "act_line" s_act_line f fd) : FnOk P w K mg base CX0 23 f fd P_act_line sp_aline := by
  have nd := sc_act_line.nd
  refine F.ok sc_act_line (fun vs H Q E h => ?_) (fun cdv A outer s H vs Q E hr h => ?_)
  · obtain ⟨_, _, _, _, _, rfl, _⟩ := h
    rfl
  · obtain ⟨a, k, us, ns, ds, rfl, AA, q⟩ := h
    have hs := sl
    have l1 := AA.items.length
    have l2 := AA.reps.length
    have l3 := kind_len AA.kind
    have a0 : ∀ (x : V) (r : List V), atI (x :: r) 0 = some x := fun x r => at_int (by decide) rfl
    refine ⟨_, (pss_cons (ps_tryX rfl rfl takes0 (fun W pn xe tk _ => (pss_one (ps_expr (pcall c_check_act hr (pa_cons (pv 0) pa_nil)))))
        (hd_one ⟨rfl, by decide, .inl T.g_BadSchedule⟩ (fun a oe cls d pn hz hf => (pss_one ps_never)) .nil))
      (pss_cons (ps_set (i := 1) nd rfl (Or.inl rfl) (pe_lst (pa_cons (pe_ix ix_tup (pv 0) pe_int (fun _ _ => rfl)) pa_nil)))
      (pss_cons (ps_for PassesOwn.never rfl (pi_zipA (by rfl) T.b_zip (pa_cons (pcall c_item_names hr (pa_cons (pe_ix ix_tup (pv 0) pe_int (fun _ _ => rfl)) pa_nil)) (pa_cons (pe_slice sl_tupA (pv 0) (po_some pe_int) po_none) pa_nil))) (pg_tup (by rfl) (pgs_cons (pg_name (i := 2) nd rfl (Or.inl rfl)) (pgs_cons (pg_name (i := 3) nd rfl (Or.inl rfl)) pgs_nil)))
        (pss_one (ps_expr (pe_bm PySem.F.plainAttrs_list PySem.F.slot_list_append PySem.F.type_list_append mt_append (pv 1) (pa_cons (pcall c__word_of hr (pa_cons (pv 2) (pa_cons (pv 3) pa_nil))) pa_nil)))))
      (pss_one (ps_ret (pe_join pe_str (pv 1))))))), ?_⟩
    walk_at "rds"
    intro H1 s1
    have A1 := AA.same s1
    have ha := A1.at_
    walk_at "rds"
    refine ⟨a, _, _, _, rfl, rfl, SqT.of ha, a0 _ _, ?_⟩
    refine ⟨by show 1 ≤ sizeLine; omega, fun l nl => ?_⟩
    have sl1 := same_new nl (.lst [V.str k])
    have hl : (upd H1 l (.lst [V.str k])) l = some (.lst [V.str k]) := upd_same
    generalize upd H1 l (.lst [V.str k]) = H2 at *
    have ha2 := sl1 _ _ ha
    walk_at "rds"
    refine ⟨a, _, _, _, rfl, rfl, SqT.of ha2, a0 _ _, ?_⟩
    refine ⟨k, ns, rfl, AA.kind, fun an hn => ?_⟩
    walk_at "rds"
    refine ⟨a, _, rfl, SqT.of ha2, fun z => absurd z.1 (by show ¬ (HT.sIx (us.length + 1) 0 (some 1) = 0); rw [sIxT]; decide), fun _ t nt => ?_⟩
    rw [cutT]
    have st := same_new nt (.tup us)
    have ht : (upd H2 t (.tup us)) t = some (.tup us) := upd_same
    have hl3 := st _ _ hl
    generalize upd H2 t (.tup us) = H3 at *
    have s13 := sl1.trans st
    have A3 := A1.same s13
    refine ⟨an, t, ns.map V.str, us, rfl, .inr ⟨hn _, SqT.of ht, ?_⟩⟩
    refine for_zipT (K := K) (a := an) (b := t) (xs := ns.map V.str) (ys := us) (by rw [List.length_map]; omega) (fun i σ H' => ∃ (x2 x3 : Option V) (ws : List Str), σ = [some (.ref a), some (.ref l), x2, x3] ∧ Same H1 H' ∧ H' t = some (.tup us) ∧ H' l = some (.lst ((k :: ws).map V.str)) ∧ ws.map tl = (ds.take i).map enc ∧ (ws.map (·.length)).sum ≤ 2002 * i ∧ ActAt H' a k us ns ds) ⟨_, _, [], rfl, s13, ht, hl3, rfl, Nat.le_refl _, A3⟩ ?_ ?_ ?_
    · rintro i σ H' ⟨_, _, _, _, _, h, _⟩
      exact ⟨hn _, SqT.of h⟩
    · rintro i x y T' σ H' hx hy ⟨x2, x3, ws, rfl, s2, ht2, hl2, ew, lw, A4⟩ nT'
      rw [List.getElem?_map] at hx
      obtain ⟨n, hn1, rfl⟩ := Option.map_eq_some_iff.mp hx
      have hi := (List.getElem?_eq_some_iff.mp hy).1
      obtain ⟨d, hd, rd⟩ := A4.reps.at hy
      have it := A4.items.at hn1 hd
      have il := (item_len it).1
      have s3 := same_new nT' (.tup [V.str n, y])
      have hT' : (upd H' T' (.tup [V.str n, y])) T' = some (.tup [V.str n, y]) := upd_same
      have rd3 := rd.mono (fun b xs e => s3 _ _ e)
      have hl4 := s3 _ _ hl2
      generalize upd H' T' (.tup [V.str n, y]) = H4 at *
      walk_at "rds"
      refine ⟨.inl ⟨rfl, _, SqL.of hl4⟩, ?_⟩
      walk_at "rds"
      refine ⟨n, y, d, rfl, rd3, it, fun z H5 ez s5 => ?_⟩
      have lw2 := congrArg List.length ew
      rw [List.length_map, List.length_map, List.length_take] at lw2
      have hl5 := s5 _ _ hl4
      refine ⟨l, _, _, rfl, rfl, hl5, by rw [List.length_map, List.length_cons]; omega, ?_⟩
      have s25 := s2.trans (s3.trans s5)
      have nl1 : ∀ c o, H1 c = some o → c ≠ l := fun c o h => ne_of_none h nl
      have k6 : ∀ b xs, H5 b = some (HO.tup xs) → (upd H5 l (.lst (((k :: ws).map V.str) ++ [V.str z]))) b = some (.tup xs) := fun b xs e => by rw [upd_ne (ne_of e hl5 (by intro z; cases z))]; exact e
      have A5 := (A4.same s3).same s5
      refine ⟨_, _, ws ++ [z], rfl, fun c o h => by rw [upd_ne (nl1 c o h)]; exact s25 _ _ h, k6 _ _ (s5 _ _ (s3 _ _ ht2)), ?_, ?_, ?_, ⟨k6 _ _ A5.at_, A5.reps.mono k6, A5.kind, A5.items⟩⟩
      · rw [upd_same, ← List.cons_append, List.map_append]; rfl
      · rw [List.map_append, ew, take_more hd, List.map_append]
        show _ ++ [tl z] = _ ++ [enc d]
        rw [ez]
      · rw [List.map_append, List.sum_append]
        have : z.length = (enc d).length := by rw [len_tl, ez]
        show _ + (z.length + 0) ≤ _
        omega
    · rintro σ H' ⟨_, _, ws, rfl, s2, ht2, hl2, ew, lw, A4⟩
      rw [List.length_map, l1, List.take_length] at ew
      rw [List.length_map] at lw
      have lw2 := congrArg List.length ew
      rw [List.length_map, List.length_map] at lw2
      obtain ⟨k1, _⟩ := kind_short AA.kind
      walk_at "rds"
      refine ⟨⟨_, rfl⟩, _, rfl, _, l, k :: ws, rfl, rfl, .inl (SqL.of hl2), ?_, q _ _ ?_ (s1.trans s2)⟩
      · have : (Str.ofString " ").length = 1 := by decide
        rw [this, List.map_cons, List.sum_cons, List.length_cons]
        omega
      · rw [join_eq, tl_join, List.map_cons, ew]; rfl
end
end Mus

set_option maxRecDepth 100000
set_option maxHeartbeats 4000000
namespace Mus
open PySem L2 TL PySem.NumText Txt4 RZ
local macro_rules | `(tactic| walk_at "rd") => `(tactic| first
  | refine ⟨_, rfl, ?_⟩ | refine ⟨(True.intro : True), ?_⟩
  | refine ⟨_, _, rfl, rfl, (⟨by decide, by decide, by decide⟩ : CPow _ _), ?_⟩
  | refine ⟨_, _, rfl, rfl, (⟨by decide, by decide⟩ : CDiv _ _), ?_⟩
  | refine ⟨_, _, rfl, rfl, (by show (0 : Int) < _; decide), ?_⟩
  | refine ⟨_, _, rfl, rfl, ?_⟩ | refine ⟨rfl, ?_⟩ | refine iteT ?_ | refine iteF ?_ | refine ⟨_, _, rfl, ?_⟩ | refine .inl ⟨_, rfl, ?_⟩
  | refine ⟨_, _, _, _, _, rfl, (by assumption), (by assumption), (by assumption), rfl, ?_⟩ | refine ⟨_, _, _, _, rfl, rfl, SqT.of (by assumption), rfl, ?_⟩ | refine ⟨_, _, rfl, SqT.of (by assumption), rfl, ?_⟩
  | refine ⟨_, _, _, _, _, rfl, .ty _, Rp.ty (by assumption), kit_int _, ?_⟩ | refine ⟨_, _, _, _, _, rfl, .ty _, Rp.ty (by assumption), kit_bool _, ?_⟩
  | refine ⟨_, _, _, _, _, rfl, .ty _, Rp.ty (by assumption), kit_str _, ?_⟩ | refine ⟨_, _, _, _, _, rfl, .ty _, Rp.ty (by assumption), kit_tup _, ?_⟩)
local macro_rules | `(tactic| walk_at "cal") => `(tactic| first
  | refine ⟨_, _, _, _, _, rfl, (by assumption), ?_⟩ | refine ⟨_, _, _, _, _, rfl, (by assumption), (by assumption), ?_⟩)
local macro_rules | `(tactic| walk_at "sq") => `(tactic| first
  | refine ⟨_, _, rfl, Or.inr (SqT.of (by assumption)), ?_⟩ | refine ⟨_, _, _, _, rfl, rfl, SqT.of (by assumption), rfl, ?_⟩)
local macro_rules | `(tactic| walk_at "rds") => `(tactic| repeat first | walk_at "rd" | walk_at "cal" | walk_at "sq")
local macro_rules | `(tactic| walk_at "ze") => `(tactic| repeat first
  | exact zes_nil | exact ze_bl | exact ze_str | exact ze_non | apply zes_cons | apply ze_tup | apply ze_lst | apply ze_cat | exact di_c | exact di_v rfl | apply di_opC | apply di_op | apply di_neg | apply ze_i | (refine (⟨?_, ?_, ?_⟩ : CPow _ _) <;> decide) | exact Nat.le_of_ble_eq_true rfl | exact ze_varD rfl (by assumption))
local macro_rules | `(tactic| walk_at "rdz") => `(tactic| repeat (fail_if_success (first | show tLst _ _ _ _ | show tAsg (tLst _) _ _ _ _ | show tSeq (tAsg (tLst _) _) _ _ _ _)); first | walk_at "rd" | walk_at "cal" | walk_at "sq")
local macro_rules | `(tactic| walk_at "de") => `(tactic| repeat first
  | exact des_nil | exact de_bl | exact de_str | exact de_non | apply des_cons | apply de_tup | apply de_lst | apply de_cat | exact di_c | exact di_v rfl | apply di_opC | apply di_op | apply di_neg | apply de_i | (refine (⟨?_, ?_, ?_⟩ : CPow _ _) <;> decide) | exact Nat.le_of_ble_eq_true rfl | exact de_varD rfl (by assumption))
theorem tupK {p : Addr} {c : Int} {H H' : Hp} (g : Bag p c H) (b : But p H H') : ∀ a xs, H a = some (HO.tup xs) → H' a = some (.tup xs) := fun a xs e => by
  obtain ⟨x, y, hp⟩ := g
  exact b a _ e (ne_of e hp (by intro z; cases z))
def TxtOk (z : Str) : Prop := (∀ c ∈ tl z, Pr c) ∧ z.length ≤ 60
theorem TxtOk.of {z : Str} (h : (tl z).all prB = true) (l : z.length ≤ 60) : TxtOk z := ⟨fun c hc => prB_pr (List.all_eq_true.mp h c hc), l⟩
def GrpOk (ds : List D) : Prop := Txt4.oks ds ∧ smls ds ∧ deps ds ≤ 7 ∧ (encs ds).length ≤ 2000
def chars94 : Str := " !\"#$&'()*+,-./0123456789:;<=>?@ABCDEFGHIJKLMNOPQRSTUVWXYZ[\\]^_`abcdefghijklmnopqrstuvwxyz{|}~"
theorem chars_len : (tl chars94).length = 94 := by decide +kernel
theorem chars_pr : (tl chars94).all prB = true := by decide +kernel
section
variable {P : Program} {w : World} {K : PySem.W.Frag} {mg : Str → Option Value} {base : Heap} {CT CB DI AT : Addr}
abbrev s__law_bag : Stmt := top 46
abbrev N__law_bag : List Str := ["script", "k", "cell"]
abbrev P__law_bag : List Str := ["script", "k"]
theorem sc__law_bag : FnScope N__law_bag P__law_bag (defScope s__law_bag) := ⟨rfl, rfl, rfl, by decide +kernel, rfl, by decide +kernel, by decide +kernel⟩
theorem ok__law_bag {f : Addr} {fd : FuncData} (T : Tx mg) (F : Fun K "_law_bag" "_law_bag" s__law_bag f fd) : FnOk P w K mg base CX0 (1) f fd P__law_bag (sp_bag K) := by
  have nd := sc__law_bag.nd
  refine F.ok sc__law_bag (fun vs H Q E h => ?_) (fun cdv A outer s H vs Q E hr h => ?_)
  · obtain ⟨_, _, _, rfl, _⟩ := h
    rfl
  · obtain ⟨a, ns, k, rfl, hS, q⟩ := h
    have hs := sl
    refine ⟨_, (pss_cons (ps_set (i := 2) nd rfl (Or.inl rfl) pe_int)
      (pss_cons (ps_if (pt_cmpR op_lt (pv 1) (pe_callB call_len_seq (by rfl) T.b_len (by decide +kernel) (pa_cons (pv 0) pa_nil)) (nomark _))
        (pss_one (ps_set (i := 2) nd rfl (Or.inl rfl) (pe_callTy call_int1 (by rfl) T.b_int (by decide +kernel) (pa_cons (pe_ix ix_list (pv 0) (pv 1) (fun _ _ => rfl)) pa_nil))))
        pss_nil)
      (pss_cons (ps_if (pt_cmpR op_ge (pv 2) (pe_op op_pow pe_int pe_int) (nomark _))
        (pss_one (ps_ret (pe_lst (pa_cons (pv 2) (pa_cons (pv 2) (pa_cons (pv 1) pa_nil))))))
        pss_nil)
      (pss_one (ps_ret (pe_lst (pa_cons pe_int (pa_cons (pv 2) (pa_cons (pv 1) pa_nil))))))))), ?_⟩
    have hl : (ns.map V.int).length = ns.length := List.length_map _
    have fin : ∀ x y : Int, ∀ p, H p = none → Q (.ref p) (upd H p (.lst [.int x, .int y, .int k])) := fun x y p np => q p _ np (same_new np _) ⟨x, y, upd_same⟩
    refine ⟨_, rfl, _, rfl, a, _, rfl, .inl hS, _, _, rfl, rfl, _, rfl, ?_⟩
    by_cases hk : (k : Int) < (((ns.map V.int).length : Nat) : Int)
    · refine dT hk ?_
      have hk2 : k < ns.length := by omega
      refine ⟨_, rfl, _, rfl, a, _, _, .int ns[k], rfl, rfl, hS, atI_nat (by rw [List.getElem?_map, List.getElem?_eq_getElem hk2]; rfl), .inl ⟨_, rfl, ?_⟩⟩
      refine ⟨_, rfl, _, _, rfl, rfl, ⟨by decide, by decide, by decide⟩, _, _, rfl, rfl, _, rfl, ?_⟩
      refine ite2 (fun _ => ?_) (fun _ => ?_)
      · exact ⟨_, rfl, _, rfl, _, rfl, by show 3 ≤ sizeLine; omega, fun p np => fin _ _ p np⟩
      · exact ⟨_, rfl, _, rfl, by show 3 ≤ sizeLine; omega, fun p np => fin _ _ p np⟩
    · refine dF hk ?_
      refine ⟨_, rfl, _, _, rfl, rfl, ⟨by decide, by decide, by decide⟩, _, _, rfl, rfl, _, rfl, ?_⟩
      refine ite2 (fun _ => ?_) (fun _ => ?_)
      · exact ⟨_, rfl, _, rfl, _, rfl, by show 3 ≤ sizeLine; omega, fun p np => fin _ _ p np⟩
      · exact ⟨_, rfl, _, rfl, by show 3 ≤ sizeLine; omega, fun p np => fin _ _ p np⟩
abbrev s__law_draw : Stmt := top 47
abbrev N__law_draw : List Str := ["bag", "many", "seed", "rest"]
abbrev P__law_draw : List Str := ["bag", "many"]
theorem sc__law_draw : FnScope N__law_draw P__law_draw (defScope s__law_draw) := ⟨rfl, rfl, rfl, by decide +kernel, rfl, by decide +kernel, by decide +kernel⟩
theorem ok__law_draw {f : Addr} {fd : FuncData} (T : Tx mg) (F : Fun K "_law_draw" "_law_draw" s__law_draw f fd) : FnOk P w K mg base CX0 (1) f fd P__law_draw (sp_draw) := by
  have nd := sc__law_draw.nd
  refine F.ok sc__law_draw (fun vs H Q E h => ?_) (fun cdv A outer s H vs Q E hr h => ?_)
  · obtain ⟨_, _, _, rfl, _⟩ := h
    rfl
  · obtain ⟨p, c, m, rfl, ⟨x, y, hp⟩, hm, hm2, q⟩ := h
    refine ⟨_, (pss_cons (ps_if (pt_cmpR op_eq (pe_ix ix_list (pv 0) pe_int (fun _ _ => rfl)) pe_int (nomark _))
        (pss_cons (ps_set (i := 2) nd rfl (Or.inl rfl) (pe_op op_mod (pe_callTy call_int1 (by rfl) T.b_int (by decide +kernel) (pa_cons (pe_op op_add (pe_op op_add (pe_op op_mul (pe_ix ix_list (pv 0) pe_int (fun _ _ => rfl)) pe_int) (pe_op op_mul (pe_ix ix_list (pv 0) pe_int (fun _ _ => rfl)) pe_int)) pe_int) pa_nil)) pe_int))
        (pss_cons (ps_asg (pe_op op_add (pe_op op_mul (pv 2) pe_int) (pe_op op_mod (pe_callTy call_int1 (by rfl) T.b_int (by decide +kernel) (pa_cons (pe_op op_add (pe_op op_mul (pv 2) (pv 2)) (pe_op op_mul (pe_ix ix_list (pv 0) pe_int (fun _ _ => rfl)) pe_int)) pa_nil)) pe_int)) (pg_sub (pv 0) pe_int set_list))
        (pss_one (ps_asg (pv 2) (pg_sub (pv 0) pe_int set_list)))))
        pss_nil)
      (pss_cons (ps_set (i := 3) nd rfl (Or.inl rfl) (pe_ix ix_list (pv 0) pe_int (fun _ _ => rfl)))
      (pss_cons (ps_asg (pe_op op_fdivW (pv 3) (pv 1)) (pg_sub (pv 0) pe_int set_list))
      (pss_one (ps_ret (pe_op op_mod (pe_callTy call_int1 (by rfl) T.b_int (by decide +kernel) (pa_cons (pv 3) pa_nil)) (pv 1))))))), ?_⟩
    have wd : CDivW 0 m := wide_div (i := 0) hm hm2 (by omega) (by omega)
    refine ⟨_, rfl, p, _, _, _, rfl, rfl, SqL.of hp, rfl, rfl, _, rfl, ?_⟩
    by_cases h0 : x = 0
    · subst h0
      refine dT rfl ?_
      refine ⟨_, rfl, p, _, _, _, rfl, rfl, SqL.of hp, rfl, _, _, rfl, rfl, .inr ⟨by decide, by decide⟩, ?_⟩
      refine ⟨_, rfl, p, _, _, _, rfl, rfl, SqL.of hp, rfl, _, _, rfl, rfl, .inr ⟨by decide, by decide⟩, _, _, rfl, rfl, _, _, rfl, rfl, .inl ⟨_, rfl, _, _, rfl, rfl, (by show (0 : Int) < 2147483647; decide), ?_⟩⟩
      have b0 : 0 ≤ (y * 48271 + c * 69621 + 11) % 2147483647 := Int.emod_nonneg _ (by decide)
      have b1 : (y * 48271 + c * 69621 + 11) % 2147483647 < 2147483647 := Int.emod_lt_of_pos _ (by decide)
      have bb : -(2 ^ 64) < (y * 48271 + c * 69621 + 11) % 2147483647 ∧ (y * 48271 + c * 69621 + 11) % 2147483647 < 2 ^ 64 := ⟨by omega, by omega⟩
      refine ⟨_, rfl, _, _, rfl, rfl, .inl bb, _, rfl, _, rfl, _, _, rfl, rfl, .inl bb, _, rfl, p, _, _, _, rfl, rfl, SqL.of hp, rfl, _, _, rfl, rfl, .inr ⟨by decide, by decide⟩, _, _, rfl, rfl, .inl ⟨_, rfl, _, _, rfl, rfl, (by show (0 : Int) < 2147483629; decide), _, _, rfl, rfl, ?_⟩⟩
      refine ⟨_, rfl, p, _, _, 0, rfl, rfl, hp, rfl, ?_⟩
      refine ⟨_, rfl, _, rfl, p, _, _, 1, rfl, rfl, upd_same, rfl, ?_⟩
      refine ⟨_, rfl, p, _, _, _, rfl, rfl, SqL.of upd_same, rfl, ?_⟩
      refine ⟨_, rfl, _, rfl, _, _, rfl, rfl, wd, _, rfl, p, _, _, 0, rfl, rfl, upd_same, rfl, ?_⟩
      refine ⟨_, rfl, .inl ⟨_, rfl, _, rfl, _, _, rfl, rfl, hm, ?_⟩⟩
      exact q _ _ (Int.emod_nonneg _ (by omega)) (Int.emod_lt_of_pos _ hm) ((but_upd _).trans ((but_upd _).trans (but_upd _))) ⟨_, _, upd_same⟩
    · refine dF (by intro z; cases z; exact h0 rfl) ?_
      refine ⟨_, rfl, p, _, _, _, rfl, rfl, SqL.of hp, rfl, ?_⟩
      refine ⟨_, rfl, _, rfl, _, _, rfl, rfl, wd, _, rfl, p, _, _, 0, rfl, rfl, hp, rfl, ?_⟩
      refine ⟨_, rfl, .inl ⟨_, rfl, _, rfl, _, _, rfl, rfl, hm, ?_⟩⟩
      exact q _ _ (Int.emod_nonneg _ (by omega)) (Int.emod_lt_of_pos _ hm) (but_upd _) ⟨_, _, upd_same⟩

abbrev s__law_number : Stmt := top 50
abbrev N__law_number : List Str := ["bag"]
abbrev P__law_number : List Str := ["bag"]
theorem sc__law_number : FnScope N__law_number P__law_number (defScope s__law_number) := ⟨rfl, rfl, rfl, by decide +kernel, rfl, by decide +kernel, by decide +kernel⟩
def sp_lnum : Sp := fun vs H Q _ => ∃ (p : Addr) (c : Int), vs = [.ref p] ∧ Bag p c H ∧ ∀ r H', 0 ≤ r → r ≤ 999999999999 → But p H H' → Bag p c H' → Q (.int r) H'
theorem ok__law_number {f : Addr} {fd : FuncData} (T : Tx mg) (c__law_draw : DefOk P w K mg base CX0 "_law_draw" P__law_draw 1 (sp_draw))(F : Fun K "_law_number" "_law_number" s__law_number f fd) : FnOk P w K mg base CX0 (2) f fd P__law_number (sp_lnum) := by
  have nd := sc__law_number.nd
  refine F.ok sc__law_number (fun vs H Q E h => ?_) (fun cdv A outer s H vs Q E hr h => ?_)
  · obtain ⟨_, _, rfl, _⟩ := h
    rfl
  · obtain ⟨p, c, rfl, g, q⟩ := h
    refine ⟨_, (pss_cons (ps_if (pt_cmpR op_eq (pcall c__law_draw hr (pa_cons (pv 0) (pa_cons pe_int pa_nil))) pe_int (nomark _))
        (pss_one (ps_ret (pcall c__law_draw hr (pa_cons (pv 0) (pa_cons (pe_op op_pow pe_int pe_int) pa_nil)))))
        pss_nil)
      (pss_one (ps_ret (pcall c__law_draw hr (pa_cons (pv 0) (pa_cons pe_int pa_nil)))))), ?_⟩
    refine ⟨_, rfl, p, c, _, rfl, g, by decide, by decide, fun r H1 r0 r1 b1 g1 => ?_⟩
    walk_at "rds"
    refine iB (fun _ => ?_) (fun _ => ?_)
    · walk_at "rds"
      refine ⟨p, c, 1000000000000, rfl, g1, by decide, by decide, fun r2 H2 s0 s1 b2 g2 => ?_⟩
      exact q _ _ s0 (by omega) (b1.trans b2) g2
    · walk_at "rds"
      refine ⟨p, c, _, rfl, g1, by decide, by decide, fun r2 H2 s0 s1 b2 g2 => ?_⟩
      exact q _ _ s0 (by omega) (b1.trans b2) g2
abbrev s__law_skipped : Stmt := top 53
abbrev N__law_skipped : List Str := ["bag"]
abbrev P__law_skipped : List Str := ["bag"]
theorem sc__law_skipped : FnScope N__law_skipped P__law_skipped (defScope s__law_skipped) := ⟨rfl, rfl, rfl, by decide +kernel, rfl, by decide +kernel, by decide +kernel⟩
def SkipOk (z : Str) : Prop := (z = Str.ofString "" ∨ ∃ r, tl z = 35 :: r) ∧ 10 ∉ tl z ∧ z.length ≤ 100
def sp_lskip : Sp := fun vs H Q _ => ∃ (p : Addr) (c : Int), vs = [.ref p] ∧ Bag p c H ∧ ∀ z H', SkipOk z → But p H H' → Bag p c H' → Q (.str z) H'
theorem ok__law_skipped {f : Addr} {fd : FuncData} (T : Tx mg) (c__law_draw : DefOk P w K mg base CX0 "_law_draw" P__law_draw 1 (sp_draw))(F : Fun K "_law_skipped" "_law_skipped" s__law_skipped f fd) : FnOk P w K mg base CX0 (2) f fd P__law_skipped (sp_lskip) := by
  have nd := sc__law_skipped.nd
  refine F.ok sc__law_skipped (fun vs H Q E h => ?_) (fun cdv A outer s H vs Q E hr h => ?_)
  · obtain ⟨_, _, rfl, _⟩ := h
    rfl
  · obtain ⟨p, c, rfl, g, q⟩ := h
    have hs := sl
    refine ⟨_, (pss_one (ps_ret (pe_ix ix_list (pe_lst (pa_cons pe_str (pa_cons pe_str (pa_cons pe_str (pa_cons pe_str (pa_cons pe_str pa_nil)))))) (pcall c__law_draw hr (pa_cons (pv 0) (pa_cons pe_int pa_nil))) (fun _ _ => rfl)))), ?_⟩
    refine ⟨by show 5 ≤ sizeLine; omega, fun t nt => ?_⟩
    have st := same_new nt (.lst [V.str "", V.str "#", V.str "# group 1", V.str "#tick 1", V.str "# "])
    walk_at "rds"
    refine ⟨p, c, _, rfl, g.new nt, by decide, by decide, fun m H2 m0 m1 b2 g2 => ?_⟩
    have h2 := b2 t _ upd_same (g.ne nt).symm
    have bb := (But.of st).trans b2
    have hm : m = 0 ∨ m = 1 ∨ m = 2 ∨ m = 3 ∨ m = 4 := by omega
    rcases hm with rfl | rfl | rfl | rfl | rfl
    · exact ⟨t, _, _, _, rfl, rfl, SqL.of h2, rfl, q _ _ ⟨.inl rfl, by decide +kernel, by decide +kernel⟩ bb g2⟩
    all_goals exact ⟨t, _, _, _, rfl, rfl, SqL.of h2, rfl, q _ _ ⟨.inr ⟨_, rfl⟩, by decide +kernel, by decide +kernel⟩ bb g2⟩
abbrev s__law_text : Stmt := top 48
abbrev N__law_text : List Str := ["bag", "chars", "size", "k"]
abbrev P__law_text : List Str := ["bag"]
theorem sc__law_text : FnScope N__law_text P__law_text (defScope s__law_text) := ⟨rfl, rfl, rfl, by decide +kernel, rfl, by decide +kernel, by decide +kernel⟩
def sp_ltxt : Sp := fun vs H Q _ => ∃ (p : Addr) (c : Int), vs = [.ref p] ∧ Bag p c H ∧ ∀ z H', TxtOk z → But p H H' → Bag p c H' → Q (.str z) H'
theorem ok__law_text {f : Addr} {fd : FuncData} (T : Tx mg) (c__law_draw : DefOk P w K mg base CX0 "_law_draw" P__law_draw 1 (sp_draw))(F : Fun K "_law_text" "_law_text" s__law_text f fd) : FnOk P w K mg base CX0 (2) f fd P__law_text (sp_ltxt) := by
  have nd := sc__law_text.nd
  refine F.ok sc__law_text (fun vs H Q E h => ?_) (fun cdv A outer s H vs Q E hr h => ?_)
  · obtain ⟨_, _, rfl, _⟩ := h
    rfl
  · obtain ⟨p, c, rfl, g, q⟩ := h
    have hs := sl
    refine ⟨_, (pss_cons (ps_set (i := 1) nd rfl (Or.inr rfl) pe_str)
      (pss_cons (ps_set (i := 2) nd rfl (Or.inl rfl) (pe_ix ix_list (pe_lst (pa_cons pe_int (pa_cons pe_int (pa_cons pe_int (pa_cons pe_int (pa_cons pe_int (pa_cons pe_int (pa_cons pe_int pa_nil)))))))) (pcall c__law_draw hr (pa_cons (pv 0) (pa_cons pe_int pa_nil))) (fun _ _ => rfl)))
      (pss_cons (ps_if (pt_cmpR op_eq (pcall c__law_draw hr (pa_cons (pv 0) (pa_cons pe_int pa_nil))) pe_int (nomark _))
        (pss_one (ps_ret (pe_join pe_str (pe_lcX (own := [("k", 3)]) rfl nd (pi_range1 (by rfl) T.b_range (pa_cons (pv 2) pa_nil)) (blkOk_by (own := [("k", 3)]) (N := N__law_text) (sc := defScope s__law_text) (by decide +kernel)) (fun _ _ _ _ _ => (pg_name (i := 3) nd rfl (Or.inl rfl))) (fun _ _ _ _ _ => pts_nil) (fun _ _ _ _ _ => (pe_ix ix_str (pv 1) (pcall c__law_draw hr (pa_cons (pv 0) (pa_cons pe_int pa_nil))) (fun _ _ => rfl)))))))
        pss_nil)
      (pss_one (ps_ret (pe_ix ix_list (pe_lst (pa_cons pe_str (pa_cons pe_str (pa_cons pe_str (pa_cons pe_str (pa_cons pe_str (pa_cons pe_str (pa_cons pe_str pa_nil)))))))) (pcall c__law_draw hr (pa_cons (pv 0) (pa_cons pe_int pa_nil))) (fun _ _ => rfl))))))), ?_⟩
    have z0 := chars_len
    have z1 := TL.len_tl chars94
    refine ⟨by show 7 ≤ sizeLine; omega, fun t nt => ?_⟩
    have st := same_new nt (.lst [V.int 0, V.int 1, V.int 2, V.int 5, V.int 30, V.int 31, V.int 60])
    walk_at "rds"
    refine ⟨p, c, _, rfl, g.new nt, by decide, by decide, fun m H1 m0 m1 b1 g1 => ?_⟩
    have h1 := b1 t _ upd_same (g.ne nt).symm
    have b01 := (But.of st).trans b1
    obtain ⟨n, hn, n0, n1⟩ : ∃ n : Int, atI [V.int 0, V.int 1, V.int 2, V.int 5, V.int 30, V.int 31, V.int 60] m = some (.int n) ∧ 0 ≤ n ∧ n ≤ 60 := by
      have hm : m = 0 ∨ m = 1 ∨ m = 2 ∨ m = 3 ∨ m = 4 ∨ m = 5 ∨ m = 6 := by omega
      rcases hm with rfl | rfl | rfl | rfl | rfl | rfl | rfl <;> exact ⟨_, rfl, by decide, by decide⟩
    refine ⟨t, _, _, _, rfl, rfl, SqL.of h1, hn, ?_⟩
    walk_at "rds"
    refine ⟨p, c, _, rfl, g1, by decide, by decide, fun r H2 r0 r1 b2 g2 => ?_⟩
    have b12 := b01.trans b2
    walk_at "rds"
    refine iB (fun _ => ?_) (fun _ => ?_)
    · walk_at "rds"
      refine ⟨⟨_, rfl⟩, ?_⟩
      walk_at "rds"
      refine ⟨by omega, by omega, fun D nD => ?_⟩
      have pD := g2.ne nD
      refine lc_range (lo := 0) (n := n.toNat) (fun i H' => ∃ ys : List Str, H' D = some (.lst (ys.map V.str)) ∧ ys.length = i ∧ (Txt4.flat ys).length = i ∧ (Txt4.flat ys).all prB = true ∧ But p H H' ∧ Bag p c H') ?_ ?_ ?_
      · exact ⟨[], upd_same, rfl, rfl, rfl, b12.new nD, g2.new nD⟩
      · rintro i H' hi ⟨ys, h1, h2, h3, h4, b3, g3⟩
        refine ⟨rfl, ?_⟩
        refine ⟨_, rfl, _, rfl, p, c, _, rfl, g3, by decide, by decide, fun m H4 m0 m1 b4 g4 => ?_⟩
        have hlt : m.toNat < (tl chars94).length := by rw [chars_len]; omega
        refine ⟨chars94, _, (tl chars94)[m.toNat], rfl, rfl, by omega, at_int m0 (List.getElem?_eq_getElem hlt), ?_⟩
        have hD4 := b4 D _ h1 pD.symm
        refine ⟨_, hD4, by rw [List.length_map]; omega, ys ++ [⟨#[(tl chars94)[m.toNat]]⟩], ?_, by rw [List.length_append, h2]; rfl, ?_, ?_, (b3.trans b4).later (b12.free nD pD.symm), g4.upd pD⟩
        · rw [upd_same, List.map_append]; rfl
        · rw [Txt4.flat_append, Txt4.flat_one, List.length_append, h3]; rfl
        · rw [Txt4.flat_append, Txt4.flat_one, List.all_append, h4]
          have : prB (tl chars94)[m.toNat] = true := List.all_eq_true.mp chars_pr _ (List.getElem_mem hlt)
          show (true && (prB (tl chars94)[m.toNat] && true)) = true
          rw [this]; rfl
      · rintro H' ⟨ys, h1, h2, h3, h4, b3, g3⟩
        have z2 := Txt4.flat_len ys
        have e : tl (Txt.join (Str.ofString "") ys) = Txt4.flat ys := Txt4.tl_glue ys
        refine ⟨_, D, ys, rfl, rfl, .inl (SqL.of h1), ?_, q _ _ (.of ?_ ?_) b3 g3⟩
        · rw [z2]
          have : (Str.ofString "").length = 0 := by decide
          rw [this]; omega
        · rw [e]; exact h4
        · rw [TL.len_tl, e]; omega
    · refine ⟨by show 7 ≤ sizeLine; omega, fun t nt => ?_⟩
      have st := same_new nt (.lst [V.str "", V.str "a", V.str " ", V.str "5:it is", V.str "a b  c", V.str "#1", V.str "(0;)"])
      walk_at "rds"
      refine ⟨p, c, _, rfl, g2.new nt, by decide, by decide, fun m H3 m0 m1 b3 g3 => ?_⟩
      have h2 := b3 t _ upd_same (g2.ne nt).symm
      have bb := (b12.trans (But.of st)).trans b3
      have hm : m = 0 ∨ m = 1 ∨ m = 2 ∨ m = 3 ∨ m = 4 ∨ m = 5 ∨ m = 6 := by omega
      rcases hm with rfl | rfl | rfl | rfl | rfl | rfl | rfl <;>
        exact ⟨t, _, _, _, rfl, rfl, SqL.of h2, rfl, q _ _ (.of (by decide +kernel) (by decide +kernel)) bb g3⟩
end
end Mus

set_option maxRecDepth 100000
set_option maxHeartbeats 4000000
namespace Mus
open PySem L2 TL PySem.NumText Txt4 RZ
local macro_rules | `(tactic| walk_at "rd") => `(tactic| first
  | refine ⟨_, rfl, ?_⟩ | refine ⟨(True.intro : True), ?_⟩
  | refine ⟨_, _, rfl, rfl, (⟨by decide, by decide, by decide⟩ : CPow _ _), ?_⟩
  | refine ⟨_, _, rfl, rfl, (⟨by decide, by decide⟩ : CDiv _ _), ?_⟩
  | refine ⟨_, _, rfl, rfl, (by show (0 : Int) < _; decide), ?_⟩
  | refine ⟨_, _, rfl, rfl, ?_⟩ | refine ⟨rfl, ?_⟩ | refine iteT ?_ | refine iteF ?_ | refine ⟨_, _, rfl, ?_⟩ | refine .inl ⟨_, rfl, ?_⟩
  | refine ⟨_, _, _, _, _, rfl, (by assumption), (by assumption), (by assumption), rfl, ?_⟩ | refine ⟨_, _, _, _, rfl, rfl, SqT.of (by assumption), rfl, ?_⟩ | refine ⟨_, _, rfl, SqT.of (by assumption), rfl, ?_⟩
  | refine ⟨_, _, _, _, _, rfl, .ty _, Rp.ty (by assumption), kit_int _, ?_⟩ | refine ⟨_, _, _, _, _, rfl, .ty _, Rp.ty (by assumption), kit_bool _, ?_⟩
  | refine ⟨_, _, _, _, _, rfl, .ty _, Rp.ty (by assumption), kit_str _, ?_⟩ | refine ⟨_, _, _, _, _, rfl, .ty _, Rp.ty (by assumption), kit_tup _, ?_⟩)
local macro_rules | `(tactic| walk_at "cal") => `(tactic| first
  | refine ⟨_, _, _, _, _, rfl, (by assumption), ?_⟩ | refine ⟨_, _, _, _, _, rfl, (by assumption), (by assumption), ?_⟩)
local macro_rules | `(tactic| walk_at "sq") => `(tactic| first
  | refine ⟨_, _, rfl, Or.inr (SqT.of (by assumption)), ?_⟩ | refine ⟨_, _, _, _, rfl, rfl, SqT.of (by assumption), rfl, ?_⟩)
local macro_rules | `(tactic| walk_at "rds") => `(tactic| repeat first | walk_at "rd" | walk_at "cal" | walk_at "sq")
local macro_rules | `(tactic| walk_at "ze") => `(tactic| repeat first
  | exact zes_nil | exact ze_bl | exact ze_str | exact ze_non | apply zes_cons | apply ze_tup | apply ze_lst | apply ze_cat | exact di_c | exact di_v rfl | apply di_opC | apply di_op | apply di_neg | apply ze_i | (refine (⟨?_, ?_, ?_⟩ : CPow _ _) <;> decide) | exact Nat.le_of_ble_eq_true rfl | exact ze_varD rfl (by assumption))
local macro_rules | `(tactic| walk_at "rdz") => `(tactic| repeat (fail_if_success (first | show tLst _ _ _ _ | show tAsg (tLst _) _ _ _ _ | show tSeq (tAsg (tLst _) _) _ _ _ _)); first | walk_at "rd" | walk_at "cal" | walk_at "sq")
local macro_rules | `(tactic| walk_at "de") => `(tactic| repeat first
  | exact des_nil | exact de_bl | exact de_str | exact de_non | apply des_cons | apply de_tup | apply de_lst | apply de_cat | exact di_c | exact di_v rfl | apply di_opC | apply di_op | apply di_neg | apply de_i | (refine (⟨?_, ?_, ?_⟩ : CPow _ _) <;> decide) | exact Nat.le_of_ble_eq_true rfl | exact de_varD rfl (by assumption))
mutual
def okB : D → Bool
  | .int i => decide (i.natAbs < 10 ^ 24)
  | .str z => (tl z).all prB && decide (z.length ≤ 1000)
  | .tup ds => okBs ds
def okBs : List D → Bool
  | [] => true
  | d :: ds => okB d && okBs ds
end
mutual
theorem okB_ok : ∀ {d : D}, okB d = true → Txt4.ok d ∧ sml d
  | .int i, h => ⟨(of_decide_eq_true (show decide (i.natAbs < 10 ^ 24) = true from h) : i.natAbs < 10 ^ 24), trivial⟩
  | .str z, h => by
    have h : ((tl z).all prB && decide (z.length ≤ 1000)) = true := h
    rw [Bool.and_eq_true] at h
    exact ⟨fun c hc => prB_pr (List.all_eq_true.mp h.1 c hc), (of_decide_eq_true h.2 : z.length ≤ 1000)⟩
  | .tup ds, h => okBs_ok (ds := ds) h
theorem okBs_ok : ∀ {ds : List D}, okBs ds = true → Txt4.oks ds ∧ smls ds
  | [], _ => ⟨trivial, trivial⟩
  | d :: ds, h => by
    have h : (okB d && okBs ds) = true := h
    rw [Bool.and_eq_true] at h
    have a := okB_ok h.1
    have b := okBs_ok h.2
    exact ⟨⟨a.1, b.1⟩, a.2, b.2⟩
end
def grp7 : List (List D) := [[], [.tup []], [.int 5, .int 2], [.tup [.str "a"], .int (-3)], [.tup [.int 0, .int 0]], [.tup [.tup [.tup [.int 1]]]], [.str "", .str " x"]]
theorem grp7_ok : ∀ ds ∈ grp7, GrpOk ds := by
  intro ds h
  have k : okBs ds = true ∧ deps ds ≤ 7 ∧ (encs ds).length ≤ 2000 := by
    unfold grp7 at h
    simp only [List.mem_cons, List.not_mem_nil, or_false] at h
    rcases h with rfl | rfl | rfl | rfl | rfl | rfl | rfl <;> exact ⟨by decide +kernel, by decide +kernel, by decide +kernel⟩
  have a := okBs_ok k.1
  exact ⟨a.1, a.2, k.2.1, k.2.2⟩
def RowG (d : D) : Prop := ∃ is : List Int, d = .tup (is.map .int) ∧ is.length ≤ 4 ∧ ∀ i ∈ is, 0 ≤ i ∧ i < 12
theorem ints_ok : ∀ {is : List Int}, (∀ i ∈ is, 0 ≤ i ∧ i < 12) → Txt4.oks (is.map D.int) ∧ smls (is.map D.int) ∧ deps (is.map D.int) = 0 ∧ (encs (is.map D.int)).length ≤ 26 * is.length
  | [], _ => ⟨trivial, trivial, rfl, Nat.le_refl _⟩
  | i :: is, h => by
    obtain ⟨a, b, c, d⟩ := ints_ok (is := is) fun j hj => h j (List.mem_cons_of_mem _ hj)
    have hi := h i List.mem_cons_self
    have hn : i.natAbs < 10 ^ 24 := by omega
    have ln := numI_len hn
    refine ⟨⟨hn, a⟩, ⟨trivial, b⟩, ?_, ?_⟩
    · show max 0 (deps (is.map D.int)) = 0
      rw [c]; rfl
    · show (enc (D.int i) ++ ([59] ++ encs (is.map D.int))).length ≤ _
      show (numI i ++ ([59] ++ encs (is.map D.int))).length ≤ _
      rw [List.length_append, List.length_append, List.length_singleton, List.length_cons]; omega
theorem rows_ok : ∀ {ds : List D}, (∀ d ∈ ds, RowG d) → Txt4.oks ds ∧ smls ds ∧ deps ds ≤ 1 ∧ (encs ds).length ≤ 110 * ds.length
  | [], _ => ⟨trivial, trivial, Nat.zero_le _, Nat.le_refl _⟩
  | d :: ds, h => by
    obtain ⟨a, b, c, e⟩ := rows_ok (ds := ds) fun j hj => h j (List.mem_cons_of_mem _ hj)
    obtain ⟨is, rfl, li, hi⟩ := h d List.mem_cons_self
    obtain ⟨a1, b1, c1, e1⟩ := ints_ok hi
    refine ⟨⟨a1, a⟩, ⟨b1, b⟩, ?_, ?_⟩
    · show max (deps (is.map D.int) + 1) (deps ds) ≤ 1
      omega
    · show ((40 :: (encs (is.map D.int) ++ [41])) ++ ([59] ++ encs ds)).length ≤ _
      simp only [List.length_append, List.length_cons, List.length_nil]; omega
section
variable {P : Program} {w : World} {K : PySem.W.Frag} {mg : Str → Option Value} {base : Heap} {CT CB DI AT : Addr}
abbrev s__law_groups : Stmt := top 49
abbrev N__law_groups : List Str := ["bag", "choice", "groups", "k", "j"]
abbrev P__law_groups : List Str := ["bag"]
theorem sc__law_groups : FnScope N__law_groups P__law_groups (defScope s__law_groups) := ⟨rfl, rfl, rfl, by decide +kernel, rfl, by decide +kernel, by decide +kernel⟩
def sp_lgrp : Sp := fun vs H Q _ => ∃ (p : Addr) (c : Int), vs = [.ref p] ∧ Bag p c H ∧ ∀ a ds H', Rep H' (.ref a) (.tup ds) → GrpOk ds → But p H H' → Bag p c H' → Q (.ref a) H'
theorem ok__law_groups {f : Addr} {fd : FuncData} (T : Tx mg) (c__law_draw : DefOk P w K mg base CX0 "_law_draw" P__law_draw 1 (sp_draw))(F : Fun K "_law_groups" "_law_groups" s__law_groups f fd) : FnOk P w K mg base CX0 (2) f fd P__law_groups (sp_lgrp) := by
  have nd := sc__law_groups.nd
  refine F.ok sc__law_groups (fun vs H Q E h => ?_) (fun cdv A outer s H vs Q E hr h => ?_)
  · obtain ⟨_, _, rfl, _⟩ := h
    rfl
  · obtain ⟨p, c, rfl, g, q⟩ := h
    have hs := sl
    refine ⟨_, (pss_cons (ps_set (i := 1) nd rfl (Or.inl rfl) (pcall c__law_draw hr (pa_cons (pv 0) (pa_cons pe_int pa_nil))))
      (pss_cons (ps_if (pt_cmpR op_eq (pv 1) pe_int (nomark _))
        (pss_one (ps_ret (pe_ix ix_list (pe_lst (pa_cons (pe_tup pa_nil) (pa_cons (pe_tup (pa_cons (pe_tup pa_nil) pa_nil)) (pa_cons (pe_tup (pa_cons pe_int (pa_cons pe_int pa_nil))) (pa_cons (pe_tup (pa_cons (pe_tup (pa_cons pe_str pa_nil)) (pa_cons (pe_un un_neg pe_int) pa_nil))) (pa_cons (pe_tup (pa_cons (pe_tup (pa_cons pe_int (pa_cons pe_int pa_nil))) pa_nil)) (pa_cons (pe_tup (pa_cons (pe_tup (pa_cons (pe_tup (pa_cons (pe_tup (pa_cons pe_int pa_nil)) pa_nil)) pa_nil)) pa_nil)) (pa_cons (pe_tup (pa_cons pe_str (pa_cons pe_str pa_nil))) pa_nil)))))))) (pcall c__law_draw hr (pa_cons (pv 0) (pa_cons pe_int pa_nil))) (fun _ _ => rfl))))
        pss_nil)
      (pss_cons (ps_set (i := 2) nd rfl (Or.inl rfl) (pe_lst pa_nil))
      (pss_cons (ps_for PassesOwn.never rfl (pi_range1 (by rfl) T.b_range (pa_cons (pv 1) pa_nil)) (pg_name (i := 3) nd rfl (Or.inl rfl))
        (pss_one (ps_expr (pe_bm PySem.F.plainAttrs_list PySem.F.slot_list_append PySem.F.type_list_append mt_append (pv 2) (pa_cons (pe_callTy call_tuple_of (by rfl) T.b_tuple (by decide +kernel) (pa_cons (pe_lcX (own := [("j", 4)]) rfl nd (pi_range1 (by rfl) T.b_range (pa_cons (pe_op op_add pe_int (pcall c__law_draw hr (pa_cons (pv 0) (pa_cons pe_int pa_nil)))) pa_nil)) (blkOk_by (own := [("j", 4)]) (N := N__law_groups) (sc := defScope s__law_groups) (by decide +kernel)) (fun _ _ _ _ _ => (pg_name (i := 4) nd rfl (Or.inl rfl))) (fun _ _ _ _ _ => pts_nil) (fun _ _ _ _ _ => (pcall c__law_draw hr (pa_cons (pv 0) (pa_cons pe_int pa_nil))))) pa_nil)) pa_nil)))))
      (pss_one (ps_ret (pe_callTy call_tuple_of (by rfl) T.b_tuple (by decide +kernel) (pa_cons (pv 2) pa_nil)))))))), ?_⟩
    refine ⟨_, rfl, p, c, _, rfl, g, by decide, by decide, fun m H1 m0 m1 b1 g1 => ?_⟩
    walk_at "rds"
    refine iB (fun _ => ?_) (fun _ => ?_)
    · change tOp _ (tLst _) _ _ _ _
      refine (fun (h : tLst _ _ _ _) => h) ?_
      refine de_lst (p := p) (ds := [.tuple [], .tuple [.tuple []], .tuple [.int 5, .int 2], .tuple [.tuple [.str (Str.ofString "a")], .int (-3)], .tuple [.tuple [.int 0, .int 0]], .tuple [.tuple [.tuple [.tuple [.int 1]]]], .tuple [.str (Str.ofString ""), .str (Str.ofString " x")]]) (by walk_at "de") (by decide) c H1 _ g1 fun v H2 s2 g2 r2 => ?_
      have r2 : Rp p H2 v (.list (grp7.map fun ds => pyD (.tup ds))) := r2
      walk_at "rds"
      refine ⟨p, c, _, rfl, g2, by decide, by decide, fun k H3 k0 k1 b3 g3 => ?_⟩
      obtain _ | _ | _ | _ | @⟨l, xs, _, hl, nl, r⟩ | _ := r2
      have lx := r.length
      rw [List.length_map] at lx
      have lx : xs.length = 7 := lx
      obtain ⟨x, hx⟩ : ∃ x, xs[k.toNat]? = some x := ⟨_, List.getElem?_eq_getElem (by omega)⟩
      obtain ⟨e, he, re⟩ := r.at hx
      rw [List.getElem?_map] at he
      obtain ⟨ds, hds, rfl⟩ := Option.map_eq_some_iff.mp he
      have r3 := (rp_rep re).mono (tupK g2 b3)
      have bb := (b1.trans (But.of s2)).trans b3
      cases r3 with
      | @tup a _ _ h1 h2 h3 =>
        refine ⟨l, _, _, _, rfl, rfl, SqL.of (b3 _ _ hl nl), at_int k0 hx, q a ds _ (.tup h1 h2 h3) (grp7_ok _ (List.mem_of_getElem? hds)) bb g3⟩
    · walk_at "rds"
      refine ⟨by show 0 ≤ sizeLine; omega, fun l nl => ?_⟩
      have st := same_new nl (.lst [])
      have hl : (upd H1 l (.lst [])) l = some (.lst []) := upd_same
      have g2 := g1.new (o := .lst []) nl
      have b2 := b1.trans (But.of st)
      have pl := g1.ne nl
      have b2x := b1.free nl pl.symm
      generalize upd H1 l (.lst []) = H2 at *
      walk_at "rds"
      refine ⟨by omega, by omega, ?_⟩
      refine for_range (lo := 0) (n := m.toNat) (fun i σ H' => ∃ (x y : Option V) (vs : List V) (ds : List D), σ = [some (.ref p), some (.int m), some (.ref l), x, y] ∧ H' l = some (.lst vs) ∧ Reps H' vs ds ∧ (∀ d ∈ ds, RowG d) ∧ ds.length = i ∧ But p H H' ∧ Bag p c H') ?_ ?_ ?_
      · exact ⟨none, none, [], [], rfl, hl, .nil, fun d h => absurd h List.not_mem_nil, rfl, b2, g2⟩
      · rintro i σ H3 hi ⟨x, y, vs, ds, rfl, hl3, r3, w3, l3, b3, g3⟩
        have lv := r3.length
        walk_at "rds"
        refine ⟨.inl ⟨rfl, _, SqL.of hl3⟩, ?_⟩
        refine ⟨_, rfl, p, c, _, rfl, g3, by decide, by decide, fun k H4 k0 k1 b4 g4 => ?_⟩
        walk_at "rds"
        refine ⟨by omega, by omega, fun D nD => ?_⟩
        have pD := g4.ne nD
        have hl4 := b4 l _ hl3 pl.symm
        have lD : l ≠ D := ne_of_none hl4 nD
        have r4 := r3.mono (tupK g3 b4)
        have r5 := r4.mono (H' := upd H4 D (.lst [])) fun b xs e => by rw [upd_ne (ne_of_none e nD)]; exact e
        have b34 := b3.trans b4
        have nlp : l ≠ p := pl.symm
        refine lc_range (lo := 0) (n := (1 + k).toNat) (fun i H' => ∃ is : List Int, H' D = some (.lst (is.map V.int)) ∧ is.length = i ∧ (∀ i ∈ is, 0 ≤ i ∧ i < 12) ∧ H' l = some (.lst vs) ∧ Reps H' vs ds ∧ But p H H' ∧ Bag p c H') ?_ ?_ ?_
        · exact ⟨[], upd_same, rfl, fun i h => absurd h List.not_mem_nil, by rw [upd_ne lD]; exact hl4, r5, b34.new nD, g4.new nD⟩
        · rintro j H5 hj ⟨is, hD5, lis, wis, hl5, r5, b5, g5⟩
          refine ⟨rfl, ?_⟩
          refine ⟨_, rfl, p, c, _, rfl, g5, by decide, by decide, fun q6 H6 q0 q1 b6 g6 => ?_⟩
          have hD6 := b6 D _ hD5 pD.symm
          refine ⟨_, hD6, by rw [List.length_map]; omega, is ++ [q6], by rw [upd_same, List.map_append]; rfl, by rw [List.length_append, lis]; rfl, fun i hi => ?_, by rw [upd_ne lD]; exact b6 l _ hl5 nlp, ?_, (b5.trans b6).later (b34.free nD pD.symm), g6.upd pD⟩
          · rcases List.mem_append.mp hi with hi | hi
            · exact wis i hi
            · rw [List.mem_singleton.mp hi]; exact ⟨q0, q1⟩
          · exact (r5.mono (tupK g5 b6)).mono fun b xs e => by rw [upd_ne (ne_of e hD6 (by intro z; cases z))]; exact e
        · rintro H5 ⟨is, hD5, lis, wis, hl5, r5, b5, g5⟩
          refine ⟨D, is.map V.int, rfl, .inl ⟨SqL.of hD5, fun t nt => ?_⟩⟩
          have st := same_new nt (.tup (is.map V.int))
          have ht : (upd H5 t (.tup (is.map V.int))) t = some (.tup (is.map V.int)) := upd_same
          have hl6 := st _ _ hl5
          have r6 := r5.mono fun b xs e => st _ _ e
          have g6 := g5.new (o := .tup (is.map V.int)) nt
          have b6 := b5.new (o := .tup (is.map V.int)) nt
          generalize upd H5 t (.tup (is.map V.int)) = H6 at *
          refine ⟨l, vs, _, rfl, rfl, hl6, by omega, ?_⟩
          have k7 : ∀ b xs, H6 b = some (HO.tup xs) → (upd H6 l (.lst (vs ++ [V.ref t]))) b = some (.tup xs) := fun b xs e => by rw [upd_ne (ne_of e hl6 (by intro z; cases z))]; exact e
          have ri : ∀ js : List Int, Reps (upd H6 l (.lst (vs ++ [V.ref t]))) (js.map V.int) (js.map Txt4.D.int) := fun js => by
            induction js with
            | nil => exact .nil
            | cons a js ih => exact .cons (.int a) ih
          have rt : Rep (upd H6 l (.lst (vs ++ [V.ref t]))) (.ref t) (.tup (is.map Txt4.D.int)) := .tup (k7 _ _ ht) (by rw [List.length_map]; omega) (ri is)
          refine ⟨_, _, vs ++ [.ref t], ds ++ [.tup (is.map Txt4.D.int)], rfl, upd_same, (r6.mono k7).snoc rt, fun d hd => ?_, by rw [List.length_append, l3]; rfl, b6.later (b2x), g6.upd pl⟩
          rcases List.mem_append.mp hd with hd | hd
          · exact w3 d hd
          · rw [List.mem_singleton.mp hd]
            exact ⟨is, rfl, by omega, wis⟩
      · rintro σ H3 ⟨x, y, vs, ds, rfl, hl3, r3, w3, l3, b3, g3⟩
        have lv := r3.length
        refine ⟨_, rfl, l, vs, rfl, .inl ⟨SqL.of hl3, fun t nt => ?_⟩⟩
        have st := same_new nt (.tup vs)
        have k := rows_ok w3
        refine q t ds _ (.tup upd_same (by omega) (r3.mono fun b xs e => st _ _ e)) ⟨k.1, k.2.1, by omega, by omega⟩ (b3.new nt) (g3.new nt)
abbrev s__law_act : Stmt := top 51
abbrev N__law_act : List Str := ["bag", "kinds", "kind"]
abbrev P__law_act : List Str := ["bag"]
theorem sc__law_act : FnScope N__law_act P__law_act (defScope s__law_act) := ⟨rfl, rfl, rfl, by decide +kernel, rfl, by decide +kernel, by decide +kernel⟩
def sp_lact : Sp := fun vs H Q _ => ∃ (p : Addr) (c : Int), vs = [.ref p] ∧ Bag p c H ∧ ∀ a k us ns ds H', ActAt H' a k us ns ds → But p H H' → Q (.ref a) H'
def kindsL : List Str := ["tick", "calm", "round", "deliver", "lose", "double", "move", "cast", "part", "heal", "crash", "start", "arm", "cast"]
theorem ok__law_act {f : Addr} {fd : FuncData} (T : Tx mg) (c__law_draw : DefOk P w K mg base CX0 "_law_draw" P__law_draw 1 (sp_draw)) (c__law_number : DefOk P w K mg base CX0 "_law_number" P__law_number 2 (sp_lnum)) (c__law_text : DefOk P w K mg base CX0 "_law_text" P__law_text 2 (sp_ltxt)) (c__law_groups : DefOk P w K mg base CX0 "_law_groups" P__law_groups 2 (sp_lgrp))(F : Fun K "_law_act" "_law_act" s__law_act f fd) : FnOk P w K mg base CX0 (3) f fd P__law_act (sp_lact) := by
  have nd := sc__law_act.nd
  refine F.ok sc__law_act (fun vs H Q E h => ?_) (fun cdv A outer s H vs Q E hr h => ?_)
  · obtain ⟨_, _, rfl, _⟩ := h
    rfl
  · obtain ⟨p, c, rfl, g, q⟩ := h
    have hs := sl
    refine ⟨_, (pss_cons (ps_set (i := 1) nd rfl (Or.inl rfl) (pe_lst (pa_cons pe_str (pa_cons pe_str (pa_cons pe_str (pa_cons pe_str (pa_cons pe_str (pa_cons pe_str (pa_cons pe_str (pa_cons pe_str (pa_cons pe_str (pa_cons pe_str (pa_cons pe_str (pa_cons pe_str (pa_cons pe_str (pa_cons pe_str pa_nil))))))))))))))))
      (pss_cons (ps_set (i := 2) nd rfl (Or.inl rfl) (pe_ix ix_list (pv 1) (pcall c__law_draw hr (pa_cons (pv 0) (pa_cons pe_int pa_nil))) (fun _ _ => rfl)))
      (pss_cons (ps_if (PW.pt (pw_or (pt_cmpR op_eq (pv 2) pe_str (nomark _)) (pw_or1 (pt_cmpR op_eq (pv 2) pe_str (nomark _)))))
        (pss_one (ps_ret (pe_tup (pa_cons (pv 2) pa_nil))))
        pss_nil)
      (pss_cons (ps_if (PW.pt (pw_or (pt_cmpR op_eq (pv 2) pe_str (nomark _)) (pw_or1 (pt_cmpR op_eq (pv 2) pe_str (nomark _)))))
        (pss_one (ps_ret (pe_tup (pa_cons (pv 2) (pa_cons (pe_op op_add pe_int (pcall c__law_draw hr (pa_cons (pv 0) (pa_cons pe_int pa_nil)))) pa_nil)))))
        pss_nil)
      (pss_cons (ps_if (pt_cmpR op_eq (pv 2) pe_str (nomark _))
        (pss_one (ps_ret (pe_tup (pa_cons (pv 2) (pa_cons (pcall c__law_number hr (pa_cons (pv 0) pa_nil)) (pa_cons (pcall c__law_text hr (pa_cons (pv 0) pa_nil)) pa_nil))))))
        pss_nil)
      (pss_cons (ps_if (pt_cmpR op_eq (pv 2) pe_str (nomark _))
        (pss_one (ps_ret (pe_tup (pa_cons (pv 2) (pa_cons (pcall c__law_groups hr (pa_cons (pv 0) pa_nil)) pa_nil)))))
        pss_nil)
      (pss_cons (ps_if (pt_cmpR op_eq (pv 2) pe_str (nomark _))
        (pss_one (ps_ret (pe_tup (pa_cons (pv 2) (pa_cons (pcall c__law_number hr (pa_cons (pv 0) pa_nil)) (pa_cons (pcall c__law_number hr (pa_cons (pv 0) pa_nil)) (pa_cons (pcall c__law_number hr (pa_cons (pv 0) pa_nil)) pa_nil)))))))
        pss_nil)
      (pss_one (ps_ret (pe_tup (pa_cons (pv 2) (pa_cons (pcall c__law_number hr (pa_cons (pv 0) pa_nil)) pa_nil)))))))))))), ?_⟩
    refine ⟨by show 14 ≤ sizeLine; omega, fun t nt => ?_⟩
    have st := same_new nt (.lst (kindsL.map V.str))
    have b1 := (But.refl p H).new (o := .lst (kindsL.map V.str)) nt
    have g1 := g.new (o := .lst (kindsL.map V.str)) nt
    have h1 : (upd H t (.lst (kindsL.map V.str))) t = some (.lst (kindsL.map V.str)) := upd_same
    change gName 1 _ _ (upd H t (.lst (kindsL.map V.str))) _
    have pt := g.ne nt
    generalize upd H t (.lst (kindsL.map V.str)) = H1 at *
    walk_at "rds"
    refine ⟨p, c, _, rfl, g1, by decide, by decide, fun m H2 m0 m1 b2 g2 => ?_⟩
    have h2 := b2 t _ h1 pt.symm
    obtain ⟨k, hk⟩ : ∃ k, kindsL[m.toNat]? = some k := ⟨_, List.getElem?_eq_getElem (by show m.toNat < 14; omega)⟩
    have hk2 : atI (kindsL.map V.str) m = some (.str k) := at_int m0 (by rw [List.getElem?_map, hk]; rfl)
    refine ⟨t, _, _, _, rfl, rfl, SqL.of h2, hk2, ?_⟩
    have km := List.mem_of_getElem? hk
    have b12 := b1.trans b2
    clear hk hk2 h2 h1
    unfold kindsL at km
    simp only [List.mem_cons, List.not_mem_nil, or_false] at km
    rcases km with rfl | rfl | rfl | rfl | rfl | rfl | rfl | rfl | rfl | rfl | rfl | rfl | rfl | rfl
    · walk_at "rds"
      refine ⟨p, c, _, rfl, g2, by decide, by decide, fun r H3 r0 r1 b3 g3 => ?_⟩
      walk_at "rds"
      refine ⟨by show 2 ≤ sizeLine; omega, fun a na => ?_⟩
      exact q a _ _ ["ticks"] [.int (1 + r)] _ ⟨upd_same, .cons (.int _) .nil, by decide +kernel, .cons (.num (by decide +kernel) (by omega) (by omega) (fun _ => by omega)) .nil⟩ ((b12.trans b3).new na)
    · walk_at "rds"
      refine ⟨p, c, _, rfl, g2, by decide, by decide, fun r H3 r0 r1 b3 g3 => ?_⟩
      walk_at "rds"
      refine ⟨by show 2 ≤ sizeLine; omega, fun a na => ?_⟩
      exact q a _ _ ["ticks"] [.int (1 + r)] _ ⟨upd_same, .cons (.int _) .nil, by decide +kernel, .cons (.num (by decide +kernel) (by omega) (by omega) (fun _ => by omega)) .nil⟩ ((b12.trans b3).new na)
    · walk_at "rds"
      refine ⟨by show 1 ≤ sizeLine; omega, fun a na => ?_⟩
      exact q a _ _ [] [] _ ⟨upd_same, .nil, by decide +kernel, .nil⟩ (b12.new na)
    · walk_at "rds"
      refine ⟨p, c, rfl, g2, fun r H3 r0 r1 b3 g3 => ?_⟩
      walk_at "rds"
      refine ⟨by show 2 ≤ sizeLine; omega, fun a na => ?_⟩
      exact q a _ _ ["position"] [.int r] _ ⟨upd_same, .cons (.int _) .nil, by decide +kernel, .cons (.num (by decide +kernel) r0 r1 (fun e => absurd e (by decide +kernel))) .nil⟩ ((b12.trans b3).new na)
    · walk_at "rds"
      refine ⟨p, c, rfl, g2, fun r H3 r0 r1 b3 g3 => ?_⟩
      walk_at "rds"
      refine ⟨by show 2 ≤ sizeLine; omega, fun a na => ?_⟩
      exact q a _ _ ["position"] [.int r] _ ⟨upd_same, .cons (.int _) .nil, by decide +kernel, .cons (.num (by decide +kernel) r0 r1 (fun e => absurd e (by decide +kernel))) .nil⟩ ((b12.trans b3).new na)
    · walk_at "rds"
      refine ⟨p, c, rfl, g2, fun r H3 r0 r1 b3 g3 => ?_⟩
      walk_at "rds"
      refine ⟨by show 2 ≤ sizeLine; omega, fun a na => ?_⟩
      exact q a _ _ ["position"] [.int r] _ ⟨upd_same, .cons (.int _) .nil, by decide +kernel, .cons (.num (by decide +kernel) r0 r1 (fun e => absurd e (by decide +kernel))) .nil⟩ ((b12.trans b3).new na)
    · walk_at "rds"
      refine ⟨p, c, rfl, g2, fun r H3 r0 r1 b3 g3 => ?_⟩
      walk_at "rds"
      refine ⟨by show 2 ≤ sizeLine; omega, fun a na => ?_⟩
      exact q a _ _ ["position"] [.int r] _ ⟨upd_same, .cons (.int _) .nil, by decide +kernel, .cons (.num (by decide +kernel) r0 r1 (fun e => absurd e (by decide +kernel))) .nil⟩ ((b12.trans b3).new na)
    · walk_at "rds"
      refine ⟨p, c, rfl, g2, fun r H3 r0 r1 b3 g3 => ?_⟩
      walk_at "rds"
      refine ⟨p, c, rfl, g3, fun z H4 hz b4 g4 => ?_⟩
      walk_at "rds"
      refine ⟨by show 3 ≤ sizeLine; omega, fun a na => ?_⟩
      exact q a _ _ ["process", "payload"] [.int r, .str z] _ ⟨upd_same, .cons (.int _) (.cons (.str _) .nil), by decide +kernel, .cons (.num (by decide +kernel) r0 r1 (fun e => absurd e (by decide +kernel))) (.cons (.pay hz.1 hz.2) .nil)⟩ ((b12.trans (b3.trans b4)).new na)
    · walk_at "rds"
      refine ⟨p, c, rfl, g2, fun e ds H3 re ge b3 g3 => ?_⟩
      walk_at "rds"
      refine ⟨by show 2 ≤ sizeLine; omega, fun a na => ?_⟩
      exact q a _ _ ["groups"] [.tup ds] _ ⟨upd_same, .cons (re.mono fun b xs e => same_new na _ _ _ e) .nil, by decide +kernel, .cons (.grp ge.1 ge.2.1 ge.2.2.1 ge.2.2.2) .nil⟩ ((b12.trans b3).new na)
    · walk_at "rds"
      refine ⟨by show 1 ≤ sizeLine; omega, fun a na => ?_⟩
      exact q a _ _ [] [] _ ⟨upd_same, .nil, by decide +kernel, .nil⟩ (b12.new na)
    · walk_at "rds"
      refine ⟨p, c, rfl, g2, fun r H3 r0 r1 b3 g3 => ?_⟩
      walk_at "rds"
      refine ⟨by show 2 ≤ sizeLine; omega, fun a na => ?_⟩
      exact q a _ _ ["process"] [.int r] _ ⟨upd_same, .cons (.int _) .nil, by decide +kernel, .cons (.num (by decide +kernel) r0 r1 (fun e => absurd e (by decide +kernel))) .nil⟩ ((b12.trans b3).new na)
    · walk_at "rds"
      refine ⟨p, c, rfl, g2, fun r H3 r0 r1 b3 g3 => ?_⟩
      walk_at "rds"
      refine ⟨by show 2 ≤ sizeLine; omega, fun a na => ?_⟩
      exact q a _ _ ["process"] [.int r] _ ⟨upd_same, .cons (.int _) .nil, by decide +kernel, .cons (.num (by decide +kernel) r0 r1 (fun e => absurd e (by decide +kernel))) .nil⟩ ((b12.trans b3).new na)
    · walk_at "rds"
      refine ⟨p, c, rfl, g2, fun r H3 r0 r1 b3 g3 => ?_⟩
      walk_at "rds"
      refine ⟨p, c, rfl, g3, fun r' H4 r0' r1' b4 g4 => ?_⟩
      walk_at "rds"
      refine ⟨p, c, rfl, g4, fun r'' H5 r0'' r1'' b5 g5 => ?_⟩
      walk_at "rds"
      refine ⟨by show 4 ≤ sizeLine; omega, fun a na => ?_⟩
      exact q a _ _ ["process", "count", "keep"] [.int r, .int r', .int r''] _ ⟨upd_same, .cons (.int _) (.cons (.int _) (.cons (.int _) .nil)), by decide +kernel, .cons (.num (by decide +kernel) r0 r1 (fun e => absurd e (by decide +kernel))) (.cons (.num (by decide +kernel) r0' r1' (fun e => absurd e (by decide +kernel))) (.cons (.num (by decide +kernel) r0'' r1'' (fun e => absurd e (by decide +kernel))) .nil))⟩ ((b12.trans (b3.trans (b4.trans b5))).new na)
    · walk_at "rds"
      refine ⟨p, c, rfl, g2, fun r H3 r0 r1 b3 g3 => ?_⟩
      walk_at "rds"
      refine ⟨p, c, rfl, g3, fun z H4 hz b4 g4 => ?_⟩
      walk_at "rds"
      refine ⟨by show 3 ≤ sizeLine; omega, fun a na => ?_⟩
      exact q a _ _ ["process", "payload"] [.int r, .str z] _ ⟨upd_same, .cons (.int _) (.cons (.str _) .nil), by decide +kernel, .cons (.num (by decide +kernel) r0 r1 (fun e => absurd e (by decide +kernel))) (.cons (.pay hz.1 hz.2) .nil)⟩ ((b12.trans (b3.trans b4)).new na)
end
end Mus

set_option maxRecDepth 100000
set_option maxHeartbeats 4000000
namespace Mus
open PySem L2 TL PySem.NumText Txt4 RZ
local macro_rules | `(tactic| walk_at "rd") => `(tactic| first
  | refine ⟨_, rfl, ?_⟩ | refine ⟨(True.intro : True), ?_⟩
  | refine ⟨_, _, rfl, rfl, (⟨by decide, by decide, by decide⟩ : CPow _ _), ?_⟩
  | refine ⟨_, _, rfl, rfl, (⟨by decide, by decide⟩ : CDiv _ _), ?_⟩
  | refine ⟨_, _, rfl, rfl, (by show (0 : Int) < _; decide), ?_⟩
  | refine ⟨_, _, rfl, rfl, ?_⟩ | refine ⟨rfl, ?_⟩ | refine iteT ?_ | refine iteF ?_ | refine ⟨_, _, rfl, ?_⟩ | refine .inl ⟨_, rfl, ?_⟩
  | refine ⟨_, _, _, _, _, rfl, (by assumption), (by assumption), (by assumption), rfl, ?_⟩ | refine ⟨_, _, _, _, rfl, rfl, SqT.of (by assumption), rfl, ?_⟩ | refine ⟨_, _, rfl, SqT.of (by assumption), rfl, ?_⟩
  | refine ⟨_, _, _, _, _, rfl, .ty _, Rp.ty (by assumption), kit_int _, ?_⟩ | refine ⟨_, _, _, _, _, rfl, .ty _, Rp.ty (by assumption), kit_bool _, ?_⟩
  | refine ⟨_, _, _, _, _, rfl, .ty _, Rp.ty (by assumption), kit_str _, ?_⟩ | refine ⟨_, _, _, _, _, rfl, .ty _, Rp.ty (by assumption), kit_tup _, ?_⟩)
local macro_rules | `(tactic| walk_at "cal") => `(tactic| first
  | refine ⟨_, _, _, _, _, rfl, (by assumption), ?_⟩ | refine ⟨_, _, _, _, _, rfl, (by assumption), (by assumption), ?_⟩)
local macro_rules | `(tactic| walk_at "sq") => `(tactic| first
  | refine ⟨_, _, rfl, Or.inr (SqT.of (by assumption)), ?_⟩ | refine ⟨_, _, _, _, rfl, rfl, SqT.of (by assumption), rfl, ?_⟩)
local macro_rules | `(tactic| walk_at "rds") => `(tactic| repeat first | walk_at "rd" | walk_at "cal" | walk_at "sq")
local macro_rules | `(tactic| walk_at "ze") => `(tactic| repeat first
  | exact zes_nil | exact ze_bl | exact ze_str | exact ze_non | apply zes_cons | apply ze_tup | apply ze_lst | apply ze_cat | exact di_c | exact di_v rfl | apply di_opC | apply di_op | apply di_neg | apply ze_i | (refine (⟨?_, ?_, ?_⟩ : CPow _ _) <;> decide) | exact Nat.le_of_ble_eq_true rfl | exact ze_varD rfl (by assumption))
local macro_rules | `(tactic| walk_at "rdz") => `(tactic| repeat (fail_if_success (first | show tLst _ _ _ _ | show tAsg (tLst _) _ _ _ _ | show tSeq (tAsg (tLst _) _) _ _ _ _)); first | walk_at "rd" | walk_at "cal" | walk_at "sq")
section
variable {P : Program} {w : World} {K : PySem.W.Frag} {mg : Str → Option Value} {base : Heap} {CT CB DI AT : Addr}
abbrev s__law_line : Stmt := top 52
abbrev N__law_line : List Str := ["act", "words", "item"]
abbrev P__law_line : List Str := ["act"]
theorem sc__law_line : FnScope N__law_line P__law_line (defScope s__law_line) := ⟨rfl, rfl, rfl, by decide +kernel, rfl, by decide +kernel, by decide +kernel⟩
theorem ok__law_line {f : Addr} {fd : FuncData} (T : Tb K mg CT CB) (c_encode : DefOk P w K mg base (L2.CX P w) "encode" P_encode 21 (sp_encode CT)) (F : Fun K "_law_line" "_law_line" s__law_line f fd) : FnOk P w K mg base CX0 22 f fd P__law_line sp_aline := by
  have nd := sc__law_line.nd
  refine F.ok sc__law_line (fun vs H Q E h => ?_) (fun cdv A outer s H vs Q E hr h => ?_)
  · obtain ⟨_, _, _, _, _, rfl, _⟩ := h
    rfl
  · obtain ⟨a, k, us, ns, ds, rfl, AA, q⟩ := h
    have hs := sl
    have l1 := AA.items.length
    have l2 := AA.reps.length
    have l3 := kind_len AA.kind
    have a0 : ∀ (x : V) (r : List V), atI (x :: r) 0 = some x := fun x r => at_int (by decide) rfl
    refine ⟨_, (pss_cons (ps_set (i := 1) nd rfl (Or.inl rfl) (pe_lst (pa_cons (pe_ix ix_tup (pv 0) pe_int (fun _ _ => rfl)) pa_nil)))
      (pss_cons (ps_for PassesOwn.never rfl (pi_tup (pe_slice sl_tupA (pv 0) (po_some pe_int) po_none)) (pg_name (i := 2) nd rfl (Or.inl rfl))
        (pss_one (ps_if (pt_val (pe_callB call_isi (by rfl) T.b_isinstance (by decide +kernel) (pa_cons (pv 2) (pa_cons (pe_ty "int" T.b_int) pa_nil))))
          (pss_one (ps_expr (pe_bm PySem.F.plainAttrs_list PySem.F.slot_list_append PySem.F.type_list_append mt_append (pv 1) (pa_cons (pe_callTy call_str_int (by rfl) T.b_str (by decide +kernel) (pa_cons (pv 2) pa_nil)) pa_nil))))
          (pss_one (ps_expr (pe_bm PySem.F.plainAttrs_list PySem.F.slot_list_append PySem.F.type_list_append mt_append (pv 1) (pa_cons (pcallE c_encode takes0 (fun _ _ _ _ h => h) hr (pa_cons (pv 2) pa_nil)) pa_nil)))))))
      (pss_one (ps_ret (pe_join pe_str (pv 1)))))), ?_⟩
    have ha := AA.at_
    walk_at "rds"
    refine ⟨a, _, _, _, rfl, rfl, SqT.of ha, a0 _ _, ?_⟩
    refine ⟨by show 1 ≤ sizeLine; omega, fun l nl => ?_⟩
    have sl1 := same_new nl (.lst [V.str k])
    have hl : (upd H l (.lst [V.str k])) l = some (.lst [V.str k]) := upd_same
    generalize upd H l (.lst [V.str k]) = H2 at *
    have ha2 := sl1 _ _ ha
    walk_at "rds"
    refine ⟨a, _, rfl, SqT.of ha2, fun z => absurd z.1 (by show ¬ (HT.sIx (us.length + 1) 0 (some 1) = 0); rw [sIxT]; decide), fun _ t nt => ?_⟩
    rw [cutT]
    have st := same_new nt (.tup us)
    have ht : (upd H2 t (.tup us)) t = some (.tup us) := upd_same
    have hl3 := st _ _ hl
    generalize upd H2 t (.tup us) = H3 at *
    have s13 := sl1.trans st
    have A3 := AA.same s13
    refine ⟨t, rfl, ⟨_, SqT.of ht⟩, for_tup (K := K) (a := t) (xs := us) (fun i σ H' => ∃ (x2 : Option V) (ws : List Str), σ = [some (.ref a), some (.ref l), x2] ∧ Same H H' ∧ H' t = some (.tup us) ∧ H' l = some (.lst ((k :: ws).map V.str)) ∧ ws.map tl = (ds.take i).map enc ∧ (ws.map (·.length)).sum ≤ 2002 * i ∧ ActAt H' a k us ns ds) ⟨_, [], rfl, s13, ht, hl3, rfl, Nat.le_refl _, A3⟩ ?_ ?_ ?_⟩
    · rintro i σ H' _ ⟨_, _, _, _, h, _⟩
      exact SqT.of h
    · rintro i y σ H4 hy ⟨x2, ws, rfl, s2, ht2, hl2, ew, lw, A4⟩
      have hi := (List.getElem?_eq_some_iff.mp hy).1
      obtain ⟨d, hd, rd⟩ := A4.reps.at hy
      have hi2 : i < ns.length := by omega
      have it := A4.items.at (List.getElem?_eq_getElem hi2) hd
      obtain ⟨il, iok, ism, idp⟩ := item_len it
      have lw2 := congrArg List.length ew
      rw [List.length_map, List.length_map, List.length_take] at lw2
      have nl1 : ∀ c o, H c = some o → c ≠ l := fun c o h => ne_of_none h nl
      have fin : ∀ (z : Str) (H5 : Hp), tl z = enc d → Same H4 H5 → ∃ (x2 : Option V) (ws' : List Str), [some (V.ref a), some (.ref l), some y] = [some (.ref a), some (.ref l), x2] ∧ Same H (upd H5 l (.lst (((k :: ws).map V.str) ++ [V.str z]))) ∧ (upd H5 l (.lst (((k :: ws).map V.str) ++ [V.str z]))) t = some (.tup us) ∧ (upd H5 l (.lst (((k :: ws).map V.str) ++ [V.str z]))) l = some (.lst ((k :: ws').map V.str)) ∧ ws'.map tl = (ds.take (i + 1)).map enc ∧ (ws'.map (·.length)).sum ≤ 2002 * (i + 1) ∧ ActAt (upd H5 l (.lst (((k :: ws).map V.str) ++ [V.str z]))) a k us ns ds := fun z H5 ez s5 => by
        have hl5 := s5 _ _ hl2
        have s25 := s2.trans s5
        have k6 : ∀ b xs, H5 b = some (HO.tup xs) → (upd H5 l (.lst (((k :: ws).map V.str) ++ [V.str z]))) b = some (.tup xs) := fun b xs e => by rw [upd_ne (ne_of e hl5 (by intro z; cases z))]; exact e
        have A5 := A4.same s5
        refine ⟨_, ws ++ [z], rfl, fun c o h => by rw [upd_ne (nl1 c o h)]; exact s25 _ _ h, k6 _ _ (s5 _ _ ht2), ?_, ?_, ?_, ⟨k6 _ _ A5.at_, A5.reps.mono k6, A5.kind, A5.items⟩⟩
        · rw [upd_same, ← List.cons_append, List.map_append]; rfl
        · rw [List.map_append, ew, take_more hd, List.map_append]
          show _ ++ [tl z] = _ ++ [enc d]
          rw [ez]
        · rw [List.map_append, List.sum_append]
          have : z.length = (enc d).length := by rw [len_tl, ez]
          show _ + (z.length + 0) ≤ _
          omega
      have hb : ((k :: ws).map V.str).length < sizeLine := by rw [List.length_map, List.length_cons]; omega
      cases rd with
      | int j =>
        refine ⟨_, rfl, _, _, _, _, true, rfl, .ty _, .base (.int j), kit_ty (by decide +kernel), _, rfl, iteT ?_⟩
        walk_at "rds"
        refine ⟨.inl ⟨rfl, _, SqL.of hl2⟩, ?_⟩
        walk_at "rds"
        refine ⟨log_small (by have : (D.int j : D) = .int j := rfl; have h : j.natAbs < 10 ^ 24 := iok; omega), ?_⟩
        walk_at "rds"
        refine ⟨l, _, _, rfl, rfl, hl2, by rw [List.length_map, List.length_cons]; omega, ?_⟩
        exact fin _ _ (tl_int j) (Same.rfl' _)
      | str z =>
        refine ⟨_, rfl, _, _, _, _, false, rfl, .ty _, .base (.str z), kit_ty (by decide +kernel), _, rfl, iteF ?_⟩
        walk_at "rds"
        refine ⟨.inl ⟨rfl, _, SqL.of hl2⟩, ?_⟩
        walk_at "rds"
        refine ⟨_, _, rfl, .str z, iok, ism, idp, fun _ y H5 ey s5 => ?_, fun h => by omega⟩
        have hl5 := s5 _ _ hl2
        refine ⟨l, _, _, rfl, rfl, hl5, by rw [List.length_map, List.length_cons]; omega, ?_⟩
        exact fin _ _ ey s5
      | @tup b xs es h1 h2 h3 =>
        refine ⟨_, rfl, _, _, _, _, false, rfl, .ty _, .base (.tup h1), kit_ty (by decide +kernel), _, rfl, iteF ?_⟩
        walk_at "rds"
        refine ⟨.inl ⟨rfl, _, SqL.of hl2⟩, ?_⟩
        walk_at "rds"
        refine ⟨_, _, rfl, .tup h1 h2 h3, iok, ism, idp, fun _ y H5 ey s5 => ?_, fun h => by omega⟩
        have hl5 := s5 _ _ hl2
        refine ⟨l, _, _, rfl, rfl, hl5, by rw [List.length_map, List.length_cons]; omega, ?_⟩
        exact fin _ _ ey s5
    · rintro σ H4 ⟨_, ws, rfl, s2, ht2, hl2, ew, lw, A4⟩
      rw [l2, List.take_length] at ew
      have lw2 := congrArg List.length ew
      rw [List.length_map, List.length_map] at lw2
      obtain ⟨k1, _⟩ := kind_short AA.kind
      walk_at "rds"
      refine ⟨⟨_, rfl⟩, _, rfl, _, l, k :: ws, rfl, rfl, .inl (SqL.of hl2), ?_, q _ _ ?_ s2⟩
      · have : (Str.ofString " ").length = 1 := by decide
        rw [this, List.map_cons, List.sum_cons, List.length_cons]
        omega
      · rw [join_eq, tl_join, List.map_cons, ew]; rfl
end
end Mus

set_option maxRecDepth 100000
set_option maxHeartbeats 4000000
/-! zip of a tuple and a list of one length. -/
namespace Mus
open PySem PySem.Spec PyProof.Rows L2
/-- the pairs of the tuple's and the list's items -/
def ItM (K : PySem.W.Frag) (a b : Addr) : It where
  go := fun i H => ∃ (xs ys : List V) (x y : V), SqT K H a xs ∧ SqL K H b ys ∧ xs[i]? = some x ∧ ys[i]? = some y
  yld := fun i H v H' => ∃ T x y, v = .ref T ∧ H T = none ∧ H' = upd H T (.tup [x, y]) ∧ (∀ xs, SqT K H a xs → xs[i]? = some x) ∧ ∀ ys, SqL K H b ys → ys[i]? = some y
  stop := fun i H => ∃ xs ys : List V, SqT K H a xs ∧ SqL K H b ys ∧ xs.length = i ∧ ys.length = i
theorem turn_zipM {P : Program} {w : World} {K : PySem.W.Frag} {elts : List Expr} {kk : Nat} {tpos : Pos} {a b z ti to j1 j2 : Addr} (S : ZipSep2 z ti to j1 j2 [j1, a] [j2, b]) (na : a ≠ j1) (nb : b ≠ j2) :
    Turn P w K (.Tuple elts kk tpos) (ItM K a b) [z, ti, to, j1, j2] z (fun i h => IsZip h z ti to .none ∧ IsTupOf2 h ti (.ref j1) (.ref j2) ∧ (∃ p q, IsTupOf2 h to p q) ∧ h.IsTupleIter j1 a i ∧ h.IsListIter j2 b i) where
  mem := by simp
  obj := fun i h st c hc => by
    obtain ⟨g1, g2, ⟨p, q, g3⟩, ⟨o1, e1, _, d1⟩, o2, e2, _, d2⟩ := st
    simp only [List.mem_cons, List.not_mem_nil, or_false] at hc
    rcases hc with y | y | y | y | y
    · exact y ▸ ⟨_, g1, fun v y => nomatch y⟩
    · exact y ▸ ⟨_, g2, fun v y => nomatch y⟩
    · exact y ▸ ⟨_, g3, fun v y => nomatch y⟩
    · exact y ▸ ⟨o1, e1, fun v y => by rw [d1] at y; cases y⟩
    · exact y ▸ ⟨o2, e2, fun v y => by rw [d2] at y; cases y⟩
  keep := fun i h h' st k => by
    obtain ⟨g1, g2, ⟨p, q, g3⟩, g4, g5⟩ := st
    exact ⟨k _ (by simp) _ g1, k _ (by simp) _ g2, ⟨p, q, k _ (by simp) _ g3⟩, g4.at fun o y => k _ (by simp) o y, g5.at fun o y => k _ (by simp) o y⟩
  item := by
    intro X hP hw hK hc i pins s σ H E I hf st go_
    subst hP hw hK
    obtain ⟨g1, g2, ⟨p, q, g3⟩, g4, g5⟩ := st
    obtain ⟨xs, ys, x, y, tx, ly, ex, ey⟩ := go_
    obtain ⟨is1, rv1, pl1, _⟩ := I.tuple tx
    obtain ⟨is2, rv2, pl2, _⟩ := I.list ly
    obtain ⟨u1, hu1, ru1⟩ := rv1.get ex
    obtain ⟨u2, hu2, ru2⟩ := rv2.get ey
    have lt1 : i < is1.toArray.size := by simpa using (List.getElem?_eq_some_iff.mp hu1).1
    have lt2 : i < is2.toArray.size := by simpa using (List.getElem?_eq_some_iff.mp hu2).1
    have zlt := Heap.lt_size g1
    refine wpAny_pyNext_zipD2_item S (Draws.tuple (A := X.A.in1) (I.ok.hd hc) j1 a na is1.toArray) (Draws.list (A := X.A.in1) (I.ok.hd hc) j2 b nb is2.toArray) g1 g2 g3 ⟨g4, pl1⟩ ⟨g5, pl2.isList⟩ lt1 lt2 fun v1 v2 h1 tk q1 q2 z1 t1 n1 n2 hT hsz hk => ?_
    have e1 : v1 = u1 := by
      have q1 : is1.toArray[i]? = some v1 := q1
      rw [List.getElem?_toArray, hu1] at q1
      exact (Option.some.inj q1).symm
    have e2 : v2 = u2 := by
      have q2 : is2.toArray[i]? = some v2 := q2
      rw [List.getElem?_toArray, hu2] at q2
      exact (Option.some.inj q2).symm
    subst e1 e2
    refine ⟨_, rfl, wpAny_letOwnedTupleGo_zip (s := { s with heap := h1, toks := tk }) z1 fun h2 z2 sb => ?_⟩
    have hT2 := (sb.2 _ (Nat.ne_of_gt zlt)).trans hT
    have new : ObjOk X.prog X.w (upd H s.heap.objs.size (.tup [x, y])) h2 s.heap.objs.size (.tup [x, y]) := ⟨by show 2 ≤ sizeLine; decide, [v1, v2], .cons ru1 (.cons ru2 .nil), ⟨_, hT2, rfl, _, rfl⟩⟩
    have kept : ∀ c o, c ∉ [z, ti, to, j1, j2] → s.heap.get? c = some o → h2.get? c = some o := fun c o hb e => by
      simp only [List.mem_cons, List.not_mem_nil, or_false, not_or] at hb
      exact (sb.2 c hb.1).trans (hk c o hb.1 hb.2.2.1 hb.2.2.2.1 hb.2.2.2.2 e)
    have I1 : Inv X pins σ (upd H s.heap.objs.size (.tup [x, y])) { s with heap := h2, toks := tk } := I.turnedNew (ch := [z, ti, to, j1, j2]) kept hf (Nat.le_refl _) new
    refine ⟨.ref s.heap.objs.size, _, I1, rfl, ⟨_, x, y, rfl, I.hok.fresh (Nat.le_refl _), rfl, fun l hl => by rw [I.tuple_inj hl tx]; exact ex, fun l hl => by rw [I.list_inj hl ly]; exact ey⟩, ⟨z2, (sb.2 _ S.TIz).trans (hk _ _ S.TIz S.TITO S.TIi1 S.TIi2 g2), ⟨v1, v2, (sb.2 _ S.TOz).trans t1⟩, n1.1.at fun o e => (sb.2 _ S.zi1.symm).trans e, n2.1.at fun o e => (sb.2 _ S.zi2.symm).trans e⟩, fun c hcm => ?_⟩
    have lt : c < s.heap.objs.size := by
      obtain ⟨_, w1, _⟩ := g4
      obtain ⟨_, w2, _⟩ := g5
      simp only [List.mem_cons, List.not_mem_nil, or_false] at hcm
      rcases hcm with y | y | y | y | y
      · exact y ▸ zlt
      · exact y ▸ Heap.lt_size g2
      · exact y ▸ Heap.lt_size g3
      · exact y ▸ Heap.lt_size w1
      · exact y ▸ Heap.lt_size w2
    rw [upd_ne (Nat.ne_of_lt lt)]
    exact (hf c hcm).1
  done := by
    intro X hP hw hK hc i pins s σ H E I hf st go_
    subst hP hw hK
    obtain ⟨g1, g2, ⟨p, q, g3⟩, g4, g5⟩ := st
    obtain ⟨xs, ys, tx, ly, ex, ey⟩ := go_
    obtain ⟨is1, rv1, pl1, _⟩ := I.tuple tx
    obtain ⟨is2, rv2, pl2, _⟩ := I.list ly
    have l1 := rv1.length
    have l2 := rv2.length
    have c1 : i = is1.toArray.size := by rw [List.size_toArray]; omega
    have c2 : i = is2.toArray.size := by rw [List.size_toArray]; omega
    refine wpAny_pyNext_zipD2_end S (Draws.tuple (A := X.A.in1) (I.ok.hd hc) j1 a na is1.toArray) (Draws.list (A := X.A.in1) (I.ok.hd hc) j2 b nb is2.toArray) g1 g2 g3 ⟨g4, pl1⟩ ⟨g5, pl2.isList⟩ (by omega) (by omega) (.inl c1) fun h1 tk hk => ⟨rfl, I.turnedL (t' := tk) (ch := [z, ti, to, j1, j2]) (fun c o hb e => ?_) hf⟩
    simp only [List.mem_cons, List.not_mem_nil, or_false, not_or] at hb
    exact hk c o hb.1 hb.2.2.1 hb.2.2.2.1 hb.2.2.2.2 e
  self := fun A i s Q E st q => wpAny_pyIter_zip st.1 q
def iZipM (K : PySem.W.Frag) (ta : TA) : TI := fun σ H R => ta σ H fun vs H1 => ∃ a b xs ys, vs = [.ref a, .ref b] ∧ SqT K H1 a xs ∧ SqL K H1 b ys ∧ R (ItM K a b) H1
theorem pi_zipM {X : Cx} {e e2 : Expr} {ta : TA} {p pos tpos : Pos} {elts : List Expr} {kk : Nat} (hg : Gl X "zip") (hm : X.mg "zip" = none) (ha : PA X [e, e2] ta)
    (st0 : starEach [e, e2] X.env = (false, eval e X.env) :: starEach [e2] X.env := by rfl) (pl0 : (backTo pos (starEach [e2] X.env)).any (·.1) = false := by rfl) : PI X (.Tuple elts kk tpos) (.Call (.Name "zip" p) [e, e2] [] pos) (iZipM X.K ta) := by
  constructor
  intro pins s σ H R I h
  refine Call_ (ld_blt I hg hm PyProof.Rows.boot_zip (PyProof.Rows.callWith_type1 (thn (ha.run pos pins s σ H _ I h) fun us s1 y => ?_) st0 pl0))
  obtain ⟨vs, H1, I1, r1, a, b, xs, ys, rfl, tx, ly, q⟩ := y
  obtain _ | ⟨r, _ | ⟨r', _ | _⟩⟩ := r1
  cases r
  cases r'
  obtain ⟨is1, rv1, pl1, _⟩ := I1.tuple tx
  obtain ⟨is2, rv2, pl2, _⟩ := I1.list ly
  have t1 : s1.heap.IsTuple a is1.toArray := pl1
  have t2 : s1.heap.IsList b is2.toArray := pl2.isList
  obtain ⟨_, w1, _⟩ := id t1
  obtain ⟨_, w2, _⟩ := id t2
  have la := Heap.lt_size w1
  have lb := Heap.lt_size w2
  refine zip_begins2 (begins_tuple a is1.toArray) (begins_list b is2.toArray) t1 t2 fun h' hz hTI hTO i1 i2 hsz hk => wpAny_pyIter_zip hz ?_
  have I2 : Inv X pins σ H1 ({ s1 with heap := h' } : Shared) := I1.kept (t' := s1.toks) hk
  refine ⟨s1.heap.objs.size + 4, [s1.heap.objs.size + 4, s1.heap.objs.size + 2, s1.heap.objs.size + 3, s1.heap.objs.size, s1.heap.objs.size + 1], _, _, H1, rfl, I2, turn_zipM (zip_sep2 (fp1 := [a]) (fp2 := [b]) (fun c hc => List.mem_singleton.mp hc ▸ la) (fun c hc => List.mem_singleton.mp hc ▸ lb)) (Nat.ne_of_lt la) (Nat.ne_of_lt (Nat.lt_succ_of_lt lb)), ⟨hz, hTI, ⟨_, _, hTO⟩, ⟨_, i1, rfl, rfl⟩, ⟨_, i2, rfl, rfl⟩⟩, fun c hc => ?_, q⟩
  have le : s1.heap.objs.size ≤ c := by
    simp only [List.mem_cons, List.not_mem_nil, or_false] at hc
    rcases hc with y | y | y | y | y <;> rw [y] <;> first | exact Nat.le_add_right _ _ | exact Nat.le_refl _
  exact I1.fpOk le (I1.hok.fresh le)
/-- a loop over such pairs -/
theorem for_zipM {K : PySem.W.Frag} {a b : Addr} {xs ys : List V} {g : TG} {tb : TS} {D : Ends} {σ : L2.St} {H : Hp} (hl : xs.length = ys.length) (J : Nat → L2.St → Hp → Prop) (h0 : J 0 σ H) (hq : ∀ i σ H, J i σ H → SqT K H a xs ∧ SqL K H b ys)
    (hs : ∀ (i : Nat) (x y : V) (T : Addr) (σ : L2.St) (H : Hp), xs[i]? = some x → ys[i]? = some y → J i σ H → H T = none → g (.ref T) σ (upd H T (.tup [x, y])) fun σ2 H2 => tb { D with nx := J (i + 1), ct := J (i + 1), bk := D.nx } σ2 H2) (hd : ∀ σ H, J xs.length σ H → D.nx σ H) :
    ∃ W : Nat → Nat → L2.St → Hp → Prop, (∃ m, W 0 m σ H) ∧ ∀ i m σ H, W i m σ H → ((ItM K a b).stop i H ∧ D.nx σ H) ∨
      ((ItM K a b).go i H ∧ ∃ N : L2.St → Hp → Prop, (∀ σ' H', N σ' H' → ∃ m', m' < m ∧ W (i + 1) m' σ' H') ∧ ∀ v H', (ItM K a b).yld i H v H' → g v σ H' fun σ2 H2 => tb { D with nx := N, ct := N, bk := D.nx } σ2 H2) := by
  refine ⟨fun i m σ H => i + m = xs.length ∧ J i σ H, ⟨xs.length, Nat.zero_add _, h0⟩, fun i m σ H h => ?_⟩
  obtain ⟨e, j⟩ := h
  obtain ⟨qx, qy⟩ := hq i σ H j
  cases m with
  | zero =>
    have e : i = xs.length := e
    subst e
    exact .inl ⟨⟨xs, ys, qx, qy, rfl, hl.symm⟩, hd σ H j⟩
  | succ m =>
    have l1 : i < xs.length := by omega
    have l2 : i < ys.length := by omega
    refine .inr ⟨⟨xs, ys, _, _, qx, qy, List.getElem?_eq_getElem l1, List.getElem?_eq_getElem l2⟩, J (i + 1), fun σ' H' p' => ⟨m, Nat.lt_succ_self m, by omega, p'⟩, fun v H' y => ?_⟩
    obtain ⟨T, v1, v2, rfl, hT, rfl, f1, f2⟩ := y
    exact hs i v1 v2 T σ H (f1 xs qx) (f2 ys qy) j hT
end Mus

set_option maxRecDepth 100000
set_option maxHeartbeats 4000000
namespace Mus
open PySem L2 TL PySem.NumText Txt4
local macro_rules | `(tactic| walk_at "rd") => `(tactic| first
  | refine ⟨_, rfl, ?_⟩ | refine ⟨(True.intro : True), ?_⟩
  | refine ⟨_, _, rfl, rfl, (⟨by decide, by decide, by decide⟩ : CPow _ _), ?_⟩
  | refine ⟨_, _, rfl, rfl, (⟨by decide, by decide⟩ : CDiv _ _), ?_⟩
  | refine ⟨_, _, rfl, rfl, (by show (0 : Int) < _; decide), ?_⟩
  | refine ⟨_, _, rfl, rfl, ?_⟩ | refine ⟨rfl, ?_⟩ | refine iteT ?_ | refine iteF ?_ | refine ⟨_, _, rfl, ?_⟩ | refine .inl ⟨_, rfl, ?_⟩
  | refine ⟨_, _, _, _, _, rfl, (by assumption), (by assumption), (by assumption), rfl, ?_⟩ | refine ⟨_, _, _, _, rfl, rfl, SqT.of (by assumption), rfl, ?_⟩ | refine ⟨_, _, rfl, SqT.of (by assumption), rfl, ?_⟩
  | refine ⟨_, _, _, _, _, rfl, .ty _, Rp.ty (by assumption), kit_int _, ?_⟩ | refine ⟨_, _, _, _, _, rfl, .ty _, Rp.ty (by assumption), kit_bool _, ?_⟩
  | refine ⟨_, _, _, _, _, rfl, .ty _, Rp.ty (by assumption), kit_str _, ?_⟩ | refine ⟨_, _, _, _, _, rfl, .ty _, Rp.ty (by assumption), kit_tup _, ?_⟩)
local macro_rules | `(tactic| walk_at "cal") => `(tactic| first
  | refine ⟨_, _, _, _, _, rfl, (by assumption), ?_⟩ | refine ⟨_, _, _, _, _, rfl, (by assumption), (by assumption), ?_⟩)
local macro_rules | `(tactic| walk_at "sq") => `(tactic| first
  | refine ⟨_, _, rfl, Or.inr (SqT.of (by assumption)), ?_⟩ | refine ⟨_, _, _, _, rfl, rfl, SqT.of (by assumption), rfl, ?_⟩)
local macro_rules | `(tactic| walk_at "rds") => `(tactic| repeat first | walk_at "rd" | walk_at "cal" | walk_at "sq")
local macro_rules | `(tactic| walk_at "ze") => `(tactic| repeat first
  | exact zes_nil | exact ze_bl | exact ze_str | exact ze_non | apply zes_cons | apply ze_tup | apply ze_lst | apply ze_cat | exact di_c | exact di_v rfl | apply di_opC | apply di_op | apply di_neg | apply ze_i | (refine (⟨?_, ?_, ?_⟩ : CPow _ _) <;> decide) | exact Nat.le_of_ble_eq_true rfl | exact ze_varD rfl (by assumption))
local macro_rules | `(tactic| walk_at "rdz") => `(tactic| repeat (fail_if_success (first | show tLst _ _ _ _ | show tAsg (tLst _) _ _ _ _ | show tSeq (tAsg (tLst _) _) _ _ _ _)); first | walk_at "rd" | walk_at "cal" | walk_at "sq")
theorem starts_tl {x y : Str} (hy : tl y ≠ []) (h : Txt.startswith x y = true) : ∃ r, tl x = tl y ++ r := by
  have h1 : (0 + y.length ≤ x.length) ∧ Builtin.Str.subAt x y 0 = true := by
    unfold Txt.startswith at h
    rw [Bool.and_eq_true, decide_eq_true_eq] at h
    exact h
  have h2 := (at_iff hy 0).mp h1
  rw [List.drop_zero] at h2
  unfold pre at h2
  have h3 : (tl x).take (tl y).length = tl y := eq_of_beq h2
  refine ⟨(tl x).drop (tl y).length, ?_⟩
  rw [← h3, List.length_take]
  have hl : (tl y).length ≤ (tl x).length := by
    have := congrArg List.length h3
    rw [List.length_take] at this
    omega
  rw [Nat.min_eq_left hl, List.take_append_drop]
theorem numL_head1 : ∀ n : Nat, 1 ≤ n → ∃ c r, numL n = c :: r ∧ c ≠ 48 := by
  intro n
  induction n using Nat.strongRecOn with
  | _ n ih =>
    intro h
    by_cases h10 : n < 10
    · rw [numL_lt h10]; exact ⟨_, _, rfl, by omega⟩
    · rw [numL_step (by omega)]
      obtain ⟨c, r, e, hc⟩ := ih (n / 10) (by omega) (by omega)
      rw [e]; exact ⟨c, _, rfl, hc⟩
theorem dec_digit {c : Nat} (h : 48 ≤ c ∧ c ≤ 57) : Unicode.isDecimal c = true := by
  have : c = 48 ∨ c = 49 ∨ c = 50 ∨ c = 51 ∨ c = 52 ∨ c = 53 ∨ c = 54 ∨ c = 55 ∨ c = 56 ∨ c = 57 := by omega
  rcases this with rfl | rfl | rfl | rfl | rfl | rfl | rfl | rfl | rfl | rfl <;> decide +kernel
theorem numI_pos {i : Int} (h : 0 ≤ i) : numI i = numL i.natAbs := by unfold numI; rw [if_neg (by omega)]
theorem num_dec {y : Str} {i : Int} (ey : tl y = numI i) (h : 0 ≤ i) : Txt.isdecimal y = true := by
  rw [numI_pos h] at ey
  have hl := len_tl y
  have hne := numL_ne i.natAbs
  unfold Txt.isdecimal
  have h1 : 0 < y.length := by
    rw [hl, ey]
    exact List.length_pos_iff.mpr hne
  rw [decide_eq_true h1, Bool.true_and, ← Array.all_toList, List.all_eq_true]
  intro c hc
  have hc : c ∈ tl y := hc
  rw [ey] at hc
  exact dec_digit (numL_digits _ c hc)
section
variable {P : Program} {w : World} {K : PySem.W.Frag} {mg : Str → Option Value} {base : Heap} {CT CB DI AT : Addr}
abbrev s__is_number : Stmt := top 42
abbrev N__is_number : List Str := ["word"]
abbrev P__is_number : List Str := ["word"]
theorem sc__is_number : FnScope N__is_number P__is_number (defScope s__is_number) := ⟨rfl, rfl, rfl, by decide +kernel, rfl, by decide +kernel, by decide +kernel⟩
def sp_isn : Sp := fun vs H Q _ => ∃ y i, vs = [.str y] ∧ tl y = numI i ∧ 0 ≤ i ∧ i ≤ 999999999999 ∧ Q (.bl true) H
theorem ok__is_number {f : Addr} {fd : FuncData} (T : Tx mg) (F : Fun K "_is_number" "_is_number" s__is_number f fd) : FnOk P w K mg base CX0 (1) f fd P__is_number (sp_isn) := by
  have nd := sc__is_number.nd
  refine F.ok sc__is_number (fun vs H Q E h => ?_) (fun cdv A outer s H vs Q E hr h => ?_)
  · obtain ⟨_, _, rfl, _⟩ := h
    rfl
  · obtain ⟨y, i, rfl, ey, i0, i1, q⟩ := h
    have hs := sl
    have hl := len_tl y
    have hd := num_dec ey i0
    have hk := numL_len (n := i.natAbs) (k := 12) (by omega) (by omega)
    rw [ey, numI_pos i0] at hl
    refine ⟨_, (pss_cons (ps_if (PW.pt (pw_or (pt_not (pt_val (pe_bm0 PySem.F.plainAttrs_str PySem.F.slot_str_isdecimal PySem.F.type_str_isdecimal mt_isdecimal (pv 0)))) (pw_or1 (pt_cmpR op_gt (pe_callB call_len_str (by rfl) T.b_len (by decide +kernel) (pa_cons (pv 0) pa_nil)) (pe_const T.c__MOST_DIGITS) (nomark _)))))
        (pss_one (ps_ret pe_bl))
        pss_nil)
      (pss_one (ps_ret (pe_or (pe_cmpR op_eq (pv 0) pe_str (nomark _)) (pe_one (pe_not (pe_m1 PySem.F.slot_str_startswith PySem.F.type_str_startswith mt_startswith (pv 0) pe_str))))))), ?_⟩
    walk_at "rds"
    rw [hd]
    walk_at "rds"
    refine ⟨by omega, ?_⟩
    walk_at "rds"
    refine dF (by omega) ?_
    walk_at "rds"
    refine iB (fun _ => q) (fun h => ?_)
    have t0 : tl (Str.ofString "0") = [48] := by decide
    have no : Txt.startswith y (Str.ofString "0") = false := by
      cases hh : Txt.startswith y (Str.ofString "0") with
      | false => rfl
      | true =>
        exfalso
        obtain ⟨r, hr⟩ := starts_tl (by rw [t0]; simp) hh
        rw [t0, ey, numI_pos i0] at hr
        by_cases hz : i = 0
        · subst hz
          have e : y = Str.ofString "0" := ext_tl (by rw [ey]; decide +kernel)
          exact of_decide_eq_false h (by rw [e])
        · obtain ⟨c, r2, e2, hc⟩ := numL_head1 i.natAbs (by omega)
          rw [e2] at hr
          exact hc (List.cons.inj hr).1
    walk_at "rds"
    refine ⟨⟨_, rfl⟩, y, _, rfl, rfl, ?_⟩
    rw [no]
    exact ⟨_, rfl, q⟩
abbrev s__read_text : Stmt := top 41
abbrev N__read_text : List Str := ["number", "name", "word", "value"]
abbrev P__read_text : List Str := ["number", "name", "word"]
theorem sc__read_text : FnScope N__read_text P__read_text (defScope s__read_text) := ⟨rfl, rfl, rfl, by decide +kernel, rfl, by decide +kernel, by decide +kernel⟩
def sp_rtext : Sp := fun vs H Q _ => ∃ m n y d, vs = [.int m, .str n, .str y] ∧ tl y = enc d ∧ ItemOk n d ∧ ((n = "payload" ∧ ∃ z, d = .str z) ∨ (n = "groups" ∧ ∃ ds, d = .tup ds)) ∧ ∀ v H', Same H H' → Rep H' v d → Q v H'
theorem ok__read_text {f : Addr} {fd : FuncData} (T : Tb K mg CT CB) (c_decode : DefOk P w K mg base CX0 "decode" P_decode 21 (sp_decode)) (c__is_text_of : DefOk P w K mg base CX0 "_is_text_of" P__is_text_of 1 (sp_tof)) (F : Fun K "_read_text" "_read_text" s__read_text f fd) : FnOk P w K mg base CX0 22 f fd P__read_text sp_rtext := by
  have nd := sc__read_text.nd
  refine F.ok sc__read_text (fun vs H Q E h => ?_) (fun cdv A outer s H vs Q E hr h => ?_)
  · obtain ⟨_, _, _, _, rfl, _⟩ := h
    rfl
  · obtain ⟨m, n, y, d, rfl, ey, it, hn, q⟩ := h
    obtain ⟨il, iok, ism, idp⟩ := item_len it
    refine ⟨_, (pss_cons (ps_tryX rfl rfl takes0 (fun W pn xe tk _ => (pss_one (ps_set (i := 3) nd rfl (Or.inl rfl) (pcall c_decode hr (pa_cons (pv 2) pa_nil)))))
        (hd_one ⟨rfl, by decide, .inl T.g_BadText⟩ (fun a oe cls d pn hz hf => (pss_one ps_never)) .nil))
      (pss_cons (ps_if (pt_not (pt_val (pcall c__is_text_of hr (pa_cons (pv 1) (pa_cons (pv 3) pa_nil)))))
        (pss_one ps_never)
        pss_nil)
      (pss_one (ps_ret (pv 3))))), ?_⟩
    walk_at "rds"
    refine ⟨y, d, rfl, ey, iok, idp, by omega, fun v H1 s1 r1 => ?_⟩
    walk_at "rds"
    refine ⟨n, v, d, rfl, r1, hn, ?_⟩
    walk_at "rds"
    exact q v _ s1 r1
abbrev s__read_word : Stmt := top 40
abbrev N__read_word : List Str := ["number", "name", "word"]
abbrev P__read_word : List Str := ["number", "name", "word"]
theorem sc__read_word : FnScope N__read_word P__read_word (defScope s__read_word) := ⟨rfl, rfl, rfl, by decide +kernel, rfl, by decide +kernel, by decide +kernel⟩
def sp_rword : Sp := fun vs H Q _ => ∃ m n y d, vs = [.int m, .str n, .str y] ∧ tl y = enc d ∧ ItemOk n d ∧ ∀ v H', Same H H' → Rep H' v d → Q v H'
theorem ok__read_word {f : Addr} {fd : FuncData} (T : Tb K mg CT CB) (I : Ti w K mg DI AT) (c__read_text : DefOk P w K mg base CX0 "_read_text" P__read_text 22 (sp_rtext)) (c__is_number : DefOk P w K mg base CX0 "_is_number" P__is_number 1 (sp_isn)) (F : Fun K "_read_word" "_read_word" s__read_word f fd) : FnOk P w K mg base CX0 23 f fd P__read_word sp_rword := by
  have nd := sc__read_word.nd
  refine F.ok sc__read_word (fun vs H Q E h => ?_) (fun cdv A outer s H vs Q E hr h => ?_)
  · obtain ⟨_, _, _, _, rfl, _⟩ := h
    rfl
  · obtain ⟨m, n, y, d, rfl, ey, it, q⟩ := h
    refine ⟨_, (pss_cons (ps_if (pt_cmpR op_in_seq (pv 1) (pe_cls I.g__TEXTS) (by rfl))
        (pss_one (ps_ret (pcall c__read_text hr (pa_cons (pv 0) (pa_cons (pv 1) (pa_cons (pv 2) pa_nil))))))
        pss_nil)
      (pss_cons (ps_if (pt_not (pt_val (pcall c__is_number hr (pa_cons (pv 2) pa_nil))))
        (pss_one ps_never)
        pss_nil)
      (pss_one (ps_ret (pe_callTy call_int_str (by rfl) T.b_int (by decide +kernel) (pa_cons (pv 2) pa_nil)))))), ?_⟩
    walk_at "rds"
    refine ⟨AT, _, rfl, .inr (I.t_ _), rfl, rfl, ?_⟩
    have it' := it
    cases it with
    | @num _ i hn i0 i1 hi =>
      refine ⟨_, rfl, iB (fun h => ?_) (fun h => ?_)⟩
      · simp only [numN, List.mem_cons, List.not_mem_nil, or_false] at hn
        rcases hn with rfl | rfl | rfl | rfl | rfl <;> exact absurd h (by decide +kernel)
      · have ey : tl y = numI i := ey
        have hab : i.natAbs < 10 ^ 24 := by omega
        walk_at "rds"
        refine ⟨y, i, rfl, ey, i0, i1, ?_⟩
        walk_at "rds"
        have ln := numI_len hab
        refine ⟨y, i, rfl, intText_numI ey hab, by rw [len_tl, ey]; omega, ?_⟩
        exact q _ _ (Same.rfl' H) (.int i)
    | @pay z h1 h2 =>
      refine ⟨_, rfl, iB (fun h => ?_) (fun h => absurd h (by decide +kernel))⟩
      walk_at "rds"
      exact ⟨m, _, y, _, rfl, ey, it', .inl ⟨rfl, z, rfl⟩, q⟩
    | @grp ds h1 h2 h3 h4 =>
      refine ⟨_, rfl, iB (fun h => ?_) (fun h => absurd h (by decide +kernel))⟩
      walk_at "rds"
      exact ⟨m, _, y, _, rfl, ey, it', .inr ⟨rfl, ds, rfl⟩, q⟩
end
/-! ### a line's words -/
def strL (l : List Nat) : Str := ⟨l.toArray⟩
theorem tl_strL (l : List Nat) : tl (strL l) = l := rfl
theorem join_spread : ∀ (ws : List Str) (last : List Nat), joinL [32] (ws.map tl ++ [last]) = spread ws last
  | [], _ => rfl
  | [w], last => rfl
  | w :: v :: ws, last => by
    show tl w ++ ([32] ++ joinL [32] ((v :: ws).map tl ++ [last])) = tl w ++ 32 :: spread (v :: ws) last
    rw [join_spread (v :: ws) last]; rfl
theorem item_free {n : Str} {d : D} (h : ItemOk n d) (hn : n ∈ numN) : 32 ∉ enc d := by
  cases h with
  | @num _ i h0 h1 h2 h3 =>
    show 32 ∉ numI i
    rw [numI_pos h1]
    exact numL_free (by omega)
  | pay => exact absurd hn (by decide +kernel)
  | grp => exact absurd hn (by decide +kernel)
theorem Items.append_inv : ∀ {ns : List Str} {n : Str} {ds : List D}, Items (ns ++ [n]) ds → ∃ es e, ds = es ++ [e] ∧ Items ns es ∧ ItemOk n e
  | [], n, _, .cons a .nil => ⟨[], _, rfl, .nil, a⟩
  | m :: ns, n, _, .cons a r => by
    obtain ⟨es, e, rfl, h1, h2⟩ := Items.append_inv r
    exact ⟨_ :: es, e, rfl, .cons a h1, h2⟩
theorem Items.free : ∀ {ns : List Str} {ds : List D}, Items ns ds → (∀ n ∈ ns, n ∈ numN) → ∀ d ∈ ds, 32 ∉ enc d
  | _, _, .nil, _, d, h => by cases h
  | _, _, .cons a r, hn, d, h => by
    rcases List.mem_cons.mp h with rfl | h
    · exact item_free a (hn _ List.mem_cons_self)
    · exact Items.free r (fun n m => hn n (List.mem_cons_of_mem _ m)) d h
theorem at_last {α : Type} (xs : List α) (x : α) : atI (xs ++ [x]) (-1) = some x := by
  have e : ixN (xs ++ [x]).length (-1) = some xs.length := by
    unfold ixN
    rw [if_neg (by omega), List.length_append, List.length_singleton]
    first
      | (rw [if_pos (by omega)]; congr 1; omega)
      | (simp; omega)
  unfold atI
  rw [e]
  show (xs ++ [x])[xs.length]? = some x
  rw [List.getElem?_append_right (Nat.le_refl _), Nat.sub_self]; rfl
def wordsL (k : Str) (ds : List D) : List Str := k :: ds.map fun d => strL (enc d)
theorem wordsL_tl (k : Str) (ds : List D) : (wordsL k ds).map tl = tl k :: ds.map enc := by
  unfold wordsL
  rw [List.map_cons, List.map_map]; rfl
theorem split_plain {y k : Str} {ds : List D} (ey : tl y = lineL k ds) (hk : 32 ∉ tl k) (hd : ∀ d ∈ ds, 32 ∉ enc d) : Txt.split y (Str.ofString " ") = wordsL k ds := by
  have e : y = Txt.join (Str.ofString " ") (wordsL k ds) := ext_tl (by rw [ey, join_eq, tl_join, wordsL_tl]; rfl)
  rw [e]
  refine split_join (s := 32) (S := []) (by decide) (by decide +kernel) (by unfold wordsL; simp) fun p hp => ?_
  rcases List.mem_cons.mp hp with rfl | hp
  · exact hk
  · obtain ⟨d, hd1, rfl⟩ := List.mem_map.mp hp
    exact hd d hd1
theorem split_text {y k : Str} {es : List D} {e : D} (ey : tl y = lineL k (es ++ [e])) (hk : 32 ∉ tl k) (hd : ∀ d ∈ es, 32 ∉ enc d) : Txt.splitMax y (Str.ofString " ") ((es.length : Nat) + 1 : Int) = wordsL k (es ++ [e]) := by
  have h := splitMax_line (x := y) (last := strL (enc e)) (ws := wordsL k es) (by
    rw [ey, ← join_spread, wordsL_tl, tl_strL]
    unfold lineL
    rw [List.map_append]; rfl) (fun p hp => by
      rcases List.mem_cons.mp hp with rfl | hp
      · exact hk
      · obtain ⟨d, hd1, rfl⟩ := List.mem_map.mp hp
        exact hd d hd1) (by unfold wordsL; simp)
  have hl : (((wordsL k es).length : Nat) : Int) = (es.length : Nat) + 1 := by
    unfold wordsL
    rw [List.length_cons, List.length_map]; rfl
  rw [hl] at h
  rw [show Str.ofString " " = blank from rfl, h]
  unfold wordsL
  rw [List.map_append]; rfl
section
variable {P : Program} {w : World} {K : PySem.W.Frag} {mg : Str → Option Value} {base : Heap} {CT CB DI AT : Addr}
abbrev s__split : Stmt := top 39
abbrev N__split : List Str := ["line", "names"]
abbrev P__split : List Str := ["line", "names"]
theorem sc__split : FnScope N__split P__split (defScope s__split) := ⟨rfl, rfl, rfl, by decide +kernel, rfl, by decide +kernel, by decide +kernel⟩
def SplOk (ns : List Str) : Prop := ns = [] ∨ ∃ pre last, ns = pre ++ [last] ∧ (∀ n ∈ pre, n ∈ numN) ∧ pre.length ≤ 5
def sp_spl (K : PySem.W.Frag) : Sp := fun vs H Q _ => ∃ y a ns k ds, vs = [.str y, .ref a] ∧ SqT K H a (ns.map V.str) ∧ SplOk ns ∧ Items ns ds ∧ 32 ∉ tl k ∧ tl y = lineL k ds ∧ y.length ≤ 100000 ∧ ∀ p, H p = none → Q (.ref p) (upd H p (.lst ((wordsL k ds).map V.str)))
theorem ok__split {f : Addr} {fd : FuncData} (T : Tb K mg CT CB) (I : Ti w K mg DI AT) (F : Fun K "_split" "_split" s__split f fd) : FnOk P w K mg base CX0 1 f fd P__split (sp_spl K) := by
  have nd := sc__split.nd
  refine F.ok sc__split (fun vs H Q E h => ?_) (fun cdv A outer s H vs Q E hr h => ?_)
  · obtain ⟨_, _, _, _, _, rfl, _⟩ := h
    rfl
  · obtain ⟨y, a, ns, k, ds, rfl, hn, sok, its, hk, ey, hy, q⟩ := h
    have hs := sl
    refine ⟨_, (pss_cons (ps_if (PW.pt (pw_and (pt_cmpR op_gt (pe_callB call_len_seq (by rfl) T.b_len (by decide +kernel) (pa_cons (pv 1) pa_nil)) pe_int (nomark _)) (pw_and1 (pt_cmpR op_in_seq (pe_ix ix_tup (pv 1) (pe_un un_neg pe_int) (fun _ _ => rfl)) (pe_cls I.g__TEXTS) (by rfl)))))
        (pss_one (ps_ret (pe_bm PySem.F.plainAttrs_str PySem.F.slot_str_split PySem.F.type_str_split mt_splitMax (pv 0) (pa_cons pe_str (pa_cons (pe_callB call_len_seq (by rfl) T.b_len (by decide +kernel) (pa_cons (pv 1) pa_nil)) pa_nil)))))
        pss_nil)
      (pss_one (ps_ret (pe_m1 PySem.F.slot_str_split PySem.F.type_str_split mt_split (pv 0) pe_str)))), ?_⟩
    have plain : (∀ d ∈ ds, 32 ∉ enc d) → ∀ p, H p = none → Q (.ref p) (upd H p (.lst ((Txt.split y (Str.ofString " ")).map V.str))) := fun hd p np => by
      rw [split_plain ey hk hd]; exact q p np
    walk_at "rds"
    refine ⟨a, _, rfl, .inr hn, ?_⟩
    walk_at "rds"
    rcases sok with rfl | ⟨pre, last, rfl, hpre, l5⟩
    · cases its
      refine dF (by decide) ?_
      walk_at "rds"
      refine ⟨⟨_, rfl⟩, y, _, rfl, rfl, by decide +kernel, by omega, ?_⟩
      exact plain fun d hd => by cases hd
    · obtain ⟨es, e, rfl, i1, i2⟩ := Items.append_inv its
      have li := i1.length
      refine dT (by rw [List.length_map, List.length_append, List.length_singleton]; omega) ?_
      walk_at "rds"
      refine ⟨a, _, _, .str last, rfl, rfl, hn, by rw [List.map_append]; exact at_last _ _, ?_⟩
      walk_at "rds"
      refine ⟨AT, _, rfl, .inr (I.t_ _), rfl, rfl, ?_⟩
      refine ⟨_, rfl, iB (fun h => ?_) (fun h => ?_)⟩
      · walk_at "rds"
        refine ⟨a, _, rfl, .inr hn, ?_⟩
        have e1 : ((((pre ++ [last]).map V.str).length : Nat) : Int) = (es.length : Nat) + 1 := by
          rw [List.length_map, List.length_append, List.length_singleton, li]; rfl
        rw [e1]
        refine ⟨y, _, _, rfl, rfl, by decide +kernel, by omega, by omega, by omega, ?_⟩
        rw [split_text ey hk (i1.free hpre)]
        exact q
      · walk_at "rds"
        refine ⟨⟨_, rfl⟩, y, _, rfl, rfl, by decide +kernel, by omega, ?_⟩
        refine plain fun d hd => ?_
        rcases List.mem_append.mp hd with hd | hd
        · exact i1.free hpre d hd
        · rw [List.mem_singleton.mp hd]
          cases i2 with
          | num hn => exact item_free (.num hn ‹_› ‹_› ‹_›) hn
          | pay => exact absurd h (by decide +kernel)
          | grp => exact absurd h (by decide +kernel)
end
end Mus

set_option maxRecDepth 100000
set_option maxHeartbeats 4000000
namespace Mus
open PySem L2 TL PySem.NumText Txt4
local macro_rules | `(tactic| walk_at "rd") => `(tactic| first
  | refine ⟨_, rfl, ?_⟩ | refine ⟨(True.intro : True), ?_⟩
  | refine ⟨_, _, rfl, rfl, (⟨by decide, by decide, by decide⟩ : CPow _ _), ?_⟩
  | refine ⟨_, _, rfl, rfl, (⟨by decide, by decide⟩ : CDiv _ _), ?_⟩
  | refine ⟨_, _, rfl, rfl, (by show (0 : Int) < _; decide), ?_⟩
  | refine ⟨_, _, rfl, rfl, ?_⟩ | refine ⟨rfl, ?_⟩ | refine iteT ?_ | refine iteF ?_ | refine ⟨_, _, rfl, ?_⟩ | refine .inl ⟨_, rfl, ?_⟩
  | refine ⟨_, _, _, _, _, rfl, (by assumption), (by assumption), (by assumption), rfl, ?_⟩ | refine ⟨_, _, _, _, rfl, rfl, SqT.of (by assumption), rfl, ?_⟩ | refine ⟨_, _, rfl, SqT.of (by assumption), rfl, ?_⟩
  | refine ⟨_, _, _, _, _, rfl, .ty _, Rp.ty (by assumption), kit_int _, ?_⟩ | refine ⟨_, _, _, _, _, rfl, .ty _, Rp.ty (by assumption), kit_bool _, ?_⟩
  | refine ⟨_, _, _, _, _, rfl, .ty _, Rp.ty (by assumption), kit_str _, ?_⟩ | refine ⟨_, _, _, _, _, rfl, .ty _, Rp.ty (by assumption), kit_tup _, ?_⟩)
local macro_rules | `(tactic| walk_at "cal") => `(tactic| first
  | refine ⟨_, _, _, _, _, rfl, (by assumption), ?_⟩ | refine ⟨_, _, _, _, _, rfl, (by assumption), (by assumption), ?_⟩)
local macro_rules | `(tactic| walk_at "sq") => `(tactic| first
  | refine ⟨_, _, rfl, Or.inr (SqT.of (by assumption)), ?_⟩ | refine ⟨_, _, _, _, rfl, rfl, SqT.of (by assumption), rfl, ?_⟩)
local macro_rules | `(tactic| walk_at "rds") => `(tactic| repeat first | walk_at "rd" | walk_at "cal" | walk_at "sq")
local macro_rules | `(tactic| walk_at "ze") => `(tactic| repeat first
  | exact zes_nil | exact ze_bl | exact ze_str | exact ze_non | apply zes_cons | apply ze_tup | apply ze_lst | apply ze_cat | exact di_c | exact di_v rfl | apply di_opC | apply di_op | apply di_neg | apply ze_i | (refine (⟨?_, ?_, ?_⟩ : CPow _ _) <;> decide) | exact Nat.le_of_ble_eq_true rfl | exact ze_varD rfl (by assumption))
local macro_rules | `(tactic| walk_at "rdz") => `(tactic| repeat (fail_if_success (first | show tLst _ _ _ _ | show tAsg (tLst _) _ _ _ _ | show tSeq (tAsg (tLst _) _) _ _ _ _)); first | walk_at "rd" | walk_at "cal" | walk_at "sq")
theorem kind_spl {k : Str} {ns : List Str} (h : (k, ns) ∈ kindT) : SplOk ns ∧ k ≠ Str.ofString "group" := by
  simp only [kindT, List.mem_cons, List.not_mem_nil, or_false, Prod.mk.injEq] at h
  rcases h with ⟨rfl, rfl⟩ | ⟨rfl, rfl⟩ | ⟨rfl, rfl⟩ | ⟨rfl, rfl⟩ | ⟨rfl, rfl⟩ | ⟨rfl, rfl⟩ | ⟨rfl, rfl⟩ | ⟨rfl, rfl⟩ | ⟨rfl, rfl⟩ | ⟨rfl, rfl⟩ | ⟨rfl, rfl⟩ | ⟨rfl, rfl⟩ | ⟨rfl, rfl⟩ <;> refine ⟨?_, by decide +kernel⟩
  · exact .inr ⟨[], _, rfl, by simp, by simp⟩
  · exact .inr ⟨[], _, rfl, by simp, by simp⟩
  · exact .inl rfl
  · exact .inr ⟨[], _, rfl, by simp, by simp⟩
  · exact .inr ⟨[], _, rfl, by simp, by simp⟩
  · exact .inr ⟨[], _, rfl, by simp, by simp⟩
  · exact .inr ⟨[], _, rfl, by simp, by simp⟩
  · exact .inr ⟨["process"], _, rfl, by simp [numN], by simp⟩
  · exact .inr ⟨[], _, rfl, by simp, by simp⟩
  · exact .inl rfl
  · exact .inr ⟨[], _, rfl, by simp, by simp⟩
  · exact .inr ⟨[], _, rfl, by simp, by simp⟩
  · exact .inr ⟨["process", "count"], _, rfl, by simp [numN], by simp⟩
theorem line_cons (k : Str) (d : D) (ds : List D) : lineL k (d :: ds) = tl k ++ 32 :: joinL [32] (enc d :: ds.map enc) := rfl
theorem part_line {y k : Str} {ds : List D} (ey : tl y = lineL k ds) (hk : 32 ∉ tl k) : (Txt.partition y (Str.ofString " ")).1 = k := by
  cases ds with
  | nil =>
    have e : y = k := ext_tl ey
    rw [e, partition_none (s := 32) (S := []) (by decide) hk]
  | cons d ds =>
    have e : y = k ++ Str.ofString " " ++ strL (joinL [32] (enc d :: ds.map enc)) := ext_tl (by rw [ey, line_cons, tl_append, tl_append, tl_strL, List.append_assoc]; rfl)
    rw [e, partition_app (s := 32) (S := []) (by decide) hk]
theorem join_all {p : Nat → Bool} (h32 : p 32 = true) : ∀ ls : List (List Nat), (∀ l ∈ ls, l.all p = true) → (joinL [32] ls).all p = true
  | [], _ => rfl
  | [a], h => h a List.mem_cons_self
  | a :: b :: r, h => by
    show (a ++ ([32] ++ joinL [32] (b :: r))).all p = true
    rw [List.all_append, List.all_append, h a List.mem_cons_self, join_all h32 (b :: r) fun l hl => h l (List.mem_cons_of_mem _ hl)]
    simp [h32]
theorem Items.pr : ∀ {ns : List Str} {ds : List D}, Items ns ds → ∀ d ∈ ds, (enc d).all prB = true
  | _, _, .nil, d, h => by cases h
  | _, _, .cons a r, d, h => by
    rcases List.mem_cons.mp h with rfl | h
    · exact all_pr (enc_pr _ (item_len a).2.1)
    · exact Items.pr r d h
theorem line_pr {k : Str} {ns : List Str} {ds : List D} (hk : (tl k).all prB = true) (it : Items ns ds) : (lineL k ds).all prB = true :=
  join_all (by decide) _ fun l hl => by
    rcases List.mem_cons.mp hl with rfl | hl
    · exact hk
    · obtain ⟨d, hd, rfl⟩ := List.mem_map.mp hl
      exact it.pr d hd
section
variable {P : Program} {w : World} {K : PySem.W.Frag} {mg : Str → Option Value} {base : Heap} {CT CB DI AT : Addr}
abbrev s__read_line : Stmt := top 38
abbrev N__read_line : List Str := ["number", "line", "is_first", "verb", "names", "words", "values", "name", "word"]
abbrev P__read_line : List Str := ["number", "line", "is_first"]
theorem sc__read_line : FnScope N__read_line P__read_line (defScope s__read_line) := ⟨rfl, rfl, rfl, by decide +kernel, rfl, by decide +kernel, by decide +kernel⟩
def Lin (first : Bool) (k : Str) (ns : List Str) : Prop := (first = true ∧ k = Str.ofString "group" ∧ ns = [Str.ofString "count"]) ∨ (first = false ∧ (k, ns) ∈ kindT)
theorem Lin.facts {first : Bool} {k : Str} {ns : List Str} (h : Lin first k ns) : SplOk ns ∧ 32 ∉ tl k ∧ (tl k).all prB = true ∧ ns.length ≤ 3 ∧ (decide (V.str k = V.str "group") = first) := by
  rcases h with ⟨rfl, rfl, rfl⟩ | ⟨rfl, h⟩
  · exact ⟨.inr ⟨[], _, rfl, by simp, by simp⟩, by decide +kernel, by decide +kernel, by decide, decide_eq_true rfl⟩
  · obtain ⟨h1, h2, h3, _⟩ := kind_short h
    obtain ⟨h4, h5⟩ := kind_spl h
    exact ⟨h4, h2, h3, kind_len h, decide_eq_false fun z => h5 (V.str.inj z)⟩
def sp_rline : Sp := fun vs H Q _ => ∃ m y first k ns ds, vs = [.int m, .str y, .bl first] ∧ tl y = lineL k ds ∧ Items ns ds ∧ y.length ≤ 100000 ∧ Lin first k ns ∧ ∀ a us H', Same H H' → H' a = some (.tup (.str k :: us)) → Reps H' us ds → Q (.ref a) H'
theorem ok__read_line {f : Addr} {fd : FuncData} (T : Tb K mg CT CB) (c_is_printable : DefOk P w K mg base CX0 "is_printable" P_is_printable 2 (sp_is_printable)) (c_is_kind : DefOk P w K mg base CX0 "is_kind" P_is_kind 1 (sp_kind)) (c_item_names : DefOk P w K mg base CX0 "item_names" P_item_names 1 (sp_names K)) (c__split : DefOk P w K mg base CX0 "_split" P__split 1 (sp_spl K)) (c__read_word : DefOk P w K mg base CX0 "_read_word" P__read_word 23 (sp_rword)) (F : Fun K "_read_line" "_read_line" s__read_line f fd) : FnOk P w K mg base CX0 24 f fd P__read_line sp_rline := by
  have nd := sc__read_line.nd
  refine F.ok sc__read_line (fun vs H Q E h => ?_) (fun cdv A outer s H vs Q E hr h => ?_)
  · obtain ⟨_, _, _, _, _, _, rfl, _⟩ := h
    rfl
  · obtain ⟨m, y, first, k, ns, ds, rfl, ey, its, hy, hL, q⟩ := h
    have hs := sl
    obtain ⟨f1, f2, f3, f4, f5⟩ := hL.facts
    have hp := line_pr f3 its
    have li := its.length
    refine ⟨_, (pss_cons (ps_if (pt_not (pt_val (pcall c_is_printable hr (pa_cons (pv 1) pa_nil))))
        (pss_one ps_never)
        pss_nil)
      (pss_cons (ps_set (i := 3) nd rfl (Or.inl rfl) (pe_ix ix_tup (pe_partition (pv 1) pe_str) pe_int (fun _ _ => rfl)))
      (pss_cons (ps_if (pt_cmpR op_ne (pe_cmpR op_eq (pv 3) pe_str (nomark _)) (pv 2) (nomark _))
        (pss_one ps_never)
        pss_nil)
      (C8.pss_cut (ps_if (PW.pt (pw_and (pt_not (pt_val (pv 2))) (pw_and1 (pt_not (pt_val (pcall c_is_kind hr (pa_cons (pv 3) pa_nil)))))))
        (pss_one ps_never)
        pss_nil)
      (C8.pss_cut (ps_set (i := 4) nd rfl (Or.inl rfl) (pe_ifExp (pt_val (pv 2)) (pe_tup (pa_cons pe_str pa_nil)) (pcall c_item_names hr (pa_cons (pv 3) pa_nil))))
      (pss_cons (ps_set (i := 5) nd rfl (Or.inl rfl) (pcall c__split hr (pa_cons (pv 1) (pa_cons (pv 4) pa_nil))))
      (pss_cons (ps_if (pt_cmpR op_ne (pe_callB call_len_seq (by rfl) T.b_len (by decide +kernel) (pa_cons (pv 5) pa_nil)) (pe_op op_add pe_int (pe_callB call_len_seq (by rfl) T.b_len (by decide +kernel) (pa_cons (pv 4) pa_nil))) (nomark _))
        (pss_one ps_never)
        pss_nil)
      (pss_cons (ps_set (i := 6) nd rfl (Or.inl rfl) (pe_lst (pa_cons (pv 3) pa_nil)))
      (pss_cons (ps_for PassesOwn.never rfl (pi_zipM (by rfl) T.b_zip (pa_cons (pv 4) (pa_cons (pe_slice sl_list (pv 5) (po_some pe_int) po_none) pa_nil))) (pg_tup (by rfl) (pgs_cons (pg_name (i := 7) nd rfl (Or.inl rfl)) (pgs_cons (pg_name (i := 8) nd rfl (Or.inl rfl)) pgs_nil)))
        (pss_one (ps_expr (pe_bm PySem.F.plainAttrs_list PySem.F.slot_list_append PySem.F.type_list_append mt_append (pv 6) (pa_cons (pcall c__read_word hr (pa_cons (pv 0) (pa_cons (pv 7) (pa_cons (pv 8) pa_nil)))) pa_nil)))))
      (pss_one (ps_ret (pe_callTy call_tuple_of (by rfl) T.b_tuple (by decide +kernel) (pa_cons (pv 6) pa_nil))))))))))))), ?_⟩
    walk_at "rds"
    rw [ey, hp]
    walk_at "rds"
    refine ⟨⟨_, rfl⟩, y, _, rfl, rfl, by decide +kernel, by omega, fun t nt => ?_⟩
    have st := same_new nt (.tup [V.str (Txt.partition y (Str.ofString " ")).1, V.str (Txt.partition y (Str.ofString " ")).2.1, V.str (Txt.partition y (Str.ofString " ")).2.2])
    have ht : (upd H t (.tup [V.str (Txt.partition y (Str.ofString " ")).1, V.str (Txt.partition y (Str.ofString " ")).2.1, V.str (Txt.partition y (Str.ofString " ")).2.2])) t = some (.tup [V.str (Txt.partition y (Str.ofString " ")).1, V.str (Txt.partition y (Str.ofString " ")).2.1, V.str (Txt.partition y (Str.ofString " ")).2.2]) := upd_same
    generalize upd H t (.tup [V.str (Txt.partition y (Str.ofString " ")).1, V.str (Txt.partition y (Str.ofString " ")).2.1, V.str (Txt.partition y (Str.ofString " ")).2.2]) = H1 at *
    rw [part_line ey f2] at ht
    walk_at "rds"
    refine nF (by rw [f5]) ?_
    refine ⟨fun σ' H' => σ' = [some (.int m), some (.str y), some (.bl first), some (.str k), none, none, none, none, none] ∧ H' = H1, ?_, ?_⟩
    · rcases id hL with ⟨rfl, rfl, rfl⟩ | ⟨rfl, hk⟩
      · walk_at "rds"
        exact rfl
      · walk_at "rds"
        refine ⟨k, ns, rfl, hk, ?_⟩
        walk_at "rds"
        exact rfl
    rintro _ H1 ⟨rfl, rfl⟩
    refine ⟨fun σ' H' => ∃ an, σ' = [some (.int m), some (.str y), some (.bl first), some (.str k), some (.ref an), none, none, none, none] ∧ Same H1 H' ∧ SqT K H' an (ns.map V.str), ?_, ?_⟩
    · rcases id hL with ⟨rfl, rfl, rfl⟩ | ⟨rfl, hk⟩
      · walk_at "rds"
        refine ⟨by show 1 ≤ sizeLine; omega, fun an nan => ?_⟩
        exact ⟨an, rfl, same_new nan _, SqT.of upd_same⟩
      · walk_at "rds"
        exact ⟨k, ns, rfl, hk, fun an hn => ⟨an, rfl, Same.rfl' _, hn _⟩⟩
    rintro _ H2 ⟨an, rfl, s2, hn⟩
    walk_at "rds"
    refine ⟨y, an, ns, k, ds, rfl, hn, f1, its, f2, ey, hy, fun p np => ?_⟩
    have s3 := same_new np (.lst ((wordsL k ds).map V.str))
    have hp3 : (upd H2 p (.lst ((wordsL k ds).map V.str))) p = some (.lst ((wordsL k ds).map V.str)) := upd_same
    have hn3 : SqT K (upd H2 p (.lst ((wordsL k ds).map V.str))) an (ns.map V.str) := same_seqT s3 hn
    generalize upd H2 p (.lst ((wordsL k ds).map V.str)) = H3 at *
    have lw : ((wordsL k ds).map V.str).length = ds.length + 1 := by unfold wordsL; simp
    walk_at "rds"
    refine ⟨p, _, rfl, .inl (SqL.of hp3), ?_⟩
    walk_at "rds"
    refine ⟨an, _, rfl, .inr hn3, ?_⟩
    walk_at "rds"
    refine nF (by rw [lw, List.length_map]; congr 1; omega) ?_
    walk_at "rds"
    refine ⟨by show 1 ≤ sizeLine; omega, fun vl nvl => ?_⟩
    have s4 := same_new nvl (.lst [V.str k])
    have hvl : (upd H3 vl (.lst [V.str k])) vl = some (.lst [V.str k]) := upd_same
    have hp4 := s4 _ _ hp3
    have hn4 := same_seqT s4 hn3
    generalize upd H3 vl (.lst [V.str k]) = H4 at *
    walk_at "rds"
    refine ⟨p, _, rfl, SqL.of hp4, fun wl nwl => ?_⟩
    rw [show (wordsL k ds).map V.str = V.str k :: (ds.map fun d => strL (enc d)).map V.str from rfl, cutT]
    have s5 := same_new nwl (.lst ((ds.map fun d => strL (enc d)).map V.str))
    have hwl : (upd H4 wl (.lst ((ds.map fun d => strL (enc d)).map V.str))) wl = some (.lst ((ds.map fun d => strL (enc d)).map V.str)) := upd_same
    have hvl5 := s5 _ _ hvl
    have vw : vl ≠ wl := ne_of_none hvl nwl
    have nw3 : H3 wl = none := by
      cases e : H3 wl with
      | none => rfl
      | some o => rw [s4 _ _ e] at nwl; cases nwl
    generalize upd H4 wl (.lst ((ds.map fun d => strL (enc d)).map V.str)) = H5 at *
    have s35 := s4.trans s5
    have l3 : ds.length ≤ 3 := by omega
    refine ⟨an, wl, ns.map V.str, _, rfl, same_seqT s5 hn4, SqL.of hwl, ?_⟩
    refine for_zipM (K := K) (a := an) (b := wl) (xs := ns.map V.str) (ys := (ds.map fun d => strL (enc d)).map V.str) (by rw [List.length_map, List.length_map, List.length_map]; exact li) (fun i σ H' => ∃ (x7 x8 : Option V) (us : List V), σ = [some (.int m), some (.str y), some (.bl first), some (.str k), some (.ref an), some (.ref p), some (.ref vl), x7, x8] ∧ Same H3 H' ∧ H' wl = some (.lst ((ds.map fun d => strL (enc d)).map V.str)) ∧ H' vl = some (.lst (.str k :: us)) ∧ Reps H' us (ds.take i)) ⟨_, _, [], rfl, s35, hwl, hvl5, .nil⟩ ?_ ?_ ?_
    · rintro i σ H' ⟨_, _, _, _, s6, h, _⟩
      exact ⟨same_seqT s6 hn3, SqL.of h⟩
    · rintro i x z T' σ H' hx hz ⟨x7, x8, us, rfl, s6, hwl6, hvl6, r6⟩ nT'
      rw [List.getElem?_map] at hx hz
      obtain ⟨n, hn1, rfl⟩ := Option.map_eq_some_iff.mp hx
      obtain ⟨w1, hw1, rfl⟩ := Option.map_eq_some_iff.mp hz
      rw [List.getElem?_map] at hw1
      obtain ⟨d, hd, rfl⟩ := Option.map_eq_some_iff.mp hw1
      have it := its.at hn1 hd
      have s7 := same_new nT' (.tup [V.str n, V.str (strL (enc d))])
      have hT' : (upd H' T' (.tup [V.str n, V.str (strL (enc d))])) T' = some (.tup [V.str n, V.str (strL (enc d))]) := upd_same
      have hvl7 := s7 _ _ hvl6
      have hwl7 := s7 _ _ hwl6
      have r7 := r6.mono (fun b xs e => s7 _ _ e)
      generalize upd H' T' (.tup [V.str n, V.str (strL (enc d))]) = H7 at *
      have lr := r6.length
      rw [List.length_take] at lr
      walk_at "rds"
      refine ⟨.inl ⟨rfl, _, SqL.of hvl7⟩, ?_⟩
      walk_at "rds"
      refine ⟨m, n, strL (enc d), d, rfl, tl_strL _, it, fun v H8 s8 rv => ?_⟩
      have hvl8 := s8 _ _ hvl7
      refine ⟨vl, _, _, rfl, rfl, hvl8, by rw [List.length_cons]; omega, ?_⟩
      have k9 : ∀ b xs, H8 b = some (HO.tup xs) → (upd H8 vl (.lst ((V.str k :: us) ++ [v]))) b = some (.tup xs) := fun b xs e => by rw [upd_ne (ne_of e hvl8 (by intro z; cases z))]; exact e
      have nv3 : ∀ c o, H3 c = some o → c ≠ vl := fun c o h => ne_of_none h nvl
      have s38 := s6.trans (s7.trans s8)
      refine ⟨_, _, us ++ [v], rfl, fun c o h => by rw [upd_ne (nv3 c o h)]; exact s38 _ _ h, by rw [upd_ne vw.symm]; exact s8 _ _ hwl7, by rw [upd_same]; rfl, ?_⟩
      rw [take_more hd]
      exact ((r7.mono fun b xs e => s8 _ _ e).mono k9).snoc (rv.mono k9)
    · rintro σ H' ⟨_, _, us, rfl, s6, hwl6, hvl6, r6⟩
      rw [List.length_map, li, List.take_length] at r6
      have lr := r6.length
      walk_at "rds"
      refine ⟨vl, _, rfl, .inl ⟨SqL.of hvl6, fun a na => ?_⟩⟩
      have s8 := same_new na (.tup (V.str k :: us))
      exact q a us _ (((st.trans (s2.trans s3)).trans s6).trans s8) upd_same (r6.mono fun b xs e => s8 _ _ e)
end
end Mus

set_option maxRecDepth 100000
set_option maxHeartbeats 4000000
/-! enumerate of a list from a start: for i, x in enumerate(xs, start=n). -/
namespace Mus
open PySem PySem.Spec PyProof.Rows L2
/-- the pairs (k + i, the list's item i) -/
def ItK (K : PySem.W.Frag) (a : Addr) (k : Int) : It where
  go := fun i H => ∃ (xs : List V) (x : V), SqL K H a xs ∧ xs[i]? = some x
  yld := fun i H v H' => ∃ T x, v = .ref T ∧ H T = none ∧ H' = upd H T (.tup [.int (k + (i : Int)), x]) ∧ ∀ xs, SqL K H a xs → xs[i]? = some x
  stop := fun i H => ∃ xs : List V, SqL K H a xs ∧ xs.length = i
theorem turn_enK {P : Program} {w : World} {K : PySem.W.Frag} {elts : List Expr} {kk : Nat} {tpos : Pos} (k : Int) (a e it : Addr) :
    Turn P w K (.Tuple elts kk tpos) (ItK K a k) [e, it] e (fun i h => (∃ old, IsEnum h e it (k + (i : Int)) old) ∧ h.IsListIter it a i ∧ e ≠ it ∧ a ≠ it ∧ a ≠ e) where
  mem := by simp
  obj := fun i h st b hb => by
    obtain ⟨⟨old, he⟩, ⟨o, ho, hc, hd⟩, _⟩ := st
    rcases List.mem_cons.mp hb with z | z
    · rw [z]; exact ⟨_, he, fun v q => nomatch q⟩
    · exact ⟨o, List.mem_singleton.mp z ▸ ho, fun v q => by rw [hd] at q; cases q⟩
  keep := fun i h h' st k => by
    obtain ⟨⟨old, he⟩, hi, r⟩ := st
    exact ⟨⟨old, k e List.mem_cons_self _ he⟩, hi.at fun o q => k it (by simp) o q, r⟩
  item := by
    intro X hP hw hK hc i pins s σ H E I hf st hg
    subst hP hw hK
    obtain ⟨⟨old, he⟩, hit, hne, hai, hae⟩ := st
    obtain ⟨xs, x, hq, hx⟩ := hg
    obtain ⟨its, rv, p, hz⟩ := I.list hq
    obtain ⟨u, hu, ru⟩ := rv.get hx
    have lt : i < its.toArray.size := by simpa using (List.getElem?_eq_some_iff.mp hu).1
    refine wpAny_pyNext_enum_itemC (Draws.list (A := X.A.in1) (I.ok.hd hc) it a hai its.toArray) he ⟨hit, p.isList⟩ lt hne (by simp [hne, Ne.symm hae]) fun y h1 tk hy ho st1 hT hsz hk => ?_
    have ey : y = u := by
      have hy : its.toArray[i]? = some y := hy
      rw [List.getElem?_toArray, hu] at hy
      exact (Option.some.inj hy).symm
    subst ey
    refine ⟨_, rfl, wpAny_letOwnedTupleGo_enum (s := { s with heap := h1, toks := tk + 1 }) ho fun h2 he2 sb => ?_⟩
    have hel := Heap.lt_size he
    have hT2 := (sb.2 s.heap.objs.size (Nat.ne_of_gt hel)).trans hT
    have new : ObjOk X.prog X.w (upd H s.heap.objs.size (.tup [.int (k + (i : Int)), x])) h2 s.heap.objs.size (.tup [.int (k + (i : Int)), x]) := ⟨by show 2 ≤ sizeLine; decide, [.int (k + (i : Int)) tk, y], .cons ⟨_, rfl⟩ (.cons ru .nil), ⟨_, hT2, rfl, _, rfl⟩⟩
    have I1 : Inv X pins σ (upd H s.heap.objs.size (.tup [.int (k + (i : Int)), x])) { s with heap := h2, toks := tk + 1 } :=
      I.turnedNew (ch := [e, it]) (fun b ob hb q => by
        have n1 : b ≠ e := fun z => hb (by simp [z])
        have n2 : b ≠ it := fun z => hb (by simp [z])
        exact (sb.2 b n1).trans (hk b ob n1 n2 q)) hf (Nat.le_refl _) new
    have hfr : H s.heap.objs.size = none := I.hok.fresh (Nat.le_refl _)
    have ei : k + (i : Int) + 1 = k + ((i + 1 : Nat) : Int) := by omega
    rw [ei] at he2
    refine ⟨.ref s.heap.objs.size, _, I1, rfl, ⟨_, x, rfl, hfr, rfl, fun ys hy => by rw [I.list_inj hy hq]; exact hx⟩, ⟨⟨y, he2⟩, st1.1.at fun o q => (sb.2 it (Ne.symm hne)).trans q, hne, hai, hae⟩, fun b hb => ?_⟩
    have hb0 := (hf b hb).1
    rw [upd_ne]
    · exact hb0
    · intro z
      have hl : b < s.heap.objs.size := by
        rcases List.mem_cons.mp hb with z | z
        · rw [z]; exact hel
        · obtain ⟨o, q, _⟩ := hit
          rw [List.mem_singleton.mp z]; exact Heap.lt_size q
      exact Nat.ne_of_lt hl z
  done := by
    intro X hP hw hK hc i pins s σ H E I hf st hg
    subst hP hw hK
    obtain ⟨⟨old, he⟩, hit, hne, hai, hae⟩ := st
    obtain ⟨xs, hq, hx⟩ := hg
    obtain ⟨its, rv, p, hz⟩ := I.list hq
    have hl := rv.length
    have ei : i = its.toArray.size := by rw [← hx, hl]; rfl
    subst ei
    obtain ⟨f0, f1, f2, f3, f4, f5⟩ := hf it (by simp)
    exact wpAny_pyNext_enum_endD (Draws.list (A := X.A.in1) (I.ok.hd hc) it a hai its.toArray) he ⟨hit, p.isList⟩ fun h1 eb => ⟨rfl, I.turned (t' := s.toks) (fun b o hb q => eb b o hb q) f0 f1 f3 f4 f5⟩
  self := fun A i s Q E st h => by
    obtain ⟨⟨_, he⟩, _⟩ := st
    exact wpAny_pyIter_enum he h
theorem callWith_typeK {M : Model} {env : Env} {A : Around} {E : Value → Shared → Prop} {s : Shared} {pos : Pos} {T : String} {e : Expr} {rest : List Expr} {kws : List Keyword} {Q : Value → Shared → Prop}
    (h : wpAny M A (spliced (backTo pos (starEach (e :: rest) env))) (fun vs s₁ => wpAny M A (evalAll ((backToKw pos (keywordEach kws env)).map (·.2)))
      (fun kvs s₂ => wpAny M A (call (.type T) vs (((backToKw pos (keywordEach kws env)).filterMap (·.1)).zip kvs)) Q E s₂) E s₁) E s)
    (he : backTo pos (starEach (e :: rest) env) = (false, eval e env) :: backTo pos (starEach rest env) := by rfl)
    (hplain : (backTo pos (starEach (e :: rest) env)).any (·.1) = false := by rfl)
    (hall : (backToKw pos (keywordEach kws env)).all (·.1.isSome) = true := by rfl)
    (hkw : (backToKw pos (keywordEach kws env)).any (·.1.isNone) = false := by rfl) :
    wpAny M A (callWith pos (.type T) [] (backTo pos (starEach (e :: rest) env)) (backToKw pos (keywordEach kws env))) Q E s := by
  have g : wpAny M A (evalArgs (.type T) true (backTo pos (starEach (e :: rest) env)) (backToKw pos (keywordEach kws env))) (fun a s₁ => wpAny M A (call (.type T) ([] ++ a.pos) a.kw) Q E s₁) E s := by
    rw [he] at h ⊢
    exact evalArgs_kwB hall h
  unfold callWith
  refine wpAny_bind (wpAny_holding (wpAny_mono g (fun a s₁ h₁ => wpAny_bind (wpAny_standAt ?_)) fun _ _ x => x))
  simp only [hplain, hkw, Bool.or_false]
  refine wpAny_bind (wpAny_pure ?_)
  exact wpAny_bind (wpAny_mono h₁ (fun r s₂ hr => wpAny_bind (wpAny_holding (wpAny_point (wpAny_pure hr)))) fun _ _ x => x)
def iEnK (K : PySem.W.Frag) (ta tk : TA) : TI := fun σ H R => ta σ H fun vs H1 => tk σ H1 fun zs H2 => ∃ a xs k, vs = [.ref a] ∧ zs = [.int k] ∧ SqL K H2 a xs ∧ 0 ≤ k ∧ k < 2 ^ 62 ∧ R (ItK K a k) H2
theorem pi_enK {X : Cx} {e : Expr} {kws : List Keyword} {ta tk : TA} {p pos tpos : Pos} {elts : List Expr} {kk : Nat} (hg : Gl X "enumerate") (hm : X.mg "enumerate" = none) (ha : PA X [e] ta) (hk : PK X kws tk)
    (he : backTo pos (starEach [e] X.env) = (false, eval e X.env) :: backTo pos (starEach [] X.env) := by rfl) (hpl : (backTo pos (starEach [e] X.env)).any (·.1) = false := by rfl)
    (hall : (backToKw pos (keywordEach kws X.env)).all (·.1.isSome) = true := by rfl) (hnone : (backToKw pos (keywordEach kws X.env)).any (·.1.isNone) = false := by rfl) (hks : (backToKw pos (keywordEach kws X.env)).filterMap (·.1) = [Str.ofString "start"] := by rfl) :
    PI X (.Tuple elts kk tpos) (.Call (.Name "enumerate" p) [e] kws pos) (iEnK X.K ta tk) := by
  refine ⟨fun pins s σ H R I h => ?_⟩
  refine wpAny_Call_Name_kw (ld_blt I hg hm boot_enumerate (callWith_typeK (thn (ha.run pos pins s σ H _ I h) fun us s1 ⟨vs, H1, I1, r1, q1⟩ => thn (hk.run pos pins s1 σ H1 _ I1 q1) fun ws s2 ⟨zs, H2, I2, r2, q2⟩ => ?_) he hpl hall hnone))
  rw [hks]
  obtain ⟨a, xs, k, rfl, rfl, hq, k0, k1, q⟩ := q2
  obtain _ | ⟨r, _ | _⟩ := r1
  cases r
  obtain _ | ⟨r, _ | _⟩ := r2
  obtain ⟨t, rfl⟩ := (show ∃ t, _ = Value.int k t from r)
  obtain ⟨its, rv, p', hz⟩ := I2.list hq
  have p'' : s2.heap.IsList a its.toArray := p'.isList
  have la : a < s2.heap.objs.size := by
    obtain ⟨o, y, _⟩ := p''
    exact Heap.lt_size y
  refine enum_begins_start (begins_list a its.toArray) p'' (by omega) (by omega) fun h1 he' ho _ hk' => wpAny_pyIter_enum he' ?_
  have I3 : Inv X pins σ H2 { s2 with heap := h1 } := I2.kept (t' := s2.toks) hk'
  have e0 : k + ((0 : Nat) : Int) = k := by omega
  refine ⟨s2.heap.objs.size + 1, [s2.heap.objs.size + 1, s2.heap.objs.size], _, _, H2, rfl, I3, turn_enK k a (s2.heap.objs.size + 1) s2.heap.objs.size, ⟨⟨.none, by rw [e0]; exact he'⟩, ⟨_, ho, rfl, rfl⟩, Nat.succ_ne_self _, Nat.ne_of_lt la, Nat.ne_of_lt (Nat.lt_succ_of_lt la)⟩, fun b hb => ?_, q⟩
  have hle : s2.heap.objs.size ≤ b := by
    rcases List.mem_cons.mp hb with z | z
    · rw [z]; exact Nat.le_succ _
    · rw [List.mem_singleton.mp z]; exact Nat.le_refl _
  exact I2.fpOk hle (I2.hok.fresh hle)
theorem walk_enK {K : PySem.W.Frag} {a : Addr} {k : Int} {xs : List V} : Walk (ItK K a k) xs.length (fun H => SqL K H a xs) (YPair (fun i => some (.int (k + (i : Int)))) (fun i => xs[i]?)) where
  goes := fun i H hi h => ⟨xs, _, h, List.getElem?_eq_getElem hi⟩
  stops := fun H h => ⟨xs, h, rfl⟩
  yields := fun i H v H' hi h y => by
    obtain ⟨T, x, e1, e2, e3, e4⟩ := y
    exact ⟨T, _, x, e1, e2, e3, rfl, e4 xs h⟩
end Mus

set_option maxRecDepth 100000
set_option maxHeartbeats 4000000
namespace Mus
open PySem L2 TL PySem.NumText Txt4
local macro_rules | `(tactic| walk_at "rd") => `(tactic| first
  | refine ⟨_, rfl, ?_⟩ | refine ⟨(True.intro : True), ?_⟩
  | refine ⟨_, _, rfl, rfl, (⟨by decide, by decide, by decide⟩ : CPow _ _), ?_⟩
  | refine ⟨_, _, rfl, rfl, (⟨by decide, by decide⟩ : CDiv _ _), ?_⟩
  | refine ⟨_, _, rfl, rfl, (by show (0 : Int) < _; decide), ?_⟩
  | refine ⟨_, _, rfl, rfl, ?_⟩ | refine ⟨rfl, ?_⟩ | refine iteT ?_ | refine iteF ?_ | refine ⟨_, _, rfl, ?_⟩ | refine .inl ⟨_, rfl, ?_⟩
  | refine ⟨_, _, _, _, _, rfl, (by assumption), (by assumption), (by assumption), rfl, ?_⟩ | refine ⟨_, _, _, _, rfl, rfl, SqT.of (by assumption), rfl, ?_⟩ | refine ⟨_, _, rfl, SqT.of (by assumption), rfl, ?_⟩
  | refine ⟨_, _, _, _, _, rfl, .ty _, Rp.ty (by assumption), kit_int _, ?_⟩ | refine ⟨_, _, _, _, _, rfl, .ty _, Rp.ty (by assumption), kit_bool _, ?_⟩
  | refine ⟨_, _, _, _, _, rfl, .ty _, Rp.ty (by assumption), kit_str _, ?_⟩ | refine ⟨_, _, _, _, _, rfl, .ty _, Rp.ty (by assumption), kit_tup _, ?_⟩)
local macro_rules | `(tactic| walk_at "cal") => `(tactic| first
  | refine ⟨_, _, _, _, _, rfl, (by assumption), ?_⟩ | refine ⟨_, _, _, _, _, rfl, (by assumption), (by assumption), ?_⟩)
local macro_rules | `(tactic| walk_at "sq") => `(tactic| first
  | refine ⟨_, _, rfl, Or.inr (SqT.of (by assumption)), ?_⟩ | refine ⟨_, _, _, _, rfl, rfl, SqT.of (by assumption), rfl, ?_⟩)
local macro_rules | `(tactic| walk_at "rds") => `(tactic| repeat first | walk_at "rd" | walk_at "cal" | walk_at "sq")
local macro_rules | `(tactic| walk_at "ze") => `(tactic| repeat first
  | exact zes_nil | exact ze_bl | exact ze_str | exact ze_non | apply zes_cons | apply ze_tup | apply ze_lst | apply ze_cat | exact di_c | exact di_v rfl | apply di_opC | apply di_op | apply di_neg | apply ze_i | (refine (⟨?_, ?_, ?_⟩ : CPow _ _) <;> decide) | exact Nat.le_of_ble_eq_true rfl | exact ze_varD rfl (by assumption))
local macro_rules | `(tactic| walk_at "rdz") => `(tactic| repeat (fail_if_success (first | show tLst _ _ _ _ | show tAsg (tLst _) _ _ _ _ | show tSeq (tAsg (tLst _) _) _ _ _ _)); first | walk_at "rd" | walk_at "cal" | walk_at "sq")
/-- a line behind the group line: one that is skipped, or an act's -/
inductive Row52 : Str → Option (Str × List D) → Prop
  | skip {z : Str} : (z = Str.ofString "" ∨ ∃ r, tl z = 35 :: r) → 10 ∉ tl z → z.length ≤ 100 → Row52 z none
  | act {y k : Str} {ns : List Str} {ds : List D} : tl y = lineL k ds → Items ns ds → (k, ns) ∈ kindT → y.length ≤ 100000 → Row52 y (some (k, ds))
def due52 : Int → List (Option (Str × List D)) → List D
  | _, [] => []
  | n, none :: r => due52 (n + 1) r
  | n, some (k, ds) :: r => .tup [.int n, .tup (.str k :: ds)] :: due52 (n + 1) r
theorem due52_snoc : ∀ (l : List (Option (Str × List D))) (n : Int) (o : Option (Str × List D)), due52 n (l ++ [o]) = due52 n l ++ due52 (n + (l.length : Nat)) [o]
  | [], n, o => by
    show due52 n [o] = [] ++ due52 (n + 0) [o]
    rw [Int.add_zero]; rfl
  | none :: r, n, o => by
    show due52 (n + 1) (r ++ [o]) = due52 (n + 1) r ++ due52 (n + ((r.length + 1 : Nat) : Int)) [o]
    rw [due52_snoc r (n + 1) o, show n + ((r.length + 1 : Nat) : Int) = n + 1 + (r.length : Nat) by omega]
  | some (k, ds) :: r, n, o => by
    show _ :: due52 (n + 1) (r ++ [o]) = _ :: due52 (n + 1) r ++ due52 (n + ((r.length + 1 : Nat) : Int)) [o]
    rw [due52_snoc r (n + 1) o, show n + ((r.length + 1 : Nat) : Int) = n + 1 + (r.length : Nat) by omega]; rfl
theorem due52_len : ∀ (l : List (Option (Str × List D))) (n : Int), (due52 n l).length ≤ l.length
  | [], _ => Nat.le_refl _
  | none :: r, n => Nat.le_succ_of_le (due52_len r (n + 1))
  | some (k, ds) :: r, n => Nat.succ_le_succ (due52_len r (n + 1))
theorem starts_hash {z : Str} {r : List Nat} (h : tl z = 35 :: r) : Txt.startswith z (Str.ofString "#") = true := by
  have t0 : tl (Str.ofString "#") = [35] := by decide
  have a := (at_iff (x := z) (y := Str.ofString "#") (by rw [t0]; simp) 0).mpr (by rw [t0, List.drop_zero, h]; rfl)
  unfold Txt.startswith
  rw [Bool.and_eq_true, decide_eq_true_eq]
  exact a
theorem starts_no {z : Str} {c : Nat} {r : List Nat} (h : tl z = c :: r) (hc : c ≠ 35) : Txt.startswith z (Str.ofString "#") = false ∧ z ≠ Str.ofString "" := by
  have t0 : tl (Str.ofString "#") = [35] := by decide
  refine ⟨?_, fun e => ?_⟩
  · cases hh : Txt.startswith z (Str.ofString "#") with
    | false => rfl
    | true =>
      obtain ⟨q, hq⟩ := starts_tl (by rw [t0]; simp) hh
      rw [t0, h] at hq
      exact absurd (List.cons.inj hq).1 hc
  · rw [e] at h
    have t1 : tl (Str.ofString "") = [] := by decide
    rw [t1] at h; cases h
theorem line_head {k : Str} {ds : List D} {c : Nat} {r : List Nat} (h : tl k = c :: r) : ∃ q, lineL k ds = c :: q := by
  cases ds with
  | nil => exact ⟨r, h⟩
  | cons d ds => exact ⟨_, by rw [line_cons, h]; rfl⟩
theorem join_free {s : Nat} (h32 : s ≠ 32) : ∀ ls : List (List Nat), (∀ l ∈ ls, s ∉ l) → s ∉ joinL [32] ls
  | [], _ => by simp [joinL]
  | [a], h => h a List.mem_cons_self
  | a :: b :: r, h => fun m => by
    have m : s ∈ a ++ ([32] ++ joinL [32] (b :: r)) := m
    rcases List.mem_append.mp m with m | m
    · exact h a List.mem_cons_self m
    · rcases List.mem_append.mp m with m | m
      · exact h32 (List.mem_singleton.mp m)
      · exact join_free h32 (b :: r) (fun l hl => h l (List.mem_cons_of_mem _ hl)) m
theorem pr_no10 {l : List Nat} (h : l.all prB = true) : 10 ∉ l := fun m => by
  have := List.all_eq_true.mp h 10 m
  revert this
  decide
section
variable {P : Program} {w : World} {K : PySem.W.Frag} {mg : Str → Option Value} {base : Heap} {CT CB DI AT : Addr}
abbrev s_parse_schedule : Stmt := top 36
abbrev N_parse_schedule : List Str := ["text", "group_line", "count", "acts", "number", "line", "words"]
abbrev P_parse_schedule : List Str := ["text"]
theorem sc_parse_schedule : FnScope N_parse_schedule P_parse_schedule (defScope s_parse_schedule) := ⟨rfl, rfl, rfl, by decide +kernel, rfl, by decide +kernel, by decide +kernel⟩
def sp_parse : Sp := fun vs H Q _ => ∃ (y : Str) (pre : List Str) (gl : Str) (gi : Int) (post : List (Str × Option (Str × List D))), vs = [.str y] ∧ y = Txt.join (Str.ofString "\n") (pre ++ gl :: post.map (·.1)) ∧ y.length ≤ 10000000 ∧
  (∀ z ∈ pre, Row52 z none) ∧ tl gl = lineL (Str.ofString "group") [.int gi] ∧ 0 ≤ gi ∧ gi ≤ 999999999999 ∧ (∀ x ∈ post, Row52 x.1 x.2) ∧ pre.length ≤ 10 ∧ post.length ≤ 1000 ∧
  ∀ a al us H', Same H H' → H' a = some (.tup [.int ((pre.length : Nat) + 1), .int gi, .ref al]) → H' al = some (.lst us) → Reps H' us (due52 ((pre.length : Nat) + 2) (post.map (·.2))) → Q (.ref a) H'
theorem ok_parse_schedule {f : Addr} {fd : FuncData} (T : Tb K mg CT CB) (c__read_line : DefOk P w K mg base CX0 "_read_line" P__read_line 24 (sp_rline)) (F : Fun K "parse_schedule" "parse_schedule" s_parse_schedule f fd) : FnOk P w K mg base CX0 25 f fd P_parse_schedule sp_parse := by
  have nd := sc_parse_schedule.nd
  refine F.ok sc_parse_schedule (fun vs H Q E h => ?_) (fun cdv A outer s H vs Q E hr h => ?_)
  · obtain ⟨_, _, _, _, _, rfl, _⟩ := h
    rfl
  · obtain ⟨y, pre, gl, gi, post, rfl, ey, hy, hpre, hgl, g0, g1, hpost, lpre, lpost, q⟩ := h
    have hs := sl
    refine ⟨_, (pss_cons (ps_set (i := 1) nd rfl (Or.inl rfl) pe_int)
      (pss_cons (ps_set (i := 2) nd rfl (Or.inl rfl) pe_int)
      (pss_cons (ps_set (i := 3) nd rfl (Or.inl rfl) (pe_lst pa_nil))
      (pss_cons (ps_for PassesOwn.never rfl (pi_enK (by rfl) T.b_enumerate (pa_cons (pe_m1 PySem.F.slot_str_split PySem.F.type_str_split mt_split (pv 0) pe_str) pa_nil) (pk_cons pe_int pk_nil)) (pg_tup (by rfl) (pgs_cons (pg_name (i := 4) nd rfl (Or.inl rfl)) (pgs_cons (pg_name (i := 5) nd rfl (Or.inl rfl)) pgs_nil)))
        (pss_cons (ps_if (PW.pt (pw_or (pt_cmpR op_eq (pv 5) pe_str (nomark _)) (pw_or1 (pt_val (pe_m1 PySem.F.slot_str_startswith PySem.F.type_str_startswith mt_startswith (pv 5) pe_str)))))
          (pss_one ps_continue)
          pss_nil)
        (pss_cons (ps_set (i := 6) nd rfl (Or.inl rfl) (pcall c__read_line hr (pa_cons (pv 4) (pa_cons (pv 5) (pa_cons (pe_cmpR op_eq (pv 1) pe_int (nomark _)) pa_nil)))))
        (pss_one (ps_if (pt_cmpR op_eq (pv 1) pe_int (nomark _))
          (pss_cons (ps_set (i := 1) nd rfl (Or.inl rfl) (pv 4))
          (pss_one (ps_set (i := 2) nd rfl (Or.inl rfl) (pe_ix ix_tup (pv 6) pe_int (fun _ _ => rfl)))))
          (pss_one (ps_expr (pe_bm PySem.F.plainAttrs_list PySem.F.slot_list_append PySem.F.type_list_append mt_append (pv 3) (pa_cons (pe_tup (pa_cons (pv 4) (pa_cons (pv 6) pa_nil))) pa_nil)))))))))
      (pss_cons (ps_if (pt_cmpR op_eq (pv 1) pe_int (nomark _))
        (pss_one ps_never)
        pss_nil)
      (pss_one (ps_ret (pe_tup (pa_cons (pv 1) (pa_cons (pv 2) (pa_cons (pv 3) pa_nil))))))))))), ?_⟩
    walk_at "rds"
    refine ⟨by show 0 ≤ sizeLine; omega, fun al nal => ?_⟩
    have s1 := same_new nal (.lst [])
    have hal : (upd H al (.lst [])) al = some (.lst []) := upd_same
    generalize upd H al (.lst []) = H1 at *
    walk_at "rds"
    have rows : Txt.split y (Str.ofString "\n") = pre ++ gl :: post.map (·.1) := by
      rw [ey]
      refine split_join (s := 10) (S := []) (by decide) (by decide +kernel) (by simp) fun p hp => ?_
      rcases List.mem_append.mp hp with hp | hp
      · cases hpre p hp with
        | skip _ h _ => exact h
      · rcases List.mem_cons.mp hp with rfl | hp
        · rw [hgl]
          exact pr_no10 (line_pr (ns := [Str.ofString "count"]) (by decide +kernel) (.cons (.num (by decide +kernel) g0 g1 (fun e => absurd e (by decide +kernel))) .nil))
        · obtain ⟨x, hx, rfl⟩ := List.mem_map.mp hp
          have r := hpost x hx
          revert r
          generalize x.2 = o
          intro r
          cases r with
          | skip _ h _ => exact h
          | act h1 h2 h3 _ => rw [h1]; exact pr_no10 (line_pr (kind_short h3).2.2.1 h2)
    refine ⟨⟨_, rfl⟩, y, _, rfl, rfl, by decide +kernel, by omega, fun lp nlp => ?_⟩
    rw [rows]
    obtain ⟨R, eR⟩ : ∃ R, R = pre ++ gl :: post.map (·.1) := ⟨_, rfl⟩
    rw [← eR]
    have s2 := same_new nlp (.lst (R.map V.str))
    have hlp : (upd H1 lp (.lst (R.map V.str))) lp = some (.lst (R.map V.str)) := upd_same
    have hal2 := s2 _ _ hal
    have all : al ≠ lp := ne_of_none hal nlp
    have sH := s1.trans s2
    have nlH : H lp = none := by
      cases e : H lp with
      | none => rfl
      | some o => rw [s1 _ _ e] at nlp; cases nlp
    generalize upd H1 lp (.lst (R.map V.str)) = H2 at *
    have lR : R.length = pre.length + 1 + post.length := by rw [eR, List.length_append, List.length_cons, List.length_map]; omega
    walk_at "rds"
    refine ⟨lp, _, 1, rfl, rfl, SqL.of hlp, by decide, by decide, for_it (walk_enK (K := K) (a := lp) (k := 1) (xs := R.map V.str)) (fun i σ H' => ∃ (x4 x5 x6 : Option V) (us : List V) (g c : Int), σ = [some (.str y), some (.int g), some (.int c), some (.ref al), x4, x5, x6] ∧ (i ≤ pre.length → g = 0 ∧ c = 0) ∧ (pre.length < i → g = (pre.length : Nat) + 1 ∧ c = gi) ∧ Same H H' ∧ H' lp = some (.lst (R.map V.str)) ∧ H' al = some (.lst us) ∧ Reps H' us (due52 ((pre.length : Nat) + 2) ((post.map (·.2)).take (i - (pre.length + 1))))) ?_ ?_ ?_ ?_⟩
    · exact ⟨none, none, none, [], 0, 0, rfl, fun _ => ⟨rfl, rfl⟩, fun h => by omega, sH, hlp, hal2, by rw [Nat.zero_sub]; exact .nil⟩
    · rintro i σ H' _ ⟨_, _, _, _, _, _, _, _, _, _, h, _⟩
      exact SqL.of h
    · rintro i x σ H3 H4 hi ⟨x4, x5, x6, us, g, c, rfl, lo, up, s3, hlp3, hal3, r3⟩ ⟨t, y0, z0, rfl, nt, rfl, e0, ez⟩
      cases e0
      have ez : (R.map V.str)[i]? = some z0 := ez
      rw [List.getElem?_map] at ez
      obtain ⟨z, hz, rfl⟩ := Option.map_eq_some_iff.mp ez
      have hi2 : i < R.length := (List.getElem?_eq_some_iff.mp hz).1
      have st := same_new nt (.tup [.int (1 + (i : Int)), V.str z])
      have ht : (upd H3 t (.tup [.int (1 + (i : Int)), V.str z])) t = some (.tup [.int (1 + (i : Int)), V.str z]) := upd_same
      have sH4 := s3.trans st
      have hlp4 := st _ _ hlp3
      have hal4 := st _ _ hal3
      have r4 := r3.mono (fun b xs e => st _ _ e)
      have lu := r3.length
      have ld := due52_len ((post.map (·.2)).take (i - (pre.length + 1))) ((pre.length : Nat) + 2)
      rw [List.length_take, List.length_map] at ld
      generalize upd H3 t (.tup [.int (1 + (i : Int)), V.str z]) = H4 at *
      have nal0 : ∀ b o, H b = some o → b ≠ al := fun b o h => ne_of_none h nal
      have next : ∀ x4' x5' x6', ∀ H5, Same H4 H5 → (i < pre.length ∨ ∃ j zz, i = pre.length + 1 + j ∧ (post.map (·.2))[j]? = some zz ∧ zz = none) →
          ∃ (x4 x5 x6 : Option V) (us : List V) (g' c' : Int), [some (.str y), some (.int g), some (.int c), some (.ref al), x4', x5', x6'] = [some (.str y), some (.int g'), some (.int c'), some (.ref al), x4, x5, x6] ∧ (i + 1 ≤ pre.length → g' = 0 ∧ c' = 0) ∧ (pre.length < i + 1 → g' = (pre.length : Nat) + 1 ∧ c' = gi) ∧ Same H H5 ∧ H5 lp = some (.lst (R.map V.str)) ∧ H5 al = some (.lst us) ∧ Reps H5 us (due52 ((pre.length : Nat) + 2) ((post.map (·.2)).take (i + 1 - (pre.length + 1)))) := by
        intro x4' x5' x6' H5 s5 hc
        refine ⟨_, _, _, us, g, c, rfl, fun h => lo (by omega), fun h => up ?_, sH4.trans s5, s5 _ _ hlp4, s5 _ _ hal4, ?_⟩
        · rcases hc with h' | ⟨j, _, h', _⟩ <;> omega
        · rcases hc with h' | ⟨j, zz, h', hj, rfl⟩
          · rw [show i + 1 - (pre.length + 1) = 0 by omega]
            rw [show i - (pre.length + 1) = 0 by omega] at r4
            exact r4.mono fun b xs e => s5 _ _ e
          · rw [show i + 1 - (pre.length + 1) = j + 1 by omega, take_more hj, due52_snoc]
            rw [show i - (pre.length + 1) = j by omega] at r4
            show Reps H5 us (_ ++ [])
            rw [List.append_nil]
            exact r4.mono fun b xs e => s5 _ _ e
      have row : (i < pre.length ∧ Row52 z none) ∨ (i = pre.length ∧ z = gl) ∨ ∃ j zz, i = pre.length + 1 + j ∧ (post.map (·.2))[j]? = some zz ∧ Row52 z zz := by
        rw [eR] at hz
        by_cases h1 : i < pre.length
        · rw [List.getElem?_append_left h1] at hz
          exact .inl ⟨h1, hpre z (List.mem_of_getElem? hz)⟩
        · rw [List.getElem?_append_right (by omega)] at hz
          by_cases h2 : i = pre.length
          · rw [h2, Nat.sub_self] at hz
            exact .inr (.inl ⟨h2, (Option.some.inj hz).symm⟩)
          · obtain ⟨j, hj⟩ : ∃ j, i - pre.length = j + 1 := ⟨i - pre.length - 1, by omega⟩
            rw [hj, List.getElem?_cons_succ, List.getElem?_map] at hz
            obtain ⟨x, hx, rfl⟩ := Option.map_eq_some_iff.mp hz
            exact .inr (.inr ⟨j, x.2, by omega, by rw [List.getElem?_map, hx]; rfl, hpost x (List.mem_of_getElem? hx)⟩)
      have skip : Row52 z none → z = Str.ofString "" ∨ Txt.startswith z (Str.ofString "#") = true := fun r => by
        cases r with
        | skip h1 _ _ => exact h1.imp id fun ⟨r, h⟩ => starts_hash h
      walk_at "rds"
      rcases row with ⟨h3, r3'⟩ | ⟨h3, rfl⟩ | ⟨j, zz, ej, hj, r3'⟩
      · refine iB (fun _ => next _ _ _ _ (Same.rfl' _) (.inl h3)) (fun hb => ?_)
        have hh := (skip r3').resolve_left fun e => of_decide_eq_false hb (by rw [e])
        walk_at "rds"
        refine ⟨⟨_, rfl⟩, z, _, rfl, rfl, ?_⟩
        rw [hh]
        walk_at "rds"
        exact next _ _ _ _ (Same.rfl' _) (.inl h3)
      · obtain ⟨rfl, rfl⟩ := lo (by omega)
        obtain ⟨c0, hc0⟩ := line_head (k := Str.ofString "group") (ds := [D.int gi]) (c := 103) (r := [114, 111, 117, 112]) (by decide)
        obtain ⟨n1, n2⟩ := starts_no (z := z) (by rw [hgl]; exact hc0) (by decide)
        refine dF (fun e => n2 (V.str.inj e)) ?_
        walk_at "rds"
        refine ⟨⟨_, rfl⟩, z, _, rfl, rfl, ?_⟩
        rw [n1]
        walk_at "rds"
        have lgl : z.length ≤ 100000 := by
          have hab : gi.natAbs < 10 ^ 24 := by omega
          have ln := numI_len hab
          rw [len_tl, hgl]
          show (tl (Str.ofString "group") ++ 32 :: numI gi).length ≤ 100000
          have : (tl (Str.ofString "group")).length = 5 := by decide
          rw [List.length_append, List.length_cons]; omega
        refine ⟨_, z, true, Str.ofString "group", [Str.ofString "count"], [.int gi], rfl, hgl, .cons (.num (by decide +kernel) g0 g1 (fun e => absurd e (by decide +kernel))) .nil, lgl, .inl ⟨rfl, rfl, rfl⟩, fun a us' H5 s5 ha r5 => ?_⟩
        obtain _ | ⟨r6, _ | _⟩ := r5
        cases r6
        walk_at "rds"
        refine ⟨_, _, _, us, 1 + (i : Int), gi, rfl, fun h => by omega, fun _ => ⟨by omega, rfl⟩, sH4.trans s5, s5 _ _ hlp4, s5 _ _ hal4, ?_⟩
        rw [show i + 1 - (pre.length + 1) = 0 by omega]
        rw [show i - (pre.length + 1) = 0 by omega] at r4
        exact r4.mono fun b xs e => s5 _ _ e
      · obtain ⟨rfl, rfl⟩ := up (by omega)
        cases zz with
        | none =>
          refine iB (fun _ => next _ _ _ _ (Same.rfl' _) (.inr ⟨j, none, ej, hj, rfl⟩)) (fun hb => ?_)
          have hh := (skip r3').resolve_left fun e => of_decide_eq_false hb (by rw [e])
          walk_at "rds"
          refine ⟨⟨_, rfl⟩, z, _, rfl, rfl, ?_⟩
          rw [hh]
          walk_at "rds"
          exact next _ _ _ _ (Same.rfl' _) (.inr ⟨j, none, ej, hj, rfl⟩)
        | some kd =>
          obtain ⟨k, ds⟩ := kd
          cases r3' with
          | @act _ ns _ el its hk ly =>
            obtain ⟨_, _, _, c0, q0, hc0, hc35⟩ := kind_short hk
            obtain ⟨q1, hq1⟩ := line_head (ds := ds) hc0
            obtain ⟨n1, n2⟩ := starts_no (z := z) (by rw [el]; exact hq1) hc35
            refine dF (fun e => n2 (V.str.inj e)) ?_
            walk_at "rds"
            refine ⟨⟨_, rfl⟩, z, _, rfl, rfl, ?_⟩
            rw [n1]
            walk_at "rds"
            have ng : decide (V.int ((pre.length : Nat) + 1) = V.int 0) = false := decide_eq_false fun e => by have := V.int.inj e; omega
            refine ⟨_, z, false, k, ns, ds, by show [V.int (1 + (i : Int)), V.str z, V.bl (decide (V.int ((pre.length : Nat) + 1) = V.int 0))] = _; rw [ng], el, its, ly, .inr ⟨rfl, hk⟩, fun a us' H5 s5 ha r5 => ?_⟩
            walk_at "rds"
            have hal5 := s5 _ _ hal4
            refine ⟨.inl ⟨rfl, _, SqL.of hal5⟩, ?_⟩
            walk_at "rds"
            refine ⟨by show 2 ≤ sizeLine; omega, fun t2 nt2 => ?_⟩
            have s6 := same_new nt2 (.tup [V.int (1 + (i : Int)), V.ref a])
            have ht2 : (upd H5 t2 (.tup [V.int (1 + (i : Int)), V.ref a])) t2 = some (.tup [V.int (1 + (i : Int)), V.ref a]) := upd_same
            generalize upd H5 t2 (.tup [V.int (1 + (i : Int)), V.ref a]) = H6 at *
            have hal6 := s6 _ _ hal5
            refine ⟨al, _, _, rfl, rfl, hal6, by omega, ?_⟩
            have l3 := kind_len hk
            have li := its.length
            have lr := r5.length
            have rt : Rep H6 (.ref t2) (.tup [.int (1 + (i : Int)), .tup (.str k :: ds)]) := .tup ht2 (by show 2 ≤ 100000; decide) (.cons (.int _) (.cons (.tup (s6 _ _ ha) (by rw [List.length_cons]; omega) (.cons (.str k) (r5.mono fun b xs e => s6 _ _ e))) .nil))
            have k7 : ∀ b xs, H6 b = some (HO.tup xs) → (upd H6 al (.lst (us ++ [V.ref t2]))) b = some (.tup xs) := fun b xs e => by rw [upd_ne (ne_of e hal6 (by intro z; cases z))]; exact e
            have s46 := s5.trans s6
            refine ⟨_, _, _, us ++ [.ref t2], _, _, rfl, fun h => by omega, fun _ => ⟨rfl, rfl⟩, fun b o h => by rw [upd_ne (nal0 b o h)]; exact s46 _ _ (sH4 _ _ h), by rw [upd_ne all.symm]; exact s46 _ _ hlp4, upd_same, ?_⟩
            rw [show i + 1 - (pre.length + 1) = j + 1 by omega, take_more hj, due52_snoc]
            rw [show i - (pre.length + 1) = j by omega] at r4
            have lj : ((post.map (·.2)).take j).length = j := by
              rw [List.length_take]
              have := (List.getElem?_eq_some_iff.mp hj).1
              omega
            rw [lj]
            show Reps _ _ (_ ++ [.tup [.int ((pre.length : Nat) + 2 + (j : Int)), .tup (.str k :: ds)]])
            rw [show (pre.length : Int) + 2 + (j : Int) = 1 + (i : Int) by omega]
            exact ((r4.mono fun b xs e => s46 _ _ e).mono k7).snoc (rt.mono k7)
    · rintro σ H' ⟨x4, x5, x6, us, g, c, rfl, lo, up, s3, hlp3, hal3, r3⟩
      rw [List.length_map, lR] at up r3
      obtain ⟨rfl, rfl⟩ := up (by omega)
      rw [List.take_of_length_le (by rw [List.length_map]; omega)] at r3
      walk_at "rds"
      refine ⟨by show 3 ≤ sizeLine; omega, fun a na => ?_⟩
      have st := same_new na (.tup [V.int ((pre.length : Nat) + 1), .int c, .ref al])
      exact q a al us _ (s3.trans st) upd_same (st _ _ hal3) (r3.mono fun b xs e => st _ _ e)
end
end Mus

set_option maxRecDepth 100000
set_option maxHeartbeats 4000000
namespace Mus
open PySem L2 TL PySem.NumText Txt4 RZ
local macro_rules | `(tactic| walk_at "rd") => `(tactic| first
  | refine ⟨_, rfl, ?_⟩ | refine ⟨(True.intro : True), ?_⟩
  | refine ⟨_, _, rfl, rfl, (⟨by decide, by decide, by decide⟩ : CPow _ _), ?_⟩
  | refine ⟨_, _, rfl, rfl, (⟨by decide, by decide⟩ : CDiv _ _), ?_⟩
  | refine ⟨_, _, rfl, rfl, (by show (0 : Int) < _; decide), ?_⟩
  | refine ⟨_, _, rfl, rfl, ?_⟩ | refine ⟨rfl, ?_⟩ | refine iteT ?_ | refine iteF ?_ | refine ⟨_, _, rfl, ?_⟩ | refine .inl ⟨_, rfl, ?_⟩
  | refine ⟨_, _, _, _, _, rfl, (by assumption), (by assumption), (by assumption), rfl, ?_⟩ | refine ⟨_, _, _, _, rfl, rfl, SqT.of (by assumption), rfl, ?_⟩ | refine ⟨_, _, rfl, SqT.of (by assumption), rfl, ?_⟩
  | refine ⟨_, _, _, _, _, rfl, .ty _, Rp.ty (by assumption), kit_int _, ?_⟩ | refine ⟨_, _, _, _, _, rfl, .ty _, Rp.ty (by assumption), kit_bool _, ?_⟩
  | refine ⟨_, _, _, _, _, rfl, .ty _, Rp.ty (by assumption), kit_str _, ?_⟩ | refine ⟨_, _, _, _, _, rfl, .ty _, Rp.ty (by assumption), kit_tup _, ?_⟩)
local macro_rules | `(tactic| walk_at "cal") => `(tactic| first
  | refine ⟨_, _, _, _, _, rfl, (by assumption), ?_⟩ | refine ⟨_, _, _, _, _, rfl, (by assumption), (by assumption), ?_⟩)
local macro_rules | `(tactic| walk_at "sq") => `(tactic| first
  | refine ⟨_, _, rfl, Or.inr (SqT.of (by assumption)), ?_⟩ | refine ⟨_, _, _, _, rfl, rfl, SqT.of (by assumption), rfl, ?_⟩)
local macro_rules | `(tactic| walk_at "rds") => `(tactic| repeat first | walk_at "rd" | walk_at "cal" | walk_at "sq")
local macro_rules | `(tactic| walk_at "ze") => `(tactic| repeat first
  | exact zes_nil | exact ze_bl | exact ze_str | exact ze_non | apply zes_cons | apply ze_tup | apply ze_lst | apply ze_cat | exact di_c | exact di_v rfl | apply di_opC | apply di_op | apply di_neg | apply ze_i | (refine (⟨?_, ?_, ?_⟩ : CPow _ _) <;> decide) | exact Nat.le_of_ble_eq_true rfl | exact ze_varD rfl (by assumption))
local macro_rules | `(tactic| walk_at "rdz") => `(tactic| repeat (fail_if_success (first | show tLst _ _ _ _ | show tAsg (tLst _) _ _ _ _ | show tSeq (tAsg (tLst _) _) _ _ _ _)); first | walk_at "rd" | walk_at "cal" | walk_at "sq")
theorem same_but {p : Addr} {H H1 H' : Hp} (s : Same H H1) (np : H p = none) (b : But p H1 H') : Same H H' := fun c o h => b c o (s _ _ h) (ne_of_none h np)
theorem strOk_Pr {z : Str} (h : ∀ c ∈ tl z, Pr c) : PyData.strOk z = true := by
  unfold PyData.strOk
  rw [← Array.all_toList, List.all_eq_true]
  intro c hc
  have a := (h c hc).2.1
  exact decide_eq_true (by omega)
theorem strOk_prB {z : Str} (h : (tl z).all prB = true) : PyData.strOk z = true := strOk_Pr fun c hc => prB_pr (List.all_eq_true.mp h c hc)
mutual
theorem pyD_lay : ∀ {d : D}, Txt4.ok d → (pyD d).canLay0 = true ∧ (pyD d).depth ≤ dep d
  | .int _, _ => ⟨rfl, Nat.zero_le _⟩
  | .str z, h => ⟨strOk_Pr h, Nat.zero_le _⟩
  | .tup ds, h => by
    have a := pyDs_lay (ds := ds) h
    refine ⟨a.1, ?_⟩
    show (PyData.tuple (pyDs ds)).depth ≤ deps ds + 1
    have b := a.2
    simp [PyData.depth]
    omega
theorem pyDs_lay : ∀ {ds : List D}, Txt4.oks ds → PyData.canLayAll0 (pyDs ds) = true ∧ PyData.depthAll (pyDs ds) ≤ deps ds
  | [], _ => ⟨rfl, Nat.zero_le _⟩
  | d :: ds, h => by
    have a := pyD_lay h.1
    have b := pyDs_lay h.2
    refine ⟨?_, ?_⟩
    · show PyData.canLayAll0 (pyD d :: pyDs ds) = true
      simp [PyData.canLayAll0, a.1, b.1]
    · show PyData.depthAll (pyD d :: pyDs ds) ≤ max (dep d) (deps ds)
      have := a.2
      have := b.2
      simp [PyData.depthAll]
      omega
end
theorem items_ok : ∀ {ns : List Str} {ds : List D}, Items ns ds → Txt4.oks ds ∧ deps ds ≤ 8
  | _, _, .nil => ⟨trivial, Nat.zero_le _⟩
  | _, _, @Items.cons _ d _ ds a r => by
    have k := item_len a
    have b := items_ok r
    refine ⟨⟨k.2.1, b.1⟩, ?_⟩
    show max (dep d) (deps ds) ≤ 8
    have := k.2.2.2
    have := b.2
    omega
theorem items_line : ∀ {ns : List Str} {ds : List D}, Items ns ds → (joinL [32] (ds.map enc)).length ≤ 2003 * ds.length
  | _, _, .nil => Nat.zero_le _
  | _, _, @Items.cons _ d _ ds a r => by
    have k := (item_len a).1
    have b := items_line r
    cases ds with
    | nil => show (enc d).length ≤ _; simp; omega
    | cons e es =>
      show (enc d ++ ([32] ++ joinL [32] (enc e :: es.map enc))).length ≤ _
      have b : (joinL [32] (enc e :: es.map enc)).length ≤ 2003 * (e :: es).length := b
      simp only [List.length_append, List.length_cons, List.length_nil] at b ⊢
      omega
theorem line_short {k : Str} {ns : List Str} {ds : List D} (hk : (k, ns) ∈ kindT) (h : Items ns ds) : (lineL k ds).length ≤ 6100 := by
  have k1 := (kind_short hk).1
  rw [len_tl] at k1
  have l3 := kind_len hk
  have l1 := h.length
  have b := items_line h
  cases ds with
  | nil => show (tl k).length ≤ 6100; omega
  | cons e es =>
    show (tl k ++ ([32] ++ joinL [32] ((e :: es).map enc))).length ≤ 6100
    simp only [List.length_append, List.length_cons, List.length_nil] at b l1 ⊢
    omega
/-- what is due, as data -/
theorem due_lay : ∀ (l : List (Str × Option (Str × List D))) (n : Int), (∀ x ∈ l, Row52 x.1 x.2) → PyData.canLayAll0 (pyDs (due52 n (l.map (·.2)))) = true ∧ PyData.depthAll (pyDs (due52 n (l.map (·.2)))) ≤ 12
  | [], _, _ => ⟨rfl, Nat.zero_le _⟩
  | (z, none) :: r, n, h => due_lay r (n + 1) fun x hx => h x (List.mem_cons_of_mem _ hx)
  | (z, some (k, ds)) :: r, n, h => by
    have b := due_lay r (n + 1) fun x hx => h x (List.mem_cons_of_mem _ hx)
    have a := h _ List.mem_cons_self
    cases a with
    | act _ its hk _ =>
      have ok := items_ok its
      have k1 := kind_short hk
      have ok2 : Txt4.oks [D.int n, D.tup (D.str k :: ds)] → True := fun _ => trivial
      have ly := pyDs_lay ok.1
      have sk := strOk_prB k1.2.2.1
      have e : pyDs (due52 n (((z, some (k, ds)) :: r).map (·.2))) = PyData.tuple [.int n, .tuple (.str k :: pyDs ds)] :: pyDs (due52 (n + 1) (r.map (·.2))) := rfl
      rw [e]
      have d1 := ly.2
      have d2 := ok.2
      have d3 := b.2
      refine ⟨by simp [PyData.canLayAll0, PyData.canLay0, sk, ly.1, b.1], ?_⟩
      simp [PyData.depthAll, PyData.depth]
      omega
theorem due_shaped {l : List (Str × Option (Str × List D))} {n : Int} (h : ∀ x ∈ l, Row52 x.1 x.2) : SeqAt.shaped (.list (pyDs (due52 n (l.map (·.2))))) = true ∧ PyData.eqv (.list (pyDs (due52 n (l.map (·.2))))) (.list (pyDs (due52 n (l.map (·.2))))) = true := by
  have a := due_lay l n h
  refine ⟨?_, SeqAt.eqv_refl _ (by simp [PyData.canLay0, a.1])⟩
  unfold SeqAt.shaped
  rw [Bool.and_eq_true, decide_eq_true_eq]
  refine ⟨by simp [PyData.canLay0, a.1], ?_⟩
  have := a.2
  simp [PyData.depth]
  omega
theorem due_mem : ∀ {l : List (Option (Str × List D))} {n : Int} {d : D}, d ∈ due52 n l → ∃ m k ds, d = .tup [.int m, .tup (.str k :: ds)]
  | none :: r, n, d, h => due_mem (l := r) (n := n + 1) h
  | some (k, ds) :: r, n, d, h => by
    rcases List.mem_cons.mp (show d ∈ D.tup [.int n, .tup (.str k :: ds)] :: due52 (n + 1) r from h) with h | h
    · exact ⟨_, _, _, h⟩
    · exact due_mem h
theorem joinL_len (s : Nat) : ∀ l : List (List Nat), (joinL [s] l).length ≤ (l.map List.length).sum + l.length
  | [] => Nat.zero_le _
  | [a] => by show a.length ≤ _; simp
  | a :: b :: r => by
    have h := joinL_len s (b :: r)
    show (a ++ ([s] ++ joinL [s] (b :: r))).length ≤ _
    simp only [List.length_append, List.length_cons, List.length_nil, List.map_cons, List.sum_cons] at h ⊢
    omega
theorem join_len {q : Str} (h : q.length = 1) (l : List Str) : (Txt.join q l).length ≤ (l.map (·.length)).sum + l.length := by
  have k := StrLaws.join_length_le q l
  rw [h, Nat.mul_one] at k
  rw [join_eq]
  exact k
mutual
theorem Rep.dp {K : PySem.W.Frag} {H : Hp} : ∀ {v : V} {d : D}, Rep H v d → Dp K H v (pyD d)
  | _, _, .int i => .int i
  | _, _, .str z => .str z
  | _, _, .tup h _ r => .tup (SqT.of h) (Reps.dp r)
theorem Reps.dp {K : PySem.W.Frag} {H : Hp} : ∀ {vs : List V} {ds : List D}, Reps H vs ds → DpAll K H vs (pyDs ds)
  | _, _, .nil => .nil
  | _, _, .cons a r => .cons (Rep.dp a) (Reps.dp r)
end
theorem sum_le {n : Nat} : ∀ {l : List Str}, (∀ z ∈ l, z.length ≤ n) → (l.map (·.length)).sum ≤ n * l.length
  | [], _ => Nat.zero_le _
  | z :: l, h => by
    have a := h z List.mem_cons_self
    have b := sum_le (l := l) fun y hy => h y (List.mem_cons_of_mem _ hy)
    rw [List.map_cons, List.sum_cons, List.length_cons, Nat.mul_add]; omega
section
variable {P : Program} {w : World} {K : PySem.W.Frag} {mg : Str → Option Value} {base : Heap} {CT CB DI AT : Addr}
abbrev s_law : Stmt := top 54
abbrev N_law : List Str := ["script", "first", "count", "rows", "k", "at", "due", "bag", "act", "line", "actual", "told"]
abbrev P_law : List Str := ["script"]
theorem sc_law : FnScope N_law P_law (defScope s_law) := ⟨rfl, rfl, rfl, by decide +kernel, rfl, by decide +kernel, by decide +kernel⟩
def sp_law (K : PySem.W.Frag) : Sp := fun vs H Q _ => ∃ (a : Addr) (ns : List Int), vs = [.ref a] ∧ SqL K H a (ns.map V.int) ∧ ns.length ≤ 63 ∧ ∀ H', Q (.bl true) H'
theorem ok_law {f : Addr} {fd : FuncData} (T : Tb K mg CT CB) (c__law_bag : DefOk P w K mg base CX0 "_law_bag" P__law_bag 1 (sp_bag K)) (c__law_draw : DefOk P w K mg base CX0 "_law_draw" P__law_draw 1 (sp_draw)) (c__law_number : DefOk P w K mg base CX0 "_law_number" P__law_number 2 (sp_lnum)) (c__law_skipped : DefOk P w K mg base CX0 "_law_skipped" P__law_skipped 2 (sp_lskip)) (c__law_act : DefOk P w K mg base CX0 "_law_act" P__law_act 3 (sp_lact)) (c__law_line : DefOk P w K mg base CX0 "_law_line" P__law_line 22 (sp_aline)) (c_act_line : DefOk P w K mg base CX0 "act_line" P_act_line 23 (sp_aline)) (c_check_act : DefOk P w K mg base CX0 "check_act" P_check_act 3 (sp_chka)) (c_parse_schedule : DefOk P w K mg base CX0 "parse_schedule" P_parse_schedule 25 (sp_parse)) (F : Fun K "law" "law" s_law f fd) : FnOk P w K mg base CX0 26 f fd P_law (sp_law K) := by
  have nd := sc_law.nd
  refine F.ok sc_law (fun vs H Q E h => ?_) (fun cdv A outer s H vs Q E hr h => ?_)
  · obtain ⟨_, _, rfl, _⟩ := h
    rfl
  · obtain ⟨a, ns, rfl, ha, hn, q⟩ := h
    have hu := hu_of hr
    have hs := sl
    refine ⟨_, (pss_cons (ps_set (i := 1) nd rfl (Or.inl rfl) (pcall c__law_bag hr (pa_cons (pv 0) (pa_cons pe_int pa_nil))))
      (pss_cons (ps_set (i := 2) nd rfl (Or.inl rfl) (pcall c__law_number hr (pa_cons (pv 1) pa_nil)))
      (pss_cons (ps_set (i := 3) nd rfl (Or.inl rfl) (pe_lst pa_nil))
      (pss_cons (ps_for PassesOwn.never rfl (pi_range1 (by rfl) T.b_range (pa_cons (pcall c__law_draw hr (pa_cons (pv 1) (pa_cons pe_int pa_nil))) pa_nil)) (pg_name (i := 4) nd rfl (Or.inl rfl))
        (pss_one (ps_expr (pe_bm PySem.F.plainAttrs_list PySem.F.slot_list_append PySem.F.type_list_append mt_append (pv 3) (pa_cons (pcall c__law_skipped hr (pa_cons (pv 1) pa_nil)) pa_nil)))))
      (pss_cons (ps_expr (pe_bm PySem.F.plainAttrs_list PySem.F.slot_list_append PySem.F.type_list_append mt_append (pv 3) (pa_cons (pe_op op_add_str pe_str (pe_callTy call_str_int (by rfl) T.b_str (by decide +kernel) (pa_cons (pv 2) pa_nil))) pa_nil)))
      (pss_cons (ps_set (i := 5) nd rfl (Or.inl rfl) (pe_callB call_len_seq (by rfl) T.b_len (by decide +kernel) (pa_cons (pv 3) pa_nil)))
      (pss_cons (ps_set (i := 6) nd rfl (Or.inl rfl) (pe_lst pa_nil))
      (pss_cons (ps_for PassesOwn.never rfl (pi_range2 (by rfl) T.b_range (pa_cons pe_int (pa_cons (pe_callB call_len_seq (by rfl) T.b_len (by decide +kernel) (pa_cons (pv 0) pa_nil)) pa_nil))) (pg_name (i := 4) nd rfl (Or.inl rfl))
        (pss_cons (ps_set (i := 7) nd rfl (Or.inl rfl) (pcall c__law_bag hr (pa_cons (pv 0) (pa_cons (pv 4) pa_nil))))
        (C8.pss_cut (ps_if (pt_cmpR op_eq (pcall c__law_draw hr (pa_cons (pv 7) (pa_cons pe_int pa_nil))) pe_int (nomark _))
          (pss_one (ps_expr (pe_bm PySem.F.plainAttrs_list PySem.F.slot_list_append PySem.F.type_list_append mt_append (pv 3) (pa_cons (pcall c__law_skipped hr (pa_cons (pv 7) pa_nil)) pa_nil))))
          pss_nil)
        (pss_cons (ps_set (i := 8) nd rfl (Or.inl rfl) (pcall c__law_act hr (pa_cons (pv 7) pa_nil)))
        (pss_cons (ps_set (i := 9) nd rfl (Or.inl rfl) (pcall c_act_line hr (pa_cons (pv 8) pa_nil)))
        (pss_cons (ps_if (PW.pt (pw_or (pt_not (pt_val (pe_callB call_isi (by rfl) T.b_isinstance (by decide +kernel) (pa_cons (pv 9) (pa_cons (pe_ty "str" T.b_str) pa_nil))))) (pw_or (pt_cmpR op_ne (pv 9) (pcall c__law_line hr (pa_cons (pv 8) pa_nil)) (nomark _)) (pw_or1 (pt_cmpR op_notN (pcall c_check_act hr (pa_cons (pv 8) pa_nil)) pe_non (nomark _))))))
          (pss_one (ps_ret pe_bl))
          pss_nil)
        (pss_cons (ps_expr (pe_bm PySem.F.plainAttrs_list PySem.F.slot_list_append PySem.F.type_list_append mt_append (pv 3) (pa_cons (pv 9) pa_nil)))
        (pss_one (ps_expr (pe_bm PySem.F.plainAttrs_list PySem.F.slot_list_append PySem.F.type_list_append mt_append (pv 6) (pa_cons (pe_tup (pa_cons (pe_callB call_len_seq (by rfl) T.b_len (by decide +kernel) (pa_cons (pv 3) pa_nil)) (pa_cons (pv 8) pa_nil))) pa_nil)))))))))))
      (pss_cons (ps_set (i := 10) nd rfl (Or.inl rfl) (pcall c_parse_schedule hr (pa_cons (pe_join pe_str (pv 3)) pa_nil)))
      (pss_cons (ps_if (PW.pt (pw_or (pt_not (pt_val (pe_callB call_isi (by rfl) T.b_isinstance (by decide +kernel) (pa_cons (pv 10) (pa_cons (pe_ty "tuple" T.b_tuple) pa_nil))))) (pw_or (pt_cmpR op_ne (pe_callB call_len_seq (by rfl) T.b_len (by decide +kernel) (pa_cons (pv 10) pa_nil)) pe_int (nomark _)) (pw_or1 (pt_cmpR (op_neD hr.units) (pe_slice sl_tupA (pv 10) po_none (po_some pe_int)) (pe_tup (pa_cons (pv 5) (pa_cons (pv 2) pa_nil))) (nomark _))))))
        (pss_one (ps_ret pe_bl))
        pss_nil)
      (pss_cons (ps_if (pt_not (pt_val (pe_callB call_isi (by rfl) T.b_isinstance (by decide +kernel) (pa_cons (pe_ix ix_tup (pv 10) pe_int (fun _ _ => rfl)) (pa_cons (pe_ty "list" T.b_list) pa_nil)))))
        (pss_one (ps_ret pe_bl))
        pss_nil)
      (pss_cons (ps_for PassesOwn.never rfl (pi_list (pe_ix ix_tup (pv 10) pe_int (fun _ _ => rfl))) (pg_name (i := 11) nd rfl (Or.inl rfl))
        (pss_one (ps_if (PW.pt (pw_or (pt_not (pt_val (pe_callB call_isi (by rfl) T.b_isinstance (by decide +kernel) (pa_cons (pv 11) (pa_cons (pe_ty "tuple" T.b_tuple) pa_nil))))) (pw_or1 (pt_not (pt_val (pe_callB call_isi (by rfl) T.b_isinstance (by decide +kernel) (pa_cons (pe_ix ix_tup (pv 11) pe_int (fun _ _ => rfl)) (pa_cons (pe_ty "tuple" T.b_tuple) pa_nil))))))))
          (pss_one (ps_ret pe_bl))
          pss_nil)))
      (pss_one (ps_ret (pe_cmpR (op_eqD hr.units) (pe_ix ix_tup (pv 10) pe_int (fun _ _ => rfl)) (pv 6) (nomark _)))))))))))))))), ?_⟩
    refine ⟨_, rfl, a, ns, 0, rfl, ha, fun p H1 np s1 g1 => ?_⟩
    walk_at "rds"
    refine ⟨p, _, rfl, g1, fun cn H2 c0 c1 b2 g2 => ?_⟩
    walk_at "rds"
    have s2 := same_but s1 np b2
    refine ⟨by show 0 ≤ sizeLine; omega, fun R nR => ?_⟩
    have s3 := s2.trans (same_new nR (.lst []))
    have hR : (upd H2 R (.lst [])) R = some (.lst []) := upd_same
    have pR := g2.ne nR
    have g3 := g2.new (o := .lst []) nR
    have RH : H R = none := by
      cases e : H R with
      | none => rfl
      | some o => rw [s2 _ _ e] at nR; cases nR
    generalize upd H2 R (.lst []) = H3 at *
    walk_at "rds"
    refine ⟨p, _, _, rfl, g3, by decide, by decide, fun m H4 m0 m1 b4 g4 => ?_⟩
    have s4 := same_but s3 np b4
    have hR4 := b4 R _ hR pR.symm
    walk_at "rds"
    refine ⟨by omega, by omega, ?_⟩
    refine for_range (lo := 0) (n := m.toNat) (fun i σ H' => ∃ (x4 : Option V) (zs : List Str), σ = [some (.ref a), some (.ref p), some (.int cn), some (.ref R), x4, none, none, none, none, none, none, none] ∧ H' R = some (.lst (zs.map V.str)) ∧ zs.length = i ∧ (∀ z ∈ zs, SkipOk z) ∧ Same H H' ∧ Bag p 0 H') ?_ ?_ ?_
    · exact ⟨none, [], rfl, hR4, rfl, fun z h => absurd h List.not_mem_nil, s4, g4⟩
    · rintro i σ H5 hi ⟨x4, zs, rfl, hR5, lz, wz, s5, g5⟩
      walk_at "rds"
      refine ⟨.inl ⟨rfl, _, SqL.of hR5⟩, ?_⟩
      refine ⟨_, rfl, p, _, rfl, g5, fun z H6 hz b6 g6 => ?_⟩
      have s6 := same_but s5 np b6
      have hR6 := b6 R _ hR5 pR.symm
      refine ⟨R, _, _, rfl, rfl, hR6, by rw [List.length_map]; omega, ?_⟩
      refine ⟨_, zs ++ [z], rfl, by rw [upd_same, List.map_append]; rfl, by rw [List.length_append, lz]; rfl, fun y hy => ?_, fun c o h => by rw [upd_ne (ne_of_none h RH)]; exact s6 _ _ h, g6.upd pR⟩
      rcases List.mem_append.mp hy with hy | hy
      · exact wz y hy
      · rw [List.mem_singleton.mp hy]; exact hz
    · rintro σ H5 ⟨x4, zs, rfl, hR5, lz, wz, s5, g5⟩
      walk_at "rds"
      refine ⟨.inl ⟨rfl, _, SqL.of hR5⟩, ?_⟩
      have ecn := tl_int cn
      have hab : cn.natAbs < 10 ^ 24 := by omega
      have lcn := numI_len hab
      have lc2 : (Str.ofString (toString cn)).length ≤ 26 := by rw [len_tl, ecn]; exact Nat.le_trans lcn (by omega)
      have lg : (Str.ofString "group ").length = 6 := by decide
      walk_at "rds"
      refine ⟨log_small (by omega), ?_⟩
      refine ⟨_, _, rfl, rfl, by omega, ?_⟩
      refine ⟨R, _, _, rfl, rfl, hR5, by rw [List.length_map]; omega, ?_⟩
      obtain ⟨gl, egl⟩ : ∃ gl, gl = Str.ofString "group " ++ Str.ofString (toString cn) := ⟨_, rfl⟩
      rw [← egl]
      have tgl : tl gl = lineL (Str.ofString "group") [.int cn] := by
        rw [egl, tl_append, ecn]
        have e1 : tl (Str.ofString "group ") = tl (Str.ofString "group") ++ [32] := by decide
        rw [e1, List.append_assoc]; rfl
      have lgl : gl.length ≤ 100 := by rw [egl, len_tl, tl_append, List.length_append, ← len_tl, ← len_tl]; omega
      have hR6 : (upd H5 R (.lst (zs.map V.str ++ [V.str gl]))) R = some (.lst ((zs ++ [gl]).map V.str)) := by rw [upd_same, List.map_append]; rfl
      have s6 : Same H (upd H5 R (.lst (zs.map V.str ++ [V.str gl]))) := fun c o h => by rw [upd_ne (ne_of_none h RH)]; exact s5 _ _ h
      generalize upd H5 R (.lst (zs.map V.str ++ [V.str gl])) = H6 at *
      walk_at "rds"
      refine ⟨R, _, rfl, .inl (SqL.of hR6), ?_⟩
      have eat : (((zs ++ [gl]).map V.str).length : Int) = (zs.length : Int) + 1 := by rw [List.length_map, List.length_append, List.length_singleton]; omega
      rw [eat]
      walk_at "rds"
      refine ⟨by show 0 ≤ sizeLine; omega, fun L nL => ?_⟩
      have s7 := s6.trans (same_new nL (.lst []))
      have hL : (upd H6 L (.lst [])) L = some (.lst []) := upd_same
      have RL : R ≠ L := ne_of_none hR6 nL
      have hR7 : (upd H6 L (.lst [])) R = some (.lst ((zs ++ [gl]).map V.str)) := by rw [upd_ne RL]; exact hR6
      have LH : H L = none := by
        cases e : H L with
        | none => rfl
        | some o => rw [s6 _ _ e] at nL; cases nL
      generalize upd H6 L (.lst []) = H7 at *
      walk_at "rds"
      refine ⟨a, _, rfl, .inl (s7.seq ha), ?_⟩
      have eln : (ns.map V.int).length = ns.length := List.length_map _
      walk_at "rds"
      refine ⟨⟨by omega, by omega, by omega, by omega⟩, ?_⟩
      refine for_range (lo := 1) (n := (((ns.map V.int).length : Int) - 1).toNat) (fun i σ H' => ∃ (x4 x7 x8 x9 : Option V) (post : List (Str × Option (Str × List D))) (us : List V), σ = [some (.ref a), some (.ref p), some (.int cn), some (.ref R), x4, some (.int ((zs.length : Int) + 1)), some (.ref L), x7, x8, x9, none, none] ∧ H' R = some (.lst ((zs ++ gl :: post.map (·.1)).map V.str)) ∧ H' L = some (.lst us) ∧ Reps H' us (due52 ((zs.length : Nat) + 2) (post.map (·.2))) ∧ (∀ x ∈ post, Row52 x.1 x.2 ∧ x.1.length ≤ 6100) ∧ post.length ≤ 2 * i ∧ Same H H') ?_ ?_ ?_
      · exact ⟨_, none, none, none, [], [], rfl, hR7, hL, .nil, fun x h => absurd h List.not_mem_nil, Nat.le_refl _, s7⟩
      · rintro i σ H8 hi ⟨x4, x7, x8, x9, post, us, rfl, hR8, hL8, r8, w8, l8, s8⟩
        have hi63 : i < 63 := by omega
        have lu8 := r8.length
        have ld8 := due52_len (post.map (·.2)) ((zs.length : Nat) + 2)
        rw [List.length_map] at ld8
        refine ⟨_, rfl, _, rfl, a, ns, 1 + i, by show [V.ref a, V.int (1 + (i : Int))] = [V.ref a, V.int ((1 + i : Nat) : Int)]; rw [Int.natCast_add]; rfl, s8.seq ha, fun p2 H9 np2 s9 g9 => ?_⟩
        have hR9 := s9 _ _ hR8
        have hL9 := s9 _ _ hL8
        have r9 := r8.mono fun b xs e => s9 _ _ e
        have pR2 : p2 ≠ R := (ne_of_none hR8 np2).symm
        have pL2 : p2 ≠ L := (ne_of_none hL8 np2).symm
        have np0 : H p2 = none := by
          cases e : H p2 with
          | none => rfl
          | some o => rw [s8 _ _ e] at np2; cases np2
        have s09 := s8.trans s9
        clear hR8 hL8 r8 s8 s9 np2 H8
        refine ⟨fun σ' H' => ∃ (post' : List (Str × Option (Str × List D))), σ' = [some (.ref a), some (.ref p), some (.int cn), some (.ref R), some (.int (1 + (i : Int))), some (.int ((zs.length : Int) + 1)), some (.ref L), some (.ref p2), x8, x9, none, none] ∧ H' R = some (.lst ((zs ++ gl :: post'.map (·.1)).map V.str)) ∧ H' L = some (.lst us) ∧ Reps H' us (due52 ((zs.length : Nat) + 2) (post'.map (·.2))) ∧ (∀ x ∈ post', Row52 x.1 x.2 ∧ x.1.length ≤ 6100) ∧ post'.length ≤ 2 * i + 1 ∧ Same H H' ∧ Bag p2 ((1 + i : Nat) : Int) H', ?_, ?_⟩
        · refine ⟨_, rfl, p2, _, _, rfl, g9, by decide, by decide, fun m2 H10 m20 m21 b10 g10 => ?_⟩
          have hR10 := b10 _ _ hR9 pR2.symm
          have hL10 := b10 _ _ hL9 pL2.symm
          have r10 := r9.mono (tupK g9 b10)
          have s10 := same_but s09 np0 b10
          walk_at "rds"
          refine iB (fun _ => ?_) (fun _ => ⟨post, rfl, hR10, hL10, r10, w8, by omega, s10, g10⟩)
          walk_at "rds"
          refine ⟨.inl ⟨rfl, _, SqL.of hR10⟩, ?_⟩
          walk_at "rds"
          refine ⟨p2, _, rfl, g10, fun z H11 hz b11 g11 => ?_⟩
          have hR11 := b11 _ _ hR10 pR2.symm
          have hL11 := b11 _ _ hL10 pL2.symm
          have r11 := r10.mono (tupK g10 b11)
          have s11 := same_but s10 np0 b11
          refine ⟨R, _, _, rfl, rfl, hR11, by rw [List.length_map, List.length_append, List.length_cons, List.length_map]; omega, ?_⟩
          refine ⟨post ++ [(z, none)], rfl, ?_, by rw [upd_ne RL.symm]; exact hL11, ?_, fun x hx => ?_, by rw [List.length_append, List.length_singleton]; omega, fun c o h => by rw [upd_ne (ne_of_none h RH)]; exact s11 _ _ h, g11.upd pR2⟩
          · rw [upd_same]
            simp only [List.map_append, List.map_cons, List.map_nil, List.append_assoc, List.cons_append, List.nil_append]
          · have ed : (post ++ [(z, (none : Option (Str × List D)))]).map (·.2) = post.map (·.2) ++ [none] := by rw [List.map_append]; rfl
            rw [ed, due52_snoc]
            show Reps _ us (_ ++ [])
            rw [List.append_nil]
            exact r11.mono fun b xs e => by rw [upd_ne (ne_of e hR11 (by intro z; cases z))]; exact e
          · rcases List.mem_append.mp hx with hx | hx
            · exact w8 x hx
            · rw [List.mem_singleton.mp hx]; exact ⟨.skip hz.1 hz.2.1 hz.2.2, Nat.le_trans hz.2.2 (by decide)⟩
        · clear hR9 hL9 r9 w8 l8 s09 g9 lu8 ld8 post H9
          rintro σ' H9 ⟨post, rfl, hR9, hL9, r9, w8, l8, s9, g9⟩
          have lu8 := r9.length
          have ld8 := due52_len (post.map (·.2)) ((zs.length : Nat) + 2)
          rw [List.length_map] at ld8
          walk_at "rds"
          refine ⟨p2, _, rfl, g9, fun aa k vs ks ds H10 A10 b10 => ?_⟩
          have hR10 := b10 _ _ hR9 pR2.symm
          have hL10 := b10 _ _ hL9 pL2.symm
          have r10 := r9.mono (tupK g9 b10)
          have s10 := same_but s9 np0 b10
          walk_at "rds"
          intro y H11 ey s11
          have A11 := A10.same s11
          have hR11 := s11 _ _ hR10
          have hL11 := s11 _ _ hL10
          have r11 := r10.mono fun b xs e => s11 _ _ e
          have s11H := s10.trans s11
          clear hR10 hL10 r10 s10 A10
          walk_at "rds"
          refine ⟨_, _, _, _, true, rfl, .ty _, .base (.str y), kit_ty (by decide +kernel), ?_⟩
          walk_at "rds"
          intro y2 H12 ey2 s12
          have A12 := A11.same s12
          obtain rfl : y2 = y := ext_tl (ey2.trans ey.symm)
          have hR12 := s12 _ _ hR11
          have hL12 := s12 _ _ hL11
          have r12 := r11.mono fun b xs e => s12 _ _ e
          have s12H := s11H.trans s12
          clear hR11 hL11 r11 s11H A11 ey2
          walk_at "rds"
          refine nF rfl ?_
          walk_at "rds"
          intro H13 s13
          have A13 := A12.same s13
          have hR13 := s13 _ _ hR12
          have hL13 := s13 _ _ hL12
          have r13 := r12.mono fun b xs e => s13 _ _ e
          have s13H := s12H.trans s13
          clear hR12 hL12 r12 s12H A12
          walk_at "rds"
          refine ⟨.inl ⟨rfl, _, SqL.of hR13⟩, ?_⟩
          walk_at "rds"
          refine ⟨R, _, _, rfl, rfl, hR13, by rw [List.length_map, List.length_append, List.length_cons, List.length_map]; omega, ?_⟩
          have hR14 : (upd H13 R (.lst ((zs ++ gl :: post.map (·.1)).map V.str ++ [V.str y2]))) R = some (.lst ((zs ++ gl :: (post ++ [(y2, some (k, ds))]).map (·.1)).map V.str)) := by
            rw [upd_same]
            simp only [List.map_append, List.map_cons, List.map_nil, List.append_assoc, List.cons_append, List.nil_append]
          have hL14 : (upd H13 R (.lst ((zs ++ gl :: post.map (·.1)).map V.str ++ [V.str y2]))) L = some (.lst us) := by rw [upd_ne RL.symm]; exact hL13
          have k14 : ∀ b xs, H13 b = some (HO.tup xs) → (upd H13 R (.lst ((zs ++ gl :: post.map (·.1)).map V.str ++ [V.str y2]))) b = some (.tup xs) := fun b xs e => by rw [upd_ne (ne_of e hR13 (by intro z; cases z))]; exact e
          have r14 := r13.mono k14
          have A14 : ActAt _ aa k vs ks ds := ⟨k14 _ _ A13.at_, A13.reps.mono k14, A13.kind, A13.items⟩
          have s14 : Same H (upd H13 R (.lst ((zs ++ gl :: post.map (·.1)).map V.str ++ [V.str y2]))) := fun c o h => by rw [upd_ne (ne_of_none h RH)]; exact s13H _ _ h
          generalize upd H13 R (.lst ((zs ++ gl :: post.map (·.1)).map V.str ++ [V.str y2])) = H14 at *
          clear hR13 hL13 r13 s13H A13 k14
          walk_at "rds"
          refine ⟨.inl ⟨rfl, _, SqL.of hL14⟩, ?_⟩
          walk_at "rds"
          refine ⟨R, _, rfl, .inl (SqL.of hR14), ?_⟩
          have el14 : (((zs ++ gl :: (post ++ [(y2, some (k, ds))]).map (·.1)).map V.str).length : Int) = (zs.length : Nat) + 2 + (post.length : Nat) := by
            simp only [List.length_map, List.length_append, List.length_cons, List.length_nil]; omega
          rw [el14]
          walk_at "rds"
          refine ⟨by show 2 ≤ sizeLine; omega, fun t nt => ?_⟩
          have st := same_new nt (.tup [V.int ((zs.length : Nat) + 2 + (post.length : Nat)), .ref aa])
          have ht : (upd H14 t (.tup [V.int ((zs.length : Nat) + 2 + (post.length : Nat)), .ref aa])) t = some (.tup [V.int ((zs.length : Nat) + 2 + (post.length : Nat)), .ref aa]) := upd_same
          have hR15 := st _ _ hR14
          have hL15 := st _ _ hL14
          have r15 := r14.mono fun b xs e => st _ _ e
          have A15 := A14.same st
          have s15 := s14.trans st
          generalize upd H14 t (.tup [V.int ((zs.length : Nat) + 2 + (post.length : Nat)), .ref aa]) = H15 at *
          refine ⟨L, _, _, rfl, rfl, hL15, by omega, ?_⟩
          have k16 : ∀ b xs, H15 b = some (HO.tup xs) → (upd H15 L (.lst (us ++ [V.ref t]))) b = some (.tup xs) := fun b xs e => by rw [upd_ne (ne_of e hL15 (by intro z; cases z))]; exact e
          have li := A15.items.length
          have lr := A15.reps.length
          have lk := kind_len A15.kind
          have rt : Rep H15 (.ref t) (.tup [.int ((zs.length : Nat) + 2 + (post.length : Nat)), .tup (.str k :: ds)]) := .tup ht (by show 2 ≤ 100000; decide) (.cons (.int _) (.cons (.tup A15.at_ (by rw [List.length_cons]; omega) (.cons (.str k) A15.reps)) .nil))
          have ed : (post ++ [(y2, some (k, ds))]).map (·.2) = post.map (·.2) ++ [some (k, ds)] := by rw [List.map_append]; rfl
          have ly : y2.length ≤ 6100 := by rw [len_tl, ey]; exact line_short A15.kind A15.items
          refine ⟨_, _, _, _, post ++ [(y2, some (k, ds))], us ++ [.ref t], rfl, by rw [upd_ne RL]; exact hR15, upd_same, ?_, fun x hx => ?_, by rw [List.length_append, List.length_singleton]; omega, fun c o h => by rw [upd_ne (ne_of_none h LH)]; exact s15 _ _ h⟩
          · rw [ed, due52_snoc, List.length_map]
            exact (r15.mono k16).snoc (rt.mono k16)
          · rcases List.mem_append.mp hx with hx | hx
            · exact w8 x hx
            · rw [List.mem_singleton.mp hx]; exact ⟨.act ey A15.items A15.kind (Nat.le_trans ly (by decide)), ly⟩
      · rintro σ H8 ⟨x4, x7, x8, x9, post, us, rfl, hR8, hL8, r8, w8, l8, s8⟩
        obtain ⟨rows, er⟩ : ∃ rows, rows = zs ++ gl :: post.map (·.1) := ⟨_, rfl⟩
        rw [← er] at hR8
        have l63 : post.length ≤ 126 := by omega
        have lrow : rows.length = zs.length + 1 + post.length := by rw [er, List.length_append, List.length_cons, List.length_map]; omega
        have lsum : (rows.map (·.length)).sum ≤ 6100 * rows.length := by
          refine sum_le fun z hz => ?_
          rw [er] at hz
          rcases List.mem_append.mp hz with hz | hz
          · exact Nat.le_trans (wz z hz).2.2 (by decide)
          · rcases List.mem_cons.mp hz with rfl | hz
            · omega
            · obtain ⟨x, hx, rfl⟩ := List.mem_map.mp hz
              exact (w8 x hx).2
        have l1 : (Str.ofString "\n").length = 1 := by decide
        refine ⟨⟨_, rfl⟩, _, rfl, _, R, rows, rfl, rfl, .inl (SqL.of hR8), by rw [l1]; omega, ?_⟩
        refine ⟨_, zs, gl, cn, post, rfl, by rw [er], ?_, fun z hz => .skip (wz z hz).1 (wz z hz).2.1 (wz z hz).2.2, tgl, c0, c1, fun x hx => (w8 x hx).1, by omega, by omega, fun aa al us2 H9 s9 ha9 hal9 r9 => ?_⟩
        · exact Nat.le_trans (join_len l1 rows) (by omega)
        · have s90 := s9
          have hL9 := s9 _ _ hL8
          have r89 := r8.mono fun b xs e => s9 _ _ e
          walk_at "rds"
          refine ⟨_, _, _, _, true, rfl, .ty _, .base (.tup ha9), kit_ty (by decide +kernel), ?_⟩
          walk_at "rds"
          refine ⟨aa, _, rfl, SqT.of ha9, fun z => absurd z.2 (by show ¬ HT.sIx 3 3 (some 2) = 3; decide), fun _ t nt => ?_⟩
          have ec : cutV [V.int ((zs.length : Nat) + 1), .int cn, .ref al] none (some 2) = [V.int ((zs.length : Nat) + 1), .int cn] := rfl
          rw [ec]
          have st := same_new nt (.tup [V.int ((zs.length : Nat) + 1), .int cn])
          have ht : (upd H9 t (.tup [V.int ((zs.length : Nat) + 1), .int cn])) t = some (.tup [V.int ((zs.length : Nat) + 1), .int cn]) := upd_same
          have ha10 := st _ _ ha9
          have hal10 := st _ _ hal9
          have hL10 := st _ _ hL9
          have r10 := r9.mono fun b xs e => st _ _ e
          have q10 := r89.mono fun b xs e => st _ _ e
          generalize upd H9 t (.tup [V.int ((zs.length : Nat) + 1), .int cn]) = H10 at *
          walk_at "rds"
          refine ⟨by show 2 ≤ sizeLine; omega, fun t2 nt2 => ?_⟩
          have st2 := same_new nt2 (.tup [V.int ((zs.length : Nat) + 1), .int cn])
          have ht2 : (upd H10 t2 (.tup [V.int ((zs.length : Nat) + 1), .int cn])) t2 = some (.tup [V.int ((zs.length : Nat) + 1), .int cn]) := upd_same
          have ht1 := st2 _ _ ht
          have ha11 := st2 _ _ ha10
          have hal11 := st2 _ _ hal10
          have hL11 := st2 _ _ hL10
          have r11 := r10.mono fun b xs e => st2 _ _ e
          have q11 := q10.mono fun b xs e => st2 _ _ e
          generalize upd H10 t2 (.tup [V.int ((zs.length : Nat) + 1), .int cn]) = H11 at *
          have sh : SeqAt.shaped (.tuple [.int ((zs.length : Nat) + 1), .int cn]) = true := by simp [SeqAt.shaped, PyData.canLay0, PyData.canLayAll0, PyData.depth, PyData.depthAll]
          have eq : PyData.eqv (.tuple [.int ((zs.length : Nat) + 1), .int cn]) (.tuple [.int ((zs.length : Nat) + 1), .int cn]) = true := SeqAt.eqv_refl _ (by simp [PyData.canLay0, PyData.canLayAll0])
          refine ⟨_, _, .tup (SqT.of ht1) (.cons (.int _) (.cons (.int _) .nil)), .tup (SqT.of ht2) (.cons (.int _) (.cons (.int _) .nil)), sh, sh, ?_⟩
          rw [eq]
          walk_at "rds"
          refine ⟨_, _, _, _, true, rfl, .ty _, .base (.lst hal11), kit_ty (by decide +kernel), ?_⟩
          walk_at "rds"
          have w9 : ∀ x ∈ post, Row52 x.1 x.2 := fun x hx => (w8 x hx).1
          refine ⟨⟨_, SqL.of hal11⟩, for_list (K := K) (a := al) (xs := us2) (fun i σ H' => H' = H11 ∧ ∃ x11 : Option V, σ = [some (.ref a), some (.ref p), some (.int cn), some (.ref R), x4, some (.int ((zs.length : Int) + 1)), some (.ref L), x7, x8, x9, some (.ref aa), x11]) ⟨rfl, _, rfl⟩ ?_ ?_ ?_⟩
          · rintro i σ H' _ ⟨rfl, _⟩
            exact SqL.of hal11
          · rintro i x σ H' hx ⟨rfl, x11, rfl⟩
            obtain ⟨d, hd, rd⟩ := r11.at hx
            obtain ⟨m', k', ds', rfl⟩ := due_mem (List.mem_of_getElem? hd)
            cases rd with
            | @tup b xs _ h1 h2 h3 =>
              obtain _ | ⟨i1, _ | ⟨i2, _ | _⟩⟩ := h3
              cases i1
              cases i2 with
              | @tup b2 xs2 _ h4 h5 h6 =>
                walk_at "rds"
                refine ⟨_, _, _, _, true, rfl, .ty _, .base (.tup h1), kit_ty (by decide +kernel), ?_⟩
                walk_at "rds"
                refine ⟨_, _, _, _, true, rfl, .ty _, .base (.tup h4), kit_ty (by decide +kernel), ?_⟩
                walk_at "rds"
                exact ⟨_, rfl⟩
          · rintro σ H' ⟨rfl, x11, rfl⟩
            obtain ⟨sh, eq⟩ := due_shaped (n := (zs.length : Nat) + 2) w9
            walk_at "rds"
            refine ⟨_, _, .lst (SqL.of hal11) r11.dp, .lst (SqL.of hL11) q11.dp, sh, sh, ?_⟩
            rw [eq]
            exact q _
end
end Mus

set_option maxRecDepth 100000
set_option maxHeartbeats 4000000
namespace Mus
open PySem L2
/-! a constant dict whose values are constant tuples of texts -/
def tA (K : PySem.W.Frag) (d : Addr) (k : Str) : Addr := match PySem.W.nsIn K d k with
  | some (some (.ref a)) => a
  | _ => 0
def strV : Value → Option Str
  | .str z _ => some z
  | _ => none
def tupB (K : PySem.W.Frag) (a : Addr) (xs : List Str) : Bool := match K.lookup a with
  | some ⟨.type c, _, .seq vs _, _⟩ => decide (c = "tuple") && decide (vs.toList.map strV = xs.map some)
  | _ => false
theorem vals_strs : ∀ {xs : List Str} {vs : List Value}, vs.map strV = xs.map some → Vals (xs.map V.str) vs
  | [], [], _ => .nil
  | [], _ :: _, h => by cases h
  | _ :: _, [], h => by cases h
  | x :: xs, v :: vs, h => by
    rw [List.map_cons, List.map_cons, List.cons.injEq] at h
    refine .cons ?_ (vals_strs h.2)
    have h1 := h.1
    cases v <;> first | (cases h1; done) | skip
    cases h1
    exact ⟨_, rfl⟩
theorem tupB_ok {K : PySem.W.Frag} {a : Addr} {xs : List Str} (h : tupB K a xs = true) (hl : xs.length ≤ 100) : ∀ H, SqT K H a (xs.map V.str) := by
  intro H
  unfold tupB at h
  split at h
  · rename_i c d vs n sl e
    rw [Bool.and_eq_true, decide_eq_true_eq, decide_eq_true_eq] at h
    obtain ⟨rfl, h2⟩ := h
    have l : vs.toList.length = xs.length := by
      have := congrArg List.length h2
      simpa using this
    have hs := sl
    refine .inr ⟨_, _, _, e, rfl, rfl, ?_, vals_strs h2⟩
    have := sizeLine_eq
    simp only [Array.length_toList] at l
    omega
  · cases h
end Mus

set_option maxRecDepth 100000
set_option maxHeartbeats 4000000
namespace Mus
open PySem L2
def at_mk {K : PySem.W.Frag} {h : Heap} {mg : Str → Option Value} {x : Str} {ps : List Str} {st : Stmt} {f : Addr} {oc : Value} {od an : Option Addr} {osl : Array (Option Value)} {kV dc pm cd ct : Value} (X : K.In h) (G : h.Ns mainGlobals mg) (a : PySem.W.nsIn K mainGlobals x = some (some (.ref f)))
    (l : K.lookup f = some ⟨oc, od, .func (PySem.W.fnOf x x (defArgs st) (defBody st) (defScope st) .none kV dc pm an cd ct), osl⟩) (c : PySem.W.codeIn K cd x = true) (k : PySem.W.keepIn K (.ref f) = true)
    (hb : ∀ (kV doc pm : Value) (an : Option Addr) (cdv ct : Value) (us : List Value), us.length = ps.length → bindArgs (PySem.W.fnOf x x (defArgs st) (defBody st) (defScope st) .none kV doc pm an cdv ct) ⟨us, []⟩ = pure (ps.zip us)) : DefAt K mg x ps st :=
  ⟨f, _, fun_mk (st := st) l c k, PySem.W.mg_of X G a, (fun_mk (st := st) l c k).binds hb⟩
theorem walk_ofX {l : PySem.W.OpenLaw} {n k : Nat} {q : Program} {loose : List Str} {XP : (Str → Option Value) → Heap → Prop} {YP : World → Heap → Prop} {d : DefRec} {K : Params → PySem.W.Frag} {sp : World → Sp} {x : Str}
    (most : l.most = some n) (few : n ≤ sizeLine) (nod : d.params.defaults = []) (room : Room k callerA) (kin : ∀ (w : World) (h : Heap), YP w h → (K w.params).In h)
    (F : ∀ (w : World) (mg : Str → Option Value) (at1 : Addr) (h : Heap), (K w.params).In h → h.Ns mainGlobals mg → XP mg h → mg d.name = some (.ref at1) →
      ∃ fd : FuncData, (∀ (s : Shared) (u : Value), BindsTo s fd ⟨[u], []⟩ [(x, u)]) ∧ ∀ base : Heap, (K w.params).In base → base.Ns mainGlobals mg → FnOk l.prog w (K w.params) mg base CX0 k at1 fd [x] (sp w))
    (hsp : ∀ (w : World) (H : Hp) (a : Addr) (ns : List Int), ns.length ≤ n → Only H → SqL (K w.params) H a (ns.map V.int) → sp w [.ref a] H (fun v _ => v = .bl true) fun _ _ _ => False) :
    PySem.W.WalkO q loose XP YP l.row.toRowW d [] (fun f vs => PySem.call f vs) := by
  refine Att.attach_call most nod fun w sb sc mg mB at1 o pm1 cd1 doc1 a vs ns G Y ho1 hd1 hc1 hm1 ob1 in1 ln1 hg1 => ?_
  have inK := kin w _ Y
  obtain ⟨fd, bnd, pr⟩ := F w mg at1 _ inK G.T.g G.X hm1
  exact law_call inK G.T.g G.T.b G.T.builtins G.T.nolimit hg1 ob1 in1 (Nat.le_trans ln1 few) room pr bnd (fun H hO hS => hsp w H a ns ln1 hO hS) fun H e s' z => z
theorem loose_int {n : Str} {i : Int} {mg : Str → Option Value} {h : Heap} (x : PySem.W.LooseAre [(n, PySem.W.WData.int i)] mg h) : ∃ t, mg n = some (.int i t) := by
  obtain ⟨v, h1, h2⟩ := x.val _ (List.mem_singleton.mpr rfl)
  cases h2
  exact ⟨_, h1⟩
theorem all_mk {l : PySem.W.OpenLaw} {w : World} {K : PySem.W.Frag} {h : Heap} {mg : Str → Option Value} {fa : Addr} (X : K.In h) (G : h.Ns mainGlobals mg) (hfa : mg "law" = some (.ref fa)) (hL0 : ∃ t, mg "MOST_NUMBER" = some (.int 1000000000000 t)) (hL1 : ∃ t, mg "_GREATEST" = some (.int 999999999999 t))
    {C_BadText : Addr}
    {D__ITEMS : Addr} {es__ITEMS : Array DictEntry} {nE__ITEMS : Nat}
    {C_BadSchedule : Addr}
    {D__TEXTS : Addr}
    {odx_is_printable anx_is_printable : Option Addr} {slx_is_printable : Array (Option Value)} {ocx_is_printable kVx_is_printable dcx_is_printable pmx_is_printable cdx_is_printable ctx_is_printable : Value} {fx_is_printable : Addr}
    {odx__is_printable_character anx__is_printable_character : Option Addr} {slx__is_printable_character : Array (Option Value)} {ocx__is_printable_character kVx__is_printable_character dcx__is_printable_character pmx__is_printable_character cdx__is_printable_character ctx__is_printable_character : Value} {fx__is_printable_character : Addr}
    {odx_is_integer anx_is_integer : Option Addr} {slx_is_integer : Array (Option Value)} {ocx_is_integer kVx_is_integer dcx_is_integer pmx_is_integer cdx_is_integer ctx_is_integer : Value} {fx_is_integer : Addr}
    {odx_encode anx_encode : Option Addr} {slx_encode : Array (Option Value)} {ocx_encode kVx_encode dcx_encode pmx_encode cdx_encode ctx_encode : Value} {fx_encode : Addr}
    {odx__write anx__write : Option Addr} {slx__write : Array (Option Value)} {ocx__write kVx__write dcx__write pmx__write cdx__write ctx__write : Value} {fx__write : Addr}
    {odx__write_tuple anx__write_tuple : Option Addr} {slx__write_tuple : Array (Option Value)} {ocx__write_tuple kVx__write_tuple dcx__write_tuple pmx__write_tuple cdx__write_tuple ctx__write_tuple : Value} {fx__write_tuple : Addr}
    {odx__put anx__put : Option Addr} {slx__put : Array (Option Value)} {ocx__put kVx__put dcx__put pmx__put cdx__put ctx__put : Value} {fx__put : Addr}
    {odx__string_text anx__string_text : Option Addr} {slx__string_text : Array (Option Value)} {ocx__string_text kVx__string_text dcx__string_text pmx__string_text cdx__string_text ctx__string_text : Value} {fx__string_text : Addr}
    {odx__integer_text anx__integer_text : Option Addr} {slx__integer_text : Array (Option Value)} {ocx__integer_text kVx__integer_text dcx__integer_text pmx__integer_text cdx__integer_text ctx__integer_text : Value} {fx__integer_text : Addr}
    {odx_decode anx_decode : Option Addr} {slx_decode : Array (Option Value)} {ocx_decode kVx_decode dcx_decode pmx_decode cdx_decode ctx_decode : Value} {fx_decode : Addr}
    {odx__read anx__read : Option Addr} {slx__read : Array (Option Value)} {ocx__read kVx__read dcx__read pmx__read cdx__read ctx__read : Value} {fx__read : Addr}
    {odx__read_tuple anx__read_tuple : Option Addr} {slx__read_tuple : Array (Option Value)} {ocx__read_tuple kVx__read_tuple dcx__read_tuple pmx__read_tuple cdx__read_tuple ctx__read_tuple : Value} {fx__read_tuple : Addr}
    {odx__read_characters anx__read_characters : Option Addr} {slx__read_characters : Array (Option Value)} {ocx__read_characters kVx__read_characters dcx__read_characters pmx__read_characters cdx__read_characters ctx__read_characters : Value} {fx__read_characters : Addr}
    {odx__read_integer anx__read_integer : Option Addr} {slx__read_integer : Array (Option Value)} {ocx__read_integer kVx__read_integer dcx__read_integer pmx__read_integer cdx__read_integer ctx__read_integer : Value} {fx__read_integer : Addr}
    {odx__digits_end anx__digits_end : Option Addr} {slx__digits_end : Array (Option Value)} {ocx__digits_end kVx__digits_end dcx__digits_end pmx__digits_end cdx__digits_end ctx__digits_end : Value} {fx__digits_end : Addr}
    {odx_is_kind anx_is_kind : Option Addr} {slx_is_kind : Array (Option Value)} {ocx_is_kind kVx_is_kind dcx_is_kind pmx_is_kind cdx_is_kind ctx_is_kind : Value} {fx_is_kind : Addr}
    {odx_item_names anx_item_names : Option Addr} {slx_item_names : Array (Option Value)} {ocx_item_names kVx_item_names dcx_item_names pmx_item_names cdx_item_names ctx_item_names : Value} {fx_item_names : Addr}
    {odx_check_act anx_check_act : Option Addr} {slx_check_act : Array (Option Value)} {ocx_check_act kVx_check_act dcx_check_act pmx_check_act cdx_check_act ctx_check_act : Value} {fx_check_act : Addr}
    {odx__has_right_number anx__has_right_number : Option Addr} {slx__has_right_number : Array (Option Value)} {ocx__has_right_number kVx__has_right_number dcx__has_right_number pmx__has_right_number cdx__has_right_number ctx__has_right_number : Value} {fx__has_right_number : Addr}
    {odx_parse_schedule anx_parse_schedule : Option Addr} {slx_parse_schedule : Array (Option Value)} {ocx_parse_schedule kVx_parse_schedule dcx_parse_schedule pmx_parse_schedule cdx_parse_schedule ctx_parse_schedule : Value} {fx_parse_schedule : Addr}
    {odx_act_line anx_act_line : Option Addr} {slx_act_line : Array (Option Value)} {ocx_act_line kVx_act_line dcx_act_line pmx_act_line cdx_act_line ctx_act_line : Value} {fx_act_line : Addr}
    {odx__read_line anx__read_line : Option Addr} {slx__read_line : Array (Option Value)} {ocx__read_line kVx__read_line dcx__read_line pmx__read_line cdx__read_line ctx__read_line : Value} {fx__read_line : Addr}
    {odx__split anx__split : Option Addr} {slx__split : Array (Option Value)} {ocx__split kVx__split dcx__split pmx__split cdx__split ctx__split : Value} {fx__split : Addr}
    {odx__read_word anx__read_word : Option Addr} {slx__read_word : Array (Option Value)} {ocx__read_word kVx__read_word dcx__read_word pmx__read_word cdx__read_word ctx__read_word : Value} {fx__read_word : Addr}
    {odx__read_text anx__read_text : Option Addr} {slx__read_text : Array (Option Value)} {ocx__read_text kVx__read_text dcx__read_text pmx__read_text cdx__read_text ctx__read_text : Value} {fx__read_text : Addr}
    {odx__is_number anx__is_number : Option Addr} {slx__is_number : Array (Option Value)} {ocx__is_number kVx__is_number dcx__is_number pmx__is_number cdx__is_number ctx__is_number : Value} {fx__is_number : Addr}
    {odx__is_text_of anx__is_text_of : Option Addr} {slx__is_text_of : Array (Option Value)} {ocx__is_text_of kVx__is_text_of dcx__is_text_of pmx__is_text_of cdx__is_text_of ctx__is_text_of : Value} {fx__is_text_of : Addr}
    {odx__word_of anx__word_of : Option Addr} {slx__word_of : Array (Option Value)} {ocx__word_of kVx__word_of dcx__word_of pmx__word_of cdx__word_of ctx__word_of : Value} {fx__word_of : Addr}
    {odx__law_bag anx__law_bag : Option Addr} {slx__law_bag : Array (Option Value)} {ocx__law_bag kVx__law_bag dcx__law_bag pmx__law_bag cdx__law_bag ctx__law_bag : Value} {fx__law_bag : Addr}
    {odx__law_draw anx__law_draw : Option Addr} {slx__law_draw : Array (Option Value)} {ocx__law_draw kVx__law_draw dcx__law_draw pmx__law_draw cdx__law_draw ctx__law_draw : Value} {fx__law_draw : Addr}
    {odx__law_text anx__law_text : Option Addr} {slx__law_text : Array (Option Value)} {ocx__law_text kVx__law_text dcx__law_text pmx__law_text cdx__law_text ctx__law_text : Value} {fx__law_text : Addr}
    {odx__law_groups anx__law_groups : Option Addr} {slx__law_groups : Array (Option Value)} {ocx__law_groups kVx__law_groups dcx__law_groups pmx__law_groups cdx__law_groups ctx__law_groups : Value} {fx__law_groups : Addr}
    {odx__law_number anx__law_number : Option Addr} {slx__law_number : Array (Option Value)} {ocx__law_number kVx__law_number dcx__law_number pmx__law_number cdx__law_number ctx__law_number : Value} {fx__law_number : Addr}
    {odx__law_act anx__law_act : Option Addr} {slx__law_act : Array (Option Value)} {ocx__law_act kVx__law_act dcx__law_act pmx__law_act cdx__law_act ctx__law_act : Value} {fx__law_act : Addr}
    {odx__law_line anx__law_line : Option Addr} {slx__law_line : Array (Option Value)} {ocx__law_line kVx__law_line dcx__law_line pmx__law_line cdx__law_line ctx__law_line : Value} {fx__law_line : Addr}
    {odx__law_skipped anx__law_skipped : Option Addr} {slx__law_skipped : Array (Option Value)} {ocx__law_skipped kVx__law_skipped dcx__law_skipped pmx__law_skipped cdx__law_skipped ctx__law_skipped : Value} {fx__law_skipped : Addr}
    {odx_law anx_law : Option Addr} {slx_law : Array (Option Value)} {ocx_law kVx_law dcx_law pmx_law cdx_law ctx_law : Value} {fx_law : Addr}
    {t_REFUSED_CODE : Tok}
    {tMOST_DIGITS : Tok}
    {tMOST_DEPTH : Tok}
    {tMOST_LENGTH : Tok}
    {tMOST_TICKS : Tok}
    {t_MOST_DIGITS : Tok}
    (aC_BadText : PySem.W.nsIn K mainGlobals "BadText" = some (some (.ref C_BadText)))
    (x_BadText : PySem.W.excIn K C_BadText [.type "ValueError", .type "Exception", .type "BaseException", .type "object"] "ValueError.__new__" = true)
    (k_BadText : PySem.W.keepIn K (.ref C_BadText) = true)
    (b_BadText : PySem.W.subIn K (.ref C_BadText) (.type "BaseException") = some true)
    (t_BadText : PySem.W.typeIn K (.ref C_BadText) = some (.type "type"))
    (aD__ITEMS : PySem.W.nsIn K mainGlobals "_ITEMS" = some (some (.ref D__ITEMS)))
    (lD__ITEMS : K.lookup D__ITEMS = some ⟨.type "dict", none, .dict es__ITEMS nE__ITEMS, #[]⟩)
    (kD__ITEMS : PySem.W.KeysLit w.params es__ITEMS.toList)
    (zD__ITEMS : (D__ITEMS == sysModules) = false)
    (e0__ITEMS : PySem.W.nsIn K D__ITEMS "tick" = some (some (.ref (tA K D__ITEMS "tick"))))
    (e1__ITEMS : PySem.W.nsIn K D__ITEMS "calm" = some (some (.ref (tA K D__ITEMS "calm"))))
    (e2__ITEMS : PySem.W.nsIn K D__ITEMS "round" = some (some (.ref (tA K D__ITEMS "round"))))
    (e3__ITEMS : PySem.W.nsIn K D__ITEMS "deliver" = some (some (.ref (tA K D__ITEMS "deliver"))))
    (e4__ITEMS : PySem.W.nsIn K D__ITEMS "lose" = some (some (.ref (tA K D__ITEMS "lose"))))
    (e5__ITEMS : PySem.W.nsIn K D__ITEMS "double" = some (some (.ref (tA K D__ITEMS "double"))))
    (e6__ITEMS : PySem.W.nsIn K D__ITEMS "move" = some (some (.ref (tA K D__ITEMS "move"))))
    (e7__ITEMS : PySem.W.nsIn K D__ITEMS "cast" = some (some (.ref (tA K D__ITEMS "cast"))))
    (e8__ITEMS : PySem.W.nsIn K D__ITEMS "part" = some (some (.ref (tA K D__ITEMS "part"))))
    (e9__ITEMS : PySem.W.nsIn K D__ITEMS "heal" = some (some (.ref (tA K D__ITEMS "heal"))))
    (e10__ITEMS : PySem.W.nsIn K D__ITEMS "crash" = some (some (.ref (tA K D__ITEMS "crash"))))
    (e11__ITEMS : PySem.W.nsIn K D__ITEMS "start" = some (some (.ref (tA K D__ITEMS "start"))))
    (e12__ITEMS : PySem.W.nsIn K D__ITEMS "arm" = some (some (.ref (tA K D__ITEMS "arm"))))
    (e13__ITEMS : PySem.W.nsIn K D__ITEMS "group" = some none)
    (aC_BadSchedule : PySem.W.nsIn K mainGlobals "BadSchedule" = some (some (.ref C_BadSchedule)))
    (aT__TEXTS : PySem.W.nsIn K mainGlobals "_TEXTS" = some (some (.ref D__TEXTS)))
    (lT__TEXTS : tupB K D__TEXTS ["payload", "groups"] = true)
    (lA_tick : tupB K (tA K D__ITEMS "tick") ["ticks"] = true)
    (lA_calm : tupB K (tA K D__ITEMS "calm") ["ticks"] = true)
    (lA_round : tupB K (tA K D__ITEMS "round") [] = true)
    (lA_deliver : tupB K (tA K D__ITEMS "deliver") ["position"] = true)
    (lA_lose : tupB K (tA K D__ITEMS "lose") ["position"] = true)
    (lA_double : tupB K (tA K D__ITEMS "double") ["position"] = true)
    (lA_move : tupB K (tA K D__ITEMS "move") ["position"] = true)
    (lA_cast : tupB K (tA K D__ITEMS "cast") ["process", "payload"] = true)
    (lA_part : tupB K (tA K D__ITEMS "part") ["groups"] = true)
    (lA_heal : tupB K (tA K D__ITEMS "heal") [] = true)
    (lA_crash : tupB K (tA K D__ITEMS "crash") ["process"] = true)
    (lA_start : tupB K (tA K D__ITEMS "start") ["process"] = true)
    (lA_arm : tupB K (tA K D__ITEMS "arm") ["process", "count", "keep"] = true)
    (m_TT : PySem.W.exmOne K (.ref C_BadText) (.ref C_BadText) = some true)
    (ax_is_printable : PySem.W.nsIn K mainGlobals "is_printable" = some (some (.ref fx_is_printable)))
    (lx_is_printable : K.lookup fx_is_printable = some ⟨ocx_is_printable, odx_is_printable, .func (PySem.W.fnOf "is_printable" "is_printable" (defArgs s_is_printable) (defBody s_is_printable) (defScope s_is_printable) .none kVx_is_printable dcx_is_printable pmx_is_printable anx_is_printable cdx_is_printable ctx_is_printable), slx_is_printable⟩)
    (cx_is_printable : PySem.W.codeIn K cdx_is_printable "is_printable" = true)
    (kx_is_printable : PySem.W.keepIn K (.ref fx_is_printable) = true)
    (ax__is_printable_character : PySem.W.nsIn K mainGlobals "_is_printable_character" = some (some (.ref fx__is_printable_character)))
    (lx__is_printable_character : K.lookup fx__is_printable_character = some ⟨ocx__is_printable_character, odx__is_printable_character, .func (PySem.W.fnOf "_is_printable_character" "_is_printable_character" (defArgs s__is_printable_character) (defBody s__is_printable_character) (defScope s__is_printable_character) .none kVx__is_printable_character dcx__is_printable_character pmx__is_printable_character anx__is_printable_character cdx__is_printable_character ctx__is_printable_character), slx__is_printable_character⟩)
    (cx__is_printable_character : PySem.W.codeIn K cdx__is_printable_character "_is_printable_character" = true)
    (kx__is_printable_character : PySem.W.keepIn K (.ref fx__is_printable_character) = true)
    (ax_is_integer : PySem.W.nsIn K mainGlobals "is_integer" = some (some (.ref fx_is_integer)))
    (lx_is_integer : K.lookup fx_is_integer = some ⟨ocx_is_integer, odx_is_integer, .func (PySem.W.fnOf "is_integer" "is_integer" (defArgs s_is_integer) (defBody s_is_integer) (defScope s_is_integer) .none kVx_is_integer dcx_is_integer pmx_is_integer anx_is_integer cdx_is_integer ctx_is_integer), slx_is_integer⟩)
    (cx_is_integer : PySem.W.codeIn K cdx_is_integer "is_integer" = true)
    (kx_is_integer : PySem.W.keepIn K (.ref fx_is_integer) = true)
    (ax_encode : PySem.W.nsIn K mainGlobals "encode" = some (some (.ref fx_encode)))
    (lx_encode : K.lookup fx_encode = some ⟨ocx_encode, odx_encode, .func (PySem.W.fnOf "encode" "encode" (defArgs s_encode) (defBody s_encode) (defScope s_encode) .none kVx_encode dcx_encode pmx_encode anx_encode cdx_encode ctx_encode), slx_encode⟩)
    (cx_encode : PySem.W.codeIn K cdx_encode "encode" = true)
    (kx_encode : PySem.W.keepIn K (.ref fx_encode) = true)
    (ax__write : PySem.W.nsIn K mainGlobals "_write" = some (some (.ref fx__write)))
    (lx__write : K.lookup fx__write = some ⟨ocx__write, odx__write, .func (PySem.W.fnOf "_write" "_write" (defArgs s__write) (defBody s__write) (defScope s__write) .none kVx__write dcx__write pmx__write anx__write cdx__write ctx__write), slx__write⟩)
    (cx__write : PySem.W.codeIn K cdx__write "_write" = true)
    (kx__write : PySem.W.keepIn K (.ref fx__write) = true)
    (ax__write_tuple : PySem.W.nsIn K mainGlobals "_write_tuple" = some (some (.ref fx__write_tuple)))
    (lx__write_tuple : K.lookup fx__write_tuple = some ⟨ocx__write_tuple, odx__write_tuple, .func (PySem.W.fnOf "_write_tuple" "_write_tuple" (defArgs s__write_tuple) (defBody s__write_tuple) (defScope s__write_tuple) .none kVx__write_tuple dcx__write_tuple pmx__write_tuple anx__write_tuple cdx__write_tuple ctx__write_tuple), slx__write_tuple⟩)
    (cx__write_tuple : PySem.W.codeIn K cdx__write_tuple "_write_tuple" = true)
    (kx__write_tuple : PySem.W.keepIn K (.ref fx__write_tuple) = true)
    (ax__put : PySem.W.nsIn K mainGlobals "_put" = some (some (.ref fx__put)))
    (lx__put : K.lookup fx__put = some ⟨ocx__put, odx__put, .func (PySem.W.fnOf "_put" "_put" (defArgs s__put) (defBody s__put) (defScope s__put) .none kVx__put dcx__put pmx__put anx__put cdx__put ctx__put), slx__put⟩)
    (cx__put : PySem.W.codeIn K cdx__put "_put" = true)
    (kx__put : PySem.W.keepIn K (.ref fx__put) = true)
    (ax__string_text : PySem.W.nsIn K mainGlobals "_string_text" = some (some (.ref fx__string_text)))
    (lx__string_text : K.lookup fx__string_text = some ⟨ocx__string_text, odx__string_text, .func (PySem.W.fnOf "_string_text" "_string_text" (defArgs s__string_text) (defBody s__string_text) (defScope s__string_text) .none kVx__string_text dcx__string_text pmx__string_text anx__string_text cdx__string_text ctx__string_text), slx__string_text⟩)
    (cx__string_text : PySem.W.codeIn K cdx__string_text "_string_text" = true)
    (kx__string_text : PySem.W.keepIn K (.ref fx__string_text) = true)
    (ax__integer_text : PySem.W.nsIn K mainGlobals "_integer_text" = some (some (.ref fx__integer_text)))
    (lx__integer_text : K.lookup fx__integer_text = some ⟨ocx__integer_text, odx__integer_text, .func (PySem.W.fnOf "_integer_text" "_integer_text" (defArgs s__integer_text) (defBody s__integer_text) (defScope s__integer_text) .none kVx__integer_text dcx__integer_text pmx__integer_text anx__integer_text cdx__integer_text ctx__integer_text), slx__integer_text⟩)
    (cx__integer_text : PySem.W.codeIn K cdx__integer_text "_integer_text" = true)
    (kx__integer_text : PySem.W.keepIn K (.ref fx__integer_text) = true)
    (ax_decode : PySem.W.nsIn K mainGlobals "decode" = some (some (.ref fx_decode)))
    (lx_decode : K.lookup fx_decode = some ⟨ocx_decode, odx_decode, .func (PySem.W.fnOf "decode" "decode" (defArgs s_decode) (defBody s_decode) (defScope s_decode) .none kVx_decode dcx_decode pmx_decode anx_decode cdx_decode ctx_decode), slx_decode⟩)
    (cx_decode : PySem.W.codeIn K cdx_decode "decode" = true)
    (kx_decode : PySem.W.keepIn K (.ref fx_decode) = true)
    (ax__read : PySem.W.nsIn K mainGlobals "_read" = some (some (.ref fx__read)))
    (lx__read : K.lookup fx__read = some ⟨ocx__read, odx__read, .func (PySem.W.fnOf "_read" "_read" (defArgs s__read) (defBody s__read) (defScope s__read) .none kVx__read dcx__read pmx__read anx__read cdx__read ctx__read), slx__read⟩)
    (cx__read : PySem.W.codeIn K cdx__read "_read" = true)
    (kx__read : PySem.W.keepIn K (.ref fx__read) = true)
    (ax__read_tuple : PySem.W.nsIn K mainGlobals "_read_tuple" = some (some (.ref fx__read_tuple)))
    (lx__read_tuple : K.lookup fx__read_tuple = some ⟨ocx__read_tuple, odx__read_tuple, .func (PySem.W.fnOf "_read_tuple" "_read_tuple" (defArgs s__read_tuple) (defBody s__read_tuple) (defScope s__read_tuple) .none kVx__read_tuple dcx__read_tuple pmx__read_tuple anx__read_tuple cdx__read_tuple ctx__read_tuple), slx__read_tuple⟩)
    (cx__read_tuple : PySem.W.codeIn K cdx__read_tuple "_read_tuple" = true)
    (kx__read_tuple : PySem.W.keepIn K (.ref fx__read_tuple) = true)
    (ax__read_characters : PySem.W.nsIn K mainGlobals "_read_characters" = some (some (.ref fx__read_characters)))
    (lx__read_characters : K.lookup fx__read_characters = some ⟨ocx__read_characters, odx__read_characters, .func (PySem.W.fnOf "_read_characters" "_read_characters" (defArgs s__read_characters) (defBody s__read_characters) (defScope s__read_characters) .none kVx__read_characters dcx__read_characters pmx__read_characters anx__read_characters cdx__read_characters ctx__read_characters), slx__read_characters⟩)
    (cx__read_characters : PySem.W.codeIn K cdx__read_characters "_read_characters" = true)
    (kx__read_characters : PySem.W.keepIn K (.ref fx__read_characters) = true)
    (ax__read_integer : PySem.W.nsIn K mainGlobals "_read_integer" = some (some (.ref fx__read_integer)))
    (lx__read_integer : K.lookup fx__read_integer = some ⟨ocx__read_integer, odx__read_integer, .func (PySem.W.fnOf "_read_integer" "_read_integer" (defArgs s__read_integer) (defBody s__read_integer) (defScope s__read_integer) .none kVx__read_integer dcx__read_integer pmx__read_integer anx__read_integer cdx__read_integer ctx__read_integer), slx__read_integer⟩)
    (cx__read_integer : PySem.W.codeIn K cdx__read_integer "_read_integer" = true)
    (kx__read_integer : PySem.W.keepIn K (.ref fx__read_integer) = true)
    (ax__digits_end : PySem.W.nsIn K mainGlobals "_digits_end" = some (some (.ref fx__digits_end)))
    (lx__digits_end : K.lookup fx__digits_end = some ⟨ocx__digits_end, odx__digits_end, .func (PySem.W.fnOf "_digits_end" "_digits_end" (defArgs s__digits_end) (defBody s__digits_end) (defScope s__digits_end) .none kVx__digits_end dcx__digits_end pmx__digits_end anx__digits_end cdx__digits_end ctx__digits_end), slx__digits_end⟩)
    (cx__digits_end : PySem.W.codeIn K cdx__digits_end "_digits_end" = true)
    (kx__digits_end : PySem.W.keepIn K (.ref fx__digits_end) = true)
    (ax_is_kind : PySem.W.nsIn K mainGlobals "is_kind" = some (some (.ref fx_is_kind)))
    (lx_is_kind : K.lookup fx_is_kind = some ⟨ocx_is_kind, odx_is_kind, .func (PySem.W.fnOf "is_kind" "is_kind" (defArgs s_is_kind) (defBody s_is_kind) (defScope s_is_kind) .none kVx_is_kind dcx_is_kind pmx_is_kind anx_is_kind cdx_is_kind ctx_is_kind), slx_is_kind⟩)
    (cx_is_kind : PySem.W.codeIn K cdx_is_kind "is_kind" = true)
    (kx_is_kind : PySem.W.keepIn K (.ref fx_is_kind) = true)
    (ax_item_names : PySem.W.nsIn K mainGlobals "item_names" = some (some (.ref fx_item_names)))
    (lx_item_names : K.lookup fx_item_names = some ⟨ocx_item_names, odx_item_names, .func (PySem.W.fnOf "item_names" "item_names" (defArgs s_item_names) (defBody s_item_names) (defScope s_item_names) .none kVx_item_names dcx_item_names pmx_item_names anx_item_names cdx_item_names ctx_item_names), slx_item_names⟩)
    (cx_item_names : PySem.W.codeIn K cdx_item_names "item_names" = true)
    (kx_item_names : PySem.W.keepIn K (.ref fx_item_names) = true)
    (ax_check_act : PySem.W.nsIn K mainGlobals "check_act" = some (some (.ref fx_check_act)))
    (lx_check_act : K.lookup fx_check_act = some ⟨ocx_check_act, odx_check_act, .func (PySem.W.fnOf "check_act" "check_act" (defArgs s_check_act) (defBody s_check_act) (defScope s_check_act) .none kVx_check_act dcx_check_act pmx_check_act anx_check_act cdx_check_act ctx_check_act), slx_check_act⟩)
    (cx_check_act : PySem.W.codeIn K cdx_check_act "check_act" = true)
    (kx_check_act : PySem.W.keepIn K (.ref fx_check_act) = true)
    (ax__has_right_number : PySem.W.nsIn K mainGlobals "_has_right_number" = some (some (.ref fx__has_right_number)))
    (lx__has_right_number : K.lookup fx__has_right_number = some ⟨ocx__has_right_number, odx__has_right_number, .func (PySem.W.fnOf "_has_right_number" "_has_right_number" (defArgs s__has_right_number) (defBody s__has_right_number) (defScope s__has_right_number) .none kVx__has_right_number dcx__has_right_number pmx__has_right_number anx__has_right_number cdx__has_right_number ctx__has_right_number), slx__has_right_number⟩)
    (cx__has_right_number : PySem.W.codeIn K cdx__has_right_number "_has_right_number" = true)
    (kx__has_right_number : PySem.W.keepIn K (.ref fx__has_right_number) = true)
    (ax_parse_schedule : PySem.W.nsIn K mainGlobals "parse_schedule" = some (some (.ref fx_parse_schedule)))
    (lx_parse_schedule : K.lookup fx_parse_schedule = some ⟨ocx_parse_schedule, odx_parse_schedule, .func (PySem.W.fnOf "parse_schedule" "parse_schedule" (defArgs s_parse_schedule) (defBody s_parse_schedule) (defScope s_parse_schedule) .none kVx_parse_schedule dcx_parse_schedule pmx_parse_schedule anx_parse_schedule cdx_parse_schedule ctx_parse_schedule), slx_parse_schedule⟩)
    (cx_parse_schedule : PySem.W.codeIn K cdx_parse_schedule "parse_schedule" = true)
    (kx_parse_schedule : PySem.W.keepIn K (.ref fx_parse_schedule) = true)
    (ax_act_line : PySem.W.nsIn K mainGlobals "act_line" = some (some (.ref fx_act_line)))
    (lx_act_line : K.lookup fx_act_line = some ⟨ocx_act_line, odx_act_line, .func (PySem.W.fnOf "act_line" "act_line" (defArgs s_act_line) (defBody s_act_line) (defScope s_act_line) .none kVx_act_line dcx_act_line pmx_act_line anx_act_line cdx_act_line ctx_act_line), slx_act_line⟩)
    (cx_act_line : PySem.W.codeIn K cdx_act_line "act_line" = true)
    (kx_act_line : PySem.W.keepIn K (.ref fx_act_line) = true)
    (ax__read_line : PySem.W.nsIn K mainGlobals "_read_line" = some (some (.ref fx__read_line)))
    (lx__read_line : K.lookup fx__read_line = some ⟨ocx__read_line, odx__read_line, .func (PySem.W.fnOf "_read_line" "_read_line" (defArgs s__read_line) (defBody s__read_line) (defScope s__read_line) .none kVx__read_line dcx__read_line pmx__read_line anx__read_line cdx__read_line ctx__read_line), slx__read_line⟩)
    (cx__read_line : PySem.W.codeIn K cdx__read_line "_read_line" = true)
    (kx__read_line : PySem.W.keepIn K (.ref fx__read_line) = true)
    (ax__split : PySem.W.nsIn K mainGlobals "_split" = some (some (.ref fx__split)))
    (lx__split : K.lookup fx__split = some ⟨ocx__split, odx__split, .func (PySem.W.fnOf "_split" "_split" (defArgs s__split) (defBody s__split) (defScope s__split) .none kVx__split dcx__split pmx__split anx__split cdx__split ctx__split), slx__split⟩)
    (cx__split : PySem.W.codeIn K cdx__split "_split" = true)
    (kx__split : PySem.W.keepIn K (.ref fx__split) = true)
    (ax__read_word : PySem.W.nsIn K mainGlobals "_read_word" = some (some (.ref fx__read_word)))
    (lx__read_word : K.lookup fx__read_word = some ⟨ocx__read_word, odx__read_word, .func (PySem.W.fnOf "_read_word" "_read_word" (defArgs s__read_word) (defBody s__read_word) (defScope s__read_word) .none kVx__read_word dcx__read_word pmx__read_word anx__read_word cdx__read_word ctx__read_word), slx__read_word⟩)
    (cx__read_word : PySem.W.codeIn K cdx__read_word "_read_word" = true)
    (kx__read_word : PySem.W.keepIn K (.ref fx__read_word) = true)
    (ax__read_text : PySem.W.nsIn K mainGlobals "_read_text" = some (some (.ref fx__read_text)))
    (lx__read_text : K.lookup fx__read_text = some ⟨ocx__read_text, odx__read_text, .func (PySem.W.fnOf "_read_text" "_read_text" (defArgs s__read_text) (defBody s__read_text) (defScope s__read_text) .none kVx__read_text dcx__read_text pmx__read_text anx__read_text cdx__read_text ctx__read_text), slx__read_text⟩)
    (cx__read_text : PySem.W.codeIn K cdx__read_text "_read_text" = true)
    (kx__read_text : PySem.W.keepIn K (.ref fx__read_text) = true)
    (ax__is_number : PySem.W.nsIn K mainGlobals "_is_number" = some (some (.ref fx__is_number)))
    (lx__is_number : K.lookup fx__is_number = some ⟨ocx__is_number, odx__is_number, .func (PySem.W.fnOf "_is_number" "_is_number" (defArgs s__is_number) (defBody s__is_number) (defScope s__is_number) .none kVx__is_number dcx__is_number pmx__is_number anx__is_number cdx__is_number ctx__is_number), slx__is_number⟩)
    (cx__is_number : PySem.W.codeIn K cdx__is_number "_is_number" = true)
    (kx__is_number : PySem.W.keepIn K (.ref fx__is_number) = true)
    (ax__is_text_of : PySem.W.nsIn K mainGlobals "_is_text_of" = some (some (.ref fx__is_text_of)))
    (lx__is_text_of : K.lookup fx__is_text_of = some ⟨ocx__is_text_of, odx__is_text_of, .func (PySem.W.fnOf "_is_text_of" "_is_text_of" (defArgs s__is_text_of) (defBody s__is_text_of) (defScope s__is_text_of) .none kVx__is_text_of dcx__is_text_of pmx__is_text_of anx__is_text_of cdx__is_text_of ctx__is_text_of), slx__is_text_of⟩)
    (cx__is_text_of : PySem.W.codeIn K cdx__is_text_of "_is_text_of" = true)
    (kx__is_text_of : PySem.W.keepIn K (.ref fx__is_text_of) = true)
    (ax__word_of : PySem.W.nsIn K mainGlobals "_word_of" = some (some (.ref fx__word_of)))
    (lx__word_of : K.lookup fx__word_of = some ⟨ocx__word_of, odx__word_of, .func (PySem.W.fnOf "_word_of" "_word_of" (defArgs s__word_of) (defBody s__word_of) (defScope s__word_of) .none kVx__word_of dcx__word_of pmx__word_of anx__word_of cdx__word_of ctx__word_of), slx__word_of⟩)
    (cx__word_of : PySem.W.codeIn K cdx__word_of "_word_of" = true)
    (kx__word_of : PySem.W.keepIn K (.ref fx__word_of) = true)
    (ax__law_bag : PySem.W.nsIn K mainGlobals "_law_bag" = some (some (.ref fx__law_bag)))
    (lx__law_bag : K.lookup fx__law_bag = some ⟨ocx__law_bag, odx__law_bag, .func (PySem.W.fnOf "_law_bag" "_law_bag" (defArgs s__law_bag) (defBody s__law_bag) (defScope s__law_bag) .none kVx__law_bag dcx__law_bag pmx__law_bag anx__law_bag cdx__law_bag ctx__law_bag), slx__law_bag⟩)
    (cx__law_bag : PySem.W.codeIn K cdx__law_bag "_law_bag" = true)
    (kx__law_bag : PySem.W.keepIn K (.ref fx__law_bag) = true)
    (ax__law_draw : PySem.W.nsIn K mainGlobals "_law_draw" = some (some (.ref fx__law_draw)))
    (lx__law_draw : K.lookup fx__law_draw = some ⟨ocx__law_draw, odx__law_draw, .func (PySem.W.fnOf "_law_draw" "_law_draw" (defArgs s__law_draw) (defBody s__law_draw) (defScope s__law_draw) .none kVx__law_draw dcx__law_draw pmx__law_draw anx__law_draw cdx__law_draw ctx__law_draw), slx__law_draw⟩)
    (cx__law_draw : PySem.W.codeIn K cdx__law_draw "_law_draw" = true)
    (kx__law_draw : PySem.W.keepIn K (.ref fx__law_draw) = true)
    (ax__law_text : PySem.W.nsIn K mainGlobals "_law_text" = some (some (.ref fx__law_text)))
    (lx__law_text : K.lookup fx__law_text = some ⟨ocx__law_text, odx__law_text, .func (PySem.W.fnOf "_law_text" "_law_text" (defArgs s__law_text) (defBody s__law_text) (defScope s__law_text) .none kVx__law_text dcx__law_text pmx__law_text anx__law_text cdx__law_text ctx__law_text), slx__law_text⟩)
    (cx__law_text : PySem.W.codeIn K cdx__law_text "_law_text" = true)
    (kx__law_text : PySem.W.keepIn K (.ref fx__law_text) = true)
    (ax__law_groups : PySem.W.nsIn K mainGlobals "_law_groups" = some (some (.ref fx__law_groups)))
    (lx__law_groups : K.lookup fx__law_groups = some ⟨ocx__law_groups, odx__law_groups, .func (PySem.W.fnOf "_law_groups" "_law_groups" (defArgs s__law_groups) (defBody s__law_groups) (defScope s__law_groups) .none kVx__law_groups dcx__law_groups pmx__law_groups anx__law_groups cdx__law_groups ctx__law_groups), slx__law_groups⟩)
    (cx__law_groups : PySem.W.codeIn K cdx__law_groups "_law_groups" = true)
    (kx__law_groups : PySem.W.keepIn K (.ref fx__law_groups) = true)
    (ax__law_number : PySem.W.nsIn K mainGlobals "_law_number" = some (some (.ref fx__law_number)))
    (lx__law_number : K.lookup fx__law_number = some ⟨ocx__law_number, odx__law_number, .func (PySem.W.fnOf "_law_number" "_law_number" (defArgs s__law_number) (defBody s__law_number) (defScope s__law_number) .none kVx__law_number dcx__law_number pmx__law_number anx__law_number cdx__law_number ctx__law_number), slx__law_number⟩)
    (cx__law_number : PySem.W.codeIn K cdx__law_number "_law_number" = true)
    (kx__law_number : PySem.W.keepIn K (.ref fx__law_number) = true)
    (ax__law_act : PySem.W.nsIn K mainGlobals "_law_act" = some (some (.ref fx__law_act)))
    (lx__law_act : K.lookup fx__law_act = some ⟨ocx__law_act, odx__law_act, .func (PySem.W.fnOf "_law_act" "_law_act" (defArgs s__law_act) (defBody s__law_act) (defScope s__law_act) .none kVx__law_act dcx__law_act pmx__law_act anx__law_act cdx__law_act ctx__law_act), slx__law_act⟩)
    (cx__law_act : PySem.W.codeIn K cdx__law_act "_law_act" = true)
    (kx__law_act : PySem.W.keepIn K (.ref fx__law_act) = true)
    (ax__law_line : PySem.W.nsIn K mainGlobals "_law_line" = some (some (.ref fx__law_line)))
    (lx__law_line : K.lookup fx__law_line = some ⟨ocx__law_line, odx__law_line, .func (PySem.W.fnOf "_law_line" "_law_line" (defArgs s__law_line) (defBody s__law_line) (defScope s__law_line) .none kVx__law_line dcx__law_line pmx__law_line anx__law_line cdx__law_line ctx__law_line), slx__law_line⟩)
    (cx__law_line : PySem.W.codeIn K cdx__law_line "_law_line" = true)
    (kx__law_line : PySem.W.keepIn K (.ref fx__law_line) = true)
    (ax__law_skipped : PySem.W.nsIn K mainGlobals "_law_skipped" = some (some (.ref fx__law_skipped)))
    (lx__law_skipped : K.lookup fx__law_skipped = some ⟨ocx__law_skipped, odx__law_skipped, .func (PySem.W.fnOf "_law_skipped" "_law_skipped" (defArgs s__law_skipped) (defBody s__law_skipped) (defScope s__law_skipped) .none kVx__law_skipped dcx__law_skipped pmx__law_skipped anx__law_skipped cdx__law_skipped ctx__law_skipped), slx__law_skipped⟩)
    (cx__law_skipped : PySem.W.codeIn K cdx__law_skipped "_law_skipped" = true)
    (kx__law_skipped : PySem.W.keepIn K (.ref fx__law_skipped) = true)
    (ax_law : PySem.W.nsIn K mainGlobals "law" = some (some (.ref fx_law)))
    (lx_law : K.lookup fx_law = some ⟨ocx_law, odx_law, .func (PySem.W.fnOf "law" "law" (defArgs s_law) (defBody s_law) (defScope s_law) .none kVx_law dcx_law pmx_law anx_law cdx_law ctx_law), slx_law⟩)
    (cx_law : PySem.W.codeIn K cdx_law "law" = true)
    (kx_law : PySem.W.keepIn K (.ref fx_law) = true)
    (v_REFUSED_CODE : PySem.W.nsIn K mainGlobals "_REFUSED_CODE" = some (some (.int 37 t_REFUSED_CODE)))
    (vMOST_DIGITS : PySem.W.nsIn K mainGlobals "MOST_DIGITS" = some (some (.int 24 tMOST_DIGITS)))
    (vMOST_DEPTH : PySem.W.nsIn K mainGlobals "MOST_DEPTH" = some (some (.int 8 tMOST_DEPTH)))
    (vMOST_LENGTH : PySem.W.nsIn K mainGlobals "MOST_LENGTH" = some (some (.int 100000 tMOST_LENGTH)))
    (vMOST_TICKS : PySem.W.nsIn K mainGlobals "MOST_TICKS" = some (some (.int 1000 tMOST_TICKS)))
    (v_MOST_DIGITS : PySem.W.nsIn K mainGlobals "_MOST_DIGITS" = some (some (.int 12 t_MOST_DIGITS)))
    (zlen : PySem.W.nsIn K mainGlobals "len" = some none)
    (zisinstance : PySem.W.nsIn K mainGlobals "isinstance" = some none)
    (zint : PySem.W.nsIn K mainGlobals "int" = some none)
    (zbool : PySem.W.nsIn K mainGlobals "bool" = some none)
    (zstr : PySem.W.nsIn K mainGlobals "str" = some none)
    (ztuple : PySem.W.nsIn K mainGlobals "tuple" = some none)
    (zlist : PySem.W.nsIn K mainGlobals "list" = some none)
    (zrange : PySem.W.nsIn K mainGlobals "range" = some none)
    (zord : PySem.W.nsIn K mainGlobals "ord" = some none)
    (zenumerate : PySem.W.nsIn K mainGlobals "enumerate" = some none)
    (zzip : PySem.W.nsIn K mainGlobals "zip" = some none) :
    ∃ fd : FuncData, (∀ (s : Shared) (v : Value), BindsTo s fd ⟨[v], []⟩ [("script", v)]) ∧ ∀ base : Heap, K.In base → base.Ns mainGlobals mg → FnOk l.prog w K mg base CX0 26 fa fd ["script"] (sp_law K) := by
  have e := hfa.symm.trans (PySem.W.mg_of X G ax_law)
  cases e
  have T : Tb K mg C_BadText C_BadSchedule := {
    b_len := PySem.W.mg_none_of X G zlen
    b_isinstance := PySem.W.mg_none_of X G zisinstance
    b_int := PySem.W.mg_none_of X G zint
    b_bool := PySem.W.mg_none_of X G zbool
    b_str := PySem.W.mg_none_of X G zstr
    b_tuple := PySem.W.mg_none_of X G ztuple
    b_list := PySem.W.mg_none_of X G zlist
    b_range := PySem.W.mg_none_of X G zrange
    b_ord := PySem.W.mg_none_of X G zord
    b_enumerate := PySem.W.mg_none_of X G zenumerate
    b_zip := PySem.W.mg_none_of X G zzip
    c__REFUSED_CODE := ⟨_, PySem.W.mg_of X G v_REFUSED_CODE⟩
    c_MOST_DIGITS := ⟨_, PySem.W.mg_of X G vMOST_DIGITS⟩
    c_MOST_DEPTH := ⟨_, PySem.W.mg_of X G vMOST_DEPTH⟩
    c_MOST_LENGTH := ⟨_, PySem.W.mg_of X G vMOST_LENGTH⟩
    c_MOST_TICKS := ⟨_, PySem.W.mg_of X G vMOST_TICKS⟩
    c__MOST_DIGITS := ⟨_, PySem.W.mg_of X G v_MOST_DIGITS⟩
    c_MOST_NUMBER := hL0
    c__GREATEST := hL1
    g_BadText := PySem.W.mg_of X G aC_BadText
    x_BadText := x_BadText
    k_BadText := k_BadText
    b_BadText := b_BadText
    t_BadText := t_BadText
    g_BadSchedule := PySem.W.mg_of X G aC_BadSchedule
    m_TT := m_TT }
  let a_is_printable : DefAt K mg "is_printable" P_is_printable s_is_printable := at_mk X G ax_is_printable lx_is_printable cx_is_printable kx_is_printable fun _ _ _ _ _ _ us hl => match us, hl with | [_], _ => rfl
  let a__is_printable_character : DefAt K mg "_is_printable_character" P__is_printable_character s__is_printable_character := at_mk X G ax__is_printable_character lx__is_printable_character cx__is_printable_character kx__is_printable_character fun _ _ _ _ _ _ us hl => match us, hl with | [_], _ => rfl
  let a_is_integer : DefAt K mg "is_integer" P_is_integer s_is_integer := at_mk X G ax_is_integer lx_is_integer cx_is_integer kx_is_integer fun _ _ _ _ _ _ us hl => match us, hl with | [_, _, _], _ => rfl
  let a_encode : DefAt K mg "encode" P_encode s_encode := at_mk X G ax_encode lx_encode cx_encode kx_encode fun _ _ _ _ _ _ us hl => match us, hl with | [_], _ => rfl
  let a__write : DefAt K mg "_write" P__write s__write := at_mk X G ax__write lx__write cx__write kx__write fun _ _ _ _ _ _ us hl => match us, hl with | [_, _, _, _], _ => rfl
  let a__write_tuple : DefAt K mg "_write_tuple" P__write_tuple s__write_tuple := at_mk X G ax__write_tuple lx__write_tuple cx__write_tuple kx__write_tuple fun _ _ _ _ _ _ us hl => match us, hl with | [_, _, _, _], _ => rfl
  let a__put : DefAt K mg "_put" P__put s__put := at_mk X G ax__put lx__put cx__put kx__put fun _ _ _ _ _ _ us hl => match us, hl with | [_, _, _], _ => rfl
  let a__string_text : DefAt K mg "_string_text" P__string_text s__string_text := at_mk X G ax__string_text lx__string_text cx__string_text kx__string_text fun _ _ _ _ _ _ us hl => match us, hl with | [_], _ => rfl
  let a__integer_text : DefAt K mg "_integer_text" P__integer_text s__integer_text := at_mk X G ax__integer_text lx__integer_text cx__integer_text kx__integer_text fun _ _ _ _ _ _ us hl => match us, hl with | [_], _ => rfl
  let a_decode : DefAt K mg "decode" P_decode s_decode := at_mk X G ax_decode lx_decode cx_decode kx_decode fun _ _ _ _ _ _ us hl => match us, hl with | [_], _ => rfl
  let a__read : DefAt K mg "_read" P__read s__read := at_mk X G ax__read lx__read cx__read kx__read fun _ _ _ _ _ _ us hl => match us, hl with | [_, _, _], _ => rfl
  let a__read_tuple : DefAt K mg "_read_tuple" P__read_tuple s__read_tuple := at_mk X G ax__read_tuple lx__read_tuple cx__read_tuple kx__read_tuple fun _ _ _ _ _ _ us hl => match us, hl with | [_, _, _], _ => rfl
  let a__read_characters : DefAt K mg "_read_characters" P__read_characters s__read_characters := at_mk X G ax__read_characters lx__read_characters cx__read_characters kx__read_characters fun _ _ _ _ _ _ us hl => match us, hl with | [_, _, _], _ => rfl
  let a__read_integer : DefAt K mg "_read_integer" P__read_integer s__read_integer := at_mk X G ax__read_integer lx__read_integer cx__read_integer kx__read_integer fun _ _ _ _ _ _ us hl => match us, hl with | [_, _], _ => rfl
  let a__digits_end : DefAt K mg "_digits_end" P__digits_end s__digits_end := at_mk X G ax__digits_end lx__digits_end cx__digits_end kx__digits_end fun _ _ _ _ _ _ us hl => match us, hl with | [_, _], _ => rfl
  let a_is_kind : DefAt K mg "is_kind" P_is_kind s_is_kind := at_mk X G ax_is_kind lx_is_kind cx_is_kind kx_is_kind fun _ _ _ _ _ _ us hl => match us, hl with | [_], _ => rfl
  let a_item_names : DefAt K mg "item_names" P_item_names s_item_names := at_mk X G ax_item_names lx_item_names cx_item_names kx_item_names fun _ _ _ _ _ _ us hl => match us, hl with | [_], _ => rfl
  let a_check_act : DefAt K mg "check_act" P_check_act s_check_act := at_mk X G ax_check_act lx_check_act cx_check_act kx_check_act fun _ _ _ _ _ _ us hl => match us, hl with | [_], _ => rfl
  let a__has_right_number : DefAt K mg "_has_right_number" P__has_right_number s__has_right_number := at_mk X G ax__has_right_number lx__has_right_number cx__has_right_number kx__has_right_number fun _ _ _ _ _ _ us hl => match us, hl with | [_, _], _ => rfl
  let a_parse_schedule : DefAt K mg "parse_schedule" P_parse_schedule s_parse_schedule := at_mk X G ax_parse_schedule lx_parse_schedule cx_parse_schedule kx_parse_schedule fun _ _ _ _ _ _ us hl => match us, hl with | [_], _ => rfl
  let a_act_line : DefAt K mg "act_line" P_act_line s_act_line := at_mk X G ax_act_line lx_act_line cx_act_line kx_act_line fun _ _ _ _ _ _ us hl => match us, hl with | [_], _ => rfl
  let a__read_line : DefAt K mg "_read_line" P__read_line s__read_line := at_mk X G ax__read_line lx__read_line cx__read_line kx__read_line fun _ _ _ _ _ _ us hl => match us, hl with | [_, _, _], _ => rfl
  let a__split : DefAt K mg "_split" P__split s__split := at_mk X G ax__split lx__split cx__split kx__split fun _ _ _ _ _ _ us hl => match us, hl with | [_, _], _ => rfl
  let a__read_word : DefAt K mg "_read_word" P__read_word s__read_word := at_mk X G ax__read_word lx__read_word cx__read_word kx__read_word fun _ _ _ _ _ _ us hl => match us, hl with | [_, _, _], _ => rfl
  let a__read_text : DefAt K mg "_read_text" P__read_text s__read_text := at_mk X G ax__read_text lx__read_text cx__read_text kx__read_text fun _ _ _ _ _ _ us hl => match us, hl with | [_, _, _], _ => rfl
  let a__is_number : DefAt K mg "_is_number" P__is_number s__is_number := at_mk X G ax__is_number lx__is_number cx__is_number kx__is_number fun _ _ _ _ _ _ us hl => match us, hl with | [_], _ => rfl
  let a__is_text_of : DefAt K mg "_is_text_of" P__is_text_of s__is_text_of := at_mk X G ax__is_text_of lx__is_text_of cx__is_text_of kx__is_text_of fun _ _ _ _ _ _ us hl => match us, hl with | [_, _], _ => rfl
  let a__word_of : DefAt K mg "_word_of" P__word_of s__word_of := at_mk X G ax__word_of lx__word_of cx__word_of kx__word_of fun _ _ _ _ _ _ us hl => match us, hl with | [_, _], _ => rfl
  let a__law_bag : DefAt K mg "_law_bag" P__law_bag s__law_bag := at_mk X G ax__law_bag lx__law_bag cx__law_bag kx__law_bag fun _ _ _ _ _ _ us hl => match us, hl with | [_, _], _ => rfl
  let a__law_draw : DefAt K mg "_law_draw" P__law_draw s__law_draw := at_mk X G ax__law_draw lx__law_draw cx__law_draw kx__law_draw fun _ _ _ _ _ _ us hl => match us, hl with | [_, _], _ => rfl
  let a__law_text : DefAt K mg "_law_text" P__law_text s__law_text := at_mk X G ax__law_text lx__law_text cx__law_text kx__law_text fun _ _ _ _ _ _ us hl => match us, hl with | [_], _ => rfl
  let a__law_groups : DefAt K mg "_law_groups" P__law_groups s__law_groups := at_mk X G ax__law_groups lx__law_groups cx__law_groups kx__law_groups fun _ _ _ _ _ _ us hl => match us, hl with | [_], _ => rfl
  let a__law_number : DefAt K mg "_law_number" P__law_number s__law_number := at_mk X G ax__law_number lx__law_number cx__law_number kx__law_number fun _ _ _ _ _ _ us hl => match us, hl with | [_], _ => rfl
  let a__law_act : DefAt K mg "_law_act" P__law_act s__law_act := at_mk X G ax__law_act lx__law_act cx__law_act kx__law_act fun _ _ _ _ _ _ us hl => match us, hl with | [_], _ => rfl
  let a__law_line : DefAt K mg "_law_line" P__law_line s__law_line := at_mk X G ax__law_line lx__law_line cx__law_line kx__law_line fun _ _ _ _ _ _ us hl => match us, hl with | [_], _ => rfl
  let a__law_skipped : DefAt K mg "_law_skipped" P__law_skipped s__law_skipped := at_mk X G ax__law_skipped lx__law_skipped cx__law_skipped kx__law_skipped fun _ _ _ _ _ _ us hl => match us, hl with | [_], _ => rfl
  have F_law := fun_mk (st := s_law) lx_law cx_law kx_law
  refine ⟨PySem.W.fnOf "law" "law" (defArgs s_law) (defBody s_law) (defScope s_law) .none kVx_law dcx_law pmx_law anx_law cdx_law ctx_law, fun s v => .of_eq rfl, fun base _ _ => ?_⟩
  have I : Ti w K mg D__ITEMS D__TEXTS := by
    refine ⟨PySem.W.mg_of X G aD__ITEMS, ⟨_, _, lD__ITEMS, kD__ITEMS, zD__ITEMS⟩, ?_, e13__ITEMS, PySem.W.mg_of X G aT__TEXTS, tupB_ok lT__TEXTS (by decide)⟩
    intro k ns h
    simp only [kindT, List.mem_cons, List.not_mem_nil, or_false, Prod.mk.injEq] at h
    rcases h with ⟨rfl, rfl⟩ | ⟨rfl, rfl⟩ | ⟨rfl, rfl⟩ | ⟨rfl, rfl⟩ | ⟨rfl, rfl⟩ | ⟨rfl, rfl⟩ | ⟨rfl, rfl⟩ | ⟨rfl, rfl⟩ | ⟨rfl, rfl⟩ | ⟨rfl, rfl⟩ | ⟨rfl, rfl⟩ | ⟨rfl, rfl⟩ | ⟨rfl, rfl⟩
    · exact ⟨_, e0__ITEMS, tupB_ok lA_tick (by decide)⟩
    · exact ⟨_, e1__ITEMS, tupB_ok lA_calm (by decide)⟩
    · exact ⟨_, e2__ITEMS, tupB_ok lA_round (by decide)⟩
    · exact ⟨_, e3__ITEMS, tupB_ok lA_deliver (by decide)⟩
    · exact ⟨_, e4__ITEMS, tupB_ok lA_lose (by decide)⟩
    · exact ⟨_, e5__ITEMS, tupB_ok lA_double (by decide)⟩
    · exact ⟨_, e6__ITEMS, tupB_ok lA_move (by decide)⟩
    · exact ⟨_, e7__ITEMS, tupB_ok lA_cast (by decide)⟩
    · exact ⟨_, e8__ITEMS, tupB_ok lA_part (by decide)⟩
    · exact ⟨_, e9__ITEMS, tupB_ok lA_heal (by decide)⟩
    · exact ⟨_, e10__ITEMS, tupB_ok lA_crash (by decide)⟩
    · exact ⟨_, e11__ITEMS, tupB_ok lA_start (by decide)⟩
    · exact ⟨_, e12__ITEMS, tupB_ok lA_arm (by decide)⟩
  let c__put : DefOk l.prog w K mg base (L2.CX l.prog w) "_put" P__put 1 ((sp__put C_BadText)) := a__put.ok fun F => ok__put T.toTt F
  let c__is_printable_character : DefOk l.prog w K mg base CX0 "_is_printable_character" P__is_printable_character (1) ((sp__is_printable_character)) := a__is_printable_character.ok fun F => ok__is_printable_character T.toTt.toTx F
  let c_is_printable : DefOk l.prog w K mg base CX0 "is_printable" P_is_printable (2) ((sp_is_printable)) := a_is_printable.ok fun F => ok_is_printable T.toTt.toTx c__is_printable_character F
  let c__string_text : DefOk l.prog w K mg base CX0 "_string_text" P__string_text (3) ((sp__string_text)) := a__string_text.ok fun F => ok__string_text T.toTt.toTx c_is_printable F
  let c_is_integer : DefOk l.prog w K mg base CX0 "is_integer" P_is_integer (1) ((spI)) := a_is_integer.ok fun F => ok_is_integer T.toTt.toTx F
  let c__integer_text : DefOk l.prog w K mg base CX0 "_integer_text" P__integer_text (2) ((sp__integer_text)) := a__integer_text.ok fun F => ok__integer_text T.toTt.toTx c_is_integer F
  let c__digits_end : DefOk l.prog w K mg base CX0 "_digits_end" P__digits_end (1) ((sp__digits_end)) := a__digits_end.ok fun F => ok__digits_end T.toTt.toTx F
  let c__read_integer : DefOk l.prog w K mg base CX0 "_read_integer" P__read_integer (2) ((sp__read_integer)) := a__read_integer.ok fun F => ok__read_integer T.toTt.toTx c__digits_end F
  let c__read_characters : DefOk l.prog w K mg base CX0 "_read_characters" P__read_characters (1) ((sp__read_characters)) := a__read_characters.ok fun F => ok__read_characters T.toTt.toTx F
  let c__write : DefOk l.prog w K mg base (L2.CX l.prog w) "_write" P__write 20 (sp__write C_BadText 8) := (mk_write T.toTt a__write a__write_tuple c__put c__string_text c__integer_text 8).1
  let c__read : DefOk l.prog w K mg base CX0 "_read" P__read 20 (sp__read 8) := (mk_read T.toTt.toTx a__read a__read_tuple c__read_integer c__read_characters 8).1
  let c__law_bag : DefOk l.prog w K mg base CX0 "_law_bag" P__law_bag (1) ((sp_bag K)) := a__law_bag.ok fun F => ok__law_bag T.toTt.toTx F
  let c__law_draw : DefOk l.prog w K mg base CX0 "_law_draw" P__law_draw (1) ((sp_draw)) := a__law_draw.ok fun F => ok__law_draw T.toTt.toTx F
  let c__law_number : DefOk l.prog w K mg base CX0 "_law_number" P__law_number (2) ((sp_lnum)) := a__law_number.ok fun F => ok__law_number T.toTt.toTx c__law_draw F
  let c__law_skipped : DefOk l.prog w K mg base CX0 "_law_skipped" P__law_skipped (2) ((sp_lskip)) := a__law_skipped.ok fun F => ok__law_skipped T.toTt.toTx c__law_draw F
  let c__law_text : DefOk l.prog w K mg base CX0 "_law_text" P__law_text (2) ((sp_ltxt)) := a__law_text.ok fun F => ok__law_text T.toTt.toTx c__law_draw F
  let c__law_groups : DefOk l.prog w K mg base CX0 "_law_groups" P__law_groups (2) ((sp_lgrp)) := a__law_groups.ok fun F => ok__law_groups T.toTt.toTx c__law_draw F
  let c__law_act : DefOk l.prog w K mg base CX0 "_law_act" P__law_act (3) ((sp_lact)) := a__law_act.ok fun F => ok__law_act T.toTt.toTx c__law_draw c__law_number c__law_text c__law_groups F
  let c_encode : DefOk l.prog w K mg base (L2.CX l.prog w) "encode" P_encode 21 ((sp_encode C_BadText)) := a_encode.ok fun F => ok_encode T.toTt c__write F
  let c__law_line : DefOk l.prog w K mg base CX0 "_law_line" P__law_line 22 (sp_aline) := a__law_line.ok fun F => ok__law_line T c_encode F
  let c_is_kind : DefOk l.prog w K mg base CX0 "is_kind" P_is_kind 1 (sp_kind) := a_is_kind.ok fun F => ok_is_kind T.toTt.toTx I F
  let c_item_names : DefOk l.prog w K mg base CX0 "item_names" P_item_names 1 ((sp_names K)) := a_item_names.ok fun F => ok_item_names T.toTt.toTx I F
  let c__has_right_number : DefOk l.prog w K mg base CX0 "_has_right_number" P__has_right_number (2) ((sp_hrn)) := a__has_right_number.ok fun F => ok__has_right_number T.toTt.toTx c_is_integer F
  let c_check_act : DefOk l.prog w K mg base CX0 "check_act" P_check_act (3) ((sp_chka)) := a_check_act.ok fun F => ok_check_act T.toTt.toTx c_is_kind c_item_names c__has_right_number F
  let c__is_text_of : DefOk l.prog w K mg base CX0 "_is_text_of" P__is_text_of (1) ((sp_tof)) := a__is_text_of.ok fun F => ok__is_text_of T.toTt.toTx F
  let c__word_of : DefOk l.prog w K mg base CX0 "_word_of" P__word_of 22 (sp_word) := a__word_of.ok fun F => ok__word_of T I c_is_integer c__is_text_of c_encode F
  let c_act_line : DefOk l.prog w K mg base CX0 "act_line" P_act_line 23 (sp_aline) := a_act_line.ok fun F => ok_act_line T c_check_act c_item_names c__word_of F
  let c__split : DefOk l.prog w K mg base CX0 "_split" P__split 1 ((sp_spl K)) := a__split.ok fun F => ok__split T I F
  let c_decode : DefOk l.prog w K mg base CX0 "decode" P_decode (21) ((sp_decode)) := a_decode.ok fun F => ok_decode T.toTt.toTx c_is_printable c__read F
  let c__read_text : DefOk l.prog w K mg base CX0 "_read_text" P__read_text 22 (sp_rtext) := a__read_text.ok fun F => ok__read_text T c_decode c__is_text_of F
  let c__is_number : DefOk l.prog w K mg base CX0 "_is_number" P__is_number (1) ((sp_isn)) := a__is_number.ok fun F => ok__is_number T.toTt.toTx F
  let c__read_word : DefOk l.prog w K mg base CX0 "_read_word" P__read_word 23 (sp_rword) := a__read_word.ok fun F => ok__read_word T I c__read_text c__is_number F
  let c__read_line : DefOk l.prog w K mg base CX0 "_read_line" P__read_line 24 (sp_rline) := a__read_line.ok fun F => ok__read_line T c_is_printable c_is_kind c_item_names c__split c__read_word F
  let c_parse_schedule : DefOk l.prog w K mg base CX0 "parse_schedule" P_parse_schedule 25 (sp_parse) := a_parse_schedule.ok fun F => ok_parse_schedule T c__read_line F
  exact ok_law T c__law_bag c__law_draw c__law_number c__law_skipped c__law_act c__law_line c_act_line c_check_act c_parse_schedule F_law
end Mus

set_option maxRecDepth 100000
set_option maxHeartbeats 4000000
namespace Mus
open PySem PySem.Spec PyProof.Rows L2
/-! ### the head, by one run -/
def intB (K : PySem.W.Frag) (x : Str) (i : Int) : Bool := match PySem.W.nsIn K mainGlobals x with
  | some (some (.int j _)) => decide (j = i)
  | _ => false
theorem intB_ok {K : PySem.W.Frag} {x : Str} {i : Int} (c : intB K x i = true) : ∃ t, PySem.W.nsIn K mainGlobals x = some (some (.int i t)) := by
  unfold intB at c
  split at c
  · rename_i j t e
    have ej : j = i := of_decide_eq_true c
    exact ⟨t, by rw [e, ej]⟩
  · cases c
def ExP0 (K : PySem.W.Frag) : Prop := (PySem.W.nsIn K mainGlobals "BadText" = some (some (.ref (He.ga K "BadText")))) ∧ (PySem.W.excIn K (He.ga K "BadText") [.type "ValueError", .type "Exception", .type "BaseException", .type "object"] "ValueError.__new__" = true) ∧ (PySem.W.keepIn K (.ref (He.ga K "BadText")) = true) ∧ (PySem.W.subIn K (.ref (He.ga K "BadText")) (.type "BaseException") = some true) ∧ (PySem.W.typeIn K (.ref (He.ga K "BadText")) = some (.type "type")) ∧ (PySem.W.nsIn K mainGlobals "_ITEMS" = some (some (.ref (He.ga K "_ITEMS")))) ∧ (PySem.W.nsIn K (He.ga K "_ITEMS") "tick" = some (some (.ref (tA K (He.ga K "_ITEMS") "tick")))) ∧ (PySem.W.nsIn K (He.ga K "_ITEMS") "calm" = some (some (.ref (tA K (He.ga K "_ITEMS") "calm")))) ∧ (PySem.W.nsIn K (He.ga K "_ITEMS") "round" = some (some (.ref (tA K (He.ga K "_ITEMS") "round")))) ∧ (PySem.W.nsIn K (He.ga K "_ITEMS") "deliver" = some (some (.ref (tA K (He.ga K "_ITEMS") "deliver")))) ∧ (PySem.W.nsIn K (He.ga K "_ITEMS") "lose" = some (some (.ref (tA K (He.ga K "_ITEMS") "lose")))) ∧ (PySem.W.nsIn K (He.ga K "_ITEMS") "double" = some (some (.ref (tA K (He.ga K "_ITEMS") "double"))))
instance (K : PySem.W.Frag) : Decidable (ExP0 K) := by unfold ExP0; infer_instance
def ExP1 (K : PySem.W.Frag) : Prop := (PySem.W.nsIn K (He.ga K "_ITEMS") "move" = some (some (.ref (tA K (He.ga K "_ITEMS") "move")))) ∧ (PySem.W.nsIn K (He.ga K "_ITEMS") "cast" = some (some (.ref (tA K (He.ga K "_ITEMS") "cast")))) ∧ (PySem.W.nsIn K (He.ga K "_ITEMS") "part" = some (some (.ref (tA K (He.ga K "_ITEMS") "part")))) ∧ (PySem.W.nsIn K (He.ga K "_ITEMS") "heal" = some (some (.ref (tA K (He.ga K "_ITEMS") "heal")))) ∧ (PySem.W.nsIn K (He.ga K "_ITEMS") "crash" = some (some (.ref (tA K (He.ga K "_ITEMS") "crash")))) ∧ (PySem.W.nsIn K (He.ga K "_ITEMS") "start" = some (some (.ref (tA K (He.ga K "_ITEMS") "start")))) ∧ (PySem.W.nsIn K (He.ga K "_ITEMS") "arm" = some (some (.ref (tA K (He.ga K "_ITEMS") "arm")))) ∧ (PySem.W.nsIn K (He.ga K "_ITEMS") "group" = some none) ∧ (PySem.W.nsIn K mainGlobals "BadSchedule" = some (some (.ref (He.ga K "BadSchedule")))) ∧ (PySem.W.nsIn K mainGlobals "_TEXTS" = some (some (.ref (He.ga K "_TEXTS")))) ∧ (tupB K (He.ga K "_TEXTS") ["payload", "groups"] = true) ∧ (tupB K (tA K (He.ga K "_ITEMS") "tick") ["ticks"] = true)
instance (K : PySem.W.Frag) : Decidable (ExP1 K) := by unfold ExP1; infer_instance
def ExP2 (K : PySem.W.Frag) : Prop := (tupB K (tA K (He.ga K "_ITEMS") "calm") ["ticks"] = true) ∧ (tupB K (tA K (He.ga K "_ITEMS") "round") [] = true) ∧ (tupB K (tA K (He.ga K "_ITEMS") "deliver") ["position"] = true) ∧ (tupB K (tA K (He.ga K "_ITEMS") "lose") ["position"] = true) ∧ (tupB K (tA K (He.ga K "_ITEMS") "double") ["position"] = true) ∧ (tupB K (tA K (He.ga K "_ITEMS") "move") ["position"] = true) ∧ (tupB K (tA K (He.ga K "_ITEMS") "cast") ["process", "payload"] = true) ∧ (tupB K (tA K (He.ga K "_ITEMS") "part") ["groups"] = true) ∧ (tupB K (tA K (He.ga K "_ITEMS") "heal") [] = true) ∧ (tupB K (tA K (He.ga K "_ITEMS") "crash") ["process"] = true) ∧ (tupB K (tA K (He.ga K "_ITEMS") "start") ["process"] = true) ∧ (tupB K (tA K (He.ga K "_ITEMS") "arm") ["process", "count", "keep"] = true)
instance (K : PySem.W.Frag) : Decidable (ExP2 K) := by unfold ExP2; infer_instance
def ExP3 (K : PySem.W.Frag) : Prop := (PySem.W.exmOne K (.ref (He.ga K "BadText")) (.ref (He.ga K "BadText")) = some true) ∧ (PySem.W.nsIn K mainGlobals "is_printable" = some (some (.ref (He.fAd K ("is_printable", none))))) ∧ (PySem.W.nsIn K mainGlobals "_is_printable_character" = some (some (.ref (He.fAd K ("_is_printable_character", none))))) ∧ (PySem.W.nsIn K mainGlobals "is_integer" = some (some (.ref (He.fAd K ("is_integer", none))))) ∧ (PySem.W.nsIn K mainGlobals "encode" = some (some (.ref (He.fAd K ("encode", none))))) ∧ (PySem.W.nsIn K mainGlobals "_write" = some (some (.ref (He.fAd K ("_write", none))))) ∧ (PySem.W.nsIn K mainGlobals "_write_tuple" = some (some (.ref (He.fAd K ("_write_tuple", none))))) ∧ (PySem.W.nsIn K mainGlobals "_put" = some (some (.ref (He.fAd K ("_put", none))))) ∧ (PySem.W.nsIn K mainGlobals "_string_text" = some (some (.ref (He.fAd K ("_string_text", none))))) ∧ (PySem.W.nsIn K mainGlobals "_integer_text" = some (some (.ref (He.fAd K ("_integer_text", none))))) ∧ (PySem.W.nsIn K mainGlobals "decode" = some (some (.ref (He.fAd K ("decode", none))))) ∧ (PySem.W.nsIn K mainGlobals "_read" = some (some (.ref (He.fAd K ("_read", none)))))
instance (K : PySem.W.Frag) : Decidable (ExP3 K) := by unfold ExP3; infer_instance
def ExP4 (K : PySem.W.Frag) : Prop := (PySem.W.nsIn K mainGlobals "_read_tuple" = some (some (.ref (He.fAd K ("_read_tuple", none))))) ∧ (PySem.W.nsIn K mainGlobals "_read_characters" = some (some (.ref (He.fAd K ("_read_characters", none))))) ∧ (PySem.W.nsIn K mainGlobals "_read_integer" = some (some (.ref (He.fAd K ("_read_integer", none))))) ∧ (PySem.W.nsIn K mainGlobals "_digits_end" = some (some (.ref (He.fAd K ("_digits_end", none))))) ∧ (PySem.W.nsIn K mainGlobals "is_kind" = some (some (.ref (He.fAd K ("is_kind", none))))) ∧ (PySem.W.nsIn K mainGlobals "item_names" = some (some (.ref (He.fAd K ("item_names", none))))) ∧ (PySem.W.nsIn K mainGlobals "check_act" = some (some (.ref (He.fAd K ("check_act", none))))) ∧ (PySem.W.nsIn K mainGlobals "_has_right_number" = some (some (.ref (He.fAd K ("_has_right_number", none))))) ∧ (PySem.W.nsIn K mainGlobals "parse_schedule" = some (some (.ref (He.fAd K ("parse_schedule", none))))) ∧ (PySem.W.nsIn K mainGlobals "act_line" = some (some (.ref (He.fAd K ("act_line", none))))) ∧ (PySem.W.nsIn K mainGlobals "_read_line" = some (some (.ref (He.fAd K ("_read_line", none))))) ∧ (PySem.W.nsIn K mainGlobals "_split" = some (some (.ref (He.fAd K ("_split", none)))))
instance (K : PySem.W.Frag) : Decidable (ExP4 K) := by unfold ExP4; infer_instance
def ExP5 (K : PySem.W.Frag) : Prop := (PySem.W.nsIn K mainGlobals "_read_word" = some (some (.ref (He.fAd K ("_read_word", none))))) ∧ (PySem.W.nsIn K mainGlobals "_read_text" = some (some (.ref (He.fAd K ("_read_text", none))))) ∧ (PySem.W.nsIn K mainGlobals "_is_number" = some (some (.ref (He.fAd K ("_is_number", none))))) ∧ (PySem.W.nsIn K mainGlobals "_is_text_of" = some (some (.ref (He.fAd K ("_is_text_of", none))))) ∧ (PySem.W.nsIn K mainGlobals "_word_of" = some (some (.ref (He.fAd K ("_word_of", none))))) ∧ (PySem.W.nsIn K mainGlobals "_law_bag" = some (some (.ref (He.fAd K ("_law_bag", none))))) ∧ (PySem.W.nsIn K mainGlobals "_law_draw" = some (some (.ref (He.fAd K ("_law_draw", none))))) ∧ (PySem.W.nsIn K mainGlobals "_law_text" = some (some (.ref (He.fAd K ("_law_text", none))))) ∧ (PySem.W.nsIn K mainGlobals "_law_groups" = some (some (.ref (He.fAd K ("_law_groups", none))))) ∧ (PySem.W.nsIn K mainGlobals "_law_number" = some (some (.ref (He.fAd K ("_law_number", none))))) ∧ (PySem.W.nsIn K mainGlobals "_law_act" = some (some (.ref (He.fAd K ("_law_act", none))))) ∧ (PySem.W.nsIn K mainGlobals "_law_line" = some (some (.ref (He.fAd K ("_law_line", none)))))
instance (K : PySem.W.Frag) : Decidable (ExP5 K) := by unfold ExP5; infer_instance
def ExP6 (K : PySem.W.Frag) : Prop := (PySem.W.nsIn K mainGlobals "_law_skipped" = some (some (.ref (He.fAd K ("_law_skipped", none))))) ∧ (PySem.W.nsIn K mainGlobals "law" = some (some (.ref (He.fAd K ("law", none))))) ∧ (PySem.W.nsIn K mainGlobals "len" = some none) ∧ (PySem.W.nsIn K mainGlobals "isinstance" = some none) ∧ (PySem.W.nsIn K mainGlobals "int" = some none) ∧ (PySem.W.nsIn K mainGlobals "bool" = some none) ∧ (PySem.W.nsIn K mainGlobals "str" = some none) ∧ (PySem.W.nsIn K mainGlobals "tuple" = some none) ∧ (PySem.W.nsIn K mainGlobals "list" = some none) ∧ (PySem.W.nsIn K mainGlobals "range" = some none) ∧ (PySem.W.nsIn K mainGlobals "ord" = some none) ∧ (PySem.W.nsIn K mainGlobals "enumerate" = some none)
instance (K : PySem.W.Frag) : Decidable (ExP6 K) := by unfold ExP6; infer_instance
def ExP7 (K : PySem.W.Frag) : Prop := (PySem.W.nsIn K mainGlobals "zip" = some none)
instance (K : PySem.W.Frag) : Decidable (ExP7 K) := by unfold ExP7; infer_instance
def hEx (K : PySem.W.Frag) : Bool := decide (ExP0 K) && (decide (ExP1 K) && (decide (ExP2 K) && (decide (ExP3 K) && (decide (ExP4 K) && (decide (ExP5 K) && (decide (ExP6 K) && (decide (ExP7 K) && ([(("_REFUSED_CODE" : Str), (37 : Int)), (("MOST_DIGITS" : Str), (24 : Int)), (("MOST_DEPTH" : Str), (8 : Int)), (("MOST_LENGTH" : Str), (100000 : Int)), (("MOST_TICKS" : Str), (1000 : Int)), (("_MOST_DIGITS" : Str), (12 : Int)), (("MOST_NUMBER" : Str), (1000000000000 : Int)), (("_GREATEST" : Str), (999999999999 : Int))].all fun q => intB K q.1 q.2))))))))
def hFn0 : List He.DefD := [⟨("is_printable", none), "is_printable", "is_printable", defArgs s_is_printable, defBody s_is_printable, defScope s_is_printable, [], []⟩, ⟨("_is_printable_character", none), "_is_printable_character", "_is_printable_character", defArgs s__is_printable_character, defBody s__is_printable_character, defScope s__is_printable_character, [], []⟩, ⟨("is_integer", none), "is_integer", "is_integer", defArgs s_is_integer, defBody s_is_integer, defScope s_is_integer, [], []⟩, ⟨("encode", none), "encode", "encode", defArgs s_encode, defBody s_encode, defScope s_encode, [], []⟩, ⟨("_write", none), "_write", "_write", defArgs s__write, defBody s__write, defScope s__write, [], []⟩, ⟨("_write_tuple", none), "_write_tuple", "_write_tuple", defArgs s__write_tuple, defBody s__write_tuple, defScope s__write_tuple, [], []⟩, ⟨("_put", none), "_put", "_put", defArgs s__put, defBody s__put, defScope s__put, [], []⟩, ⟨("_string_text", none), "_string_text", "_string_text", defArgs s__string_text, defBody s__string_text, defScope s__string_text, [], []⟩, ⟨("_integer_text", none), "_integer_text", "_integer_text", defArgs s__integer_text, defBody s__integer_text, defScope s__integer_text, [], []⟩, ⟨("decode", none), "decode", "decode", defArgs s_decode, defBody s_decode, defScope s_decode, [], []⟩, ⟨("_read", none), "_read", "_read", defArgs s__read, defBody s__read, defScope s__read, [], []⟩, ⟨("_read_tuple", none), "_read_tuple", "_read_tuple", defArgs s__read_tuple, defBody s__read_tuple, defScope s__read_tuple, [], []⟩, ⟨("_read_characters", none), "_read_characters", "_read_characters", defArgs s__read_characters, defBody s__read_characters, defScope s__read_characters, [], []⟩, ⟨("_read_integer", none), "_read_integer", "_read_integer", defArgs s__read_integer, defBody s__read_integer, defScope s__read_integer, [], []⟩, ⟨("_digits_end", none), "_digits_end", "_digits_end", defArgs s__digits_end, defBody s__digits_end, defScope s__digits_end, [], []⟩, ⟨("is_kind", none), "is_kind", "is_kind", defArgs s_is_kind, defBody s_is_kind, defScope s_is_kind, [], []⟩, ⟨("item_names", none), "item_names", "item_names", defArgs s_item_names, defBody s_item_names, defScope s_item_names, [], []⟩, ⟨("check_act", none), "check_act", "check_act", defArgs s_check_act, defBody s_check_act, defScope s_check_act, [], []⟩, ⟨("_has_right_number", none), "_has_right_number", "_has_right_number", defArgs s__has_right_number, defBody s__has_right_number, defScope s__has_right_number, [], []⟩, ⟨("parse_schedule", none), "parse_schedule", "parse_schedule", defArgs s_parse_schedule, defBody s_parse_schedule, defScope s_parse_schedule, [], []⟩, ⟨("act_line", none), "act_line", "act_line", defArgs s_act_line, defBody s_act_line, defScope s_act_line, [], []⟩, ⟨("_read_line", none), "_read_line", "_read_line", defArgs s__read_line, defBody s__read_line, defScope s__read_line, [], []⟩, ⟨("_split", none), "_split", "_split", defArgs s__split, defBody s__split, defScope s__split, [], []⟩, ⟨("_read_word", none), "_read_word", "_read_word", defArgs s__read_word, defBody s__read_word, defScope s__read_word, [], []⟩, ⟨("_read_text", none), "_read_text", "_read_text", defArgs s__read_text, defBody s__read_text, defScope s__read_text, [], []⟩, ⟨("_is_number", none), "_is_number", "_is_number", defArgs s__is_number, defBody s__is_number, defScope s__is_number, [], []⟩, ⟨("_is_text_of", none), "_is_text_of", "_is_text_of", defArgs s__is_text_of, defBody s__is_text_of, defScope s__is_text_of, [], []⟩, ⟨("_word_of", none), "_word_of", "_word_of", defArgs s__word_of, defBody s__word_of, defScope s__word_of, [], []⟩, ⟨("_law_bag", none), "_law_bag", "_law_bag", defArgs s__law_bag, defBody s__law_bag, defScope s__law_bag, [], []⟩, ⟨("_law_draw", none), "_law_draw", "_law_draw", defArgs s__law_draw, defBody s__law_draw, defScope s__law_draw, [], []⟩]
def hFn1 : List He.DefD := [⟨("_law_text", none), "_law_text", "_law_text", defArgs s__law_text, defBody s__law_text, defScope s__law_text, [], []⟩, ⟨("_law_groups", none), "_law_groups", "_law_groups", defArgs s__law_groups, defBody s__law_groups, defScope s__law_groups, [], []⟩, ⟨("_law_number", none), "_law_number", "_law_number", defArgs s__law_number, defBody s__law_number, defScope s__law_number, [], []⟩, ⟨("_law_act", none), "_law_act", "_law_act", defArgs s__law_act, defBody s__law_act, defScope s__law_act, [], []⟩, ⟨("_law_line", none), "_law_line", "_law_line", defArgs s__law_line, defBody s__law_line, defScope s__law_line, [], []⟩, ⟨("_law_skipped", none), "_law_skipped", "_law_skipped", defArgs s__law_skipped, defBody s__law_skipped, defScope s__law_skipped, [], []⟩, ⟨("law", none), "law", "law", defArgs s_law, defBody s_law, defScope s_law, [], []⟩]
def hFn : List He.DefD := hFn0 ++ (hFn1)
def hTs : List He.Tab := [((fun K => He.ga K "_ITEMS"), (kindT.map (·.1)))]
def hNm0 : List PySem.Str := ["MusterError", "BadText", "BadSchedule", "MOST_NUMBER", "MOST_DIGITS", "MOST_DEPTH", "MOST_LENGTH", "_REFUSED_CODE", "is_printable", "_is_printable_character", "is_integer", "encode", "_write", "_write_tuple", "_put", "_string_text", "_integer_text", "decode", "_read", "_read_tuple", "_read_characters", "_read_integer", "_digits_end", "MOST_TICKS", "_ITEMS", "is_kind", "item_names", "check_act", "_has_right_number", "_MOST_DIGITS"]
def hNm1 : List PySem.Str := ["_GREATEST", "_TEXTS", "parse_schedule", "act_line", "_read_line", "_split", "_read_word", "_read_text", "_is_number", "_is_text_of", "_word_of", "_law_bag", "_law_draw", "_law_text", "_law_groups", "_law_number", "_law_act", "_law_line", "_law_skipped"]
def hNm : List PySem.Str := hNm0 ++ (hNm1)
abbrev hR : PySem.W.OpenRow := PySem.W.OpenLaw.row PySem.Challenge.rw_mustercall_k52_schedules_read_back
def hAs0 : List Addr := [3, 24, 37, 65, 72, 79, 86, 93, 100, 107, 114, 121, 128, 135, 142, 149, 156, 163, 164, 184, 191, 198, 205, 206, 213, 220, 227, 234, 241, 248, 255, 262, 269, 276, 283, 288]
def hAs1 : List Addr := [293, 300, 307, 314, 321, 328, 23, 36, 64, 71, 78, 85, 92, 99, 106, 113, 120, 127, 134, 141, 148, 155, 162, 165, 166, 167, 168, 169, 170, 171, 172, 173, 174, 175, 176, 177]
def hAs2 : List Addr := [183, 190, 197, 204, 212, 219, 226, 233, 240, 247, 254, 261, 268, 275, 282, 287, 292, 299, 306, 313, 320, 327]
def hAs : List Addr := hAs0 ++ (hAs1 ++ (hAs2))
/-- what is looked at: the defs, the tables, the facts, of the objects at hAs -/
def hobs (g : Addr → Option Obj) : He.AlX := (He.obsT [] hFn hTs (He.frG g hAs), hEx (He.frG g hAs))
def hSays (w : World) (h : Heap) : Prop := ∃ K : PySem.W.Frag, K.In h ∧ (He.SaysT [] hFn hTs w K ∧ hEx K = true)
def hk : PySem.W.Hook := { α := He.AlX, obs := fun s => hobs s.heap.get?, val := fun w => (He.valT hFn hTs w, true), says := hSays, of := fun w s e => ⟨He.frG s.heap.get? hAs, He.frG_in, (Prod.mk.inj e).1, (Prod.mk.inj e).2⟩, keeps := fun w h h' y z => y.elim fun K y => ⟨K, y.1.keeps z, y.2⟩ }
abbrev hq : Program := PySem.W.view hR.prog [54]
def hob (s : PySem.W.SharedT) : He.AlX := hobs (HandSHeadRun.getT s)
theorem hob_eq (s : PySem.W.SharedT) : hob s = hk.obs s.abs := congrArg hobs (funext (HandSHeadRun.getT_eq s))
end Mus

set_option maxRecDepth 100000
set_option maxHeartbeats 4000000
namespace Mus
open PySem PySem.Spec PyProof.Rows L2
theorem hrunF (w : World) : HandSHeadRun.RunEq hR hq hk hob 8000 hNm (w.withFollow "special-get-raises" false) := by
  intro os
  kernel_rfl
theorem hrunT (w : World) : HandSHeadRun.RunEq hR hq hk hob 8000 hNm (w.withFollow "special-get-raises" true) := by
  intro os
  kernel_rfl
theorem hrun (w : World) : HandSHeadRun.RunEq hR hq hk hob 8000 hNm w := PySem.W.byRow2 "special-get-raises" (P := fun w => HandSHeadRun.RunEq hR hq hk hob 8000 hNm w) hrunF hrunT w
end Mus

set_option maxRecDepth 100000
set_option maxHeartbeats 4000000
namespace Mus
open PySem PySem.Spec PyProof.Rows L2
theorem fx {K : PySem.W.Frag} (c : He.SaysD [] hFn K) (i : Nat) {d : He.DefD} (h : hFn[i]? = some d) (hd : d.dfl = []) : ∃ (oc : Value) (od an : Option Addr) (sl : Array (Option Value)) (kV dc pm cd ct : Value), K.lookup (He.fAd K d.at_) = some ⟨oc, od, .func (PySem.W.fnOf d.name d.qual d.params d.body d.scope .none kV dc pm an cd ct), sl⟩ ∧ PySem.W.codeIn K cd d.qual = true ∧ PySem.W.keepIn K (.ref (He.fAd K d.at_)) = true := by
  obtain ⟨fd, F⟩ := c.def_ i h
  obtain ⟨oc, od, dV, kV, dc, pm, an, cd, ct, sl, rfl, lk, hc, hD, _⟩ := F.ex
  rcases hD with ⟨_, rfl⟩ | ⟨e, _⟩
  · exact ⟨oc, od, an, sl, kV, dc, pm, cd, ct, lk, hc, F.kp⟩
  · exact absurd (by unfold He.DefD.dvs; rw [hd]; rfl) e
theorem hfacts {l : PySem.W.OpenLaw} {w : World} {K : PySem.W.Frag} {h : Heap} {mg : Str → Option Value} {fa : Addr} (X : K.In h) (G : h.Ns mainGlobals mg) (hfa : mg "law" = some (.ref fa)) (c : He.SaysT [] hFn hTs w K) (cm : hEx K = true) :
    ∃ fd : FuncData, (∀ (s : Shared) (v : Value), BindsTo s fd ⟨[v], []⟩ [("script", v)]) ∧ ∀ base : Heap, K.In base → base.Ns mainGlobals mg → FnOk l.prog w K mg base CX0 26 fa fd ["script"] (sp_law K) := by
  unfold hEx at cm
  obtain ⟨z0, cm⟩ := He.ba cm
  obtain ⟨aC_BadText, x_BadText, k_BadText, b_BadText, t_BadText, aD__ITEMS, e0__ITEMS, e1__ITEMS, e2__ITEMS, e3__ITEMS, e4__ITEMS, e5__ITEMS⟩ := of_decide_eq_true z0
  obtain ⟨z0, cm⟩ := He.ba cm
  obtain ⟨e6__ITEMS, e7__ITEMS, e8__ITEMS, e9__ITEMS, e10__ITEMS, e11__ITEMS, e12__ITEMS, e13__ITEMS, aC_BadSchedule, aT__TEXTS, lT__TEXTS, lA_tick⟩ := of_decide_eq_true z0
  obtain ⟨z0, cm⟩ := He.ba cm
  obtain ⟨lA_calm, lA_round, lA_deliver, lA_lose, lA_double, lA_move, lA_cast, lA_part, lA_heal, lA_crash, lA_start, lA_arm⟩ := of_decide_eq_true z0
  obtain ⟨z0, cm⟩ := He.ba cm
  obtain ⟨m_TT, ax_is_printable, ax__is_printable_character, ax_is_integer, ax_encode, ax__write, ax__write_tuple, ax__put, ax__string_text, ax__integer_text, ax_decode, ax__read⟩ := of_decide_eq_true z0
  obtain ⟨z0, cm⟩ := He.ba cm
  obtain ⟨ax__read_tuple, ax__read_characters, ax__read_integer, ax__digits_end, ax_is_kind, ax_item_names, ax_check_act, ax__has_right_number, ax_parse_schedule, ax_act_line, ax__read_line, ax__split⟩ := of_decide_eq_true z0
  obtain ⟨z0, cm⟩ := He.ba cm
  obtain ⟨ax__read_word, ax__read_text, ax__is_number, ax__is_text_of, ax__word_of, ax__law_bag, ax__law_draw, ax__law_text, ax__law_groups, ax__law_number, ax__law_act, ax__law_line⟩ := of_decide_eq_true z0
  obtain ⟨z0, cm⟩ := He.ba cm
  obtain ⟨ax__law_skipped, ax_law, zlen, zisinstance, zint, zbool, zstr, ztuple, zlist, zrange, zord, zenumerate⟩ := of_decide_eq_true z0
  obtain ⟨z0, cm⟩ := He.ba cm
  have zzip := of_decide_eq_true z0
  have ci := List.all_eq_true.mp cm
  obtain ⟨t_v_REFUSED_CODE, i_v_REFUSED_CODE⟩ := intB_ok (ci ("_REFUSED_CODE", 37) (by simp))
  obtain ⟨t_vMOST_DIGITS, i_vMOST_DIGITS⟩ := intB_ok (ci ("MOST_DIGITS", 24) (by simp))
  obtain ⟨t_vMOST_DEPTH, i_vMOST_DEPTH⟩ := intB_ok (ci ("MOST_DEPTH", 8) (by simp))
  obtain ⟨t_vMOST_LENGTH, i_vMOST_LENGTH⟩ := intB_ok (ci ("MOST_LENGTH", 100000) (by simp))
  obtain ⟨t_vMOST_TICKS, i_vMOST_TICKS⟩ := intB_ok (ci ("MOST_TICKS", 1000) (by simp))
  obtain ⟨t_v_MOST_DIGITS, i_v_MOST_DIGITS⟩ := intB_ok (ci ("_MOST_DIGITS", 12) (by simp))
  obtain ⟨t_hL0, i_hL0⟩ := intB_ok (ci ("MOST_NUMBER", 1000000000000) (by simp))
  obtain ⟨t_hL1, i_hL1⟩ := intB_ok (ci ("_GREATEST", 999999999999) (by simp))
  obtain ⟨_, _, _, _, _, _, _, _, _, lx_is_printable, cx_is_printable, kx_is_printable⟩ := fx c.d 0 (d := ⟨("is_printable", none), "is_printable", "is_printable", defArgs s_is_printable, defBody s_is_printable, defScope s_is_printable, [], []⟩) rfl rfl
  obtain ⟨_, _, _, _, _, _, _, _, _, lx__is_printable_character, cx__is_printable_character, kx__is_printable_character⟩ := fx c.d 1 (d := ⟨("_is_printable_character", none), "_is_printable_character", "_is_printable_character", defArgs s__is_printable_character, defBody s__is_printable_character, defScope s__is_printable_character, [], []⟩) rfl rfl
  obtain ⟨_, _, _, _, _, _, _, _, _, lx_is_integer, cx_is_integer, kx_is_integer⟩ := fx c.d 2 (d := ⟨("is_integer", none), "is_integer", "is_integer", defArgs s_is_integer, defBody s_is_integer, defScope s_is_integer, [], []⟩) rfl rfl
  obtain ⟨_, _, _, _, _, _, _, _, _, lx_encode, cx_encode, kx_encode⟩ := fx c.d 3 (d := ⟨("encode", none), "encode", "encode", defArgs s_encode, defBody s_encode, defScope s_encode, [], []⟩) rfl rfl
  obtain ⟨_, _, _, _, _, _, _, _, _, lx__write, cx__write, kx__write⟩ := fx c.d 4 (d := ⟨("_write", none), "_write", "_write", defArgs s__write, defBody s__write, defScope s__write, [], []⟩) rfl rfl
  obtain ⟨_, _, _, _, _, _, _, _, _, lx__write_tuple, cx__write_tuple, kx__write_tuple⟩ := fx c.d 5 (d := ⟨("_write_tuple", none), "_write_tuple", "_write_tuple", defArgs s__write_tuple, defBody s__write_tuple, defScope s__write_tuple, [], []⟩) rfl rfl
  obtain ⟨_, _, _, _, _, _, _, _, _, lx__put, cx__put, kx__put⟩ := fx c.d 6 (d := ⟨("_put", none), "_put", "_put", defArgs s__put, defBody s__put, defScope s__put, [], []⟩) rfl rfl
  obtain ⟨_, _, _, _, _, _, _, _, _, lx__string_text, cx__string_text, kx__string_text⟩ := fx c.d 7 (d := ⟨("_string_text", none), "_string_text", "_string_text", defArgs s__string_text, defBody s__string_text, defScope s__string_text, [], []⟩) rfl rfl
  obtain ⟨_, _, _, _, _, _, _, _, _, lx__integer_text, cx__integer_text, kx__integer_text⟩ := fx c.d 8 (d := ⟨("_integer_text", none), "_integer_text", "_integer_text", defArgs s__integer_text, defBody s__integer_text, defScope s__integer_text, [], []⟩) rfl rfl
  obtain ⟨_, _, _, _, _, _, _, _, _, lx_decode, cx_decode, kx_decode⟩ := fx c.d 9 (d := ⟨("decode", none), "decode", "decode", defArgs s_decode, defBody s_decode, defScope s_decode, [], []⟩) rfl rfl
  obtain ⟨_, _, _, _, _, _, _, _, _, lx__read, cx__read, kx__read⟩ := fx c.d 10 (d := ⟨("_read", none), "_read", "_read", defArgs s__read, defBody s__read, defScope s__read, [], []⟩) rfl rfl
  obtain ⟨_, _, _, _, _, _, _, _, _, lx__read_tuple, cx__read_tuple, kx__read_tuple⟩ := fx c.d 11 (d := ⟨("_read_tuple", none), "_read_tuple", "_read_tuple", defArgs s__read_tuple, defBody s__read_tuple, defScope s__read_tuple, [], []⟩) rfl rfl
  obtain ⟨_, _, _, _, _, _, _, _, _, lx__read_characters, cx__read_characters, kx__read_characters⟩ := fx c.d 12 (d := ⟨("_read_characters", none), "_read_characters", "_read_characters", defArgs s__read_characters, defBody s__read_characters, defScope s__read_characters, [], []⟩) rfl rfl
  obtain ⟨_, _, _, _, _, _, _, _, _, lx__read_integer, cx__read_integer, kx__read_integer⟩ := fx c.d 13 (d := ⟨("_read_integer", none), "_read_integer", "_read_integer", defArgs s__read_integer, defBody s__read_integer, defScope s__read_integer, [], []⟩) rfl rfl
  obtain ⟨_, _, _, _, _, _, _, _, _, lx__digits_end, cx__digits_end, kx__digits_end⟩ := fx c.d 14 (d := ⟨("_digits_end", none), "_digits_end", "_digits_end", defArgs s__digits_end, defBody s__digits_end, defScope s__digits_end, [], []⟩) rfl rfl
  obtain ⟨_, _, _, _, _, _, _, _, _, lx_is_kind, cx_is_kind, kx_is_kind⟩ := fx c.d 15 (d := ⟨("is_kind", none), "is_kind", "is_kind", defArgs s_is_kind, defBody s_is_kind, defScope s_is_kind, [], []⟩) rfl rfl
  obtain ⟨_, _, _, _, _, _, _, _, _, lx_item_names, cx_item_names, kx_item_names⟩ := fx c.d 16 (d := ⟨("item_names", none), "item_names", "item_names", defArgs s_item_names, defBody s_item_names, defScope s_item_names, [], []⟩) rfl rfl
  obtain ⟨_, _, _, _, _, _, _, _, _, lx_check_act, cx_check_act, kx_check_act⟩ := fx c.d 17 (d := ⟨("check_act", none), "check_act", "check_act", defArgs s_check_act, defBody s_check_act, defScope s_check_act, [], []⟩) rfl rfl
  obtain ⟨_, _, _, _, _, _, _, _, _, lx__has_right_number, cx__has_right_number, kx__has_right_number⟩ := fx c.d 18 (d := ⟨("_has_right_number", none), "_has_right_number", "_has_right_number", defArgs s__has_right_number, defBody s__has_right_number, defScope s__has_right_number, [], []⟩) rfl rfl
  obtain ⟨_, _, _, _, _, _, _, _, _, lx_parse_schedule, cx_parse_schedule, kx_parse_schedule⟩ := fx c.d 19 (d := ⟨("parse_schedule", none), "parse_schedule", "parse_schedule", defArgs s_parse_schedule, defBody s_parse_schedule, defScope s_parse_schedule, [], []⟩) rfl rfl
  obtain ⟨_, _, _, _, _, _, _, _, _, lx_act_line, cx_act_line, kx_act_line⟩ := fx c.d 20 (d := ⟨("act_line", none), "act_line", "act_line", defArgs s_act_line, defBody s_act_line, defScope s_act_line, [], []⟩) rfl rfl
  obtain ⟨_, _, _, _, _, _, _, _, _, lx__read_line, cx__read_line, kx__read_line⟩ := fx c.d 21 (d := ⟨("_read_line", none), "_read_line", "_read_line", defArgs s__read_line, defBody s__read_line, defScope s__read_line, [], []⟩) rfl rfl
  obtain ⟨_, _, _, _, _, _, _, _, _, lx__split, cx__split, kx__split⟩ := fx c.d 22 (d := ⟨("_split", none), "_split", "_split", defArgs s__split, defBody s__split, defScope s__split, [], []⟩) rfl rfl
  obtain ⟨_, _, _, _, _, _, _, _, _, lx__read_word, cx__read_word, kx__read_word⟩ := fx c.d 23 (d := ⟨("_read_word", none), "_read_word", "_read_word", defArgs s__read_word, defBody s__read_word, defScope s__read_word, [], []⟩) rfl rfl
  obtain ⟨_, _, _, _, _, _, _, _, _, lx__read_text, cx__read_text, kx__read_text⟩ := fx c.d 24 (d := ⟨("_read_text", none), "_read_text", "_read_text", defArgs s__read_text, defBody s__read_text, defScope s__read_text, [], []⟩) rfl rfl
  obtain ⟨_, _, _, _, _, _, _, _, _, lx__is_number, cx__is_number, kx__is_number⟩ := fx c.d 25 (d := ⟨("_is_number", none), "_is_number", "_is_number", defArgs s__is_number, defBody s__is_number, defScope s__is_number, [], []⟩) rfl rfl
  obtain ⟨_, _, _, _, _, _, _, _, _, lx__is_text_of, cx__is_text_of, kx__is_text_of⟩ := fx c.d 26 (d := ⟨("_is_text_of", none), "_is_text_of", "_is_text_of", defArgs s__is_text_of, defBody s__is_text_of, defScope s__is_text_of, [], []⟩) rfl rfl
  obtain ⟨_, _, _, _, _, _, _, _, _, lx__word_of, cx__word_of, kx__word_of⟩ := fx c.d 27 (d := ⟨("_word_of", none), "_word_of", "_word_of", defArgs s__word_of, defBody s__word_of, defScope s__word_of, [], []⟩) rfl rfl
  obtain ⟨_, _, _, _, _, _, _, _, _, lx__law_bag, cx__law_bag, kx__law_bag⟩ := fx c.d 28 (d := ⟨("_law_bag", none), "_law_bag", "_law_bag", defArgs s__law_bag, defBody s__law_bag, defScope s__law_bag, [], []⟩) rfl rfl
  obtain ⟨_, _, _, _, _, _, _, _, _, lx__law_draw, cx__law_draw, kx__law_draw⟩ := fx c.d 29 (d := ⟨("_law_draw", none), "_law_draw", "_law_draw", defArgs s__law_draw, defBody s__law_draw, defScope s__law_draw, [], []⟩) rfl rfl
  obtain ⟨_, _, _, _, _, _, _, _, _, lx__law_text, cx__law_text, kx__law_text⟩ := fx c.d 30 (d := ⟨("_law_text", none), "_law_text", "_law_text", defArgs s__law_text, defBody s__law_text, defScope s__law_text, [], []⟩) rfl rfl
  obtain ⟨_, _, _, _, _, _, _, _, _, lx__law_groups, cx__law_groups, kx__law_groups⟩ := fx c.d 31 (d := ⟨("_law_groups", none), "_law_groups", "_law_groups", defArgs s__law_groups, defBody s__law_groups, defScope s__law_groups, [], []⟩) rfl rfl
  obtain ⟨_, _, _, _, _, _, _, _, _, lx__law_number, cx__law_number, kx__law_number⟩ := fx c.d 32 (d := ⟨("_law_number", none), "_law_number", "_law_number", defArgs s__law_number, defBody s__law_number, defScope s__law_number, [], []⟩) rfl rfl
  obtain ⟨_, _, _, _, _, _, _, _, _, lx__law_act, cx__law_act, kx__law_act⟩ := fx c.d 33 (d := ⟨("_law_act", none), "_law_act", "_law_act", defArgs s__law_act, defBody s__law_act, defScope s__law_act, [], []⟩) rfl rfl
  obtain ⟨_, _, _, _, _, _, _, _, _, lx__law_line, cx__law_line, kx__law_line⟩ := fx c.d 34 (d := ⟨("_law_line", none), "_law_line", "_law_line", defArgs s__law_line, defBody s__law_line, defScope s__law_line, [], []⟩) rfl rfl
  obtain ⟨_, _, _, _, _, _, _, _, _, lx__law_skipped, cx__law_skipped, kx__law_skipped⟩ := fx c.d 35 (d := ⟨("_law_skipped", none), "_law_skipped", "_law_skipped", defArgs s__law_skipped, defBody s__law_skipped, defScope s__law_skipped, [], []⟩) rfl rfl
  obtain ⟨_, _, _, _, _, _, _, _, _, lx_law, cx_law, kx_law⟩ := fx c.d 36 (d := ⟨("law", none), "law", "law", defArgs s_law, defBody s_law, defScope s_law, [], []⟩) rfl rfl
  obtain ⟨es__ITEMS, nE__ITEMS, KD__ITEMS⟩ := c.tab 0 (t := ((fun K => He.ga K "_ITEMS"), (kindT.map (·.1)))) rfl
  have lD__ITEMS := KD__ITEMS.at_
  have kD__ITEMS := KD__ITEMS.lit
  have zD__ITEMS := KD__ITEMS.low
  have tb__ITEMS : He.dicW K (He.ga K "_ITEMS") = some (He.keysIn w.params (kindT.map (·.1))) := by
    have e : hTs.map (fun t => He.dicW K (t.1 K)) = hTs.map fun t => some (He.keysIn w.params t.2) := congrArg (fun z : He.AlT => z.2) c
    have e2 : (hTs.map fun t => He.dicW K (t.1 K))[0]? = (hTs.map fun t => some (He.keysIn w.params t.2))[0]? := by rw [e]
    exact Option.some.inj e2
  exact all_mk X G hfa ⟨_, PySem.W.mg_of X G i_hL0⟩ ⟨_, PySem.W.mg_of X G i_hL1⟩ aC_BadText x_BadText k_BadText b_BadText t_BadText aD__ITEMS lD__ITEMS kD__ITEMS zD__ITEMS e0__ITEMS e1__ITEMS e2__ITEMS e3__ITEMS e4__ITEMS e5__ITEMS e6__ITEMS e7__ITEMS e8__ITEMS e9__ITEMS e10__ITEMS e11__ITEMS e12__ITEMS e13__ITEMS aC_BadSchedule aT__TEXTS lT__TEXTS lA_tick lA_calm lA_round lA_deliver lA_lose lA_double lA_move lA_cast lA_part lA_heal lA_crash lA_start lA_arm m_TT ax_is_printable lx_is_printable cx_is_printable kx_is_printable ax__is_printable_character lx__is_printable_character cx__is_printable_character kx__is_printable_character ax_is_integer lx_is_integer cx_is_integer kx_is_integer ax_encode lx_encode cx_encode kx_encode ax__write lx__write cx__write kx__write ax__write_tuple lx__write_tuple cx__write_tuple kx__write_tuple ax__put lx__put cx__put kx__put ax__string_text lx__string_text cx__string_text kx__string_text ax__integer_text lx__integer_text cx__integer_text kx__integer_text ax_decode lx_decode cx_decode kx_decode ax__read lx__read cx__read kx__read ax__read_tuple lx__read_tuple cx__read_tuple kx__read_tuple ax__read_characters lx__read_characters cx__read_characters kx__read_characters ax__read_integer lx__read_integer cx__read_integer kx__read_integer ax__digits_end lx__digits_end cx__digits_end kx__digits_end ax_is_kind lx_is_kind cx_is_kind kx_is_kind ax_item_names lx_item_names cx_item_names kx_item_names ax_check_act lx_check_act cx_check_act kx_check_act ax__has_right_number lx__has_right_number cx__has_right_number kx__has_right_number ax_parse_schedule lx_parse_schedule cx_parse_schedule kx_parse_schedule ax_act_line lx_act_line cx_act_line kx_act_line ax__read_line lx__read_line cx__read_line kx__read_line ax__split lx__split cx__split kx__split ax__read_word lx__read_word cx__read_word kx__read_word ax__read_text lx__read_text cx__read_text kx__read_text ax__is_number lx__is_number cx__is_number kx__is_number ax__is_text_of lx__is_text_of cx__is_text_of kx__is_text_of ax__word_of lx__word_of cx__word_of kx__word_of ax__law_bag lx__law_bag cx__law_bag kx__law_bag ax__law_draw lx__law_draw cx__law_draw kx__law_draw ax__law_text lx__law_text cx__law_text kx__law_text ax__law_groups lx__law_groups cx__law_groups kx__law_groups ax__law_number lx__law_number cx__law_number kx__law_number ax__law_act lx__law_act cx__law_act kx__law_act ax__law_line lx__law_line cx__law_line kx__law_line ax__law_skipped lx__law_skipped cx__law_skipped kx__law_skipped ax_law lx_law cx_law kx_law i_v_REFUSED_CODE i_vMOST_DIGITS i_vMOST_DEPTH i_vMOST_LENGTH i_vMOST_TICKS i_v_MOST_DIGITS zlen zisinstance zint zbool zstr ztuple zlist zrange zord zenumerate zzip
end Mus
open PySem PySem.W PySem.Calls PyProof.Rows
set_option maxHeartbeats 0 in
theorem PySem.Challenge.cw_mustercall_k52_schedules_read_back_holds : PySem.Challenge.rw_mustercall_k52_schedules_read_back.Holds := by
  w_on; o_law
  refine HandSHeadRun.head_any (r := OpenLaw.row PySem.Challenge.rw_mustercall_k52_schedules_read_back) (q := view (OpenLaw.row PySem.Challenge.rw_mustercall_k52_schedules_read_back).prog [54]) (H := Mus.hk) (ob := Mus.hob) (M := 8000) (loose := Mus.hNm) (d := HandSHeadRun.topDef (OpenLaw.row PySem.Challenge.rw_mustercall_k52_schedules_read_back).prog 54) (kwd := []) Mus.hob_eq
    (by kernel_rfl) (fun s => by kernel_rfl) Mus.hrun (by kernel_rfl) (by kernel_rfl) (by kernel_rfl) (by rfl) (by first | assumption | decide +kernel) (by decide +kernel) ⟨rfl, rfl, rfl, rfl, rfl, by decide +kernel⟩ ?hw ?hc
  case hw => w_witness2
  case hc =>
    refine L2.walk_ofE (l := PySem.Challenge.rw_mustercall_k52_schedules_read_back) (n := 63) (k := 26) (x := "script") (CX := L2.CX0) rfl (by decide) (by kernel_rfl) ⟨rfl, by decide, by decide⟩ ?F (fun _ _ _ _ z => z)
    intro w mg fa h Y G hmg0
    obtain ⟨K, KX, c, cm⟩ := Y
    have hmg : mg ("law" : PySem.Str) = some (.ref fa) := by
      have e : (HandSHeadRun.topDef (OpenLaw.row PySem.Challenge.rw_mustercall_k52_schedules_read_back).prog 54).name = ("law" : PySem.Str) := by kernel_rfl
      rw [← e]
      exact hmg0
    obtain ⟨fd, hb, hF⟩ := Mus.hfacts (l := PySem.Challenge.rw_mustercall_k52_schedules_read_back) (w := w) KX G hmg c cm
    exact ⟨K, fd, Mus.sp_law K, KX, hb, fun H a ns hl _ hS => ⟨a, ns, rfl, hS, hl, fun _ => rfl⟩, hF⟩

