import PyProof.Rows.All
import Wide.All
import OpenK.AllK
import Wide.FinOn
import HandS.Base
import HandS.Call
import HandS.List
import HandS.Comp
import HandS.Ends
import HandS.Iter
import HandS.Text
import HandS.Words
import HandS.WordsList
import HandS.Wide
import HandS.IsInst
import HandS.TupAny
import HandS.Dict
import HandS.WordsDict
import HandS.Conv
import HandS.More
import HandS.Codes
import HandS.SortRule
import HandS.Walk
import HandS.FStr
import HandS.StrMore
import KE.GoesEnum
import KE.DataCmp
import KE.DataMinMax
import HandS.CallLocal
import HandS.Exc
import HandS.ExcOwn
import HandS.TryOnly
import HandS.WordsExc
import HandS.TryMany
import HandS.ExcIs
import KE.KeyNested
import KE.KDictKeyed
import KE.SortData
import KE.SortUse
import HandS.SortOrd
import HandS.TupLe
import PySem.Challenge.RW_mustercall_k09_whole_letters_have_texts
set_option Elab.async false
set_option linter.all false
set_option maxRecDepth 100000
set_option maxHeartbeats 4000000
/-! What my proofs share: a def with its promise as one thing, small rules, heaps. -/
namespace Mus
open PySem L2
/-- a def of the text that keeps a promise, and all that a call of it asks -/
structure DefOk (P : Program) (w : World) (K : PySem.W.Frag) (mg : Str → Option Value) (base : Heap) (CX : CXT) (x : Str) (ps : List Str) (k : Nat) (sp : Sp) where
  f : Addr
  fd : FuncData
  G : FnOk P w K mg base CX k f fd ps sp
  m : mg x = some (.ref f)
  kp : PySem.W.keepIn K (.ref f) = true
  b : Binds K fd ps []
def DefOk.mono {P : Program} {w : World} {K : PySem.W.Frag} {mg : Str → Option Value} {base : Heap} {CX : CXT} {x : Str} {ps : List Str} {j k : Nat} {sp : Sp} (c : DefOk P w K mg base CX x ps j sp) (h : j ≤ k) : DefOk P w K mg base CX x ps k sp :=
  ⟨c.f, c.fd, c.G.mono h, c.m, c.kp, c.b⟩
/-- a def of the text as the top left it: no promise yet -/
structure DefAt (K : PySem.W.Frag) (mg : Str → Option Value) (x : Str) (ps : List Str) (st : Stmt) where
  f : Addr
  fd : FuncData
  F : Fun K x x st f fd
  m : mg x = some (.ref f)
  b : Binds K fd ps []
def DefAt.ok {P : Program} {w : World} {K : PySem.W.Frag} {mg : Str → Option Value} {base : Heap} {CX : CXT} {x : Str} {ps : List Str} {st : Stmt} {k : Nat} {sp : Sp} (d : DefAt K mg x ps st) (h : ∀ {f : Addr} {fd : FuncData}, Fun K x x st f fd → FnOk P w K mg base CX k f fd ps sp) : DefOk P w K mg base CX x ps k sp :=
  ⟨d.f, d.fd, h d.F, d.m, d.F.kp, d.b⟩
section
variable {X : Cx}
theorem pcall {x : Str} {ps : List Str} {j k : Nat} {sp : Sp} {e : Expr} {es : List Expr} {t : TA} {p pos : Pos} (c : DefOk X.prog X.w X.K X.mg X.base CX0 x ps j sp) (hr : Room k X.A) (ha : PA X (e :: es) t) (hj : j ≤ k := by first | decide | omega) (hg : Gl X x := by rfl)
    (db0 : (x == ("__debug__" : Str)) = false := by decide) (st0 : starEach (e :: es) X.env = (false, eval e X.env) :: starEach es X.env := by rfl) (pl0 : (backTo pos (starEach es X.env)).any (·.1) = false := by rfl) :
    PE X (.Call (.Name x p) (e :: es) [] pos) (tCall sp [] E0 t) := pe_call c.G (hr.mono hj) hg c.m c.kp c.b .nil pass0 ha db0 st0 pl0
/-- a text n times -/
theorem op_mul_str : OpR X (binaryOp .Mult) (fun x y H Q => ∃ (z : Str) (n : Int), x = .str z ∧ y = .int n ∧ 2 ≤ n ∧ n ≤ 1000 ∧ 1 ≤ z.length ∧ z.length ≤ 1000 ∧ ∀ r : Str, TL.tl r = (List.replicate n.toNat (TL.tl z)).flatten → Q (.str r) H) := by
  intro pins s σ H x y v u Q I rx ry h
  obtain ⟨z, n, rfl, rfl, h2, h3, h4, h5, q⟩ := h
  obtain ⟨t, rfl⟩ := rx
  obtain ⟨t', rfl⟩ := ry
  have n1 : ¬ n < 1 := by omega
  have n2 : ¬ (n == 1 || z.length == 0) = true := by
    rw [Bool.or_eq_true, beq_iff_eq, beq_iff_eq]; omega
  have hr : (decide (n < -(2 ^ 63 : Int)) || decide (n ≥ 2 ^ 63)) = false := by
    rw [decide_eq_false (by omega), decide_eq_false (by omega)]; rfl
  have hm : z.length * n.toNat ≤ 1000 * 1000 := Nat.mul_le_mul h5 (by omega)
  have hl : Builtin.Str.tooLong (z.length * n.toNat) = false := by
    unfold Builtin.Str.tooLong
    have e : sizeLine = 16777216 := sizeLine_eq
    rw [decide_eq_false (by omega)]
  have hb : ¬ ((z.length : Int) > (2 ^ 63 - 1) / n) := by
    have : (1000 : Int) ≤ (2 ^ 63 - 1) / n := by
      rw [Int.le_ediv_iff_mul_le (by omega)]
      omega
    omega
  refine PySem.P.mul_str hr (fun _ _ => hb) (fun _ _ => hl) ?_
  rw [if_neg n1, if_neg n2]
  have hf : ∀ (k : Nat) (acc : Array Nat), ((List.replicate k z.cps).foldl (· ++ ·) acc).toList = acc.toList ++ (List.replicate k z.cps.toList).flatten := by
    intro k
    induction k with
    | zero => intro acc; simp
    | succ k ih =>
      intro acc
      rw [List.replicate_succ, List.foldl_cons, ih, List.replicate_succ, List.flatten_cons, Array.toList_append, List.append_assoc]
  have hr : TL.tl (⟨(List.replicate n.toNat z.cps).foldl (· ++ ·) #[]⟩ : Str) = (List.replicate n.toNat (TL.tl z)).flatten := by
    show ((List.replicate n.toNat z.cps).foldl (· ++ ·) #[]).toList = _
    rw [hf]; rfl
  have hlen : (⟨(List.replicate n.toNat z.cps).foldl (· ++ ·) #[]⟩ : Str).length ≤ sizeLine := by
    rw [TL.len_tl, hr]
    have e : sizeLine = 16777216 := sizeLine_eq
    have z2 : ((List.replicate n.toNat (TL.tl z)).flatten).length = z.length * n.toNat := by
      rw [TL.len_tl]
      generalize n.toNat = k
      induction k with
      | zero => rfl
      | succ k ih => rw [List.replicate_succ, List.flatten_cons, List.length_append, ih, Nat.mul_succ, Nat.add_comm]
    omega
  exact ⟨hlen, .str _, H, I.tok _, ⟨_, rfl⟩, q _ hr⟩
/-- for c in a text -/
theorem for_str {z : Str} {g : TG} {tb : TS} {D : Ends} {σ : St} {H : Hp} (Pv : Nat → St → Hp → Prop) (h0 : Pv 0 σ H)
    (hs : ∀ i c σ H, (TL.tl z)[i]? = some c → Pv i σ H → g (.str ⟨#[c]⟩) σ H fun σ2 H2 => tb { D with nx := Pv (i + 1), ct := Pv (i + 1), bk := D.nx } σ2 H2) (hd : ∀ σ H, Pv (TL.tl z).length σ H → D.nx σ H) :
    ∃ W : Nat → Nat → St → Hp → Prop, (∃ m, W 0 m σ H) ∧ ∀ i m σ H, W i m σ H →
      ((Its z).stop i H ∧ D.nx σ H) ∨ ((Its z).go i H ∧ ∃ N : St → Hp → Prop, (∀ σ' H', N σ' H' → ∃ m', m' < m ∧ W (i + 1) m' σ' H') ∧ ∀ x H', (Its z).yld i H x H' → g x σ H' fun σ2 H2 => tb { D with nx := N, ct := N, bk := D.nx } σ2 H2) := by
  have hl : (TL.tl z).length = z.cps.size := Array.length_toList
  refine ⟨fun i m σ H => m = (TL.tl z).length - i ∧ i ≤ (TL.tl z).length ∧ Pv i σ H, ⟨(TL.tl z).length, rfl, Nat.zero_le _, h0⟩, ?_⟩
  rintro i m σ H ⟨rfl, le1, pv1⟩
  by_cases lt1 : i < (TL.tl z).length
  · refine .inr ⟨(by show i < z.cps.size; omega), Pv (i + 1), fun σ' H' p' => ⟨(TL.tl z).length - (i + 1), by omega, rfl, lt1, p'⟩, fun x H' y => ?_⟩
    obtain ⟨e, c, hc, ex⟩ := y
    subst e
    subst ex
    exact hs i c σ H' (by rw [Array.getElem?_toList]; exact hc) pv1
  · have e : i = (TL.tl z).length := by omega
    subst e
    exact .inl ⟨(by show z.cps.size ≤ _; omega), hd σ H pv1⟩
end
/-! ### heaps -/
/-- all but what stands at p is as it was -/
def But (p : Addr) (H H' : Hp) : Prop := ∀ b o, H b = some o → b ≠ p → H' b = some o
theorem But.refl (p : Addr) (H : Hp) : But p H H := fun _ _ h _ => h
theorem But.trans {p : Addr} {H H1 H2 : Hp} (a : But p H H1) (b : But p H1 H2) : But p H H2 := fun c o h n => b c o (a c o h n) n
theorem But.of {p : Addr} {H H' : Hp} (a : Same H H') : But p H H' := fun c o h _ => a c o h
theorem same_new {H : Hp} {p : Addr} (h : H p = none) (o : HO) : Same H (upd H p o) := fun b u q => by rw [upd_ne (ne_of_none q h)]; exact q
theorem but_upd {H : Hp} {p : Addr} (o : HO) : But p H (upd H p o) := fun b u q n => by rw [upd_ne n]; exact q
theorem same_seqT {K : PySem.W.Frag} {H H' : Hp} {a : Addr} {xs : List V} (e : Same H H') (h : SqT K H a xs) : SqT K H' a xs := by
  rcases h with (h | ⟨o, h⟩) | h
  · exact .inl (.inl (e _ _ h))
  · exact .inl (.inr ⟨o, e _ _ h⟩)
  · exact .inr h
/-- tuples stay where only a list may change -/
theorem But.seqT {K : PySem.W.Frag} {H H' : Hp} {p a : Addr} {xs ys : List V} (e : But p H H') (hp : H p = some (.lst ys)) (h : SqT K H a xs) : SqT K H' a xs := by
  rcases h with (h | ⟨o, h⟩) | h
  · exact .inl (.inl (e _ _ h (ne_of h hp (by intro z; cases z))))
  · exact .inl (.inr ⟨o, e _ _ h (ne_of h hp (by intro z; cases z))⟩)
  · exact .inr h
theorem But.seqL {K : PySem.W.Frag} {H H' : Hp} {p a : Addr} {xs : List V} (e : But p H H') (hp : a ≠ p) (h : SqL K H a xs) : SqL K H' a xs := by
  rcases h with (h | ⟨o, h⟩) | h
  · exact .inl (.inl (e _ _ h hp))
  · exact .inl (.inr ⟨o, e _ _ h hp⟩)
  · exact .inr h
end Mus

set_option maxRecDepth 100000
set_option maxHeartbeats 4000000
/-! Plain data of any kind in the heap, beside one list (the bag, at p) that changes. -/
namespace Mus
open PySem L2
theorem sl : sizeLine = 16777216 := sizeLine_eq
theorem dT {p : Prop} [Decidable p] {A B : Prop} (h : p) (a : A) : if decide p = true then A else B := by
  rw [decide_eq_true h]; exact iteT a
theorem dF {p : Prop} [Decidable p] {A B : Prop} (h : ¬ p) (b : B) : if decide p = true then A else B := by
  rw [decide_eq_false h]; exact iteF b
theorem nT {p : Prop} [Decidable p] {A B : Prop} (h : ¬ p) (a : A) : if (!decide p) = true then A else B := by
  rw [decide_eq_false h]; exact iteT a
theorem nF {p : Prop} [Decidable p] {A B : Prop} (h : p) (b : B) : if (!decide p) = true then A else B := by
  rw [decide_eq_true h]; exact iteF b
theorem at_int {α : Type} {xs : List α} {i : Int} {v : α} (h0 : 0 ≤ i) (h : xs[i.toNat]? = some v) : atI xs i = some v := by
  have e : i = ((i.toNat : Nat) : Int) := by omega
  rw [e]
  exact atI_nat h
theorem pe_const {X : Cx} {x : Str} {i : Int} {pos : Pos} (hm : ∃ t, X.mg x = some (.int i t)) (hg : Gl X x := by rfl) (hd : (x == ("__debug__" : Str)) = false := by decide) : PE X (.Name x pos) (tC (.int i)) := by
  obtain ⟨t, h⟩ := hm
  exact pe_glob hg h ⟨t, rfl⟩ hd
theorem pe_ty {X : Cx} {x : Str} {pos : Pos} (n : String) (hm : X.mg x = none) (hv : bootBuiltins x = some (.type n) := by decide +kernel) (hg : Gl X x := by rfl) (hn : x ≠ "__name__" := by decide) (hd : (x == ("__debug__" : Str)) = false := by decide) : PE X (.Name x pos) (tC (.ty n)) := pe_bltn hg hm hv rfl hn hd
theorem pe_cls {X : Cx} {x : Str} {C : Addr} {pos : Pos} (hm : X.mg x = some (.ref C)) (hg : Gl X x := by rfl) (hd : (x == ("__debug__" : Str)) = false := by decide) : PE X (.Name x pos) (tC (.ref C)) := pe_glob (v := .ref C) hg hm rfl hd
mutual
/-- the value v stands for the data d, all of it tracked and none of it at p -/
inductive Rp (p : Addr) (H : Hp) : V → PyData → Prop
  | non : Rp p H .non .none
  | bl (b : Bool) : Rp p H (.bl b) (.bool b)
  | int (i : Int) : Rp p H (.int i) (.int i)
  | str (x : Str) : Rp p H (.str x) (.str x)
  | lst {a : Addr} {xs : List V} {ds : List PyData} : H a = some (.lst xs) → a ≠ p → Rps p H xs ds → Rp p H (.ref a) (.list ds)
  | tup {a : Addr} {xs : List V} {ds : List PyData} : H a = some (.tup xs) → a ≠ p → xs.length ≤ 100000 → Rps p H xs ds → Rp p H (.ref a) (.tuple ds)
inductive Rps (p : Addr) (H : Hp) : List V → List PyData → Prop
  | nil : Rps p H [] []
  | cons {v : V} {vs : List V} {d : PyData} {ds : List PyData} : Rp p H v d → Rps p H vs ds → Rps p H (v :: vs) (d :: ds)
end
mutual
theorem Rp.mono {p : Addr} {H H' : Hp} (k : But p H H') : ∀ {v : V} {d : PyData}, Rp p H v d → Rp p H' v d
  | _, _, .non => .non
  | _, _, .bl b => .bl b
  | _, _, .int i => .int i
  | _, _, .str x => .str x
  | _, _, .lst h n r => .lst (k _ _ h n) n (Rps.mono k r)
  | _, _, .tup h n l r => .tup (k _ _ h n) n l (Rps.mono k r)
theorem Rps.mono {p : Addr} {H H' : Hp} (k : But p H H') : ∀ {vs : List V} {ds : List PyData}, Rps p H vs ds → Rps p H' vs ds
  | _, _, .nil => .nil
  | _, _, .cons a b => .cons (Rp.mono k a) (Rps.mono k b)
end
mutual
theorem Rp.dp {p : Addr} {K : PySem.W.Frag} {H : Hp} : ∀ {v : V} {d : PyData}, Rp p H v d → Dp K H v d
  | _, _, .non => .non
  | _, _, .bl b => .bl b
  | _, _, .int i => .int i
  | _, _, .str x => .str x
  | _, _, .lst h n r => .lst (SqL.of h) (Rps.dp r)
  | _, _, .tup h n _ r => .tup (SqT.of h) (Rps.dp r)
theorem Rps.dp {p : Addr} {K : PySem.W.Frag} {H : Hp} : ∀ {vs : List V} {ds : List PyData}, Rps p H vs ds → DpAll K H vs ds
  | _, _, .nil => .nil
  | _, _, .cons a b => .cons (Rp.dp a) (Rps.dp b)
end
theorem Rp.same {p : Addr} {H H' : Hp} {v : V} {d : PyData} (k : Same H H') (h : Rp p H v d) : Rp p H' v d := h.mono (But.of k)
theorem Rps.same {p : Addr} {H H' : Hp} {vs : List V} {ds : List PyData} (k : Same H H') (h : Rps p H vs ds) : Rps p H' vs ds := h.mono (But.of k)
theorem Rps.length {p : Addr} {H : Hp} : ∀ {vs : List V} {ds : List PyData}, Rps p H vs ds → vs.length = ds.length
  | _, _, .nil => rfl
  | _, _, .cons _ r => by rw [List.length_cons, List.length_cons, Rps.length r]
theorem Rps.at {p : Addr} {H : Hp} : ∀ {vs : List V} {ds : List PyData} {i : Nat} {v : V}, Rps p H vs ds → vs[i]? = some v → ∃ d, ds[i]? = some d ∧ Rp p H v d
  | _, _, i, v, .nil, h => by simp at h
  | _, _, 0, v, .cons a _, h => by cases h; exact ⟨_, rfl, a⟩
  | _, _, i + 1, v, .cons _ r, h => Rps.at (i := i) r (by simpa using h)
theorem Rps.get {p : Addr} {H : Hp} : ∀ {vs : List V} {ds : List PyData} {i : Nat} {d : PyData}, Rps p H vs ds → ds[i]? = some d → ∃ v, vs[i]? = some v ∧ Rp p H v d
  | _, _, i, v, .nil, h => by simp at h
  | _, _, 0, v, .cons a _, h => by cases h; exact ⟨_, rfl, a⟩
  | _, _, i + 1, v, .cons _ r, h => Rps.get (i := i) r (by simpa using h)
theorem Rps.append {p : Addr} {H : Hp} : ∀ {vs ws : List V} {ds es : List PyData}, Rps p H vs ds → Rps p H ws es → Rps p H (vs ++ ws) (ds ++ es)
  | _, _, _, _, .nil, r => r
  | _, _, _, _, .cons a q, r => .cons a (Rps.append q r)
theorem Rps.take {p : Addr} {H : Hp} : ∀ {vs : List V} {ds : List PyData} (n : Nat), Rps p H vs ds → Rps p H (vs.take n) (ds.take n)
  | _, _, 0, _ => .nil
  | _, _, n + 1, .nil => .nil
  | _, _, n + 1, .cons a q => .cons a (Rps.take n q)
theorem Rps.drop {p : Addr} {H : Hp} : ∀ {vs : List V} {ds : List PyData} (n : Nat), Rps p H vs ds → Rps p H (vs.drop n) (ds.drop n)
  | _, _, 0, r => r
  | _, _, n + 1, .nil => .nil
  | _, _, n + 1, .cons a q => Rps.drop n q
/-! ### classes of data -/
def tyD : PyData → Value
  | .none => .type "NoneType" | .bool _ => .type "bool" | .int _ => .type "int" | .str _ => .type "str" | .list _ => .type "list" | .tuple _ => .type "tuple" | .dict _ => .type "dict"
theorem Rp.ty {p : Addr} {K : PySem.W.Frag} {H : Hp} {v : V} {d : PyData} (h : Rp p H v d) : TyX K H v (tyD d) := by
  cases h with
  | non => exact .base .non
  | bl b => exact .base (.bl b)
  | int i => exact .base (.int i)
  | str x => exact .base (.str x)
  | lst h _ _ => exact .base (.lst h)
  | tup h _ _ _ => exact .base (.tup h)
def dInt : PyData → Bool
  | .int _ => true | .bool _ => true | _ => false
def dBool : PyData → Bool
  | .bool _ => true | _ => false
def dStr : PyData → Bool
  | .str _ => true | _ => false
def dTup : PyData → Bool
  | .tuple _ => true | _ => false
theorem kit_int {K : PySem.W.Frag} : ∀ d : PyData, PySem.W.kitOne K (tyD d) (.type "int") = some (dInt d)
  | .none => kit_ty (r := false) (by decide +kernel)
  | .bool _ => kit_ty (r := true) (by decide +kernel)
  | .int _ => kit_ty (r := true) (by decide +kernel)
  | .str _ => kit_ty (r := false) (by decide +kernel)
  | .list _ => kit_ty (r := false) (by decide +kernel)
  | .tuple _ => kit_ty (r := false) (by decide +kernel)
  | .dict _ => kit_ty (r := false) (by decide +kernel)
theorem kit_bool {K : PySem.W.Frag} : ∀ d : PyData, PySem.W.kitOne K (tyD d) (.type "bool") = some (dBool d)
  | .none => kit_ty (r := false) (by decide +kernel)
  | .bool _ => kit_ty (r := true) (by decide +kernel)
  | .int _ => kit_ty (r := false) (by decide +kernel)
  | .str _ => kit_ty (r := false) (by decide +kernel)
  | .list _ => kit_ty (r := false) (by decide +kernel)
  | .tuple _ => kit_ty (r := false) (by decide +kernel)
  | .dict _ => kit_ty (r := false) (by decide +kernel)
theorem kit_str {K : PySem.W.Frag} : ∀ d : PyData, PySem.W.kitOne K (tyD d) (.type "str") = some (dStr d)
  | .none => kit_ty (r := false) (by decide +kernel)
  | .bool _ => kit_ty (r := false) (by decide +kernel)
  | .int _ => kit_ty (r := false) (by decide +kernel)
  | .str _ => kit_ty (r := true) (by decide +kernel)
  | .list _ => kit_ty (r := false) (by decide +kernel)
  | .tuple _ => kit_ty (r := false) (by decide +kernel)
  | .dict _ => kit_ty (r := false) (by decide +kernel)
theorem kit_tup {K : PySem.W.Frag} : ∀ d : PyData, PySem.W.kitOne K (tyD d) (.type "tuple") = some (dTup d)
  | .none => kit_ty (r := false) (by decide +kernel)
  | .bool _ => kit_ty (r := false) (by decide +kernel)
  | .int _ => kit_ty (r := false) (by decide +kernel)
  | .str _ => kit_ty (r := false) (by decide +kernel)
  | .list _ => kit_ty (r := false) (by decide +kernel)
  | .tuple _ => kit_ty (r := true) (by decide +kernel)
  | .dict _ => kit_ty (r := false) (by decide +kernel)
end Mus
namespace Mus
open PySem L2
/-! ### members and view ids, as functions of data -/
def isInt (d : PyData) (a b : Int) : Bool := match d with | .int i => decide (a ≤ i) && decide (i ≤ b) | _ => false
def isProc (c d : PyData) : Bool := match c with | .int n => (decide (1 ≤ n) && decide (n ≤ 12)) && isInt d 0 (n - 1) | _ => false
def isMem (c : PyData) : PyData → Bool
  | .tuple [x, y] => isProc c x && isInt y 1 1000000000000
  | _ => false
def isVid (c : PyData) : PyData → Bool
  | .tuple [x, y] => isInt x 0 1000000000000 && isMem c y
  | _ => false
def procOf : PyData → Int
  | .tuple (.int i :: _) => i
  | _ => 0
def memsFrom (c : PyData) : Int → List PyData → Bool
  | _, [] => true
  | l, d :: ds => isMem c d && decide (l < procOf d) && memsFrom c (procOf d) ds
def isMems (c : PyData) : PyData → Bool
  | .tuple ds => !ds.isEmpty && memsFrom c (-1) ds
  | _ => false
theorem isProc_int {c d : PyData} (h : isProc c d = true) : ∃ n i, c = .int n ∧ d = .int i ∧ 1 ≤ n ∧ n ≤ 12 ∧ 0 ≤ i ∧ i < n := by
  cases c <;> try (simp [isProc] at h; done)
  rename_i n
  cases d <;> try (simp [isProc, isInt] at h; done)
  rename_i i
  simp [isProc, isInt] at h
  exact ⟨n, i, rfl, rfl, by omega, by omega, by omega, by omega⟩
theorem isInt_int {d : PyData} {a b : Int} (h : isInt d a b = true) : ∃ i, d = .int i ∧ a ≤ i ∧ i ≤ b := by
  cases d <;> try (simp [isInt] at h; done)
  rename_i i
  simp [isInt] at h
  exact ⟨i, rfl, h.1, h.2⟩
theorem isMem_int {c d : PyData} (h : isMem c d = true) : ∃ n i l, c = .int n ∧ d = .tuple [.int i, .int l] ∧ 1 ≤ n ∧ n ≤ 12 ∧ 0 ≤ i ∧ i < n ∧ 1 ≤ l ∧ l ≤ 1000000000000 := by
  unfold isMem at h
  split at h
  · rename_i x y
    rw [Bool.and_eq_true] at h
    obtain ⟨n, i, rfl, rfl, h1, h2, h3, h4⟩ := isProc_int h.1
    obtain ⟨l, rfl, h5, h6⟩ := isInt_int h.2
    exact ⟨n, i, l, rfl, rfl, h1, h2, h3, h4, h5, h6⟩
  · cases h
/-! ### promises: a truth told of data, nothing changed -/
def spI : Sp := fun vs H Q _ => ∃ (p : Addr) (v : V) (d : PyData) (a b : Int), vs = [v, .int a, .int b] ∧ Rp p H v d ∧ Q (.bl (isInt d a b)) H
def spB1 (f : PyData → Bool) : Sp := fun vs H Q _ => ∃ (p : Addr) (v : V) (d : PyData), vs = [v] ∧ Rp p H v d ∧ Q (.bl (f d)) H
def spB2 (f : PyData → PyData → Bool) : Sp := fun vs H Q _ => ∃ (p : Addr) (u v : V) (c d : PyData), vs = [u, v] ∧ Rp p H u c ∧ Rp p H v d ∧ Q (.bl (f c d)) H
/-- the same where new things may have come -/
def spS1 (f : PyData → Bool) : Sp := fun vs H Q _ => ∃ (p : Addr) (v : V) (d : PyData), vs = [v] ∧ Rp p H v d ∧ ∀ H', Same H H' → Q (.bl (f d)) H'
def spS2 (f : PyData → PyData → Bool) : Sp := fun vs H Q _ => ∃ (p : Addr) (u v : V) (c d : PyData), vs = [u, v] ∧ Rp p H u c ∧ Rp p H v d ∧ ∀ H', Same H H' → Q (.bl (f c d)) H'
theorem ansB {Q : VK} {H : Hp} {b c : Bool} (q : Q (.bl b) H) (e : b = c) : Q (.bl c) H := e ▸ q
theorem iB {A B : Prop} {b : Bool} (h1 : b = true → A) (h2 : b = false → B) : if b = true then A else B := by
  cases b
  · exact iteF (h2 rfl)
  · exact iteT (h1 rfl)
theorem vint_ne {a b : Int} (h : a ≠ b) : ¬ V.int a = V.int b := fun e => h (V.int.inj e)
theorem drop_cons {α : Type} {xs : List α} {i : Nat} {x : α} (h : xs[i]? = some x) : xs.drop i = x :: xs.drop (i + 1) := by
  obtain ⟨hi, e⟩ := List.getElem?_eq_some_iff.mp h
  rw [List.drop_eq_getElem_cons hi, e]
section
variable {P : Program} {w : World} {K : PySem.W.Frag} {mg : Str → Option Value} {base : Heap}
theorem no_call {CX : CXT} {k : Nat} {f : Addr} {fd : FuncData} {ps : List Str} {sp : Sp} (no : ∀ vs H Q E, ¬ sp vs H Q E) : FnOk P w K mg base CX k f fd ps sp :=
  ⟨fun vs H Q E h => absurd h (no vs H Q E), fun A outer s H args us vs Q E _ _ _ _ h => absurd h (no vs H Q E)⟩
end
end Mus

set_option maxRecDepth 100000
set_option maxHeartbeats 4000000
/-! The bag of a law's draws, new things beside it, displays of data, tuples cut and joined. -/
namespace Mus
open PySem L2
def Bag (p : Addr) (c : Int) (H : Hp) : Prop := ∃ x y : Int, H p = some (.lst [.int x, .int y, .int c])
theorem Bag.seqT {K : PySem.W.Frag} {p : Addr} {c : Int} {H H' : Hp} (g : Bag p c H) (b : But p H H') {a : Addr} {xs : List V} (h : SqT K H a xs) : SqT K H' a xs := by
  obtain ⟨x, y, hp⟩ := g
  exact b.seqT hp h
theorem Bag.ne {p D : Addr} {c : Int} {H : Hp} (g : Bag p c H) (h : H D = none) : p ≠ D := by
  obtain ⟨x, y, hp⟩ := g
  exact ne_of_none hp h
theorem Bag.upd {p D : Addr} {c : Int} {H : Hp} {o : HO} (g : Bag p c H) (h : p ≠ D) : Bag p c (upd H D o) := by
  obtain ⟨x, y, hp⟩ := g
  exact ⟨x, y, by rw [upd_ne h]; exact hp⟩
theorem Bag.new {p D : Addr} {c : Int} {H : Hp} {o : HO} (g : Bag p c H) (h : H D = none) : Bag p c (L2.upd H D o) := g.upd (g.ne h)
theorem Bag.same {p : Addr} {c : Int} {H H' : Hp} (g : Bag p c H) (s : Same H H') : Bag p c H' := by
  obtain ⟨x, y, hp⟩ := g
  exact ⟨x, y, s _ _ hp⟩
/-- a new thing -/
theorem But.new {p D : Addr} {H H' : Hp} {o : HO} (b : But p H H') (h : H' D = none) : But p H (L2.upd H' D o) := fun a u e n => by
  have z := b a u e n
  rw [upd_ne (ne_of_none z h)]; exact z
/-- a change at what was not there at first -/
theorem But.later {p D : Addr} {H H' : Hp} {o : HO} (b : But p H H') (h : H D = none) : But p H (L2.upd H' D o) := fun a u e n => by
  rw [upd_ne (ne_of_none e h)]; exact b a u e n
theorem But.free {p D : Addr} {H H' : Hp} (b : But p H H') (h : H' D = none) (n : D ≠ p) : H D = none := by
  cases e : H D with
  | none => rfl
  | some o =>
    have z := b D o e n
    rw [h] at z; cases z
/-! ### displays -/
/-- the expression gives the int i, and that is all -/
def DI (te : TE) (σ : St) (i : Int) : Prop := ∀ (H : Hp) (Q : VK), Q (.int i) H → te σ H Q
/-- the expression gives the data d, new things beside what was -/
def DE (p : Addr) (te : TE) (σ : St) (d : PyData) : Prop := ∀ (c : Int) (H : Hp) (Q : VK), Bag p c H → (∀ v H', Same H H' → Bag p c H' → Rp p H' v d → Q v H') → te σ H Q
def DEs (p : Addr) (ta : TA) (σ : St) (ds : List PyData) : Prop := ∀ (c : Int) (H : Hp) (Q : List V → Hp → Prop), Bag p c H → (∀ vs H', Same H H' → Bag p c H' → Rps p H' vs ds → Q vs H') → ta σ H Q
section
variable {p : Addr} {σ : St} {te ta1 tb1 : TE} {ta : TA} {i j : Int} {d : PyData} {ds : List PyData}
theorem Same.rfl' (H : Hp) : Same H H := fun _ _ h => h
theorem di_c : DI (tC (.int i)) σ i := fun _ _ q => q
theorem di_v {n : Nat} (h : σ[n]? = some (some (.int i))) : DI (tVar n) σ i := fun _ _ q => ⟨_, h, q⟩
theorem di_op {f : Int → Int → Int} (h1 : DI ta1 σ i) (h2 : DI tb1 σ j) : DI (tOp (rI0 fun i j => .int (f i j)) ta1 tb1) σ (f i j) := fun H Q q => h1 H _ (h2 H _ ⟨i, j, rfl, rfl, q⟩)
theorem di_opC {C : Int → Int → Prop} {f : Int → Int → Int} (h1 : DI ta1 σ i) (h2 : DI tb1 σ j) (hc : C i j) : DI (tOp (rI C fun i j => .int (f i j)) ta1 tb1) σ (f i j) := fun H Q q => h1 H _ (h2 H _ ⟨i, j, rfl, rfl, hc, q⟩)
theorem di_neg (h1 : DI te σ i) : DI (tUn (rU fun i => .int (-i)) te) σ (-i) := fun H Q q => h1 H _ ⟨i, rfl, q⟩
theorem de_i (h : DI te σ i) : DE p te σ (.int i) := fun c H Q g q => h H Q (q _ H (Same.rfl' H) g (.int i))
theorem de_bl {b : Bool} : DE p (tC (.bl b)) σ (.bool b) := fun c H Q g q => q _ H (Same.rfl' H) g (.bl b)
theorem de_str {z : Str} : DE p (tC (.str z)) σ (.str z) := fun c H Q g q => q _ H (Same.rfl' H) g (.str z)
theorem de_non : DE p (tC .non) σ .none := fun c H Q g q => q _ H (Same.rfl' H) g .non
theorem des_nil : DEs p tNil σ [] := fun c H Q g q => q [] H (Same.rfl' H) g .nil
theorem des_cons (h1 : DE p te σ d) (h2 : DEs p ta σ ds) : DEs p (tCons te ta) σ (d :: ds) := fun c H Q g q =>
  h1 c H _ g fun v H1 s1 g1 r1 => h2 c H1 _ g1 fun vs H2 s2 g2 r2 => q _ H2 (s1.trans s2) g2 (.cons (r1.same s2) r2)
theorem de_tup (h : DEs p ta σ ds) (hl : ds.length ≤ 1000) : DE p (tTup ta) σ (.tuple ds) := fun c H Q g q =>
  h c H _ g fun vs H1 s1 g1 r1 => ⟨by have := r1.length; have := sl; omega, fun a na => q _ _ (s1.trans (same_new na _)) (g1.new na) (.tup upd_same (g1.ne na).symm (by have := r1.length; omega) (r1.same (same_new na _)))⟩
theorem de_lst (h : DEs p ta σ ds) (hl : ds.length ≤ 1000) : DE p (tLst ta) σ (.list ds) := fun c H Q g q =>
  h c H _ g fun vs H1 s1 g1 r1 => ⟨by have := r1.length; have := sl; omega, fun a na => q _ _ (s1.trans (same_new na _)) (g1.new na) (.lst upd_same (g1.ne na).symm (r1.same (same_new na _)))⟩
theorem de_lstN (n : Nat) (R : PyData → Prop) {c : Int} {H : Hp} {Q : VK} (h : ∃ ds, DEs p ta σ ds ∧ ds.length = n ∧ ∀ d ∈ ds, R d) (hn : n ≤ 1000) (g : Bag p c H)
    (q : ∀ ds v H', ds.length = n → (∀ d ∈ ds, R d) → Same H H' → Bag p c H' → Rp p H' v (.list ds) → Q v H') : tLst ta σ H Q := by
  obtain ⟨ds, h1, h2, h3⟩ := h
  exact de_lst h1 (by omega) c H Q g fun v H' => q ds v H' h2 h3
theorem de_cat {es : List PyData} (h1 : DE p ta1 σ (.list ds)) (h2 : DE p tb1 σ (.list es)) (hl : ds.length + es.length ≤ 1000) : DE p (tOp rCat ta1 tb1) σ (.list (ds ++ es)) := fun c H Q g q =>
  h1 c H _ g fun v H1 s1 g1 r1 => h2 c H1 _ g1 fun u H2 s2 g2 r2 => by
    obtain _ | _ | _ | _ | @⟨a, xs, _, ha, na, hr⟩ | _ := r1.same s2
    obtain _ | _ | _ | _ | @⟨b, ys, _, hb, nb, hr2⟩ | _ := r2
    refine ⟨a, b, xs, ys, rfl, rfl, ha, hb, ?_, fun t nt => q _ _ (s1.trans (s2.trans (same_new nt _))) (g2.new nt) (.lst upd_same (g2.ne nt).symm ((hr.append hr2).same (same_new nt _)))⟩
    have := hr.length; have := hr2.length; have := sl; omega
theorem de_varD {n : Nat} {v : V} (h : σ[n]? = some (some v)) (hd : ∀ H, Rp p H v d) : DE p (tVar n) σ d := fun c H Q g q => ⟨_, h, q _ H (Same.rfl' H) g (hd H)⟩
end
/-! ### tuples cut and joined -/
def cutD (ds : List PyData) (lo hi : Option Int) : List PyData := (ds.drop (HT.sIx ds.length 0 lo)).take (HT.sIx ds.length ds.length hi - HT.sIx ds.length 0 lo)
theorem Rps.cut {p : Addr} {H : Hp} {vs : List V} {ds : List PyData} (r : Rps p H vs ds) (lo hi : Option Int) : Rps p H (cutV vs lo hi) (cutD ds lo hi) := by
  unfold cutV cutD
  rw [r.length]
  exact (r.drop _).take _
theorem cutD_len (ds : List PyData) (lo hi : Option Int) : (cutD ds lo hi).length ≤ ds.length := by
  unfold cutD
  rw [List.length_take, List.length_drop]; omega
theorem cutD_mem {ds : List PyData} {lo hi : Option Int} {d : PyData} (h : d ∈ cutD ds lo hi) : d ∈ ds := List.mem_of_mem_drop (List.mem_of_mem_take h)
theorem cut_whole {xs : List V} {lo hi : Option Int} (h : HT.sIx xs.length 0 lo = 0 ∧ HT.sIx xs.length xs.length hi = xs.length) : cutV xs lo hi = xs := by
  unfold cutV
  rw [h.1, h.2, List.drop_zero, Nat.sub_zero, List.take_length]
section
variable {K : PySem.W.Frag} {p : Addr} {c : Int} {H : Hp} {Q : VK}
theorem rd_cut {a : Addr} {ds : List PyData} {lo hi : Option Int} (r : Rp p H (.ref a) (.tuple ds)) (g : Bag p c H)
    (q : ∀ b H', Same H H' → Bag p c H' → Rp p H' (.ref b) (.tuple (cutD ds lo hi)) → Q (.ref b) H') : rSlA K (.ref a) lo hi H Q := by
  obtain _ | _ | _ | _ | _ | @⟨_, xs, _, ha, na, hw, hr⟩ := r
  refine ⟨a, xs, rfl, SqT.of ha, fun w => ?_, fun w b nb => ?_⟩
  · refine q _ _ (Same.rfl' H) g (.tup ha na hw ?_)
    have z := hr.cut lo hi
    rw [cut_whole w] at z
    exact z
  · exact q _ _ (same_new nb _) (g.new nb) (.tup upd_same (g.ne nb).symm (Nat.le_trans (cutV_length _ _ _) hw) ((hr.cut lo hi).same (same_new nb _)))
theorem rd_cat {a b : Addr} {ds es : List PyData} (r1 : Rp p H (.ref a) (.tuple ds)) (r2 : Rp p H (.ref b) (.tuple es)) (g : Bag p c H) (hl : ds.length + es.length ≤ 100000)
    (q : ∀ t H', Same H H' → Bag p c H' → Rp p H' (.ref t) (.tuple (ds ++ es)) → Q (.ref t) H') : rCatA K (.ref a) (.ref b) H Q := by
  have k2 := r2
  have k1 := r1
  obtain _ | _ | _ | _ | _ | @⟨_, xs, _, ha, na, hw, hr⟩ := r1
  obtain _ | _ | _ | _ | _ | @⟨_, ys, _, hb, nb, hw2, hr2⟩ := r2
  have l1 := hr.length
  have l2 := hr2.length
  have hs := sl
  refine ⟨a, b, xs, ys, rfl, rfl, SqT.of ha, SqT.of hb, by omega, fun e => ?_, fun _ e => ?_, fun _ _ t nt => ?_⟩
  · subst e
    cases ds with
    | nil => exact q _ _ (Same.rfl' H) g k2
    | cons _ _ => cases l1
  · subst e
    cases es with
    | nil => rw [List.append_nil] at q; exact q _ _ (Same.rfl' H) g k1
    | cons _ _ => cases l2
  · exact q _ _ (same_new nt _) (g.new nt) (.tup upd_same (g.ne nt).symm (by rw [List.length_append]; omega) ((hr.append hr2).same (same_new nt _)))
end
/-! ### how deep and wide, what its texts are -/
def fit : Nat → PyData → Prop
  | 0, .tuple _ => False
  | n + 1, .tuple ds => ds.length ≤ 3000 ∧ ∀ d ∈ ds, fit n d
  | _, _ => True
inductive Her (P : Str → Prop) : PyData → Prop
  | tup {ds : List PyData} : (∀ d ∈ ds, Her P d) → Her P (.tuple ds)
  | str {z : Str} : P z → Her P (.str z)
  | non : Her P .none
  | bl (b : Bool) : Her P (.bool b)
  | int (i : Int) : Her P (.int i)
  | lst (ds : List PyData) : Her P (.list ds)
theorem Her.mem {P : Str → Prop} {ds : List PyData} (h : Her P (.tuple ds)) : ∀ d ∈ ds, Her P d := by
  cases h with
  | tup h => exact h
theorem Her.cut {P : Str → Prop} {ds : List PyData} (h : Her P (.tuple ds)) (lo hi : Option Int) : Her P (.tuple (cutD ds lo hi)) := .tup fun d m => h.mem d (cutD_mem m)
theorem Her.app {P : Str → Prop} {ds es : List PyData} (h : Her P (.tuple ds)) (k : Her P (.tuple es)) : Her P (.tuple (ds ++ es)) := .tup fun d m => by
  rcases List.mem_append.mp m with m | m
  · exact h.mem d m
  · exact k.mem d m
theorem Her.one {P : Str → Prop} {d : PyData} (h : Her P d) : Her P (.tuple [d]) := .tup fun e m => by rw [List.mem_singleton.mp m]; exact h
/-- one level less, if there is one -/
def spv (sp : Nat → Sp) (n : Nat) : Sp := fun vs H Q E => ∃ m, n = m + 1 ∧ sp m vs H Q E
/-- a thing spoilt: some data, its texts from the two -/
def sp_spoilt (n : Nat) : Sp := fun vs H Q _ => ∃ (p : Addr) (c : Int) (v o : V) (d e : PyData), vs = [.ref p, v, o] ∧ Bag p c H ∧ Rp p H v d ∧ Rp p H o e ∧ fit n d ∧
  ∀ v' d' H', Rp p H' v' d' → (∀ P, Her P d → Her P e → Her P d') → But p H H' → Bag p c H' → Q v' H'
def sp_bag (K : PySem.W.Frag) : Sp := fun vs H Q _ => ∃ (a : Addr) (ns : List Int) (k : Nat), vs = [.ref a, .int k] ∧ SqL K H a (ns.map V.int) ∧ ∀ p H', H p = none → Same H H' → Bag p k H' → Q (.ref p) H'
def sp_draw : Sp := fun vs H Q _ => ∃ (p : Addr) (c m : Int), vs = [.ref p, .int m] ∧ Bag p c H ∧ 0 < m ∧ m.natAbs < 2 ^ 100 ∧ ∀ r H', 0 ≤ r → r < m → But p H H' → Bag p c H' → Q (.int r) H'
/-- an int at least 1 and at most 10 ** 12 -/
def sp_pos : Sp := fun vs H Q _ => ∃ (p : Addr) (c : Int), vs = [.ref p] ∧ Bag p c H ∧ ∀ r H', 1 ≤ r → r ≤ 1000000000000 → But p H H' → Bag p c H' → Q (.int r) H'
end Mus
namespace Mus
open PySem L2
/-- no list in it -/
inductive NoL : PyData → Prop
  | tup {ds : List PyData} : (∀ d ∈ ds, NoL d) → NoL (.tuple ds)
  | str (z : Str) : NoL (.str z)
  | non : NoL .none
  | bl (b : Bool) : NoL (.bool b)
  | int (i : Int) : NoL (.int i)
theorem NoL.mem {ds : List PyData} (h : NoL (.tuple ds)) : ∀ d ∈ ds, NoL d := by
  cases h with
  | tup h => exact h
theorem NoL.two {a b : PyData} (h : NoL a) (k : NoL b) : NoL (.tuple [a, b]) := .tup fun d m => by
  rcases List.mem_cons.mp m with rfl | m
  · exact h
  · rw [List.mem_singleton.mp m]; exact k
theorem NoL.three {a b c : PyData} (h : NoL a) (k : NoL b) (l : NoL c) : NoL (.tuple [a, b, c]) := .tup fun d m => by
  rcases List.mem_cons.mp m with rfl | m
  · exact h
  · rcases List.mem_cons.mp m with rfl | m
    · exact k
    · rw [List.mem_singleton.mp m]; exact l
mutual
theorem Rp.upL {p D : Addr} {H H' : Hp} {ys : List V} (hD : H D = some (.lst ys)) (k : ∀ b o, H b = some o → b ≠ p → b ≠ D → H' b = some o) : ∀ {v : V} {d : PyData}, Rp p H v d → NoL d → Rp p H' v d
  | _, _, .non, _ => .non
  | _, _, .bl b, _ => .bl b
  | _, _, .int i, _ => .int i
  | _, _, .str x, _ => .str x
  | _, _, .lst h n r, z => nomatch z
  | _, _, .tup h n l r, z => .tup (k _ _ h n (ne_of h hD (by intro z; cases z))) n l (Rps.upL hD k r z.mem)
theorem Rps.upL {p D : Addr} {H H' : Hp} {ys : List V} (hD : H D = some (.lst ys)) (k : ∀ b o, H b = some o → b ≠ p → b ≠ D → H' b = some o) : ∀ {vs : List V} {ds : List PyData}, Rps p H vs ds → (∀ d ∈ ds, NoL d) → Rps p H' vs ds
  | _, _, .nil, _ => .nil
  | _, _, .cons a b, z => .cons (Rp.upL hD k a (z _ List.mem_cons_self)) (Rps.upL hD k b fun d m => z d (List.mem_cons_of_mem _ m))
end
/-- a change at the list at D -/
theorem Rps.updL {p D : Addr} {H : Hp} {ys : List V} {o : HO} (hD : H D = some (.lst ys)) {vs : List V} {ds : List PyData} (r : Rps p H vs ds) (z : ∀ d ∈ ds, NoL d) : Rps p (upd H D o) vs ds :=
  r.upL hD (fun b o h _ n => by rw [upd_ne n]; exact h) z
theorem Rp.updL {p D : Addr} {H : Hp} {ys : List V} {o : HO} (hD : H D = some (.lst ys)) {v : V} {d : PyData} (r : Rp p H v d) (z : NoL d) : Rp p (upd H D o) v d :=
  r.upL hD (fun b o h _ n => by rw [upd_ne n]; exact h) z
end Mus

set_option maxRecDepth 100000
set_option maxHeartbeats 4000000
/-! Methods and makers of own classes, as DefOk is for defs. -/
namespace Mus
open PySem L2
structure MethOk (P : Program) (w : World) (K : PySem.W.Frag) (mg : Str → Option Value) (base : Heap) (CX : CXT) (C : Addr) (x : Str) (ps : List Str) (k : Nat) (sp : Sp) where
  f : Addr
  fd : FuncData
  G : FnOk P w K mg base CX k f fd ps sp
  m : Meth K C x f
  b : Binds K fd ps []
structure MethAt (K : PySem.W.Frag) (C : Addr) (x qual : Str) (ps : List Str) (st : Stmt) where
  f : Addr
  fd : FuncData
  F : Fun K x qual st f fd
  m : Meth K C x f
  b : Binds K fd ps []
def MethAt.ok {P : Program} {w : World} {K : PySem.W.Frag} {mg : Str → Option Value} {base : Heap} {CX : CXT} {C : Addr} {x qual : Str} {ps : List Str} {st : Stmt} {k : Nat} {sp : Sp} (d : MethAt K C x qual ps st) (h : ∀ {f : Addr} {fd : FuncData}, Fun K x qual st f fd → FnOk P w K mg base CX k f fd ps sp) : MethOk P w K mg base CX C x ps k sp :=
  ⟨d.f, d.fd, h d.F, d.m, d.b⟩
/-- a class whose __init__ keeps the promise -/
structure MkOk (P : Program) (w : World) (K : PySem.W.Frag) (mg : Str → Option Value) (base : Heap) (C : Addr) (x : Str) (ps : List Str) (k : Nat) (sp : Sp) where
  f : Addr
  fd : FuncData
  G : FnOk P w K mg base CX0 k f fd ps sp
  M : Mk K C f
  g : mg x = some (.ref C)
  b : Binds K fd ps []
def MethAt.mk' {P : Program} {w : World} {K : PySem.W.Frag} {mg : Str → Option Value} {base : Heap} {C : Addr} {x : Str} {qual : Str} {ps : List Str} {st : Stmt} {k : Nat} {sp : Sp} (d : MethAt K C "__init__" qual ps st) (hm : PySem.W.makesIn K C = true) (hk : PySem.W.keepIn K (.ref C) = true) (g : mg x = some (.ref C))
    (h : ∀ {f : Addr} {fd : FuncData}, Fun K "__init__" qual st f fd → FnOk P w K mg base CX0 k f fd ps sp) : MkOk P w K mg base C x ps k sp :=
  ⟨d.f, d.fd, h d.F, ⟨hm, d.m.at_, d.m.fn, hk⟩, g, d.b⟩
section
variable {X : Cx} {C : Addr} {x m : Str} {ps : List Str} {j k : Nat} {sp : Sp} {o e : Expr} {es : List Expr} {to : TE} {t : TA} {p pos apos : Pos}
theorem pmeth {pl : Sem Bool} (c : MethOk X.prog X.w X.K X.mg X.base CX0 C m ps j sp) (cl : Cls X.K C) (ho : PE X o to) (hr : Room k X.A) (ha : PA X (e :: es) t) (hj : j ≤ k := by first | decide | omega)
    (st0 : starEach (e :: es) X.env = (false, eval e X.env) :: starEach es X.env := by rfl) (pl0 : (backTo pos (starEach es X.env)).any (·.1) = false := by rfl)
    (ht : eval (.Call (.Attribute o m apos) (e :: es) [] pos) X.env = (do
      let v ← eval o X.env; standAt apos.atName; let (f, one) ← holding [v] (getMethod v m pl)
      callWith pos f one (backTo pos (starEach (e :: es) X.env)) (backToKw pos (keywordEach [] X.env))) := by rfl) :
    PE X (.Call (.Attribute o m apos) (e :: es) [] pos) (tMeth C m sp [] E0 to t) := pe_meth ho cl c.m c.G (hr.mono hj) c.b .nil pass0 ha st0 pl0 ht
theorem pmeth0 {pl : Sem Bool} (c : MethOk X.prog X.w X.K X.mg X.base CX0 C m ps j sp) (cl : Cls X.K C) (ho : PE X o to) (hr : Room k X.A) (hj : j ≤ k := by first | decide | omega)
    (ht : eval (.Call (.Attribute o m apos) [] [] pos) X.env = (do
      let v ← eval o X.env; standAt apos.atName; let (f, one) ← holding [v] (getMethod v m pl)
      callWith pos f one (backTo pos (starEach [] X.env)) (backToKw pos (keywordEach [] X.env))) := by rfl) :
    PE X (.Call (.Attribute o m apos) [] [] pos) (tMeth C m sp [] E0 to tNil) := pe_meth0 ho cl c.m c.G (hr.mono hj) c.b .nil pass0 ht
theorem pmake (c : MkOk X.prog X.w X.K X.mg X.base C x ps j sp) (hr : Room k X.A) (ha : PA X (e :: es) t) (hj : j + 1 ≤ k := by first | decide | omega) (hg : Gl X x := by rfl)
    (d0 : (x == ("__debug__" : Str)) = false := by decide) (st0 : starEach (e :: es) X.env = (false, eval e X.env) :: starEach es X.env := by rfl) (pl0 : (backTo pos (starEach es X.env)).any (·.1) = false := by rfl) :
    PE X (.Call (.Name x p) (e :: es) [] pos) (tMake C sp [] E0 t) := pe_make c.M c.G (hr.mono hj) hg c.g c.b .nil pass0 ha d0 st0 pl0
theorem pmake0 (c : MkOk X.prog X.w X.K X.mg X.base C x ps j sp) (hr : Room k X.A) (hj : j + 1 ≤ k := by first | decide | omega) (hg : Gl X x := by rfl) (d0 : (x == ("__debug__" : Str)) = false := by decide) :
    PE X (.Call (.Name x p) [] [] pos) (tMake C sp [] E0 tNil) := pe_make0 c.M c.G (hr.mono hj) hg c.g c.b .nil pass0 d0
end
end Mus

set_option maxRecDepth 100000
set_option maxHeartbeats 4000000
namespace Mus
open PySem L2
/-! ### a dict of ints by ints -/
def KvI (n m : Int) (kvs : List (Key × V)) : Prop := ∀ kv ∈ kvs, ∃ i l : Int, kv = (Sum.inl i, V.int l) ∧ 0 ≤ i ∧ i < n ∧ 1 ≤ l ∧ l ≤ m
theorem mem_putK {κ : Type} [DecidableEq κ] {kvs : List (κ × V)} {k : κ} {v : V} {kv : κ × V} (h : kv ∈ putK kvs k v) : kv = (k, v) ∨ kv ∈ kvs := by
  unfold putK at h
  split at h
  · obtain ⟨q, hq, e⟩ := List.mem_map.mp h
    by_cases hk : q.1 = k
    · rw [if_pos hk] at e
      exact .inl (by rw [← e, hk])
    · rw [if_neg hk] at e
      exact .inr (e ▸ hq)
  · rcases List.mem_append.mp h with h | h
    · exact .inr h
    · exact .inl (List.mem_singleton.mp h)
theorem putK_ne {κ : Type} [DecidableEq κ] (kvs : List (κ × V)) (k : κ) (v : V) : putK kvs k v ≠ [] := by
  unfold putK
  split
  · intro e
    cases kvs with
    | nil => rename_i h; simp at h
    | cons a r => simp at e
  · simp
theorem putK_le {κ : Type} [DecidableEq κ] (c : List (κ × V)) (k : κ) (x : V) : (putK c k x).length ≤ c.length + 1 := by
  unfold putK
  split
  · rw [List.length_map]; omega
  · rw [List.length_append, List.length_singleton]; omega
theorem KvI.put {n m i l : Int} {kvs : List (Key × V)} (h : KvI n m kvs) (h0 : 0 ≤ i) (h1 : i < n) (h2 : 1 ≤ l) (h3 : l ≤ m) : KvI n m (putK kvs (Sum.inl i) (.int l)) := fun kv hk => by
  rcases mem_putK hk with e | e
  · exact ⟨i, l, e, h0, h1, h2, h3⟩
  · exact h kv e
def keyI : Key → Int
  | .inl i => i
  | .inr _ => 0
theorem KvI.keys {n m : Int} {kvs : List (Key × V)} (h : KvI n m kvs) : kvs.map (·.1) = (kvs.map fun kv => keyI kv.1).map Sum.inl := by
  rw [List.map_map]
  refine List.map_congr_left fun kv hk => ?_
  obtain ⟨i, l, rfl, _⟩ := h kv hk
  rfl
theorem valV_mem {κ : Type} [DecidableEq κ] : ∀ {kvs : List (κ × V)} {k : κ}, k ∈ kvs.map (·.1) → ∃ v, valV kvs k = some v ∧ (k, v) ∈ kvs
  | [], k, h => by simp at h
  | (a, b) :: r, k, h => by
    by_cases e : a = k
    · subst e
      exact ⟨b, valV_pos rfl, List.mem_cons_self⟩
    · rw [valV_neg e]
      have h2 : k ∈ r.map (·.1) := by
        rcases List.mem_cons.mp h with h | h
        · exact absurd h.symm e
        · exact h
      obtain ⟨v, h3, h4⟩ := valV_mem h2
      exact ⟨v, h3, List.mem_cons_of_mem _ h4⟩
/-- members of a group of n processes, lives at most m, as data -/
def Mems (n : Int) (ds : List PyData) : Prop := ∀ d ∈ ds, ∃ i l : Int, d = .tuple [.int i, .int l] ∧ 0 ≤ i ∧ i < n ∧ 1 ≤ l ∧ l ≤ 1000000000000
theorem Mems.noL {n : Int} {ds : List PyData} (h : Mems n ds) : ∀ d ∈ ds, NoL d := fun d hd => by
  obtain ⟨i, l, rfl, _⟩ := h d hd
  exact .two (.int _) (.int _)
/-- _law_members -/
def sp_mems : Sp := fun vs H Q _ => ∃ (p : Addr) (c n : Int), vs = [.ref p, .int n] ∧ Bag p c H ∧ 0 < n ∧ n ≤ 12 ∧ ∀ a H' ds, Rp p H' (.ref a) (.tuple ds) → Mems n ds → 0 < ds.length → ds.length ≤ 5 → But p H H' → Bag p c H' → Q (.ref a) H'
end Mus

set_option maxRecDepth 100000
set_option maxHeartbeats 4000000
/-! The texts of lives, as lists of signs. -/
namespace Mus
open PySem L2 TL PySem.NumText
def allD (l : List Nat) : Bool := l.all fun c => decide (48 ≤ c) && decide (c ≤ 57)
theorem allD_iff {l : List Nat} : allD l = true ↔ AllDigits l := by
  unfold allD AllDigits
  rw [List.all_eq_true]
  constructor
  · intro h c hc
    have := h c hc
    rw [Bool.and_eq_true, decide_eq_true_eq, decide_eq_true_eq] at this
    exact this
  · intro h c hc
    rw [Bool.and_eq_true, decide_eq_true_eq, decide_eq_true_eq]
    exact h c hc
/-- the text of a life -/
def lifeT (n : Nat) : List Nat := numL n ++ 61 :: numL n
/-- the life of a text, or 0 -/
def lifeF (l : List Nat) : Nat :=
  if (l.takeWhile fun c => decide (c ≠ 61)).length ≤ 13 ∧ allD (l.takeWhile fun c => decide (c ≠ 61)) = true ∧ (l.takeWhile fun c => decide (c ≠ 61)) ≠ [] then
    (if 1 ≤ digitsVal (l.takeWhile fun c => decide (c ≠ 61)) ∧ digitsVal (l.takeWhile fun c => decide (c ≠ 61)) ≤ 1000000000000 ∧ lifeT (digitsVal (l.takeWhile fun c => decide (c ≠ 61))) = l then digitsVal (l.takeWhile fun c => decide (c ≠ 61)) else 0)
  else 0
theorem lifeF_ne {l : List Nat} (h : lifeF l ≠ 0) : ∃ n, l = lifeT n ∧ 1 ≤ n ∧ n ≤ 1000000000000 ∧ lifeF l = n := by
  unfold lifeF at h ⊢
  by_cases h1 : (l.takeWhile fun c => decide (c ≠ 61)).length ≤ 13 ∧ allD (l.takeWhile fun c => decide (c ≠ 61)) = true ∧ (l.takeWhile fun c => decide (c ≠ 61)) ≠ []
  · rw [if_pos h1] at h ⊢
    by_cases h2 : 1 ≤ digitsVal (l.takeWhile fun c => decide (c ≠ 61)) ∧ digitsVal (l.takeWhile fun c => decide (c ≠ 61)) ≤ 1000000000000 ∧ lifeT (digitsVal (l.takeWhile fun c => decide (c ≠ 61))) = l
    · rw [if_pos h2] at h ⊢
      exact ⟨_, h2.2.2.symm, h2.1, h2.2.1, rfl⟩
    · rw [if_neg h2] at h; exact absurd rfl h
  · rw [if_neg h1] at h; exact absurd rfl h
theorem take_free {d r : List Nat} (h : 61 ∉ d) : (d ++ 61 :: r).takeWhile (fun c => decide (c ≠ 61)) = d := by
  induction d with
  | nil => simp [List.takeWhile]
  | cons c d ih =>
    have hc : c ≠ 61 := fun e => h (by rw [e]; exact List.mem_cons_self)
    rw [List.cons_append, List.takeWhile_cons, decide_eq_true hc, if_pos rfl, ih fun m => h (List.mem_cons_of_mem _ m)]
theorem dig_free {d : List Nat} (h : AllDigits d) : 61 ∉ d := fun m => by have := h 61 m; omega
theorem numL_head0 : ∀ n : Nat, 1 ≤ n → ∃ c r, numL n = c :: r ∧ 49 ≤ c := by
  intro n
  induction n using Nat.strongRecOn with
  | _ n ih =>
    intro h
    by_cases h10 : n < 10
    · exact ⟨48 + n, [], numL_lt h10, by omega⟩
    · obtain ⟨c, r, e, hc⟩ := ih (n / 10) (by omega) (by omega)
      exact ⟨c, r ++ [48 + n % 10], by rw [numL_step (by omega), e, List.cons_append], hc⟩
theorem map_chars : ∀ {l : List Nat}, AllDigits l → (l.map Char.ofNat).map Char.toNat = l
  | [], _ => rfl
  | c :: l, h => by
    have hc := h.head
    have e : (Char.ofNat c).toNat = c := by
      have : c = 48 ∨ c = 49 ∨ c = 50 ∨ c = 51 ∨ c = 52 ∨ c = 53 ∨ c = 54 ∨ c = 55 ∨ c = 56 ∨ c = 57 := by omega
      rcases this with rfl | rfl | rfl | rfl | rfl | rfl | rfl | rfl | rfl | rfl <;> decide
    rw [List.map_cons, List.map_cons, e, map_chars h.tail]
theorem numL_back {d : List Nat} (h : AllDigits d) {c : Nat} {r : List Nat} (e : d = c :: r) (hc : 49 ≤ c) : numL (digitsVal d) = d := by
  unfold numL
  rw [toDigits_digitsVal r.length d (by rw [e]; rfl) h (.inr ⟨c, r, e, hc⟩), map_chars h]
theorem lifeF_T {n : Nat} (h1 : 1 ≤ n) (h2 : n ≤ 1000000000000) : lifeF (lifeT n) = n := by
  unfold lifeF lifeT
  rw [take_free (dig_free (numL_digits n)), numL_val]
  have hl : (numL n).length ≤ 13 := numL_len (k := 13) (by decide) (by omega)
  rw [if_pos ⟨hl, allD_iff.mpr (numL_digits n), numL_ne n⟩, if_pos ⟨h1, h2, rfl⟩]
theorem lifeF_big {n : Nat} (h : n = 0 ∨ 1000000000000 < n) : lifeF (lifeT n) = 0 := by
  cases e : lifeF (lifeT n) with
  | zero => rfl
  | succ k =>
    exfalso
    obtain ⟨m, e1, e2, e3, _⟩ := lifeF_ne (l := lifeT n) (by rw [e]; simp)
    have hl := congrArg List.length e1
    unfold lifeT at e1 hl
    rw [List.length_append, List.length_append, List.length_cons, List.length_cons] at hl
    have := (List.append_inj e1 (by omega)).1
    have := numL_inj this
    omega
/-- the law's way -/
def chk (d : List Nat) : Nat := if allD d = true then (if d.length > 13 ∨ d.head? = some 48 ∨ digitsVal d > 1000000000000 then 0 else digitsVal d) else 0
def Half (l : List Nat) (k : Nat) : Prop := l[k]? = some 61 ∧ l.take k = l.drop (k + 1)
theorem half_eq {l : List Nat} {k : Nat} (h : Half l k) : l = l.take k ++ 61 :: l.take k := by
  obtain ⟨h1, h2⟩ := h
  obtain ⟨hk, e⟩ := List.getElem?_eq_some_iff.mp h1
  have e2 := List.take_append_drop k l
  rw [List.drop_eq_getElem_cons hk, e, ← h2] at e2
  exact e2.symm
theorem halves {d e : List Nat} (h : d ++ 61 :: d = e ++ 61 :: e) : d = e := by
  have hl := congrArg List.length h
  rw [List.length_append, List.length_append, List.length_cons, List.length_cons] at hl
  exact (List.append_inj h (by omega)).1
theorem due_yes {l : List Nat} {k : Nat} (h1 : 1 ≤ k) (hk : k < l.length) (h : Half l k) : chk (l.take k) = lifeF l := by
  have e := half_eq h
  have hlen : (l.take k).length = k := by rw [List.length_take]; omega
  generalize l.take k = d at e hlen
  subst e
  cases hd : allD d with
  | false =>
    have e1 : chk d = 0 := by unfold chk; rw [hd]; rfl
    rw [e1]
    cases e2 : lifeF (d ++ 61 :: d) with
    | zero => rfl
    | succ m =>
      exfalso
      obtain ⟨n, e3, _⟩ := lifeF_ne (l := d ++ 61 :: d) (by rw [e2]; simp)
      have := halves e3
      rw [this, allD_iff.mpr (numL_digits n)] at hd
      cases hd
  | true =>
    have ad := allD_iff.mp hd
    have tw := take_free (r := d) (dig_free ad)
    have dne : d ≠ [] := fun z => by rw [z] at hlen; simp at hlen; omega
    unfold chk lifeF
    rw [tw, hd, if_pos rfl]
    by_cases h13 : d.length ≤ 13
    · rw [if_pos (show d.length ≤ 13 ∧ true = true ∧ d ≠ [] from ⟨h13, rfl, dne⟩)]
      obtain ⟨c, r, ec⟩ : ∃ c r, d = c :: r := by
        cases d with
        | nil => exact absurd rfl dne
        | cons c r => exact ⟨c, r, rfl⟩
      have hc := ad c (by rw [ec]; exact List.mem_cons_self)
      by_cases h48 : c = 48
      · rw [if_pos (.inr (.inl (by rw [ec, h48]; rfl)))]
        rw [if_neg]
        rintro ⟨q1, _, q3⟩
        have e5 := halves q3
        obtain ⟨c', r', e6, e7⟩ := numL_head0 _ q1
        rw [e5, ec] at e6
        cases e6
        omega
      · by_cases hv : digitsVal d > 1000000000000
        · rw [if_pos (.inr (.inr hv)), if_neg (by rintro ⟨_, q2, _⟩; omega)]
        · have e8 := numL_back ad ec (by omega)
          have n1 : ¬ (d.length > 13 ∨ d.head? = some 48 ∨ digitsVal d > 1000000000000) := by
            rintro (q | q | q)
            · omega
            · rw [ec] at q; simp at q; exact h48 q
            · exact hv q
          have n2 : 1 ≤ digitsVal d ∧ digitsVal d ≤ 1000000000000 ∧ lifeT (digitsVal d) = d ++ 61 :: d := by
            refine ⟨?_, by omega, ?_⟩
            · rw [ec]; exact digitsVal_pos (by omega)
            · unfold lifeT; rw [e8]
          rw [if_neg n1, if_pos n2]
    · rw [if_pos (.inl (by omega)), if_neg (by rintro ⟨q, _⟩; exact h13 q)]
theorem due_no {l : List Nat} (h : ∀ k, 1 ≤ k → k < l.length → ¬ Half l k) : lifeF l = 0 := by
  cases e2 : lifeF l with
  | zero => rfl
  | succ m =>
    exfalso
    obtain ⟨n, e3, _⟩ := lifeF_ne (l := l) (by rw [e2]; simp)
    have hp : 1 ≤ (numL n).length := List.length_pos_iff.mpr (numL_ne n)
    refine h (numL n).length hp ?_ ⟨?_, ?_⟩
    · rw [e3]; unfold lifeT; rw [List.length_append, List.length_cons]; omega
    · rw [e3]; unfold lifeT; rw [List.getElem?_append_right (Nat.le_refl _), Nat.sub_self]; rfl
    · rw [e3]; unfold lifeT
      rw [List.take_left, ← List.drop_drop, List.drop_left]; rfl
end Mus

set_option maxRecDepth 100000
set_option maxHeartbeats 4000000
namespace Mus
open PySem L2 TL PySem.NumText
/-- a text n times, n from 0 -/
theorem op_mul_strN {X : Cx} : OpR X (binaryOp .Mult) (fun x y H Q => ∃ (z : Str) (n : Int), x = .str z ∧ y = .int n ∧ 0 ≤ n ∧ n ≤ 1000 ∧ 1 ≤ z.length ∧ z.length ≤ 1000 ∧ ∀ r : Str, TL.tl r = (List.replicate n.toNat (TL.tl z)).flatten → Q (.str r) H) := by
  intro pins s σ H x y v u Q I rx ry h
  obtain ⟨z, n, rfl, rfl, h2, h3, h4, h5, q⟩ := h
  by_cases n2 : 2 ≤ n
  · exact op_mul_str pins s σ H _ _ v u Q I rx ry ⟨z, n, rfl, rfl, n2, h3, h4, h5, q⟩
  obtain ⟨t, rfl⟩ := rx
  obtain ⟨t', rfl⟩ := ry
  have hr : (decide (n < -(2 ^ 63 : Int)) || decide (n ≥ 2 ^ 63)) = false := by
    rw [decide_eq_false (by omega), decide_eq_false (by omega)]; rfl
  have hl : Builtin.Str.tooLong (z.length * n.toNat) = false := by
    unfold Builtin.Str.tooLong
    have e : sizeLine = 16777216 := sizeLine_eq
    have : z.length * n.toNat ≤ 1000 * 1 := Nat.mul_le_mul h5 (by omega)
    rw [decide_eq_false (by omega)]
  have hz : z.length ≤ sizeLine := by rw [sizeLine_eq]; omega
  by_cases n0 : n = 0
  · subst n0
    refine PySem.P.mul_str hr (fun a _ => absurd (by decide) a) (fun a _ => absurd (by decide) a) ?_
    rw [if_pos (by decide)]
    exact ⟨by decide, .str _, H, I.tok _, ⟨_, rfl⟩, q _ (by simp; rfl)⟩
  · have e : n = 1 := by omega
    subst e
    refine PySem.P.mul_str hr (fun _ a => by simp at a) (fun _ a => by simp at a) ?_
    rw [if_neg (by decide), if_pos (by simp)]
    exact ⟨.str _, H, I, ⟨_, rfl⟩, q _ (by simp)⟩
end Mus

set_option maxRecDepth 100000
set_option maxHeartbeats 4000000
namespace Mus
open PySem L2 TL PySem.NumText
local macro_rules | `(tactic| walk_at "rd") => `(tactic| first
  | refine ⟨_, rfl, ?_⟩ | refine ⟨(True.intro : True), ?_⟩
  | refine ⟨_, _, rfl, rfl, (⟨by decide, by decide, by decide⟩ : CPow _ _), ?_⟩
  | refine ⟨_, _, rfl, rfl, (⟨by decide, by decide⟩ : CDiv _ _), ?_⟩
  | refine ⟨_, _, rfl, rfl, (by show (0 : Int) < _; decide), ?_⟩
  | refine ⟨_, _, rfl, rfl, ?_⟩ | refine ⟨rfl, ?_⟩ | refine iteT ?_ | refine iteF ?_ | refine ⟨_, _, rfl, ?_⟩ | refine .inl ⟨_, rfl, ?_⟩
  | refine ⟨_, _, _, _, _, rfl, (by assumption), (by assumption), (by assumption), rfl, ?_⟩ | refine ⟨_, _, _, _, rfl, rfl, SqT.of (by assumption), rfl, ?_⟩ | refine ⟨_, _, rfl, SqT.of (by assumption), rfl, ?_⟩
  | refine ⟨_, _, _, _, _, rfl, .ty _, Rp.ty (by assumption), kit_int _, ?_⟩ | refine ⟨_, _, _, _, _, rfl, .ty _, Rp.ty (by assumption), kit_bool _, ?_⟩
  | refine ⟨_, _, _, _, _, rfl, .ty _, Rp.ty (by assumption), kit_str _, ?_⟩ | refine ⟨_, _, _, _, _, rfl, .ty _, Rp.ty (by assumption), kit_tup _, ?_⟩)
local macro_rules | `(tactic| walk_at "cal") => `(tactic| first
  | refine ⟨_, _, _, _, _, rfl, (by assumption), ?_⟩ | refine ⟨_, _, _, _, _, rfl, (by assumption), (by assumption), ?_⟩)
local macro_rules | `(tactic| walk_at "sq") => `(tactic| first
  | refine ⟨_, _, rfl, Or.inr (SqT.of (by assumption)), ?_⟩ | refine ⟨_, _, _, _, rfl, rfl, SqT.of (by assumption), rfl, ?_⟩)
local macro_rules | `(tactic| walk_at "rds") => `(tactic| repeat first | walk_at "rd" | walk_at "cal" | walk_at "sq")
local macro_rules | `(tactic| walk_at "ze") => `(tactic| repeat first
  | exact zes_nil | exact ze_bl | exact ze_str | exact ze_non | apply zes_cons | apply ze_tup | apply ze_lst | apply ze_cat | exact di_c | exact di_v rfl | apply di_opC | apply di_op | apply di_neg | apply ze_i | (refine (⟨?_, ?_, ?_⟩ : CPow _ _) <;> decide) | exact Nat.le_of_ble_eq_true rfl | exact ze_varD rfl (by assumption))
local macro_rules | `(tactic| walk_at "rdz") => `(tactic| repeat (fail_if_success (first | show tLst _ _ _ _ | show tAsg (tLst _) _ _ _ _ | show tSeq (tAsg (tLst _) _) _ _ _ _)); first | walk_at "rd" | walk_at "cal" | walk_at "sq")
def top (i : Nat) : Stmt := PySem.Challenge.pw_mustercall_k09_whole_letters_have_texts.main.body.getD i (.Pass ⟨0, 0, 0, 0⟩)
structure Tx (mg : Str → Option Value) : Prop where
  b_len : mg "len" = none
  b_isinstance : mg "isinstance" = none
  b_int : mg "int" = none
  b_bool : mg "bool" = none
  b_str : mg "str" = none
  b_tuple : mg "tuple" = none
  b_range : mg "range" = none
  b_min : mg "min" = none
  b_max : mg "max" = none
  b_sorted : mg "sorted" = none
  b_ord : mg "ord" = none
  b_enumerate : mg "enumerate" = none
  c__REFUSED_CODE : ∃ t, mg "_REFUSED_CODE" = some (.int 37 t)
  c_MOST_PROCESSES : ∃ t, mg "MOST_PROCESSES" = some (.int 12 t)
  c_MOST_PAYLOAD : ∃ t, mg "MOST_PAYLOAD" = some (.int 30 t)
  c_MOST_NUMBER : ∃ t, mg "MOST_NUMBER" = some (.int 1000000000000 t)
  c_MOST_DIGITS : ∃ t, mg "MOST_DIGITS" = some (.int 24 t)
  c_MOST_DEPTH : ∃ t, mg "MOST_DEPTH" = some (.int 8 t)
  c_MOST_LENGTH : ∃ t, mg "MOST_LENGTH" = some (.int 100000 t)
section
variable {P : Program} {w : World} {K : PySem.W.Frag} {mg : Str → Option Value} {base : Heap}
def prB (c : Nat) : Bool := decide (32 ≤ c) && decide (c ≤ 126) && decide (c ≠ 37)
theorem one_lt (a b : Nat) : (decide ([a] < [b])) = decide (a < b) := by
  by_cases h : a < b
  · rw [decide_eq_true h]; exact decide_eq_true (by simp [List.cons_lt_cons_iff, h])
  · rw [decide_eq_false h]; exact decide_eq_false (by simp [List.cons_lt_cons_iff, h])
theorem one_ge {y : Str} {b : Nat} (c : Nat) (e0 : tl y = [b]) : (!decide (tl ⟨#[c]⟩ < tl y)) = decide (b ≤ c) := by
  rw [e0, show tl ⟨#[c]⟩ = [c] from rfl, one_lt]
  by_cases h : c < b
  · rw [decide_eq_true h, decide_eq_false (by omega)]; rfl
  · rw [decide_eq_false h, decide_eq_true (by omega)]; rfl
theorem one_le {y : Str} {b : Nat} (c : Nat) (e0 : tl y = [b]) : (!decide (tl y < tl ⟨#[c]⟩)) = decide (c ≤ b) := by
  rw [e0, show tl ⟨#[c]⟩ = [c] from rfl, one_lt]
  by_cases h : b < c
  · rw [decide_eq_true h, decide_eq_false (by omega)]; rfl
  · rw [decide_eq_false h, decide_eq_true (by omega)]; rfl
abbrev s__is_printable_character : Stmt := top 12
abbrev N__is_printable_character : List Str := ["character"]
abbrev P__is_printable_character : List Str := ["character"]
theorem sc__is_printable_character : FnScope N__is_printable_character P__is_printable_character (defScope s__is_printable_character) := ⟨rfl, rfl, rfl, by decide +kernel, rfl, by decide +kernel, by decide +kernel⟩
def sp__is_printable_character : Sp := fun vs H Q _ => ∃ c : Nat, vs = [.str ⟨#[c]⟩] ∧ Q (.bl (prB c)) H
theorem ok__is_printable_character {f : Addr} {fd : FuncData} (T : Tx mg) (F : Fun K "_is_printable_character" "_is_printable_character" s__is_printable_character f fd) : FnOk P w K mg base CX0 (1) f fd P__is_printable_character (sp__is_printable_character) := by
  have nd := sc__is_printable_character.nd
  refine F.ok sc__is_printable_character (fun vs H Q E h => ?_) (fun cdv A outer s H vs Q E hr h => ?_)
  · obtain ⟨c, rfl, _⟩ := h
    rfl
  · obtain ⟨c, rfl, q⟩ := h
    refine ⟨_, (pss_one (ps_ret (pe_and (pe_chain op_le_str op_le_str pe_str (pv 0) pe_str) (pe_one (pe_cmpR op_ne (pe_callB call_ord (by rfl) T.b_ord (by decide +kernel) (pa_cons (pv 0) pa_nil)) (pe_const T.c__REFUSED_CODE) (nomark _)))))), ?_⟩
    refine ⟨_, rfl, _, _, rfl, rfl, _, rfl, ?_⟩
    have e1 := one_ge (y := Str.ofString " ") (b := 32) c (by decide)
    have e2 := one_le (y := Str.ofString "~") (b := 126) c (by decide)
    rw [e1]
    unfold prB at q
    by_cases h1 : 32 ≤ c
    · rw [decide_eq_true h1] at q ⊢
      refine iteT ?_
      refine ⟨_, _, rfl, rfl, _, rfl, ?_⟩
      rw [e2]
      by_cases h2 : c ≤ 126
      · rw [decide_eq_true h2] at q ⊢
        refine iteT ?_
        refine ⟨_, rfl, _, rfl, rfl, rfl, ?_⟩
        have e3 : (!decide (V.int ((((⟨#[c]⟩ : Str).cps.getD 0 0 : Nat)) : Int) = V.int 37)) = decide (c ≠ 37) := by
          show (!decide (V.int (c : Int) = V.int 37)) = decide (c ≠ 37)
          by_cases h3 : c = 37
          · subst h3; rfl
          · rw [decide_eq_true h3, decide_eq_false (by intro z; cases z; exact h3 rfl)]; rfl
        rw [e3]
        exact q
      · rw [decide_eq_false h2] at q ⊢
        exact iteF q
    · rw [decide_eq_false h1] at q ⊢
      refine iteF ?_
      exact ⟨_, rfl, iteF q⟩
abbrev s_is_printable : Stmt := top 11
abbrev N_is_printable : List Str := ["value", "character"]
abbrev P_is_printable : List Str := ["value"]
theorem sc_is_printable : FnScope N_is_printable P_is_printable (defScope s_is_printable) := ⟨rfl, rfl, rfl, by decide +kernel, rfl, by decide +kernel, by decide +kernel⟩
def sp_is_printable : Sp := fun vs H Q _ => ∃ z : Str, vs = [.str z] ∧ Q (.bl ((tl z).all prB)) H
theorem all_take {l : List Nat} {i c : Nat} (h : l[i]? = some c) (hp : (l.take i).all prB = true) : prB c = true → (l.take (i + 1)).all prB = true := by
  intro hc
  have hi : i < l.length := (List.getElem?_eq_some_iff.mp h).1
  have e : l[i] = c := (List.getElem?_eq_some_iff.mp h).2
  rw [List.take_succ_eq_append_getElem hi, List.all_append, hp, e]
  simp [hc]
theorem all_not {l : List Nat} {i c : Nat} (h : l[i]? = some c) (hc : prB c = false) : l.all prB = false := by
  rw [List.all_eq_false]
  exact ⟨c, List.mem_of_getElem? h, by rw [hc]; simp⟩
theorem ok_is_printable {f : Addr} {fd : FuncData} (T : Tx mg) (c__is_printable_character : DefOk P w K mg base CX0 "_is_printable_character" P__is_printable_character 1 (sp__is_printable_character))(F : Fun K "is_printable" "is_printable" s_is_printable f fd) : FnOk P w K mg base CX0 (2) f fd P_is_printable (sp_is_printable) := by
  have nd := sc_is_printable.nd
  refine F.ok sc_is_printable (fun vs H Q E h => ?_) (fun cdv A outer s H vs Q E hr h => ?_)
  · obtain ⟨c, rfl, _⟩ := h
    rfl
  · obtain ⟨z, rfl, q⟩ := h
    refine ⟨_, (pss_cons (ps_if (pt_not (pt_val (pe_callB call_isi (by rfl) T.b_isinstance (by decide +kernel) (pa_cons (pv 0) (pa_cons (pe_ty "str" T.b_str) pa_nil)))))
        (pss_one (ps_ret pe_bl))
        pss_nil)
      (pss_cons (ps_for PassesOwn.never rfl (pi_str (pv 0)) (pg_name (i := 1) nd rfl (Or.inl rfl))
        (pss_one (ps_if (pt_not (pt_val (pcall c__is_printable_character hr (pa_cons (pv 1) pa_nil))))
          (pss_one (ps_ret pe_bl))
          pss_nil)))
      (pss_one (ps_ret pe_bl)))), ?_⟩
    refine ⟨_, rfl, _, _, _, _, true, rfl, .ty _, .base (.str z), kit_ty (by decide +kernel), _, rfl, ?_⟩
    refine iteF ?_
    refine ⟨_, rfl, z, rfl, for_str (z := z) (fun i σ H' => H' = H ∧ (∃ v, σ = [some (.str z), v]) ∧ ((tl z).take i).all prB = true) ⟨rfl, ⟨none, rfl⟩, rfl⟩ ?_ ?_⟩
    · rintro i c σ H' hc ⟨rfl, ⟨v, rfl⟩, hp⟩
      refine ⟨_, rfl, c, rfl, _, rfl, ?_⟩
      cases hb : prB c with
      | true => exact iteF ⟨rfl, ⟨_, rfl⟩, all_take hc hp hb⟩
      | false =>
        refine iteT ?_
        have e := all_not hc hb
        rw [e] at q
        exact q
    · rintro σ H' ⟨rfl, ⟨v, rfl⟩, hp⟩
      rw [List.take_length] at hp
      rw [hp] at q
      exact q
abbrev s_is_integer : Stmt := top 13
abbrev N_is_integer : List Str := ["value", "least", "greatest"]
abbrev P_is_integer : List Str := ["value", "least", "greatest"]
theorem sc_is_integer : FnScope N_is_integer P_is_integer (defScope s_is_integer) := ⟨rfl, rfl, rfl, by decide +kernel, rfl, by decide +kernel, by decide +kernel⟩
theorem ok_is_integer {f : Addr} {fd : FuncData} (T : Tx mg) (F : Fun K "is_integer" "is_integer" s_is_integer f fd) : FnOk P w K mg base CX0 (1) f fd P_is_integer (spI) := by
  have nd := sc_is_integer.nd
  refine F.ok sc_is_integer (fun vs H Q E h => ?_) (fun cdv A outer s H vs Q E hr h => ?_)
  · obtain ⟨_, _, _, _, _, rfl, _⟩ := h
    rfl
  · obtain ⟨p, v, d, a, b, rfl, hd, q⟩ := h
    refine ⟨_, (pss_cons (ps_if (PW.pt (pw_or (pt_not (pt_val (pe_callB call_isi (by rfl) T.b_isinstance (by decide +kernel) (pa_cons (pv 0) (pa_cons (pe_ty "int" T.b_int) pa_nil))))) (pw_or1 (pt_val (pe_callB call_isi (by rfl) T.b_isinstance (by decide +kernel) (pa_cons (pv 0) (pa_cons (pe_ty "bool" T.b_bool) pa_nil)))))))
        (pss_one (ps_ret pe_bl))
        pss_nil)
      (pss_one (ps_ret (pe_chain op_le op_le (pv 1) (pv 0) (pv 2))))), ?_⟩
    have hd' := hd
    cases hd <;> walk_at "rds"
    case int =>
      refine iB (fun h => ?_) (fun h => ?_)
      · walk_at "rds"
        exact ansB q (by simp [isInt, h])
      · exact ansB q (by simp [isInt, h])
    all_goals exact q
abbrev s_is_process : Stmt := top 27
abbrev N_is_process : List Str := ["count", "value"]
abbrev P_is_process : List Str := ["count", "value"]
theorem sc_is_process : FnScope N_is_process P_is_process (defScope s_is_process) := ⟨rfl, rfl, rfl, by decide +kernel, rfl, by decide +kernel, by decide +kernel⟩
theorem ok_is_process {f : Addr} {fd : FuncData} (T : Tx mg) (c_is_integer : DefOk P w K mg base CX0 "is_integer" P_is_integer 1 (spI))(F : Fun K "is_process" "is_process" s_is_process f fd) : FnOk P w K mg base CX0 (2) f fd P_is_process (spB2 isProc) := by
  have nd := sc_is_process.nd
  refine F.ok sc_is_process (fun vs H Q E h => ?_) (fun cdv A outer s H vs Q E hr h => ?_)
  · obtain ⟨_, _, _, _, _, rfl, _⟩ := h
    rfl
  · obtain ⟨p, u, v, c, d, rfl, hc, hd, q⟩ := h
    refine ⟨_, (pss_one (ps_ret (pe_and (pcall c_is_integer hr (pa_cons (pv 0) (pa_cons pe_int (pa_cons (pe_const T.c_MOST_PROCESSES) pa_nil)))) (pe_one (pcall c_is_integer hr (pa_cons (pv 1) (pa_cons pe_int (pa_cons (pe_op op_sub (pv 0) pe_int) pa_nil)))))))), ?_⟩
    walk_at "rds"
    refine iB (fun h => ?_) (fun h => ?_)
    · obtain ⟨n, rfl, h1, h2⟩ := isInt_int h
      cases hc
      walk_at "rds"
      exact ansB q (by simp [isProc, h1, h2])
    · refine ansB q ?_
      cases c <;> first | rfl | (rename_i n; have h0 : (decide (1 ≤ n) && decide (n ≤ 12)) = false := h; simp only [isProc, h0, Bool.false_and])
/-- a tuple of two | of another length, or something else -/
theorem pairs (d : PyData) : (∃ x y, d = .tuple [x, y]) ∨ ((∃ ds, d = .tuple ds ∧ ds.length ≠ 2) ∨ dTup d = false) := by
  match d with
  | .none | .bool _ | .int _ | .str _ | .list _ | .dict _ => exact .inr (.inr rfl)
  | .tuple [] | .tuple [_] | .tuple (_ :: _ :: _ :: _) => exact .inr (.inl ⟨_, rfl, by simp⟩)
  | .tuple [x, y] => exact .inl ⟨x, y, rfl⟩
theorem isMem_no {c d : PyData} (h : (∃ ds, d = .tuple ds ∧ ds.length ≠ 2) ∨ dTup d = false) : isMem c d = false := by
  unfold isMem
  split
  · simp [dTup] at h
  · rfl
abbrev s_is_member : Stmt := top 28
abbrev N_is_member : List Str := ["count", "value"]
abbrev P_is_member : List Str := ["count", "value"]
theorem sc_is_member : FnScope N_is_member P_is_member (defScope s_is_member) := ⟨rfl, rfl, rfl, by decide +kernel, rfl, by decide +kernel, by decide +kernel⟩
theorem ok_is_member {f : Addr} {fd : FuncData} (T : Tx mg) (c_is_integer : DefOk P w K mg base CX0 "is_integer" P_is_integer 1 (spI)) (c_is_process : DefOk P w K mg base CX0 "is_process" P_is_process 2 (spB2 isProc))(F : Fun K "is_member" "is_member" s_is_member f fd) : FnOk P w K mg base CX0 (3) f fd P_is_member (spB2 isMem) := by
  have nd := sc_is_member.nd
  refine F.ok sc_is_member (fun vs H Q E h => ?_) (fun cdv A outer s H vs Q E hr h => ?_)
  · obtain ⟨_, _, _, _, _, rfl, _⟩ := h
    rfl
  · obtain ⟨p, u, v, c, d, rfl, hc, hd, q⟩ := h
    refine ⟨_, (pss_cons (ps_if (PW.pt (pw_or (pt_not (pt_val (pe_callB call_isi (by rfl) T.b_isinstance (by decide +kernel) (pa_cons (pv 1) (pa_cons (pe_ty "tuple" T.b_tuple) pa_nil))))) (pw_or1 (pt_cmpR op_ne (pe_callB call_len_seq (by rfl) T.b_len (by decide +kernel) (pa_cons (pv 1) pa_nil)) pe_int (nomark _)))))
        (pss_one (ps_ret pe_bl))
        pss_nil)
      (pss_one (ps_ret (pe_and (pcall c_is_process hr (pa_cons (pv 0) (pa_cons (pe_ix ix_tup (pv 1) pe_int (fun _ _ => rfl)) pa_nil))) (pe_one (pcall c_is_integer hr (pa_cons (pe_ix ix_tup (pv 1) pe_int (fun _ _ => rfl)) (pa_cons pe_int (pa_cons (pe_const T.c_MOST_NUMBER) pa_nil))))))))), ?_⟩
    have hd' := hd
    rcases pairs d with ⟨x, y, rfl⟩ | hno
    · obtain _ | _ | _ | _ | _ | @⟨a, xs, _, ha, np, hw, hr⟩ := hd
      obtain _ | ⟨hx, _ | ⟨hy, _⟩⟩ := hr
      cases ‹Rps p H _ []›
      walk_at "rds"
      refine iB (fun h => ?_) (fun h => ?_)
      · walk_at "rds"
        exact ansB q (by simp [isMem, h])
      · exact ansB q (by simp [isMem, h])
    · have e := isMem_no (c := c) hno
      rw [e] at q
      rcases hno with ⟨ds, rfl, hl⟩ | hno
      · obtain _ | _ | _ | _ | _ | @⟨a, xs, _, ha, np, hw, hr⟩ := hd
        have hl2 := hr.length
        walk_at "rds"
        refine nT (vint_ne (by omega)) ?_
        walk_at "rds"
        exact q
      · cases hd <;> simp [dTup] at hno <;> walk_at "rds" <;> exact q
end
/-! ### payloads and messages -/
/-- the texts that come: short, and printable but for those with a newline -/
def Ok (z : Str) : Prop := z.length ≤ 1000 ∧ (tl z).all prB = decide (10 ∉ tl z)
def spH1 (f : PyData → Bool) : Sp := fun vs H Q _ => ∃ (p : Addr) (v : V) (d : PyData), vs = [v] ∧ Rp p H v d ∧ Her Ok d ∧ Q (.bl (f d)) H
def spH2 (f : PyData → PyData → Bool) : Sp := fun vs H Q _ => ∃ (p : Addr) (u v : V) (c d : PyData), vs = [u, v] ∧ Rp p H u c ∧ Rp p H v d ∧ Her Ok d ∧ Q (.bl (f c d)) H
theorem Her.of3 {P : Str → Prop} {x y z : PyData} (h : Her P (.tuple [x, y, z])) : Her P x ∧ Her P y ∧ Her P z := ⟨h.mem _ (by simp), h.mem _ (by simp), h.mem _ (by simp)⟩
theorem Her.of2 {P : Str → Prop} {x y : PyData} (h : Her P (.tuple [x, y])) : Her P x ∧ Her P y := ⟨h.mem _ (by simp), h.mem _ (by simp)⟩
def isPay : PyData → Bool
  | .str z => decide (z.length ≤ 30) && (tl z).all prB
  | _ => false
def isMsg (c : PyData) : PyData → Bool
  | .tuple [a, b, z] => isMem c a && isInt b 1 1000000000000 && isPay z
  | _ => false
theorem threes (d : PyData) : (∃ x y z, d = .tuple [x, y, z]) ∨ ((∃ ds, d = .tuple ds ∧ ds.length ≠ 3) ∨ dTup d = false) := by
  match d with
  | .none | .bool _ | .int _ | .str _ | .list _ | .dict _ => exact .inr (.inr rfl)
  | .tuple [] | .tuple [_] | .tuple [_, _] | .tuple (_ :: _ :: _ :: _ :: _) => exact .inr (.inl ⟨_, rfl, by simp⟩)
  | .tuple [x, y, z] => exact .inl ⟨x, y, z, rfl⟩
theorem isMsg_no {c d : PyData} (h : (∃ ds, d = .tuple ds ∧ ds.length ≠ 3) ∨ dTup d = false) : isMsg c d = false := by
  unfold isMsg
  split
  · simp [dTup] at h
  · rfl
section
variable {P : Program} {w : World} {K : PySem.W.Frag} {mg : Str → Option Value} {base : Heap}
abbrev s_is_payload : Stmt := top 31
abbrev N_is_payload : List Str := ["value"]
abbrev P_is_payload : List Str := ["value"]
theorem sc_is_payload : FnScope N_is_payload P_is_payload (defScope s_is_payload) := ⟨rfl, rfl, rfl, by decide +kernel, rfl, by decide +kernel, by decide +kernel⟩
theorem ok_is_payload {f : Addr} {fd : FuncData} (T : Tx mg) (c_is_printable : DefOk P w K mg base CX0 "is_printable" P_is_printable 2 (sp_is_printable))(F : Fun K "is_payload" "is_payload" s_is_payload f fd) : FnOk P w K mg base CX0 (3) f fd P_is_payload (spH1 isPay) := by
  have nd := sc_is_payload.nd
  refine F.ok sc_is_payload (fun vs H Q E h => ?_) (fun cdv A outer s H vs Q E hr h => ?_)
  · obtain ⟨_, _, _, rfl, _⟩ := h
    rfl
  · obtain ⟨p, v, d, rfl, hd, hh, q⟩ := h
    have hs := sl
    refine ⟨_, (pss_one (ps_ret (pe_and (pe_callB call_isi (by rfl) T.b_isinstance (by decide +kernel) (pa_cons (pv 0) (pa_cons (pe_ty "str" T.b_str) pa_nil))) (pe_and (pe_cmpR op_le (pe_callB call_len_str (by rfl) T.b_len (by decide +kernel) (pa_cons (pv 0) pa_nil)) (pe_const T.c_MOST_PAYLOAD) (nomark _)) (pe_one (pcall c_is_printable hr (pa_cons (pv 0) pa_nil))))))), ?_⟩
    have hd' := hd
    cases hd <;> walk_at "rds"
    case str z =>
      cases hh with
      | str hz =>
        refine ⟨by have := hz.1; omega, ?_⟩
        walk_at "rds"
        refine iB (fun h => ?_) (fun h => ?_)
        · have h := of_decide_eq_true h
          walk_at "rds"
          exact ansB q (by simp only [isPay]; rw [decide_eq_true (show z.length ≤ 30 by omega), Bool.true_and])
        · have h := of_decide_eq_false h
          exact ansB q (by simp only [isPay]; rw [decide_eq_false (show ¬ z.length ≤ 30 by omega), Bool.false_and])
    all_goals exact q
abbrev s_is_message : Stmt := top 32
abbrev N_is_message : List Str := ["count", "value"]
abbrev P_is_message : List Str := ["count", "value"]
theorem sc_is_message : FnScope N_is_message P_is_message (defScope s_is_message) := ⟨rfl, rfl, rfl, by decide +kernel, rfl, by decide +kernel, by decide +kernel⟩
theorem ok_is_message {f : Addr} {fd : FuncData} (T : Tx mg) (c_is_integer : DefOk P w K mg base CX0 "is_integer" P_is_integer 1 (spI)) (c_is_member : DefOk P w K mg base CX0 "is_member" P_is_member 3 (spB2 isMem)) (c_is_payload : DefOk P w K mg base CX0 "is_payload" P_is_payload 3 (spH1 isPay))(F : Fun K "is_message" "is_message" s_is_message f fd) : FnOk P w K mg base CX0 (4) f fd P_is_message (spH2 isMsg) := by
  have nd := sc_is_message.nd
  refine F.ok sc_is_message (fun vs H Q E h => ?_) (fun cdv A outer s H vs Q E hr h => ?_)
  · obtain ⟨_, _, _, _, _, rfl, _⟩ := h
    rfl
  · obtain ⟨p, u, v, c, d, rfl, hc, hd, hh, q⟩ := h
    refine ⟨_, (pss_cons (ps_if (PW.pt (pw_or (pt_not (pt_val (pe_callB call_isi (by rfl) T.b_isinstance (by decide +kernel) (pa_cons (pv 1) (pa_cons (pe_ty "tuple" T.b_tuple) pa_nil))))) (pw_or1 (pt_cmpR op_ne (pe_callB call_len_seq (by rfl) T.b_len (by decide +kernel) (pa_cons (pv 1) pa_nil)) pe_int (nomark _)))))
        (pss_one (ps_ret pe_bl))
        pss_nil)
      (pss_one (ps_ret (pe_and (pcall c_is_member hr (pa_cons (pv 0) (pa_cons (pe_ix ix_tup (pv 1) pe_int (fun _ _ => rfl)) pa_nil))) (pe_and (pcall c_is_integer hr (pa_cons (pe_ix ix_tup (pv 1) pe_int (fun _ _ => rfl)) (pa_cons pe_int (pa_cons (pe_const T.c_MOST_NUMBER) pa_nil)))) (pe_one (pcall c_is_payload hr (pa_cons (pe_ix ix_tup (pv 1) pe_int (fun _ _ => rfl)) pa_nil)))))))), ?_⟩
    have hd' := hd
    rcases threes d with ⟨x, y, z, rfl⟩ | hno
    · obtain ⟨k1, k2, k3⟩ := hh.of3
      obtain _ | _ | _ | _ | _ | @⟨a, xs, _, ha, np, hw, hr⟩ := hd
      obtain _ | ⟨hx, _ | ⟨hy, _ | ⟨hz, hn⟩⟩⟩ := hr
      cases hn
      walk_at "rds"
      refine iB (fun h => ?_) (fun h => ?_)
      · walk_at "rds"
        refine iB (fun h2 => ?_) (fun h2 => ?_)
        · walk_at "rds"
          exact ⟨p, _, z, rfl, hz, k3, ansB q (by simp [isMsg, h, h2])⟩
        · exact ansB q (by simp [isMsg, h, h2])
      · exact ansB q (by simp [isMsg, h])
    · have e := isMsg_no (c := c) hno
      rw [e] at q
      rcases hno with ⟨ds, rfl, hl⟩ | hno
      · obtain _ | _ | _ | _ | _ | @⟨a, xs, _, ha, np, hw, hr⟩ := hd
        have hl2 := hr.length
        walk_at "rds"
        refine nT (vint_ne (by omega)) ?_
        walk_at "rds"
        exact q
      · cases hd <;> simp [dTup] at hno <;> walk_at "rds" <;> exact q
end
end Mus

set_option maxRecDepth 100000
set_option maxHeartbeats 4000000
namespace Mus
open PySem L2 TL PySem.NumText
local macro_rules | `(tactic| walk_at "rd") => `(tactic| first
  | refine ⟨_, rfl, ?_⟩ | refine ⟨(True.intro : True), ?_⟩
  | refine ⟨_, _, rfl, rfl, (⟨by decide, by decide, by decide⟩ : CPow _ _), ?_⟩
  | refine ⟨_, _, rfl, rfl, (⟨by decide, by decide⟩ : CDiv _ _), ?_⟩
  | refine ⟨_, _, rfl, rfl, (by show (0 : Int) < _; decide), ?_⟩
  | refine ⟨_, _, rfl, rfl, ?_⟩ | refine ⟨rfl, ?_⟩ | refine iteT ?_ | refine iteF ?_ | refine ⟨_, _, rfl, ?_⟩ | refine .inl ⟨_, rfl, ?_⟩
  | refine ⟨_, _, _, _, _, rfl, (by assumption), (by assumption), (by assumption), rfl, ?_⟩ | refine ⟨_, _, _, _, rfl, rfl, SqT.of (by assumption), rfl, ?_⟩ | refine ⟨_, _, rfl, SqT.of (by assumption), rfl, ?_⟩
  | refine ⟨_, _, _, _, _, rfl, .ty _, Rp.ty (by assumption), kit_int _, ?_⟩ | refine ⟨_, _, _, _, _, rfl, .ty _, Rp.ty (by assumption), kit_bool _, ?_⟩
  | refine ⟨_, _, _, _, _, rfl, .ty _, Rp.ty (by assumption), kit_str _, ?_⟩ | refine ⟨_, _, _, _, _, rfl, .ty _, Rp.ty (by assumption), kit_tup _, ?_⟩)
local macro_rules | `(tactic| walk_at "cal") => `(tactic| first
  | refine ⟨_, _, _, _, _, rfl, (by assumption), ?_⟩ | refine ⟨_, _, _, _, _, rfl, (by assumption), (by assumption), ?_⟩)
local macro_rules | `(tactic| walk_at "sq") => `(tactic| first
  | refine ⟨_, _, rfl, Or.inr (SqT.of (by assumption)), ?_⟩ | refine ⟨_, _, _, _, rfl, rfl, SqT.of (by assumption), rfl, ?_⟩)
local macro_rules | `(tactic| walk_at "rds") => `(tactic| repeat first | walk_at "rd" | walk_at "cal" | walk_at "sq")
local macro_rules | `(tactic| walk_at "ze") => `(tactic| repeat first
  | exact zes_nil | exact ze_bl | exact ze_str | exact ze_non | apply zes_cons | apply ze_tup | apply ze_lst | apply ze_cat | exact di_c | exact di_v rfl | apply di_opC | apply di_op | apply di_neg | apply ze_i | (refine (⟨?_, ?_, ?_⟩ : CPow _ _) <;> decide) | exact Nat.le_of_ble_eq_true rfl | exact ze_varD rfl (by assumption))
local macro_rules | `(tactic| walk_at "rdz") => `(tactic| repeat (fail_if_success (first | show tLst _ _ _ _ | show tAsg (tLst _) _ _ _ _ | show tSeq (tAsg (tLst _) _) _ _ _ _)); first | walk_at "rd" | walk_at "cal" | walk_at "sq")
def sndK : PyData → Int × Int
  | .tuple (.tuple [.int i, .int l] :: _) => (i, l)
  | _ => (0, 0)
def idxK : PyData → Int
  | .tuple (_ :: .int i :: _) => i
  | _ => 0
def cnt (ds : List PyData) (k : Int × Int) : Nat := (ds.filter fun m => decide (sndK m = k)).length
def logFrom (c : PyData) : List PyData → List PyData → Bool
  | _, [] => true
  | pre, m :: ms => isMsg c m && decide (idxK m = cnt pre (sndK m) + 1) && logFrom c (pre ++ [m]) ms
def isLog (c : PyData) : PyData → Bool
  | .tuple ds => logFrom c [] ds
  | _ => false
theorem isMsg_int {c d : PyData} (h : isMsg c d = true) : ∃ i l k z, d = .tuple [.tuple [.int i, .int l], .int k, .str z] ∧ isMem c (.tuple [.int i, .int l]) = true ∧ 1 ≤ k ∧ k ≤ 1000000000000 ∧ z.length ≤ 30 := by
  unfold isMsg at h
  split at h
  · rename_i a b z
    rw [Bool.and_eq_true, Bool.and_eq_true] at h
    obtain ⟨⟨h1, h2⟩, h3⟩ := h
    obtain ⟨n, i, l, _, rfl, _⟩ := isMem_int h1
    obtain ⟨k, rfl, h4, h5⟩ := isInt_int h2
    cases z <;> try (cases h3; done)
    rename_i z
    simp [isPay] at h3
    exact ⟨i, l, k, z, rfl, h1, h4, h5, h3.1⟩
  · cases h
theorem cnt_snoc (ds : List PyData) (m : PyData) (k : Int × Int) : cnt (ds ++ [m]) k = cnt ds k + if sndK m = k then 1 else 0 := by
  unfold cnt
  rw [List.filter_append, List.length_append]
  by_cases h : sndK m = k
  · rw [if_pos h]; simp [h]
  · rw [if_neg h]; simp [h]
def spHS1 (f : PyData → Bool) : Sp := fun vs H Q _ => ∃ (p : Addr) (v : V) (d : PyData), vs = [v] ∧ Rp p H v d ∧ Her Ok d ∧ ∀ H', Same H H' → Q (.bl (f d)) H'
def spHS2 (f : PyData → PyData → Bool) : Sp := fun vs H Q _ => ∃ (p : Addr) (u v : V) (c d : PyData), vs = [u, v] ∧ Rp p H u c ∧ Rp p H v d ∧ Her Ok d ∧ ∀ H', Same H H' → Q (.bl (f c d)) H'
theorem isLog_no {c d : PyData} (h : dTup d = false) : isLog c d = false := by cases d <;> first | rfl | cases h
/-- the last indexes as a dict -/
def Last (kvs : List (List Key × V)) (pre : List PyData) : Prop := kvs.length ≤ pre.length ∧ ∀ i l : Int, (valV kvs [Sum.inl i, Sum.inl l]).getD (.int 0) = .int (cnt pre (i, l) : Nat)
section
variable {P : Program} {w : World} {K : PySem.W.Frag} {mg : Str → Option Value} {base : Heap}
abbrev s_is_log : Stmt := top 34
abbrev N_is_log : List Str := ["count", "value", "last_indexes", "message", "sender", "index", "_"]
abbrev P_is_log : List Str := ["count", "value"]
theorem sc_is_log : FnScope N_is_log P_is_log (defScope s_is_log) := ⟨rfl, rfl, rfl, by decide +kernel, rfl, by decide +kernel, by decide +kernel⟩
theorem ok_is_log {f : Addr} {fd : FuncData} (T : Tx mg) (c_is_message : DefOk P w K mg base CX0 "is_message" P_is_message 4 (spH2 isMsg))(F : Fun K "is_log" "is_log" s_is_log f fd) : FnOk P w K mg base CX0 (5) f fd P_is_log (spHS2 isLog) := by
  have nd := sc_is_log.nd
  refine F.ok sc_is_log (fun vs H Q E h => ?_) (fun cdv A outer s H vs Q E hr h => ?_)
  · obtain ⟨_, _, _, _, _, rfl, _⟩ := h
    rfl
  · obtain ⟨p, u, v, c, d, rfl, hc, hd, hh, q⟩ := h
    have hu := hu_of hr
    have hs := sl
    refine ⟨_, (pss_cons (ps_if (pt_not (pt_val (pe_callB call_isi (by rfl) T.b_isinstance (by decide +kernel) (pa_cons (pv 1) (pa_cons (pe_ty "tuple" T.b_tuple) pa_nil)))))
        (pss_one (ps_ret pe_bl))
        pss_nil)
      (pss_cons (ps_set (i := 2) nd rfl (Or.inl rfl) pe_dnewT)
      (pss_cons (ps_for PassesOwn.never rfl (pi_tup (pv 1)) (pg_name (i := 3) nd rfl (Or.inl rfl))
        (pss_cons (ps_if (pt_not (pt_val (pcall c_is_message hr (pa_cons (pv 0) (pa_cons (pv 3) pa_nil)))))
          (pss_one (ps_ret pe_bl))
          pss_nil)
        (pss_cons (ps_asg (pv 3) (pg_tup (by rfl) (pgs_cons (pg_name (i := 4) nd rfl (Or.inl rfl)) (pgs_cons (pg_name (i := 5) nd rfl (Or.inl rfl)) (pgs_cons (pg_name (i := 6) nd rfl (Or.inl rfl)) pgs_nil)))))
        (pss_cons (ps_if (pt_cmpR op_ne (pv 5) (pe_op op_add (pe_dget2 hu (pv 2) (pv 4) pe_int ⟨rfl, rfl, rfl, rfl⟩) pe_int) (nomark _))
          (pss_one (ps_ret pe_bl))
          pss_nil)
        (pss_one (ps_dput hu (pv 2) (pv 4) (pv 5) rfl))))))
      (pss_one (ps_ret pe_bl))))), ?_⟩
    have hd' := hd
    cases hd
    case tup a xs ds ha np hw hr =>
      refine ⟨_, rfl, ?_⟩
      refine ⟨_, _, _, _, _, rfl, .ty _, Rp.ty (by assumption), kit_tup _, ?_⟩
      refine ⟨_, rfl, ?_⟩
      refine iteF ?_
      intro e ne
      have se := same_new ne (.dT [])
      refine ⟨_, rfl, ?_⟩
      refine ⟨_, rfl, ?_⟩
      refine ⟨⟨_, SqT.of (se _ _ ha)⟩, for_tup (K := K) (a := a) (xs := xs) (fun i σ H' => ∃ (kvs : List (List Key × V)) (x3 x4 x5 x6 : Option V), σ = [some u, some (.ref a), some (.ref e), x3, x4, x5, x6] ∧ Same H H' ∧ H' e = some (.dT kvs) ∧ Last kvs (ds.take i) ∧ logFrom c [] ds = logFrom c (ds.take i) (ds.drop i)) ?_ ?_ ?_ ?_⟩
      · exact ⟨[], _, _, _, _, rfl, se, upd_same, ⟨Nat.zero_le _, fun _ _ => rfl⟩, rfl⟩
      · rintro i σ H' _ ⟨kvs, _, _, _, _, rfl, s', _⟩
        exact SqT.of (s' _ _ ha)
      · rintro i x σ H' hx ⟨kvs, x3, x4, x5, x6, rfl, s', he, hL, hm⟩
        obtain ⟨m, hm2, rm⟩ := hr.at hx
        rw [drop_cons hm2] at hm
        have hmh := hh.mem m (List.mem_of_getElem? hm2)
        refine ⟨_, rfl, ?_⟩
        refine ⟨_, rfl, ?_⟩
        refine ⟨p, u, x, c, m, rfl, hc.same s', rm.same s', hmh, ?_⟩
        refine ⟨_, rfl, ?_⟩
        refine iB (fun h => ?_) (fun h => ?_)
        · have h' : isMsg c m = false := by simpa using h
          walk_at "rds"
          exact ansB (q _ s') (hm.trans (by simp [logFrom, h']))
        · have h' : isMsg c m = true := by simpa using h
          obtain ⟨i0, l0, k0, z0, rfl, hmem, _, _, _⟩ := isMsg_int h'
          obtain _ | _ | _ | _ | _ | @⟨b, ys, _, hb, nb, hwb, hrb⟩ := rm
          obtain _ | ⟨hx1, _ | ⟨hx2, _ | ⟨hx3, hn⟩⟩⟩ := hrb
          cases hn
          cases hx2
          cases hx3
          obtain _ | _ | _ | _ | _ | @⟨b2, ys2, _, hb2, nb2, hwb2, hrb2⟩ := hx1
          obtain _ | ⟨hy1, _ | ⟨hy2, hn⟩⟩ := hrb2
          cases hn
          cases hy1
          cases hy2
          have hbt : H' b2 = some (.tup (([Sum.inl i0, Sum.inl l0] : List Key).map kV)) := s' _ _ hb2
          refine ⟨_, rfl, ?_⟩
          refine ⟨b, _, rfl, SqT.of (s' _ _ hb), rfl, ?_⟩
          refine ⟨_, _, rfl, ?_⟩
          refine ⟨_, _, rfl, ?_⟩
          refine ⟨_, _, rfl, rfl, ?_⟩
          refine ⟨_, rfl, ?_⟩
          refine ⟨_, rfl, ?_⟩
          refine ⟨_, rfl, ?_⟩
          refine ⟨.inr ⟨kvs, .inl he⟩, ?_⟩
          refine ⟨_, rfl, ?_⟩
          refine ⟨_, DGet.t he hbt, ?_⟩
          rw [hL.2]
          refine ⟨_, _, rfl, rfl, ?_⟩
          refine ⟨rfl, ?_⟩
          refine ⟨_, rfl, ?_⟩
          refine iB (fun h2 => ?_) (fun h2 => ?_)
          · have h3 : ¬ k0 = (cnt (ds.take i) (i0, l0) : Nat) + 1 := fun e => by rw [e] at h2; simp at h2
            walk_at "rds"
            exact ansB (q _ s') (hm.trans (by simp [logFrom, idxK, sndK, h3]))
          · have h3 : k0 = (cnt (ds.take i) (i0, l0) : Nat) + 1 := by simpa using h2
            have hll : kvs.length < sizeLine := by
              have := hL.1
              rw [List.length_take] at this
              have := hr.length
              omega
            refine ⟨_, rfl, ?_⟩
            refine ⟨_, rfl, ?_⟩
            refine ⟨_, rfl, ?_⟩
            refine ⟨e, _, rfl, DPut.t he hbt hll, ?_⟩
            have ht : ds.take (i + 1) = ds.take i ++ [.tuple [.tuple [.int i0, .int l0], .int k0, .str z0]] := by rw [List.take_succ, hm2]; rfl
            refine ⟨_, _, _, _, _, rfl, fun b' o h => (by rw [upd_ne (ne_of_none h ne)]; exact s' b' o h), upd_same, ⟨?_, ?_⟩, ?_⟩
            · have := putK_le kvs ([Sum.inl i0, Sum.inl l0] : List Key) (V.int k0)
              rw [ht, List.length_append]
              have := hL.1
              show _ ≤ _ + 1
              omega
            · intro i1 l1
              have es : sndK (.tuple [.tuple [.int i0, .int l0], .int k0, .str z0]) = (i0, l0) := rfl
              rw [valV_put, ht, cnt_snoc, es]
              by_cases he1 : i1 = i0 ∧ l1 = l0
              · obtain ⟨rfl, rfl⟩ := he1
                rw [if_pos rfl, if_pos rfl]
                show V.int k0 = _
                rw [h3]; rfl
              · rw [if_neg (by intro z; injection z with z1 z2; injection z1 with z1; injection z2 with z2; injection z2 with z2; exact he1 ⟨z1, z2⟩), if_neg (by intro z; injection z with z1 z2; exact he1 ⟨z1.symm, z2.symm⟩)]
                exact hL.2 i1 l1
            · rw [hm, ht]
              show (isMsg c _ && decide (k0 = ((cnt (ds.take i) (i0, l0) : Nat) : Int) + 1) && logFrom c (ds.take i ++ [_]) _) = _
              rw [h', decide_eq_true h3]; rfl
      · rintro σ H' ⟨kvs, x3, x4, x5, x6, rfl, s', he, hL, hm⟩
        have hl := hr.length
        rw [hl, List.drop_length] at hm
        walk_at "rds"
        exact ansB (q _ s') hm
    all_goals
      walk_at "rds"
      exact q _ (Same.rfl' H)
end
end Mus

set_option maxRecDepth 100000
set_option maxHeartbeats 4000000
namespace Mus
open PySem L2 TL PySem.NumText
local macro_rules | `(tactic| walk_at "rd") => `(tactic| first
  | refine ⟨_, rfl, ?_⟩ | refine ⟨(True.intro : True), ?_⟩
  | refine ⟨_, _, rfl, rfl, (⟨by decide, by decide, by decide⟩ : CPow _ _), ?_⟩
  | refine ⟨_, _, rfl, rfl, (⟨by decide, by decide⟩ : CDiv _ _), ?_⟩
  | refine ⟨_, _, rfl, rfl, (by show (0 : Int) < _; decide), ?_⟩
  | refine ⟨_, _, rfl, rfl, ?_⟩ | refine ⟨rfl, ?_⟩ | refine iteT ?_ | refine iteF ?_ | refine ⟨_, _, rfl, ?_⟩ | refine .inl ⟨_, rfl, ?_⟩
  | refine ⟨_, _, _, _, _, rfl, (by assumption), (by assumption), (by assumption), rfl, ?_⟩ | refine ⟨_, _, _, _, rfl, rfl, SqT.of (by assumption), rfl, ?_⟩ | refine ⟨_, _, rfl, SqT.of (by assumption), rfl, ?_⟩
  | refine ⟨_, _, _, _, _, rfl, .ty _, Rp.ty (by assumption), kit_int _, ?_⟩ | refine ⟨_, _, _, _, _, rfl, .ty _, Rp.ty (by assumption), kit_bool _, ?_⟩
  | refine ⟨_, _, _, _, _, rfl, .ty _, Rp.ty (by assumption), kit_str _, ?_⟩ | refine ⟨_, _, _, _, _, rfl, .ty _, Rp.ty (by assumption), kit_tup _, ?_⟩)
local macro_rules | `(tactic| walk_at "cal") => `(tactic| first
  | refine ⟨_, _, _, _, _, rfl, (by assumption), ?_⟩ | refine ⟨_, _, _, _, _, rfl, (by assumption), (by assumption), ?_⟩)
local macro_rules | `(tactic| walk_at "sq") => `(tactic| first
  | refine ⟨_, _, rfl, Or.inr (SqT.of (by assumption)), ?_⟩ | refine ⟨_, _, _, _, rfl, rfl, SqT.of (by assumption), rfl, ?_⟩)
local macro_rules | `(tactic| walk_at "rds") => `(tactic| repeat first | walk_at "rd" | walk_at "cal" | walk_at "sq")
local macro_rules | `(tactic| walk_at "ze") => `(tactic| repeat first
  | exact zes_nil | exact ze_bl | exact ze_str | exact ze_non | apply zes_cons | apply ze_tup | apply ze_lst | apply ze_cat | exact di_c | exact di_v rfl | apply di_opC | apply di_op | apply di_neg | apply ze_i | (refine (⟨?_, ?_, ?_⟩ : CPow _ _) <;> decide) | exact Nat.le_of_ble_eq_true rfl | exact ze_varD rfl (by assumption))
local macro_rules | `(tactic| walk_at "rdz") => `(tactic| repeat (fail_if_success (first | show tLst _ _ _ _ | show tAsg (tLst _) _ _ _ _ | show tSeq (tAsg (tLst _) _) _ _ _ _)); first | walk_at "rd" | walk_at "cal" | walk_at "sq")
/-- a cast that waits -/
def isCast : PyData → Bool
  | .tuple [x, y] => isInt x 1 1000000000000 && isPay y
  | _ => false
def pendFrom : Int → List PyData → Bool
  | _, [] => true
  | n, m :: ms => isCast m && decide (procOf m = n) && pendFrom (n + 1) ms
def isPend : PyData → Bool
  | .tuple [] => true
  | .tuple (m :: ms) => isCast m && pendFrom (procOf m + 1) ms
  | _ => false
theorem isCast_no {d : PyData} (h : (∃ ds, d = .tuple ds ∧ ds.length ≠ 2) ∨ dTup d = false) : isCast d = false := by
  unfold isCast
  split
  · simp [dTup] at h
  · rfl
section
variable {P : Program} {w : World} {K : PySem.W.Frag} {mg : Str → Option Value} {base : Heap}
abbrev s__is_pending_cast : Stmt := top 37
abbrev N__is_pending_cast : List Str := ["value"]
abbrev P__is_pending_cast : List Str := ["value"]
theorem sc__is_pending_cast : FnScope N__is_pending_cast P__is_pending_cast (defScope s__is_pending_cast) := ⟨rfl, rfl, rfl, by decide +kernel, rfl, by decide +kernel, by decide +kernel⟩
theorem ok__is_pending_cast {f : Addr} {fd : FuncData} (T : Tx mg) (c_is_integer : DefOk P w K mg base CX0 "is_integer" P_is_integer 1 (spI)) (c_is_payload : DefOk P w K mg base CX0 "is_payload" P_is_payload 3 (spH1 isPay))(F : Fun K "_is_pending_cast" "_is_pending_cast" s__is_pending_cast f fd) : FnOk P w K mg base CX0 (4) f fd P__is_pending_cast (spH1 isCast) := by
  have nd := sc__is_pending_cast.nd
  refine F.ok sc__is_pending_cast (fun vs H Q E h => ?_) (fun cdv A outer s H vs Q E hr h => ?_)
  · obtain ⟨_, _, _, rfl, _⟩ := h
    rfl
  · obtain ⟨p, v, d, rfl, hd, hh, q⟩ := h
    refine ⟨_, (pss_cons (ps_if (PW.pt (pw_or (pt_not (pt_val (pe_callB call_isi (by rfl) T.b_isinstance (by decide +kernel) (pa_cons (pv 0) (pa_cons (pe_ty "tuple" T.b_tuple) pa_nil))))) (pw_or1 (pt_cmpR op_ne (pe_callB call_len_seq (by rfl) T.b_len (by decide +kernel) (pa_cons (pv 0) pa_nil)) pe_int (nomark _)))))
        (pss_one (ps_ret pe_bl))
        pss_nil)
      (pss_one (ps_ret (pe_and (pcall c_is_integer hr (pa_cons (pe_ix ix_tup (pv 0) pe_int (fun _ _ => rfl)) (pa_cons pe_int (pa_cons (pe_const T.c_MOST_NUMBER) pa_nil)))) (pe_one (pcall c_is_payload hr (pa_cons (pe_ix ix_tup (pv 0) pe_int (fun _ _ => rfl)) pa_nil))))))), ?_⟩
    have hd' := hd
    rcases pairs d with ⟨x, y, rfl⟩ | hno
    · obtain ⟨k1, k2⟩ := hh.of2
      obtain _ | _ | _ | _ | _ | @⟨a, xs, _, ha, np, hw, hr⟩ := hd
      obtain _ | ⟨hx, _ | ⟨hy, _⟩⟩ := hr
      cases ‹Rps p H _ []›
      refine ⟨_, rfl, ?_⟩
      refine ⟨_, _, _, _, _, rfl, .ty _, Rp.ty (by assumption), kit_tup _, ?_⟩
      refine ⟨_, rfl, ?_⟩
      refine ⟨_, rfl, ?_⟩
      refine ⟨_, _, rfl, Or.inr (SqT.of (by assumption)), ?_⟩
      refine ⟨rfl, ?_⟩
      refine ⟨_, rfl, ?_⟩
      refine ⟨_, rfl, ?_⟩
      refine ⟨_, _, _, _, rfl, rfl, SqT.of (by assumption), rfl, ?_⟩
      refine ⟨_, _, _, _, _, rfl, (by assumption), ?_⟩
      refine ⟨_, rfl, ?_⟩
      refine iB (fun h => ?_) (fun h => ?_)
      · walk_at "rds"
        exact ⟨p, _, y, rfl, hy, k2, ansB q (by simp [isCast, h])⟩
      · exact ansB q (by simp [isCast, h])
    · have e := isCast_no hno
      rw [e] at q
      rcases hno with ⟨ds, rfl, hl⟩ | hno
      · obtain _ | _ | _ | _ | _ | @⟨a, xs, _, ha, np, hw, hr⟩ := hd
        have hl2 := hr.length
        refine ⟨_, rfl, ?_⟩
        refine ⟨_, _, _, _, _, rfl, .ty _, Rp.ty (by assumption), kit_tup _, ?_⟩
        refine ⟨_, rfl, ?_⟩
        refine ⟨_, rfl, ?_⟩
        refine ⟨_, _, rfl, Or.inr (SqT.of (by assumption)), ?_⟩
        refine ⟨rfl, ?_⟩
        refine ⟨_, rfl, ?_⟩
        refine nT (vint_ne (by omega)) ?_
        walk_at "rds"
        exact q
      · cases hd <;> simp [dTup] at hno <;> walk_at "rds" <;> exact q
theorem logFrom_at {c : PyData} : ∀ {ds pre : List PyData}, logFrom c pre ds = true → ∀ {j : Nat} {m : PyData}, ds[j]? = some m → isMsg c m = true ∧ idxK m = (cnt (pre ++ ds.take j) (sndK m) : Nat) + 1
  | [], pre, _, j, m, h => by simp at h
  | d :: ds, pre, h, j, m, hm => by
    have h : (isMsg c d && decide (idxK d = (cnt pre (sndK d) : Nat) + 1) && logFrom c (pre ++ [d]) ds) = true := h
    rw [Bool.and_eq_true, Bool.and_eq_true, decide_eq_true_eq] at h
    cases j with
    | zero =>
      cases hm
      rw [List.take_zero, List.append_nil]
      exact h.1
    | succ j =>
      have := logFrom_at h.2 (j := j) (m := m) (by simpa using hm)
      rwa [List.append_assoc] at this
theorem shaped2 (i l : Int) : SeqAt.shaped (.tuple [.int i, .int l]) = true := by simp [SeqAt.shaped, PyData.canLay0, PyData.canLayAll0, PyData.depth, PyData.depthAll]
theorem eqv2 (i l j k : Int) : PyData.eqv (.tuple [.int i, .int l]) (.tuple [.int j, .int k]) = decide ((i, l) = (j, k)) := by
  simp only [PyData.eqv, PyData.eqvAll, Prod.mk.injEq, Bool.and_true, Bool.decide_and]
  rfl
def sp_last : Sp := fun vs H Q _ => ∃ (p : Addr) (u v : V) (ds : List PyData) (i l : Int) (c : PyData), vs = [u, v] ∧ Rp p H u (.tuple ds) ∧ Rp p H v (.tuple [.int i, .int l]) ∧ logFrom c [] ds = true ∧ Q (.int (cnt ds (i, l) : Nat)) H
abbrev s_last_index : Stmt := top 35
abbrev N_last_index : List Str := ["log", "member", "last", "sender", "index", "_"]
abbrev P_last_index : List Str := ["log", "member"]
theorem sc_last_index : FnScope N_last_index P_last_index (defScope s_last_index) := ⟨rfl, rfl, rfl, by decide +kernel, rfl, by decide +kernel, by decide +kernel⟩
theorem ok_last_index {f : Addr} {fd : FuncData} (T : Tx mg) (F : Fun K "last_index" "last_index" s_last_index f fd) : FnOk P w K mg base CX0 (1) f fd P_last_index (sp_last) := by
  have nd := sc_last_index.nd
  refine F.ok sc_last_index (fun vs H Q E h => ?_) (fun cdv A outer s H vs Q E hr h => ?_)
  · obtain ⟨_, _, _, _, _, _, _, rfl, _⟩ := h
    rfl
  · obtain ⟨p, u, v, ds, i, l, c, rfl, hu, hv, hlog, q⟩ := h
    have hs := sl
    refine ⟨_, (pss_cons (ps_set (i := 2) nd rfl (Or.inl rfl) pe_int)
      (pss_cons (ps_for PassesOwn.never rfl (pi_tup (pv 0)) (pg_tup (by rfl) (pgs_cons (pg_name (i := 3) nd rfl (Or.inl rfl)) (pgs_cons (pg_name (i := 4) nd rfl (Or.inl rfl)) (pgs_cons (pg_name (i := 5) nd rfl (Or.inl rfl)) pgs_nil))))
        (pss_one (ps_if (pt_cmpR (op_eqD hr.units) (pv 3) (pv 1) (nomark _))
          (pss_one (ps_set (i := 2) nd rfl (Or.inl rfl) (pv 4)))
          pss_nil)))
      (pss_one (ps_ret (pv 2))))), ?_⟩
    refine ⟨_, rfl, ?_⟩
    obtain _ | _ | _ | _ | _ | @⟨a, xs, _, ha, np, hw, hr1⟩ := hu
    refine ⟨a, rfl, ⟨_, SqT.of ha⟩, for_tup (K := K) (a := a) (xs := xs) (fun j σ H' => H' = H ∧ ∃ (x3 x4 x5 : Option V), σ = [some (.ref a), some v, some (.int (cnt (ds.take j) (i, l) : Nat)), x3, x4, x5]) ?_ ?_ ?_ ?_⟩
    · exact ⟨rfl, _, _, _, rfl⟩
    · rintro j σ H' _ ⟨rfl, _⟩
      exact SqT.of ha
    · rintro j x σ H' hx ⟨rfl, x3, x4, x5, rfl⟩
      obtain ⟨m, hm2, rm⟩ := hr1.at hx
      obtain ⟨hmsg, hidx⟩ := logFrom_at hlog hm2
      obtain ⟨i0, l0, k0, z0, rfl, hmem, _, _, _⟩ := isMsg_int hmsg
      have hidx : k0 = (cnt ([] ++ ds.take j) (i0, l0) : Nat) + 1 := hidx
      rw [List.nil_append] at hidx
      have ht : ds.take (j + 1) = ds.take j ++ [.tuple [.tuple [.int i0, .int l0], .int k0, .str z0]] := by rw [List.take_succ, hm2]; rfl
      have es : sndK (.tuple [.tuple [.int i0, .int l0], .int k0, .str z0]) = (i0, l0) := rfl
      obtain _ | _ | _ | _ | _ | @⟨b, ys, _, hb, nb, hwb, hrb⟩ := rm
      obtain _ | ⟨hx1, _ | ⟨hx2, _ | ⟨hx3, hn⟩⟩⟩ := hrb
      cases hn
      cases hx2
      cases hx3
      refine ⟨b, _, rfl, SqT.of hb, rfl, ?_⟩
      refine ⟨_, _, rfl, ?_⟩
      refine ⟨_, _, rfl, ?_⟩
      refine ⟨_, _, rfl, rfl, ?_⟩
      refine ⟨_, rfl, ?_⟩
      refine ⟨_, rfl, ?_⟩
      refine ⟨_, _, hx1.dp, hv.dp, shaped2 _ _, shaped2 _ _, ?_⟩
      rw [eqv2]
      refine ⟨_, rfl, ?_⟩
      refine iB (fun h => ?_) (fun h => ?_)
      · have h := of_decide_eq_true h
        refine ⟨_, rfl, ?_⟩
        refine ⟨rfl, ?_⟩
        rw [ht, cnt_snoc, es, if_pos h, hidx, h]
        exact ⟨_, _, _, rfl⟩
      · have h := of_decide_eq_false h
        have ec : cnt (ds.take (j + 1)) (i, l) = cnt (ds.take j) (i, l) := by rw [ht, cnt_snoc, es, if_neg h]; rfl
        rw [ec]
        exact ⟨rfl, _, _, _, rfl⟩
    · rintro σ H' ⟨rfl, x3, x4, x5, rfl⟩
      have hl := hr1.length
      rw [hl, List.take_length]
      refine ⟨_, rfl, ?_⟩
      exact q
end
end Mus

set_option maxRecDepth 100000
set_option maxHeartbeats 4000000
/-! enumerate of a tuple. -/
namespace PySem
open Sem (wp)
def enumO (a : Addr) : Obj := { cls := .type "enumerate", data := .fields #[.none, .bool false, .ref a, rawInt 0, .none, .none] }
theorem meets_enum1 {v : Value} {o : Obj} {H : Heap → Prop} (B : Begins v o H) :
    Meets (Builtin.«enumerate.__new__» ⟨[.type "enumerate", v], []⟩) (fun _ R s => H s.heap ∧ R (.ok (.ret (.ref (s.heap.push o).objs.size))) { s with heap := (s.heap.push o).push (enumO s.heap.objs.size) }) :=
  .of_wp fun prog w A R s h => by
    obtain ⟨hp, g, d, tk, os⟩ := s
    obtain ⟨h1, h⟩ := h
    have sub := sub_enumerate
    have it : ∀ {A' : Around} {E : Value → Shared → Prop} {Q : Value → Shared → Prop}, Q (.ref hp.objs.size) ⟨hp.push o, g, d, tk, os⟩ → wpAny (model prog w) A' (pyIter v) Q E ⟨hp, g, d, tk, os⟩ := fun q => B.iter _ _ _ _ _ _ h1 q
    wp_walk using it
    refine wpAny_stack_any fun st => wpAny_pure ?_
    split
    · rename_i c _ _ _ _ _
      cases (c == Value.type "enumerate") <;> (wp_walk using it; exact ⟨_, rfl, h⟩)
    · wp_walk using it
      exact ⟨_, rfl, h⟩
section
variable {prog : Program} {w : World} {A : Around} {E : Value → Shared → Prop} {s : Shared}
theorem call_enum1 {v : Value} {o : Obj} {H : Heap → Prop} {Q : Value → Shared → Prop} (B : Begins v o H) (h1 : H s.heap)
    (h : ∀ h', IsEnum h' (s.heap.objs.size + 1) s.heap.objs.size 0 .none → h'.get? s.heap.objs.size = some o → (∀ b u, s.heap.get? b = some u → h'.get? b = some u) → Q (.ref (s.heap.objs.size + 1)) { s with heap := h' }) :
    wpAny (model prog w) A (call (.type "enumerate") [v]) Q E s := by
  refine callType_new F.called_enumerate (by decide) (F.typeCall_enumerate_1 _) (F.newCall_enumerate_1 _) (fun obj => F.args_object_init_2 obj _) F.entry_enumerate_new (meets_enum1 B) ⟨h1, ?_⟩
  have z := Heap.size_push s.heap o
  have he : IsEnum ((s.heap.push o).push (enumO s.heap.objs.size)) (s.heap.objs.size + 1) s.heap.objs.size 0 .none := by
    have y := Heap.get?_push_size (s.heap.push o) (o := enumO s.heap.objs.size) rfl
    rw [z] at y; exact y
  show _ ∧ _
  rw [z]
  exact ⟨⟨_, he, rfl⟩, h _ he (Heap.get?_push_of_some _ (Heap.get?_push_size _ B.free)) fun b u x => Heap.get?_push_of_some _ (Heap.get?_push_of_some _ x)⟩
end
end PySem

set_option maxRecDepth 100000
set_option maxHeartbeats 4000000
namespace Mus
open PySem PySem.Spec PyProof.Rows L2
/-- the pairs (i, the tuple's item i) -/
def ItE (K : PySem.W.Frag) (a : Addr) : It where
  go := fun i H => ∃ (xs : List V) (x : V), SqT K H a xs ∧ xs[i]? = some x
  yld := fun i H v H' => ∃ T x, v = .ref T ∧ H T = none ∧ H' = upd H T (.tup [.int (i : Nat), x]) ∧ ∀ xs, SqT K H a xs → xs[i]? = some x
  stop := fun i H => ∃ xs : List V, SqT K H a xs ∧ xs.length = i
theorem turn_enT {P : Program} {w : World} {K : PySem.W.Frag} {elts : List Expr} {kk : Nat} {tpos : Pos} (a e it : Addr) :
    Turn P w K (.Tuple elts kk tpos) (ItE K a) [e, it] e (fun i h => (∃ old, IsEnum h e it ((i : Nat) : Int) old) ∧ h.IsTupleIter it a i ∧ e ≠ it ∧ a ≠ it ∧ a ≠ e) where
  mem := by simp
  obj := fun i h st b hb => by
    obtain ⟨⟨old, he⟩, ⟨o, ho, hc, hd⟩, _⟩ := st
    rcases List.mem_cons.mp hb with z | z
    · rw [z]; exact ⟨_, he, fun v q => nomatch q⟩
    · exact ⟨o, List.mem_singleton.mp z ▸ ho, fun v q => by rw [hd] at q; cases q⟩
  keep := fun i h h' st k => by
    obtain ⟨⟨old, he⟩, hi, r⟩ := st
    exact ⟨⟨old, k e List.mem_cons_self _ he⟩, hi.at fun o q => k it (by simp) o q, r⟩
  item := by
    intro X hP hw hK hc i pins s σ H E I hf st hg
    subst hP hw hK
    obtain ⟨⟨old, he⟩, hit, hne, hai, hae⟩ := st
    obtain ⟨xs, x, hq, hx⟩ := hg
    obtain ⟨its, rv, p, hz⟩ := I.tuple hq
    obtain ⟨u, hu, ru⟩ := rv.get hx
    have lt : i < its.toArray.size := by simpa using (List.getElem?_eq_some_iff.mp hu).1
    refine wpAny_pyNext_enum_itemD (Draws.tuple (A := X.A.in1) (I.ok.hd hc) it a hai its.toArray) he ⟨hit, p⟩ lt hne (by simp [hne, Ne.symm hae]) fun y h1 tk hy ho st1 hT hsz hk => ?_
    have ey : y = u := by
      have hy : its.toArray[i]? = some y := hy
      rw [List.getElem?_toArray, hu] at hy
      exact (Option.some.inj hy).symm
    subst ey
    refine ⟨_, rfl, wpAny_letOwnedTupleGo_enum (s := { s with heap := h1, toks := tk + 1 }) ho fun h2 he2 sb => ?_⟩
    have hel := Heap.lt_size he
    have hT2 := (sb.2 s.heap.objs.size (Nat.ne_of_gt hel)).trans hT
    have new : ObjOk X.prog X.w (upd H s.heap.objs.size (.tup [.int (i : Nat), x])) h2 s.heap.objs.size (.tup [.int (i : Nat), x]) := ⟨by show 2 ≤ sizeLine; decide, [.int i tk, y], .cons ⟨_, rfl⟩ (.cons ru .nil), ⟨_, hT2, rfl, _, rfl⟩⟩
    have I1 : Inv X pins σ (upd H s.heap.objs.size (.tup [.int (i : Nat), x])) { s with heap := h2, toks := tk + 1 } :=
      I.turnedNew (ch := [e, it]) (fun b ob hb q => by
        have n1 : b ≠ e := fun z => hb (by simp [z])
        have n2 : b ≠ it := fun z => hb (by simp [z])
        exact (sb.2 b n1).trans (hk b ob n1 n2 q)) hf (Nat.le_refl _) new
    have hfr : H s.heap.objs.size = none := I.hok.fresh (Nat.le_refl _)
    have ei : ((i : Nat) : Int) + 1 = ((i + 1 : Nat) : Int) := by omega
    rw [ei] at he2
    refine ⟨.ref s.heap.objs.size, _, I1, rfl, ⟨_, x, rfl, hfr, rfl, fun ys hy => by rw [I.tuple_inj hy hq]; exact hx⟩, ⟨⟨y, he2⟩, st1.1.at fun o q => (sb.2 it (Ne.symm hne)).trans q, hne, hai, hae⟩, fun b hb => ?_⟩
    have hb0 := (hf b hb).1
    rw [upd_ne]
    · exact hb0
    · intro z
      have hl : b < s.heap.objs.size := by
        rcases List.mem_cons.mp hb with z | z
        · rw [z]; exact hel
        · obtain ⟨o, q, _⟩ := hit
          rw [List.mem_singleton.mp z]; exact Heap.lt_size q
      exact Nat.ne_of_lt hl z
  done := by
    intro X hP hw hK hc i pins s σ H E I hf st hg
    subst hP hw hK
    obtain ⟨⟨old, he⟩, hit, hne, hai, hae⟩ := st
    obtain ⟨xs, hq, hx⟩ := hg
    obtain ⟨its, rv, p, hz⟩ := I.tuple hq
    have hl := rv.length
    have ei : i = its.toArray.size := by rw [← hx, hl]; rfl
    subst ei
    obtain ⟨f0, f1, f2, f3, f4, f5⟩ := hf it (by simp)
    exact wpAny_pyNext_enum_endD (Draws.tuple (A := X.A.in1) (I.ok.hd hc) it a hai its.toArray) he ⟨hit, p⟩ fun h1 eb => ⟨rfl, I.turned (t' := s.toks) (fun b o hb q => eb b o hb q) f0 f1 f3 f4 f5⟩
  self := fun A i s Q E st h => by
    obtain ⟨⟨_, he⟩, _⟩ := st
    exact wpAny_pyIter_enum he h
def iEnT (K : PySem.W.Frag) (ta : TA) : TI := fun σ H R => ta σ H fun vs H1 => ∃ a xs, vs = [.ref a] ∧ SqT K H1 a xs ∧ R (ItE K a) H1
theorem pi_enT {X : Cx} {e : Expr} {ta : TA} {p pos tpos : Pos} {elts : List Expr} {kk : Nat} (hg : Gl X "enumerate") (hm : X.mg "enumerate" = none) (ha : PA X [e] ta) (hs : starEach [e] X.env = [(false, eval e X.env)] := by rfl) :
    PI X (.Tuple elts kk tpos) (.Call (.Name "enumerate" p) [e] [] pos) (iEnT X.K ta) := by
  refine ⟨fun pins s σ H R I h => ?_⟩
  refine Call_ (ld_blt I hg hm boot_enumerate (callWith_type1 (thn (ha.run pos pins s σ H _ I h) fun us s1 y => ?_) hs rfl))
  obtain ⟨vs, H1, I1, r1, a, xs, rfl, hq, q⟩ := y
  obtain _ | ⟨r, _ | _⟩ := r1
  cases r
  obtain ⟨its, rv, p', hz⟩ := I1.tuple hq
  have p'' : s1.heap.IsTuple a its.toArray := p'
  have la : a < s1.heap.objs.size := by
    obtain ⟨o, y, _⟩ := p''
    exact Heap.lt_size y
  refine call_enum1 (begins_tuple a its.toArray) p'' fun h1 he ho hk => wpAny_pyIter_enum he ?_
  have I2 : Inv X pins σ H1 { s1 with heap := h1 } := I1.kept (t' := s1.toks) hk
  refine ⟨s1.heap.objs.size + 1, [s1.heap.objs.size + 1, s1.heap.objs.size], _, _, H1, rfl, I2, turn_enT a (s1.heap.objs.size + 1) s1.heap.objs.size, ⟨⟨.none, he⟩, ⟨_, ho, rfl, rfl⟩, Nat.succ_ne_self _, Nat.ne_of_lt la, Nat.ne_of_lt (Nat.lt_succ_of_lt la)⟩, fun b hb => ?_, q⟩
  have hle : s1.heap.objs.size ≤ b := by
    rcases List.mem_cons.mp hb with z | z
    · rw [z]; exact Nat.le_succ _
    · rw [List.mem_singleton.mp z]; exact Nat.le_refl _
  exact I1.fpOk hle (I1.hok.fresh hle)
theorem walk_enT {K : PySem.W.Frag} {a : Addr} {xs : List V} : Walk (ItE K a) xs.length (fun H => SqT K H a xs) (YPair (fun i => some (.int (i : Nat))) (fun i => xs[i]?)) where
  goes := fun i H hi h => ⟨xs, _, h, List.getElem?_eq_getElem hi⟩
  stops := fun H h => ⟨xs, h, rfl⟩
  yields := fun i H v H' hi h y => by
    obtain ⟨T, x, e1, e2, e3, e4⟩ := y
    exact ⟨T, _, x, e1, e2, e3, rfl, e4 xs h⟩
end Mus

set_option maxRecDepth 100000
set_option maxHeartbeats 4000000
namespace Mus
open PySem L2 TL PySem.NumText
local macro_rules | `(tactic| walk_at "rd") => `(tactic| first
  | refine ⟨_, rfl, ?_⟩ | refine ⟨(True.intro : True), ?_⟩
  | refine ⟨_, _, rfl, rfl, (⟨by decide, by decide, by decide⟩ : CPow _ _), ?_⟩
  | refine ⟨_, _, rfl, rfl, (⟨by decide, by decide⟩ : CDiv _ _), ?_⟩
  | refine ⟨_, _, rfl, rfl, (by show (0 : Int) < _; decide), ?_⟩
  | refine ⟨_, _, rfl, rfl, ?_⟩ | refine ⟨rfl, ?_⟩ | refine iteT ?_ | refine iteF ?_ | refine ⟨_, _, rfl, ?_⟩ | refine .inl ⟨_, rfl, ?_⟩
  | refine ⟨_, _, _, _, _, rfl, (by assumption), (by assumption), (by assumption), rfl, ?_⟩ | refine ⟨_, _, _, _, rfl, rfl, SqT.of (by assumption), rfl, ?_⟩ | refine ⟨_, _, rfl, SqT.of (by assumption), rfl, ?_⟩
  | refine ⟨_, _, _, _, _, rfl, .ty _, Rp.ty (by assumption), kit_int _, ?_⟩ | refine ⟨_, _, _, _, _, rfl, .ty _, Rp.ty (by assumption), kit_bool _, ?_⟩
  | refine ⟨_, _, _, _, _, rfl, .ty _, Rp.ty (by assumption), kit_str _, ?_⟩ | refine ⟨_, _, _, _, _, rfl, .ty _, Rp.ty (by assumption), kit_tup _, ?_⟩)
local macro_rules | `(tactic| walk_at "cal") => `(tactic| first
  | refine ⟨_, _, _, _, _, rfl, (by assumption), ?_⟩ | refine ⟨_, _, _, _, _, rfl, (by assumption), (by assumption), ?_⟩)
local macro_rules | `(tactic| walk_at "sq") => `(tactic| first
  | refine ⟨_, _, rfl, Or.inr (SqT.of (by assumption)), ?_⟩ | refine ⟨_, _, _, _, rfl, rfl, SqT.of (by assumption), rfl, ?_⟩)
local macro_rules | `(tactic| walk_at "rds") => `(tactic| repeat first | walk_at "rd" | walk_at "cal" | walk_at "sq")
local macro_rules | `(tactic| walk_at "ze") => `(tactic| repeat first
  | exact zes_nil | exact ze_bl | exact ze_str | exact ze_non | apply zes_cons | apply ze_tup | apply ze_lst | apply ze_cat | exact di_c | exact di_v rfl | apply di_opC | apply di_op | apply di_neg | apply ze_i | (refine (⟨?_, ?_, ?_⟩ : CPow _ _) <;> decide) | exact Nat.le_of_ble_eq_true rfl | exact ze_varD rfl (by assumption))
local macro_rules | `(tactic| walk_at "rdz") => `(tactic| repeat (fail_if_success (first | show tLst _ _ _ _ | show tAsg (tLst _) _ _ _ _ | show tSeq (tAsg (tLst _) _) _ _ _ _)); first | walk_at "rd" | walk_at "cal" | walk_at "sq")
theorem isCast_int {d : PyData} (h : isCast d = true) : ∃ k z, d = .tuple [.int k, .str z] ∧ 1 ≤ k ∧ k ≤ 1000000000000 ∧ z.length ≤ 30 := by
  unfold isCast at h
  split at h
  · rename_i x y
    rw [Bool.and_eq_true] at h
    obtain ⟨k, rfl, h1, h2⟩ := isInt_int h.1
    have h3 := h.2
    cases y <;> try (cases h3; done)
    rename_i z
    simp [isPay] at h3
    exact ⟨k, z, rfl, h1, h2, h3.1⟩
  · cases h
/-- all casts so far, one index behind the other -/
def PendTo (ds : List PyData) (i : Nat) : Prop := (∀ j m, j < i → ds[j]? = some m → isCast m = true) ∧ ∀ m, ds[0]? = some m → 0 < i → isPend (.tuple ds) = pendFrom (procOf m + (i : Nat)) (ds.drop i)
theorem pend_step {ds : List PyData} {i : Nat} {m0 m : PyData} (h : PendTo ds i) (h0 : ds[0]? = some m0) (hm : ds[i]? = some m) : isPend (.tuple ds) = if i = 0 then isCast m && pendFrom (procOf m + 1) (ds.drop 1) else isCast m && decide (procOf m = procOf m0 + (i : Nat)) && pendFrom (procOf m0 + (i : Nat) + 1) (ds.drop (i + 1)) := by
  by_cases hi : i = 0
  · subst hi
    rw [if_pos rfl]
    cases ds with
    | nil => cases h0
    | cons d ds => cases hm; rfl
  · rw [if_neg hi, h.2 _ h0 (by omega), drop_cons hm]; rfl
theorem shift_snd {ds : List PyData} {i : Nat} {m : PyData} (hm : ds[i]? = some m) {n : Int} : pendFrom n (ds.drop i) = (isCast m && decide (procOf m = n) && pendFrom (n + 1) (ds.drop (i + 1))) := by
  rw [drop_cons hm]; rfl
section
variable {P : Program} {w : World} {K : PySem.W.Frag} {mg : Str → Option Value} {base : Heap}
abbrev s_is_pending : Stmt := top 36
abbrev N_is_pending : List Str := ["value", "at", "pair"]
abbrev P_is_pending : List Str := ["value"]
theorem sc_is_pending : FnScope N_is_pending P_is_pending (defScope s_is_pending) := ⟨rfl, rfl, rfl, by decide +kernel, rfl, by decide +kernel, by decide +kernel⟩
theorem ok_is_pending {f : Addr} {fd : FuncData} (T : Tx mg) (c__is_pending_cast : DefOk P w K mg base CX0 "_is_pending_cast" P__is_pending_cast 4 (spH1 isCast))(F : Fun K "is_pending" "is_pending" s_is_pending f fd) : FnOk P w K mg base CX0 (5) f fd P_is_pending (spHS1 isPend) := by
  have nd := sc_is_pending.nd
  refine F.ok sc_is_pending (fun vs H Q E h => ?_) (fun cdv A outer s H vs Q E hr h => ?_)
  · obtain ⟨_, _, _, rfl, _⟩ := h
    rfl
  · obtain ⟨p, v, d, rfl, hd, hh, q⟩ := h
    have hs := sl
    refine ⟨_, (pss_cons (ps_if (pt_not (pt_val (pe_callB call_isi (by rfl) T.b_isinstance (by decide +kernel) (pa_cons (pv 0) (pa_cons (pe_ty "tuple" T.b_tuple) pa_nil)))))
        (pss_one (ps_ret pe_bl))
        pss_nil)
      (pss_cons (ps_for PassesOwn.never rfl (pi_enT (by rfl) T.b_enumerate (pa_cons (pv 0) pa_nil)) (pg_tup (by rfl) (pgs_cons (pg_name (i := 1) nd rfl (Or.inl rfl)) (pgs_cons (pg_name (i := 2) nd rfl (Or.inl rfl)) pgs_nil)))
        (pss_cons (ps_if (pt_not (pt_val (pcall c__is_pending_cast hr (pa_cons (pv 2) pa_nil))))
          (pss_one (ps_ret pe_bl))
          pss_nil)
        (pss_one (ps_if (PW.pt (pw_and (pt_cmpR op_gt (pv 1) pe_int (nomark _)) (pw_and1 (pt_cmpR op_ne (pe_ix ix_tup (pv 2) pe_int (fun _ _ => rfl)) (pe_op op_add (pe_ix ix_tup (pe_ix ix_tup (pv 0) (pe_op op_sub (pv 1) pe_int) (fun _ _ => rfl)) pe_int (fun _ _ => rfl)) pe_int) (nomark _)))))
          (pss_one (ps_ret pe_bl))
          pss_nil))))
      (pss_one (ps_ret pe_bl)))), ?_⟩
    have hd' := hd
    cases hd
    case tup a xs ds ha np hw hr1 =>
      have hl := hr1.length
      refine ⟨_, rfl, ?_⟩
      refine ⟨_, _, _, _, _, rfl, .ty _, Rp.ty (by assumption), kit_tup _, ?_⟩
      refine ⟨_, rfl, ?_⟩
      refine ⟨_, rfl, ?_⟩
      refine ⟨a, xs, rfl, SqT.of ha, for_it (walk_enT (K := K) (a := a) (xs := xs)) (fun i σ H' => Same H H' ∧ ∃ (x1 x2 : Option V) (n : Int), σ = [some (.ref a), x1, x2] ∧ isPend (.tuple ds) = (if i = 0 then isPend (.tuple ds) else pendFrom n (ds.drop i)) ∧ (∀ j m, j + 1 = i → ds[j]? = some m → isCast m = true ∧ n = procOf m + 1)) ?_ ?_ ?_ ?_⟩
      · exact ⟨Same.rfl' H, _, _, 0, rfl, rfl, fun j m e => by omega⟩
      · rintro i σ H' _ ⟨s1, _⟩
        exact SqT.of (s1 _ _ ha)
      · rintro i x σ H1 H2 hi ⟨s1, x1, x2, n, rfl, hp, hprev⟩ ⟨t, y0, y, rfl, nt, rfl, e0, ey⟩
        cases e0
        obtain ⟨m, hm, rm⟩ := hr1.at ey
        have st := same_new nt (.tup [.int (i : Nat), y])
        have s2 := s1.trans st
        have hmh := hh.mem m (List.mem_of_getElem? hm)
        refine ⟨t, _, rfl, SqT.of upd_same, rfl, ?_⟩
        refine ⟨_, _, rfl, ?_⟩
        refine ⟨_, _, rfl, rfl, ?_⟩
        refine ⟨_, rfl, ?_⟩
        refine ⟨p, y, m, rfl, rm.same s2, hmh, ?_⟩
        refine ⟨_, rfl, ?_⟩
        have hz : i = 0 → ds = m :: ds.drop 1 := fun e => by
          rw [e] at hm
          cases ds with
          | nil => cases hm
          | cons d ds => cases hm; rfl
        refine iB (fun h => ?_) (fun h => ?_)
        · have h' : isCast m = false := by simpa using h
          walk_at "rds"
          refine ansB (q _ s2) ?_
          by_cases e : i = 0
          · rw [hz e]; simp [isPend, h']
          · rw [hp, if_neg e, shift_snd hm, h']; rfl
        · have h' : isCast m = true := by simpa using h
          obtain ⟨k, z, rfl, k0, k1, lz⟩ := isCast_int h'
          have rm2 := rm.same s2
          obtain _ | _ | _ | _ | _ | @⟨b, ys, _, hb, nb, hwb, hrb⟩ := rm2
          obtain _ | ⟨hx1, _ | ⟨hx2, hn⟩⟩ := hrb
          cases hn
          cases hx1
          cases hx2
          refine ⟨_, rfl, ?_⟩
          refine ⟨_, _, rfl, rfl, ?_⟩
          refine ⟨_, rfl, ?_⟩
          refine iB (fun h2 => ?_) (fun h2 => ?_)
          · have i0 : 0 < i := by have := of_decide_eq_true h2; omega
            obtain ⟨j, rfl⟩ : ∃ j, i = j + 1 := ⟨i - 1, by omega⟩
            have hj : j < xs.length := by omega
            obtain ⟨m', hm', rm'⟩ := (hr1.same s2).at (List.getElem?_eq_getElem hj)
            obtain ⟨hc', en⟩ := hprev j m' rfl hm'
            obtain ⟨k', z', rfl, k0', k1', lz'⟩ := isCast_int hc'
            generalize ex : xs[j] = x' at rm'
            obtain _ | _ | _ | _ | _ | @⟨b', ys', _, hb', nb', hwb', hrb'⟩ := rm'
            obtain _ | ⟨hy1, _ | ⟨hy2, hn⟩⟩ := hrb'
            cases hn
            cases hy1
            cases hy2
            refine ⟨_, rfl, ?_⟩
            refine ⟨_, _, _, _, rfl, rfl, SqT.of (by assumption), rfl, ?_⟩
            refine ⟨_, rfl, ?_⟩
            refine ⟨_, rfl, ?_⟩
            refine ⟨_, _, rfl, rfl, ?_⟩
            refine ⟨a, _, _, _, rfl, rfl, SqT.of (s2 _ _ ha), at_int (by omega) (by rw [show (((j + 1 : Nat) : Int) - 1).toNat = j by omega, List.getElem?_eq_getElem hj, ex]), ?_⟩
            refine ⟨_, _, _, _, rfl, rfl, SqT.of (by assumption), rfl, ?_⟩
            refine ⟨_, _, rfl, rfl, ?_⟩
            refine ⟨rfl, ?_⟩
            refine ⟨_, rfl, ?_⟩
            have en : n = k' + 1 := en
            rw [if_neg (by omega), shift_snd hm, h', Bool.true_and] at hp
            have hp : isPend (.tuple ds) = (decide (k = n) && pendFrom (n + 1) (ds.drop (j + 1 + 1))) := hp
            refine iB (fun h3 => ?_) (fun h3 => ?_)
            · have h4 : ¬ k = n := fun e => by rw [en] at e; rw [e] at h3; simp at h3
              walk_at "rds"
              exact ansB (q _ s2) (by rw [hp, decide_eq_false h4, Bool.false_and])
            · have h4 : k = n := by rw [en]; simpa using h3
              rw [decide_eq_true h4, Bool.true_and] at hp
              exact ⟨s2, _, _, n + 1, rfl, by rw [if_neg (by omega)]; exact hp, fun j2 m2 e2 hm2 => by
                obtain rfl : j2 = j + 1 := by omega
                rw [hm] at hm2; cases hm2
                exact ⟨h', by rw [← h4]; rfl⟩⟩
          · have i0 : i = 0 := by have := of_decide_eq_false h2; omega
            subst i0
            have e1 := hz rfl
            refine iteF ?_
            refine ⟨s2, _, _, k + 1, rfl, ?_, fun j2 m2 e2 hm2 => ?_⟩
            · rw [if_neg (by omega), e1]
              show (isCast _ && pendFrom (k + 1) (ds.drop 1)) = pendFrom (k + 1) (ds.drop 1)
              rw [h', Bool.true_and]
            · obtain rfl : j2 = 0 := by omega
              rw [hm] at hm2; cases hm2
              exact ⟨h', rfl⟩
      · rintro σ H1 ⟨s1, x1, x2, n, rfl, hp, _⟩
        walk_at "rds"
        refine ansB (q _ s1) ?_
        rw [hl, List.drop_length] at hp
        rw [hp]
        split
        · rename_i e
          cases ds with
          | nil => rfl
          | cons _ _ => cases e
        · rfl
    all_goals
      walk_at "rds"
      exact q _ (Same.rfl' H)
end
end Mus

set_option maxRecDepth 100000
set_option maxHeartbeats 4000000
/-! < <= > >= of data of one shape; max of two such. -/
namespace PySem.W
open PySem PySem.Calls PyProof.Rows
theorem mus_max_two {prog : Program} {w : World} {A : Around} {E : Value → Shared → Prop} {s : Shared} {a b : Value} {da db : PyData} {as bs : List Addr} {Q : Value → Shared → Prop} (hh : A.handled = none) (ra : Reads s.heap a da as) (rb : Reads s.heap b db bs) (ha : AlikeAll [da, db])
    (hu : A.units + 1 + PyData.depthAll [da, db] < cLine) (h : ∀ h' tk, (∀ c o, s.heap.get? c = some o → h'.get? c = some o) → Q (if dataLt da db = true then b else a) { s with heap := h', toks := tk }) :
    wpAny (model prog w) A (call (.builtin "max") [a, b]) Q E s := by
  have hname : (toString "max" ++ toString ".loop" : String) = "max.loop" := by decide
  refine call_function_tree F.kind_max F.plain_max F.entry_max (F.args_max2 _ _) ?_
  show wpAny _ A.in1 (Builtin.Builtins.bindParams "max" ["key", "default"] 0 ⟨[], []⟩ >>= _) _ _ s
  refine wpAny_bind (wpAny_of_eq (show Builtin.Builtins.bindParams "max" ["key", "default"] 0 ⟨[], []⟩ = pure [none, none] from rfl) ?_)
  show wpAny _ A.in1 (newTuple [a, b] >>= _) _ _ s
  refine wpAny_bind (wpAny_newObj_type ?_)
  have hT : (s.heap.push { cls := .type "tuple", data := .seq #[a, b] }).IsTuple s.heap.objs.size #[a, b] := ⟨_, Heap.get?_push_size _ rfl, rfl, 0, rfl⟩
  have old : ∀ c o, s.heap.get? c = some o → (s.heap.push { cls := .type "tuple", data := .seq #[a, b] }).get? c = some o := fun c o e => Heap.get?_push_of_some _ e
  have hr : ReadsAll (s.heap.push { cls := .type "tuple", data := .seq #[a, b] }) (#[a, b] : Array Value).toList [da, db] (as ++ (bs ++ [])) := .cons (PyProof.Rows.Reads.keeps old ra) (.cons (PyProof.Rows.Reads.keeps old rb) .nil)
  refine wpAny_bind (iter_tupleW (A := A.in1) (s := { s with heap := s.heap.push { cls := .type "tuple", data := .seq #[a, b] } }) hh hT fun s₂ e W st hfp hw hk => ?_)
  refine wpAny_bind (wpAny_newObj_type ?_)
  have hSf : s₂.heap.objs.size ∉ _ := fun hm => Nat.lt_irrefl _ (hfp _ hm)
  rw [hname]
  refine wpAny_pure ⟨plainId_quiet F.plain_max_loop _, codeAny_max_loop_firstH W (s.heap.push { cls := .type "tuple", data := .seq #[a, b] }) hw _ (cmpIn_gt (prog := prog) (w := w) (A := A.in1) (s := { s with heap := s.heap.push { cls := .type "tuple", data := .seq #[a, b] } }) hr ha hu) s₂.heap.objs.size hSf (fresh_in hk) _ (by show 0 < 2; omega) (fun b o e => Heap.get?_push_of_some _ (hk b o e)) (W.frame 0 s₂ _ s₂.toks st (Nat.le_refl _) fun b _ o e => Heap.get?_push_of_some _ e) (Heap.get?_push_size _ rfl) fun v s' hP hm => ?_⟩
  obtain ⟨h', tk, rfl, hk'⟩ := moved_old e rfl (Moved.drop_new (tk := s₂.toks) hm (Nat.le_refl _))
  have q := h h' tk fun c o ec => hk' c o (old c o ec)
  have e2 : v = if dataLt da db = true then b else a := by
    have hP : (#[a, b] : Array Value)[if dataLt da db = true then 1 else 0]? = some v := hP
    by_cases x : dataLt da db = true
    · rw [if_pos x] at hP ⊢; cases hP; rfl
    · rw [if_neg x] at hP ⊢; cases hP; rfl
  rw [e2]
  exact q
end PySem.W
namespace Mus
open PySem PySem.Spec PyProof.Rows L2
def rCmpD (K : PySem.W.Frag) (f : PyData → PyData → Bool) : R2 := fun x y H Q => ∃ d e, Dp K H x d ∧ Dp K H y e ∧ PySem.W.alike d e = true ∧ d ≠ .none ∧ d.depth ≤ 20 ∧ Q (.bl (f d e)) H
section
variable {X : Cx}
theorem op_ltD (hu : X.A.units + 64 < cLine) : OpR X (compareOp .Lt) (rCmpD X.K PySem.W.dataLt) := by
  intro pins s σ H x y v u Q I rx ry h
  obtain ⟨d, e, hd, he, hal, hn, dp, q⟩ := h
  obtain ⟨as, r1⟩ := Dp.reads I d x v hd rx
  obtain ⟨bs, r2⟩ := Dp.reads I e y u he ry
  exact PySem.W.lt_data r1 r2 hal hn (by omega) ⟨.bl _, H, I, rfl, q⟩
theorem op_gtD (hu : X.A.units + 64 < cLine) : OpR X (compareOp .Gt) (rCmpD X.K fun d e => PySem.W.dataLt e d) := by
  intro pins s σ H x y v u Q I rx ry h
  obtain ⟨d, e, hd, he, hal, hn, dp, q⟩ := h
  obtain ⟨as, r1⟩ := Dp.reads I d x v hd rx
  obtain ⟨bs, r2⟩ := Dp.reads I e y u he ry
  exact PySem.W.gt_data r1 r2 hal hn (by omega) ⟨.bl _, H, I, rfl, q⟩
theorem op_leD (hu : X.A.units + 64 < cLine) : OpR X (compareOp .LtE) (rCmpD X.K fun d e => !PySem.W.dataLt e d) := by
  intro pins s σ H x y v u Q I rx ry h
  obtain ⟨d, e, hd, he, hal, hn, dp, q⟩ := h
  obtain ⟨as, r1⟩ := Dp.reads I d x v hd rx
  obtain ⟨bs, r2⟩ := Dp.reads I e y u he ry
  exact PySem.W.le_data r1 r2 hal hn (by omega) ⟨.bl _, H, I, rfl, q⟩
theorem op_geD (hu : X.A.units + 64 < cLine) : OpR X (compareOp .GtE) (rCmpD X.K fun d e => !PySem.W.dataLt d e) := by
  intro pins s σ H x y v u Q I rx ry h
  obtain ⟨d, e, hd, he, hal, hn, dp, q⟩ := h
  obtain ⟨as, r1⟩ := Dp.reads I d x v hd rx
  obtain ⟨bs, r2⟩ := Dp.reads I e y u he ry
  exact PySem.W.ge_data r1 r2 hal hn (by omega) ⟨.bl _, H, I, rfl, q⟩
theorem call_maxD (hc : X.calm = true) (hu : X.A.units + 64 < cLine) : CallR X (.builtin "max") (fun xs H Q => ∃ x y d e, xs = [x, y] ∧ Dp X.K H x d ∧ Dp X.K H y e ∧ PySem.W.AlikeAll [d, e] ∧ d.depth ≤ 20 ∧ e.depth ≤ 20 ∧ Q (if PySem.W.dataLt d e = true then y else x) H) := by
  intro pins s σ H xs us Q I r h
  obtain ⟨x, y, d, e, rfl, hd, he, ha, d1, d2, q⟩ := h
  obtain ⟨u, w', rfl, r1, r2⟩ := vals2 r
  obtain ⟨as, ra⟩ := Dp.reads I d x u hd r1
  obtain ⟨bs, rb⟩ := Dp.reads I e y w' he r2
  refine PySem.W.mus_max_two (I.ok.hd hc) ra rb ha (by simp [PyData.depthAll]; omega) fun h' tk k => ⟨_, H, I.kept k, ?_, q⟩
  by_cases z : PySem.W.dataLt d e = true
  · rw [if_pos z, if_pos z]; exact r2
  · rw [if_neg z, if_neg z]; exact r1
end
end Mus

set_option maxRecDepth 100000
set_option maxHeartbeats 4000000
namespace Mus
open PySem L2 TL PySem.NumText
local macro_rules | `(tactic| walk_at "rd") => `(tactic| first
  | refine ⟨_, rfl, ?_⟩ | refine ⟨(True.intro : True), ?_⟩
  | refine ⟨_, _, rfl, rfl, (⟨by decide, by decide, by decide⟩ : CPow _ _), ?_⟩
  | refine ⟨_, _, rfl, rfl, (⟨by decide, by decide⟩ : CDiv _ _), ?_⟩
  | refine ⟨_, _, rfl, rfl, (by show (0 : Int) < _; decide), ?_⟩
  | refine ⟨_, _, rfl, rfl, ?_⟩ | refine ⟨rfl, ?_⟩ | refine iteT ?_ | refine iteF ?_ | refine ⟨_, _, rfl, ?_⟩ | refine .inl ⟨_, rfl, ?_⟩
  | refine ⟨_, _, _, _, _, rfl, (by assumption), (by assumption), (by assumption), rfl, ?_⟩ | refine ⟨_, _, _, _, rfl, rfl, SqT.of (by assumption), rfl, ?_⟩ | refine ⟨_, _, rfl, SqT.of (by assumption), rfl, ?_⟩
  | refine ⟨_, _, _, _, _, rfl, .ty _, Rp.ty (by assumption), kit_int _, ?_⟩ | refine ⟨_, _, _, _, _, rfl, .ty _, Rp.ty (by assumption), kit_bool _, ?_⟩
  | refine ⟨_, _, _, _, _, rfl, .ty _, Rp.ty (by assumption), kit_str _, ?_⟩ | refine ⟨_, _, _, _, _, rfl, .ty _, Rp.ty (by assumption), kit_tup _, ?_⟩)
local macro_rules | `(tactic| walk_at "cal") => `(tactic| first
  | refine ⟨_, _, _, _, _, rfl, (by assumption), ?_⟩ | refine ⟨_, _, _, _, _, rfl, (by assumption), (by assumption), ?_⟩)
local macro_rules | `(tactic| walk_at "sq") => `(tactic| first
  | refine ⟨_, _, rfl, Or.inr (SqT.of (by assumption)), ?_⟩ | refine ⟨_, _, _, _, rfl, rfl, SqT.of (by assumption), rfl, ?_⟩)
local macro_rules | `(tactic| walk_at "rds") => `(tactic| repeat first | walk_at "rd" | walk_at "cal" | walk_at "sq")
local macro_rules | `(tactic| walk_at "ze") => `(tactic| repeat first
  | exact zes_nil | exact ze_bl | exact ze_str | exact ze_non | apply zes_cons | apply ze_tup | apply ze_lst | apply ze_cat | exact di_c | exact di_v rfl | apply di_opC | apply di_op | apply di_neg | apply ze_i | (refine (⟨?_, ?_, ?_⟩ : CPow _ _) <;> decide) | exact Nat.le_of_ble_eq_true rfl | exact ze_varD rfl (by assumption))
local macro_rules | `(tactic| walk_at "rdz") => `(tactic| repeat (fail_if_success (first | show tLst _ _ _ _ | show tAsg (tLst _) _ _ _ _ | show tSeq (tAsg (tLst _) _) _ _ _ _)); first | walk_at "rd" | walk_at "cal" | walk_at "sq")
/-! ### letters -/
/-- what is told of a letter before its rest is looked at -/
def Hd (c : PyData) (ds : List PyData) : Prop := ∃ k m i r, ds = k :: m :: i :: r ∧ isMem c m = true ∧ isVid c i = true
def isFin (c : PyData) : PyData → Bool
  | .tuple [i, l] => isVid c i && isLog c l
  | _ => false
def idOf : PyData → PyData
  | .tuple (i :: _) => i
  | _ => .none
def finsFrom (c : PyData) : Option PyData → List PyData → Bool
  | _, [] => true
  | o, m :: ms => isFin c m && (match o with | none => true | some i => !(!PySem.W.dataLt i (idOf m))) && finsFrom c (some (idOf m)) ms
def isFins (c : PyData) : PyData → Bool
  | .tuple ds => finsFrom c none ds
  | _ => false
def isPlc (d : PyData) : Bool := isInt d 1 1000000000000
def rHere (c : PyData) : List PyData → Bool
  | [_, _, i, n, pr] => isInt n 0 1000000000000 && isVid c pr && !PySem.W.dataLt pr i
  | _ => false
def rCast : List PyData → Bool
  | [_, _, _, n, z] => isPlc n && isPay z
  | _ => false
def rOrder (c : PyData) : List PyData → Bool
  | [_, _, _, n, m] => isPlc n && isMsg c m
  | _ => false
def rPropose (c : PyData) : List PyData → Bool
  | [_, _, _, ms] => isMems c ms
  | _ => false
def itemsD : PyData → List PyData
  | .tuple ds => ds
  | _ => []
def firstIs (n : Int) : List PyData → Bool
  | [] => true
  | x :: _ => decide (procOf x = n)
def rState (c : PyData) : List PyData → Bool
  | [_, m, _, i, l, p] => isVid c i && isLog c l && isPend p && firstIs (cnt (itemsD l) (procOf m, idxK m) + 1) (itemsD p)
  | _ => false
def rInstall (c : PyData) : List PyData → Bool
  | [_, _, _, ms, fs] => isMems c ms && isFins c fs
  | _ => false
def rHigher (c : PyData) : List PyData → Bool
  | [_, _, _, i] => isVid c i
  | _ => false
def spRest (f : PyData → List PyData → Bool) : Sp := fun vs H Q _ => ∃ (p : Addr) (u v : V) (c : PyData) (ds : List PyData), vs = [u, v] ∧ Rp p H u c ∧ Rp p H v (.tuple ds) ∧ Her Ok (.tuple ds) ∧ Hd c ds ∧ ∀ H', Same H H' → Q (.bl (f c ds)) H'
theorem isVid_ids {c d : PyData} (h : isVid c d = true) : ∃ n i l, d = .tuple [.int n, .tuple [.int i, .int l]] ∧ 0 ≤ n := by
  unfold isVid at h
  split at h
  · rename_i x y
    rw [Bool.and_eq_true] at h
    obtain ⟨n, rfl, h1, _⟩ := isInt_int h.1
    obtain ⟨_, i, l, _, rfl, _⟩ := isMem_int h.2
    exact ⟨n, i, l, rfl, h1⟩
  · cases h
theorem ids_alike (n i l n' i' l' : Int) : PySem.W.alike (.tuple [.int n, .tuple [.int i, .int l]]) (.tuple [.int n', .tuple [.int i', .int l']]) = true := rfl
theorem ids_depth (n i l : Int) : (PyData.tuple [.int n, .tuple [.int i, .int l]]).depth ≤ 20 := by simp [PyData.depth, PyData.depthAll]
theorem isVid_no {c d : PyData} (h : (∃ ds, d = .tuple ds ∧ ds.length ≠ 2) ∨ dTup d = false) : isVid c d = false := by
  unfold isVid
  split
  · simp [dTup] at h
  · rfl
section
variable {P : Program} {w : World} {K : PySem.W.Frag} {mg : Str → Option Value} {base : Heap}
abbrev s_is_view_id : Stmt := top 30
abbrev N_is_view_id : List Str := ["count", "value"]
abbrev P_is_view_id : List Str := ["count", "value"]
theorem sc_is_view_id : FnScope N_is_view_id P_is_view_id (defScope s_is_view_id) := ⟨rfl, rfl, rfl, by decide +kernel, rfl, by decide +kernel, by decide +kernel⟩
theorem ok_is_view_id {f : Addr} {fd : FuncData} (T : Tx mg) (c_is_integer : DefOk P w K mg base CX0 "is_integer" P_is_integer 1 (spI)) (c_is_member : DefOk P w K mg base CX0 "is_member" P_is_member 3 (spB2 isMem))(F : Fun K "is_view_id" "is_view_id" s_is_view_id f fd) : FnOk P w K mg base CX0 (4) f fd P_is_view_id (spB2 isVid) := by
  have nd := sc_is_view_id.nd
  refine F.ok sc_is_view_id (fun vs H Q E h => ?_) (fun cdv A outer s H vs Q E hr h => ?_)
  · obtain ⟨_, _, _, _, _, rfl, _⟩ := h
    rfl
  · obtain ⟨p, u, v, c, d, rfl, hc, hd, q⟩ := h
    refine ⟨_, (pss_cons (ps_if (PW.pt (pw_or (pt_not (pt_val (pe_callB call_isi (by rfl) T.b_isinstance (by decide +kernel) (pa_cons (pv 1) (pa_cons (pe_ty "tuple" T.b_tuple) pa_nil))))) (pw_or1 (pt_cmpR op_ne (pe_callB call_len_seq (by rfl) T.b_len (by decide +kernel) (pa_cons (pv 1) pa_nil)) pe_int (nomark _)))))
        (pss_one (ps_ret pe_bl))
        pss_nil)
      (pss_one (ps_ret (pe_and (pcall c_is_integer hr (pa_cons (pe_ix ix_tup (pv 1) pe_int (fun _ _ => rfl)) (pa_cons pe_int (pa_cons (pe_const T.c_MOST_NUMBER) pa_nil)))) (pe_one (pcall c_is_member hr (pa_cons (pv 0) (pa_cons (pe_ix ix_tup (pv 1) pe_int (fun _ _ => rfl)) pa_nil)))))))), ?_⟩
    have hd' := hd
    rcases pairs d with ⟨x, y, rfl⟩ | hno
    · obtain _ | _ | _ | _ | _ | @⟨a, xs, _, ha, np, hw, hr⟩ := hd
      obtain _ | ⟨hx, _ | ⟨hy, _⟩⟩ := hr
      cases ‹Rps p H _ []›
      refine ⟨_, rfl, ?_⟩
      refine ⟨_, _, _, _, _, rfl, .ty _, Rp.ty (by assumption), kit_tup _, ?_⟩
      refine ⟨_, rfl, ?_⟩
      refine ⟨_, rfl, ?_⟩
      refine ⟨_, _, rfl, Or.inr (SqT.of (by assumption)), ?_⟩
      refine ⟨rfl, ?_⟩
      refine ⟨_, rfl, ?_⟩
      refine ⟨_, rfl, ?_⟩
      refine ⟨_, _, _, _, rfl, rfl, SqT.of (by assumption), rfl, ?_⟩
      refine ⟨_, _, _, _, _, rfl, (by assumption), ?_⟩
      refine ⟨_, rfl, ?_⟩
      refine iB (fun h => ?_) (fun h => ?_)
      · walk_at "rds"
        exact ansB q (by simp [isVid, h])
      · exact ansB q (by simp [isVid, h])
    · have e := isVid_no (c := c) hno
      rw [e] at q
      rcases hno with ⟨ds, rfl, hl⟩ | hno
      · obtain _ | _ | _ | _ | _ | @⟨a, xs, _, ha, np, hw, hr⟩ := hd
        have hl2 := hr.length
        refine ⟨_, rfl, ?_⟩
        refine ⟨_, _, _, _, _, rfl, .ty _, Rp.ty (by assumption), kit_tup _, ?_⟩
        refine ⟨_, rfl, ?_⟩
        refine ⟨_, rfl, ?_⟩
        refine ⟨_, _, rfl, Or.inr (SqT.of (by assumption)), ?_⟩
        refine ⟨rfl, ?_⟩
        refine ⟨_, rfl, ?_⟩
        refine nT (vint_ne (by omega)) ?_
        walk_at "rds"
        exact q
      · cases hd <;> simp [dTup] at hno <;> walk_at "rds" <;> exact q
theorem isMems_no {c d : PyData} (h : dTup d = false) : isMems c d = false := by cases d <;> first | rfl | cases h
abbrev s_is_members : Stmt := top 29
abbrev N_is_members : List Str := ["count", "value", "last_process", "member"]
abbrev P_is_members : List Str := ["count", "value"]
theorem sc_is_members : FnScope N_is_members P_is_members (defScope s_is_members) := ⟨rfl, rfl, rfl, by decide +kernel, rfl, by decide +kernel, by decide +kernel⟩
theorem ok_is_members {f : Addr} {fd : FuncData} (T : Tx mg) (c_is_member : DefOk P w K mg base CX0 "is_member" P_is_member 3 (spB2 isMem))(F : Fun K "is_members" "is_members" s_is_members f fd) : FnOk P w K mg base CX0 (4) f fd P_is_members (spB2 isMems) := by
  have nd := sc_is_members.nd
  refine F.ok sc_is_members (fun vs H Q E h => ?_) (fun cdv A outer s H vs Q E hr h => ?_)
  · obtain ⟨_, _, _, _, _, rfl, _⟩ := h
    rfl
  · obtain ⟨p, u, v, c, d, rfl, hc, hd, q⟩ := h
    refine ⟨_, (pss_cons (ps_if (PW.pt (pw_or (pt_not (pt_val (pe_callB call_isi (by rfl) T.b_isinstance (by decide +kernel) (pa_cons (pv 1) (pa_cons (pe_ty "tuple" T.b_tuple) pa_nil))))) (pw_or1 (pt_cmpR op_eq (pe_callB call_len_seq (by rfl) T.b_len (by decide +kernel) (pa_cons (pv 1) pa_nil)) pe_int (nomark _)))))
        (pss_one (ps_ret pe_bl))
        pss_nil)
      (pss_cons (ps_set (i := 2) nd rfl (Or.inl rfl) (pe_un un_neg pe_int))
      (pss_cons (ps_for PassesOwn.never rfl (pi_tup (pv 1)) (pg_name (i := 3) nd rfl (Or.inl rfl))
        (pss_cons (ps_if (PW.pt (pw_or (pt_not (pt_val (pcall c_is_member hr (pa_cons (pv 0) (pa_cons (pv 3) pa_nil))))) (pw_or1 (pt_cmpR op_le (pe_ix ix_tup (pv 3) pe_int (fun _ _ => rfl)) (pv 2) (nomark _)))))
          (pss_one (ps_ret pe_bl))
          pss_nil)
        (pss_one (ps_set (i := 2) nd rfl (Or.inl rfl) (pe_ix ix_tup (pv 3) pe_int (fun _ _ => rfl))))))
      (pss_one (ps_ret pe_bl))))), ?_⟩
    have hd' := hd
    cases hd
    case tup a xs ds ha np hw hr =>
      cases hr with
      | nil =>
        refine ⟨_, rfl, ?_⟩
        refine ⟨_, _, _, _, _, rfl, .ty _, Rp.ty (by assumption), kit_tup _, ?_⟩
        refine ⟨_, rfl, ?_⟩
        refine ⟨_, rfl, ?_⟩
        refine ⟨_, _, rfl, Or.inr (SqT.of (by assumption)), ?_⟩
        refine ⟨rfl, ?_⟩
        refine ⟨_, rfl, ?_⟩
        refine iteT ?_
        exact q
      | @cons v vs d ds h1 h2 =>
        have hr : Rps p H (v :: vs) (d :: ds) := .cons h1 h2
        refine ⟨_, rfl, ?_⟩
        refine ⟨_, _, _, _, _, rfl, .ty _, Rp.ty (by assumption), kit_tup _, ?_⟩
        refine ⟨_, rfl, ?_⟩
        refine ⟨_, rfl, ?_⟩
        refine ⟨_, _, rfl, Or.inr (SqT.of (by assumption)), ?_⟩
        refine ⟨rfl, ?_⟩
        refine ⟨_, rfl, ?_⟩
        refine ⟨_, rfl, ?_⟩
        refine ⟨_, rfl, ?_⟩
        refine ⟨_, rfl, ?_⟩
        refine ⟨⟨_, SqT.of ha⟩, for_tup (K := K) (a := a) (xs := v :: vs) (fun i σ H' => H' = H ∧ ∃ (l : Int) (x : Option V), σ = [some u, some (.ref a), some (.int l), x] ∧ memsFrom c (-1) (d :: ds) = memsFrom c l ((d :: ds).drop i)) ⟨rfl, -1, none, rfl, rfl⟩ ?_ ?_ ?_⟩
        · rintro i σ H' _ ⟨rfl, _⟩
          exact SqT.of ha
        · rintro i x σ H' hx ⟨rfl, l, y, rfl, hm⟩
          obtain ⟨e, he, re⟩ := hr.at hx
          rw [drop_cons he] at hm
          refine ⟨_, rfl, ?_⟩
          refine ⟨_, rfl, ?_⟩
          refine ⟨_, _, _, _, _, rfl, (by assumption), (by assumption), ?_⟩
          refine ⟨_, rfl, ?_⟩
          refine iB (fun h => ?_) (fun h => ?_)
          · have h' : isMem c e = false := by simpa using h
            exact ansB q (hm.trans (by simp [memsFrom, h']))
          · have h' : isMem c e = true := by simpa using h
            obtain ⟨n, i0, l0, rfl, rfl, _⟩ := isMem_int h'
            have re' := re
            obtain _ | _ | _ | _ | _ | @⟨a2, xs2, _, ha2, np2, hw2, hr2⟩ := re
            obtain _ | ⟨hx2, _ | ⟨hy2, hz2⟩⟩ := hr2
            cases hz2
            cases hx2
            refine ⟨_, rfl, ?_⟩
            refine ⟨_, _, _, _, rfl, rfl, SqT.of (by assumption), rfl, ?_⟩
            refine ⟨_, rfl, ?_⟩
            refine ⟨_, _, rfl, rfl, ?_⟩
            refine ⟨_, rfl, ?_⟩
            refine iB (fun h2 => ?_) (fun h2 => ?_)
            · have h3 : i0 ≤ l := by simpa using h2
              exact ansB q (hm.trans (by show (isMem _ _ && decide (l < i0) && _) = false; rw [decide_eq_false (show ¬ l < i0 by omega), Bool.and_false, Bool.false_and]))
            · have h3 : l < i0 := by simpa using h2
              refine ⟨_, rfl, ?_⟩
              refine ⟨_, _, _, _, rfl, rfl, SqT.of (by assumption), rfl, ?_⟩
              refine ⟨rfl, ?_⟩
              refine ⟨_, _, rfl, ?_⟩
              exact hm.trans (by simp [memsFrom, procOf, h', h3])
        · rintro σ H' ⟨rfl, l, y, rfl, hm⟩
          have hl := hr.length
          rw [hl, List.drop_length] at hm
          exact ansB q hm
    all_goals
      walk_at "rds"
      exact q
abbrev s__is_place : Stmt := top 45
abbrev N__is_place : List Str := ["value"]
abbrev P__is_place : List Str := ["value"]
theorem sc__is_place : FnScope N__is_place P__is_place (defScope s__is_place) := ⟨rfl, rfl, rfl, by decide +kernel, rfl, by decide +kernel, by decide +kernel⟩
theorem ok__is_place {f : Addr} {fd : FuncData} (T : Tx mg) (c_is_integer : DefOk P w K mg base CX0 "is_integer" P_is_integer 1 (spI))(F : Fun K "_is_place" "_is_place" s__is_place f fd) : FnOk P w K mg base CX0 (2) f fd P__is_place (spB1 isPlc) := by
  have nd := sc__is_place.nd
  refine F.ok sc__is_place (fun vs H Q E h => ?_) (fun cdv A outer s H vs Q E hr h => ?_)
  · obtain ⟨_, _, _, rfl, _⟩ := h
    rfl
  · obtain ⟨p, v, d, rfl, hd, q⟩ := h
    refine ⟨_, (pss_one (ps_ret (pcall c_is_integer hr (pa_cons (pv 0) (pa_cons pe_int (pa_cons (pe_const T.c_MOST_NUMBER) pa_nil)))))), ?_⟩
    refine ⟨_, rfl, ?_⟩
    refine ⟨_, _, _, _, _, rfl, (by assumption), ?_⟩
    exact q
abbrev s__is_cast : Stmt := top 39
abbrev N__is_cast : List Str := ["_", "letter"]
abbrev P__is_cast : List Str := ["_", "letter"]
theorem sc__is_cast : FnScope N__is_cast P__is_cast (defScope s__is_cast) := ⟨rfl, rfl, rfl, by decide +kernel, rfl, by decide +kernel, by decide +kernel⟩
theorem ok__is_cast {f : Addr} {fd : FuncData} (T : Tx mg) (c__is_place : DefOk P w K mg base CX0 "_is_place" P__is_place 2 (spB1 isPlc)) (c_is_payload : DefOk P w K mg base CX0 "is_payload" P_is_payload 3 (spH1 isPay))(F : Fun K "_is_cast" "_is_cast" s__is_cast f fd) : FnOk P w K mg base CX0 (8) f fd P__is_cast (spRest fun _ => rCast) := by
  have nd := sc__is_cast.nd
  refine F.ok sc__is_cast (fun vs H Q E h => ?_) (fun cdv A outer s H vs Q E hr h => ?_)
  · obtain ⟨_, _, _, _, _, rfl, _⟩ := h
    rfl
  · obtain ⟨p, u, v, c, ds, rfl, hc, hd, hh, ⟨k, m, i, r, rfl, hm, hi⟩, q⟩ := h
    refine ⟨_, (pss_one (ps_ret (pe_and (pe_cmpR op_eq (pe_callB call_len_seq (by rfl) T.b_len (by decide +kernel) (pa_cons (pv 1) pa_nil)) pe_int (nomark _)) (pe_and (pcall c__is_place hr (pa_cons (pe_ix ix_tup (pv 1) pe_int (fun _ _ => rfl)) pa_nil)) (pe_one (pcall c_is_payload hr (pa_cons (pe_ix ix_tup (pv 1) pe_int (fun _ _ => rfl)) pa_nil))))))), ?_⟩
    obtain _ | _ | _ | _ | _ | @⟨a, xs, _, ha, np, hw, hr⟩ := hd
    have hl := hr.length
    have dt : decide (V.int xs.length = V.int 5) = decide (r.length = 2) := by
      rw [hl]; exact decide_eq_decide.mpr ⟨fun h => by have := V.int.inj h; simp at this; omega, fun h => by simp [h]⟩
    refine ⟨_, rfl, ?_⟩
    refine ⟨_, _, rfl, Or.inr (SqT.of (by assumption)), ?_⟩
    refine ⟨rfl, ?_⟩
    refine ⟨_, rfl, ?_⟩
    rw [dt]
    refine iB (fun h => ?_) (fun h => ?_)
    · have h := of_decide_eq_true h
      obtain ⟨x, y, rfl⟩ : ∃ x y, r = [x, y] := by
        match r, h with
        | [x, y], _ => exact ⟨x, y, rfl⟩
      obtain _ | ⟨h1, _ | ⟨h2, _ | ⟨h3, _ | ⟨h4, _ | ⟨h5, hn⟩⟩⟩⟩⟩ := hr
      cases hn
      refine ⟨_, rfl, ?_⟩
      refine ⟨_, _, _, _, rfl, rfl, SqT.of (by assumption), rfl, ?_⟩
      refine ⟨p, _, x, rfl, h4, ?_⟩
      refine ⟨_, rfl, ?_⟩
      refine iB (fun h6 => ?_) (fun h6 => ?_)
      · walk_at "rds"
        exact ⟨p, _, y, rfl, h5, (hh.mem _ (by simp)), ansB (q H (Same.rfl' H)) (by simp only [rCast]; rw [h6, Bool.true_and])⟩
      · exact ansB (q H (Same.rfl' H)) (by simp only [rCast]; rw [h6, Bool.false_and])
    · have h := of_decide_eq_false h
      exact ansB (q H (Same.rfl' H)) (by match r, h with | [], _ => rfl | [_], _ => rfl | _ :: _ :: _ :: _, _ => rfl)
abbrev s__is_order : Stmt := top 40
abbrev N__is_order : List Str := ["count", "letter"]
abbrev P__is_order : List Str := ["count", "letter"]
theorem sc__is_order : FnScope N__is_order P__is_order (defScope s__is_order) := ⟨rfl, rfl, rfl, by decide +kernel, rfl, by decide +kernel, by decide +kernel⟩
theorem ok__is_order {f : Addr} {fd : FuncData} (T : Tx mg) (c__is_place : DefOk P w K mg base CX0 "_is_place" P__is_place 2 (spB1 isPlc)) (c_is_message : DefOk P w K mg base CX0 "is_message" P_is_message 4 (spH2 isMsg))(F : Fun K "_is_order" "_is_order" s__is_order f fd) : FnOk P w K mg base CX0 (8) f fd P__is_order (spRest rOrder) := by
  have nd := sc__is_order.nd
  refine F.ok sc__is_order (fun vs H Q E h => ?_) (fun cdv A outer s H vs Q E hr h => ?_)
  · obtain ⟨_, _, _, _, _, rfl, _⟩ := h
    rfl
  · obtain ⟨p, u, v, c, ds, rfl, hc, hd, hh, ⟨k, m, i, r, rfl, hm, hi⟩, q⟩ := h
    refine ⟨_, (pss_one (ps_ret (pe_and (pe_cmpR op_eq (pe_callB call_len_seq (by rfl) T.b_len (by decide +kernel) (pa_cons (pv 1) pa_nil)) pe_int (nomark _)) (pe_and (pcall c__is_place hr (pa_cons (pe_ix ix_tup (pv 1) pe_int (fun _ _ => rfl)) pa_nil)) (pe_one (pcall c_is_message hr (pa_cons (pv 0) (pa_cons (pe_ix ix_tup (pv 1) pe_int (fun _ _ => rfl)) pa_nil)))))))), ?_⟩
    obtain _ | _ | _ | _ | _ | @⟨a, xs, _, ha, np, hw, hr⟩ := hd
    have hl := hr.length
    have dt : decide (V.int xs.length = V.int 5) = decide (r.length = 2) := by
      rw [hl]; exact decide_eq_decide.mpr ⟨fun h => by have := V.int.inj h; simp at this; omega, fun h => by simp [h]⟩
    refine ⟨_, rfl, ?_⟩
    refine ⟨_, _, rfl, Or.inr (SqT.of (by assumption)), ?_⟩
    refine ⟨rfl, ?_⟩
    refine ⟨_, rfl, ?_⟩
    rw [dt]
    refine iB (fun h => ?_) (fun h => ?_)
    · have h := of_decide_eq_true h
      obtain ⟨x, y, rfl⟩ : ∃ x y, r = [x, y] := by
        match r, h with
        | [x, y], _ => exact ⟨x, y, rfl⟩
      obtain _ | ⟨h1, _ | ⟨h2, _ | ⟨h3, _ | ⟨h4, _ | ⟨h5, hn⟩⟩⟩⟩⟩ := hr
      cases hn
      refine ⟨_, rfl, ?_⟩
      refine ⟨_, _, _, _, rfl, rfl, SqT.of (by assumption), rfl, ?_⟩
      refine ⟨p, _, x, rfl, h4, ?_⟩
      refine ⟨_, rfl, ?_⟩
      refine iB (fun h6 => ?_) (fun h6 => ?_)
      · walk_at "rds"
        exact ⟨hh.mem _ (by simp), ansB (q H (Same.rfl' H)) (by simp only [rOrder]; rw [h6, Bool.true_and])⟩
      · exact ansB (q H (Same.rfl' H)) (by simp only [rOrder]; rw [h6, Bool.false_and])
    · have h := of_decide_eq_false h
      exact ansB (q H (Same.rfl' H)) (by match r, h with | [], _ => rfl | [_], _ => rfl | _ :: _ :: _ :: _, _ => rfl)
abbrev s__is_propose : Stmt := top 41
abbrev N__is_propose : List Str := ["count", "letter"]
abbrev P__is_propose : List Str := ["count", "letter"]
theorem sc__is_propose : FnScope N__is_propose P__is_propose (defScope s__is_propose) := ⟨rfl, rfl, rfl, by decide +kernel, rfl, by decide +kernel, by decide +kernel⟩
theorem ok__is_propose {f : Addr} {fd : FuncData} (T : Tx mg) (c_is_members : DefOk P w K mg base CX0 "is_members" P_is_members 4 (spB2 isMems))(F : Fun K "_is_propose" "_is_propose" s__is_propose f fd) : FnOk P w K mg base CX0 (8) f fd P__is_propose (spRest rPropose) := by
  have nd := sc__is_propose.nd
  refine F.ok sc__is_propose (fun vs H Q E h => ?_) (fun cdv A outer s H vs Q E hr h => ?_)
  · obtain ⟨_, _, _, _, _, rfl, _⟩ := h
    rfl
  · obtain ⟨p, u, v, c, ds, rfl, hc, hd, hh, ⟨k, m, i, r, rfl, hm, hi⟩, q⟩ := h
    refine ⟨_, (pss_one (ps_ret (pe_and (pe_cmpR op_eq (pe_callB call_len_seq (by rfl) T.b_len (by decide +kernel) (pa_cons (pv 1) pa_nil)) pe_int (nomark _)) (pe_one (pcall c_is_members hr (pa_cons (pv 0) (pa_cons (pe_ix ix_tup (pv 1) pe_int (fun _ _ => rfl)) pa_nil))))))), ?_⟩
    obtain _ | _ | _ | _ | _ | @⟨a, xs, _, ha, np, hw, hr⟩ := hd
    have hl := hr.length
    have dt : decide (V.int xs.length = V.int 4) = decide (r.length = 1) := by
      rw [hl]; exact decide_eq_decide.mpr ⟨fun h => by have := V.int.inj h; simp at this; omega, fun h => by simp [h]⟩
    refine ⟨_, rfl, ?_⟩
    refine ⟨_, _, rfl, Or.inr (SqT.of (by assumption)), ?_⟩
    refine ⟨rfl, ?_⟩
    refine ⟨_, rfl, ?_⟩
    rw [dt]
    refine iB (fun h => ?_) (fun h => ?_)
    · have h := of_decide_eq_true h
      obtain ⟨x, rfl⟩ : ∃ x, r = [x] := by
        match r, h with
        | [x], _ => exact ⟨x, rfl⟩
      obtain _ | ⟨h1, _ | ⟨h2, _ | ⟨h3, _ | ⟨h4, hn⟩⟩⟩⟩ := hr
      cases hn
      refine ⟨_, rfl, ?_⟩
      refine ⟨_, rfl, ?_⟩
      refine ⟨_, _, _, _, rfl, rfl, SqT.of (by assumption), rfl, ?_⟩
      refine ⟨_, _, _, _, _, rfl, (by assumption), (by assumption), ?_⟩
      exact q H (Same.rfl' H)
    · have h := of_decide_eq_false h
      exact ansB (q H (Same.rfl' H)) (by match r, h with | [], _ => rfl | _ :: _ :: _, _ => rfl)
abbrev s__is_higher : Stmt := top 44
abbrev N__is_higher : List Str := ["count", "letter"]
abbrev P__is_higher : List Str := ["count", "letter"]
theorem sc__is_higher : FnScope N__is_higher P__is_higher (defScope s__is_higher) := ⟨rfl, rfl, rfl, by decide +kernel, rfl, by decide +kernel, by decide +kernel⟩
theorem ok__is_higher {f : Addr} {fd : FuncData} (T : Tx mg) (c_is_view_id : DefOk P w K mg base CX0 "is_view_id" P_is_view_id 4 (spB2 isVid))(F : Fun K "_is_higher" "_is_higher" s__is_higher f fd) : FnOk P w K mg base CX0 (8) f fd P__is_higher (spRest rHigher) := by
  have nd := sc__is_higher.nd
  refine F.ok sc__is_higher (fun vs H Q E h => ?_) (fun cdv A outer s H vs Q E hr h => ?_)
  · obtain ⟨_, _, _, _, _, rfl, _⟩ := h
    rfl
  · obtain ⟨p, u, v, c, ds, rfl, hc, hd, hh, ⟨k, m, i, r, rfl, hm, hi⟩, q⟩ := h
    refine ⟨_, (pss_one (ps_ret (pe_and (pe_cmpR op_eq (pe_callB call_len_seq (by rfl) T.b_len (by decide +kernel) (pa_cons (pv 1) pa_nil)) pe_int (nomark _)) (pe_one (pcall c_is_view_id hr (pa_cons (pv 0) (pa_cons (pe_ix ix_tup (pv 1) pe_int (fun _ _ => rfl)) pa_nil))))))), ?_⟩
    obtain _ | _ | _ | _ | _ | @⟨a, xs, _, ha, np, hw, hr⟩ := hd
    have hl := hr.length
    have dt : decide (V.int xs.length = V.int 4) = decide (r.length = 1) := by
      rw [hl]; exact decide_eq_decide.mpr ⟨fun h => by have := V.int.inj h; simp at this; omega, fun h => by simp [h]⟩
    refine ⟨_, rfl, ?_⟩
    refine ⟨_, _, rfl, Or.inr (SqT.of (by assumption)), ?_⟩
    refine ⟨rfl, ?_⟩
    refine ⟨_, rfl, ?_⟩
    rw [dt]
    refine iB (fun h => ?_) (fun h => ?_)
    · have h := of_decide_eq_true h
      obtain ⟨x, rfl⟩ : ∃ x, r = [x] := by
        match r, h with
        | [x], _ => exact ⟨x, rfl⟩
      obtain _ | ⟨h1, _ | ⟨h2, _ | ⟨h3, _ | ⟨h4, hn⟩⟩⟩⟩ := hr
      cases hn
      refine ⟨_, rfl, ?_⟩
      refine ⟨_, rfl, ?_⟩
      refine ⟨_, _, _, _, rfl, rfl, SqT.of (by assumption), rfl, ?_⟩
      refine ⟨_, _, _, _, _, rfl, (by assumption), (by assumption), ?_⟩
      exact q H (Same.rfl' H)
    · have h := of_decide_eq_false h
      exact ansB (q H (Same.rfl' H)) (by match r, h with | [], _ => rfl | _ :: _ :: _, _ => rfl)
end
end Mus

set_option maxRecDepth 100000
set_option maxHeartbeats 4000000
namespace Mus
open PySem L2 TL PySem.NumText
local macro_rules | `(tactic| walk_at "rd") => `(tactic| first
  | refine ⟨_, rfl, ?_⟩ | refine ⟨(True.intro : True), ?_⟩
  | refine ⟨_, _, rfl, rfl, (⟨by decide, by decide, by decide⟩ : CPow _ _), ?_⟩
  | refine ⟨_, _, rfl, rfl, (⟨by decide, by decide⟩ : CDiv _ _), ?_⟩
  | refine ⟨_, _, rfl, rfl, (by show (0 : Int) < _; decide), ?_⟩
  | refine ⟨_, _, rfl, rfl, ?_⟩ | refine ⟨rfl, ?_⟩ | refine iteT ?_ | refine iteF ?_ | refine ⟨_, _, rfl, ?_⟩ | refine .inl ⟨_, rfl, ?_⟩
  | refine ⟨_, _, _, _, _, rfl, (by assumption), (by assumption), (by assumption), rfl, ?_⟩ | refine ⟨_, _, _, _, rfl, rfl, SqT.of (by assumption), rfl, ?_⟩ | refine ⟨_, _, rfl, SqT.of (by assumption), rfl, ?_⟩
  | refine ⟨_, _, _, _, _, rfl, .ty _, Rp.ty (by assumption), kit_int _, ?_⟩ | refine ⟨_, _, _, _, _, rfl, .ty _, Rp.ty (by assumption), kit_bool _, ?_⟩
  | refine ⟨_, _, _, _, _, rfl, .ty _, Rp.ty (by assumption), kit_str _, ?_⟩ | refine ⟨_, _, _, _, _, rfl, .ty _, Rp.ty (by assumption), kit_tup _, ?_⟩)
local macro_rules | `(tactic| walk_at "cal") => `(tactic| first
  | refine ⟨_, _, _, _, _, rfl, (by assumption), ?_⟩ | refine ⟨_, _, _, _, _, rfl, (by assumption), (by assumption), ?_⟩)
local macro_rules | `(tactic| walk_at "sq") => `(tactic| first
  | refine ⟨_, _, rfl, Or.inr (SqT.of (by assumption)), ?_⟩ | refine ⟨_, _, _, _, rfl, rfl, SqT.of (by assumption), rfl, ?_⟩)
local macro_rules | `(tactic| walk_at "rds") => `(tactic| repeat first | walk_at "rd" | walk_at "cal" | walk_at "sq")
local macro_rules | `(tactic| walk_at "ze") => `(tactic| repeat first
  | exact zes_nil | exact ze_bl | exact ze_str | exact ze_non | apply zes_cons | apply ze_tup | apply ze_lst | apply ze_cat | exact di_c | exact di_v rfl | apply di_opC | apply di_op | apply di_neg | apply ze_i | (refine (⟨?_, ?_, ?_⟩ : CPow _ _) <;> decide) | exact Nat.le_of_ble_eq_true rfl | exact ze_varD rfl (by assumption))
local macro_rules | `(tactic| walk_at "rdz") => `(tactic| repeat (fail_if_success (first | show tLst _ _ _ _ | show tAsg (tLst _) _ _ _ _ | show tSeq (tAsg (tLst _) _) _ _ _ _)); first | walk_at "rd" | walk_at "cal" | walk_at "sq")
section
variable {P : Program} {w : World} {K : PySem.W.Frag} {mg : Str → Option Value} {base : Heap}
theorem isFin_no {c d : PyData} (h : (∃ ds, d = .tuple ds ∧ ds.length ≠ 2) ∨ dTup d = false) : isFin c d = false := by
  unfold isFin
  split
  · simp [dTup] at h
  · rfl
abbrev s__is_final : Stmt := top 47
abbrev N__is_final : List Str := ["count", "value"]
abbrev P__is_final : List Str := ["count", "value"]
theorem sc__is_final : FnScope N__is_final P__is_final (defScope s__is_final) := ⟨rfl, rfl, rfl, by decide +kernel, rfl, by decide +kernel, by decide +kernel⟩
theorem ok__is_final {f : Addr} {fd : FuncData} (T : Tx mg) (c_is_view_id : DefOk P w K mg base CX0 "is_view_id" P_is_view_id 4 (spB2 isVid)) (c_is_log : DefOk P w K mg base CX0 "is_log" P_is_log 5 (spHS2 isLog))(F : Fun K "_is_final" "_is_final" s__is_final f fd) : FnOk P w K mg base CX0 (6) f fd P__is_final (spHS2 isFin) := by
  have nd := sc__is_final.nd
  refine F.ok sc__is_final (fun vs H Q E h => ?_) (fun cdv A outer s H vs Q E hr h => ?_)
  · obtain ⟨_, _, _, _, _, rfl, _⟩ := h
    rfl
  · obtain ⟨p, u, v, c, d, rfl, hc, hd, hh, q⟩ := h
    refine ⟨_, (pss_cons (ps_if (PW.pt (pw_or (pt_not (pt_val (pe_callB call_isi (by rfl) T.b_isinstance (by decide +kernel) (pa_cons (pv 1) (pa_cons (pe_ty "tuple" T.b_tuple) pa_nil))))) (pw_or1 (pt_cmpR op_ne (pe_callB call_len_seq (by rfl) T.b_len (by decide +kernel) (pa_cons (pv 1) pa_nil)) pe_int (nomark _)))))
        (pss_one (ps_ret pe_bl))
        pss_nil)
      (pss_one (ps_ret (pe_and (pcall c_is_view_id hr (pa_cons (pv 0) (pa_cons (pe_ix ix_tup (pv 1) pe_int (fun _ _ => rfl)) pa_nil))) (pe_one (pcall c_is_log hr (pa_cons (pv 0) (pa_cons (pe_ix ix_tup (pv 1) pe_int (fun _ _ => rfl)) pa_nil)))))))), ?_⟩
    have hd' := hd
    rcases pairs d with ⟨x, y, rfl⟩ | hno
    · obtain ⟨k1, k2⟩ := hh.of2
      obtain _ | _ | _ | _ | _ | @⟨a, xs, _, ha, np, hw, hr⟩ := hd
      obtain _ | ⟨hx, _ | ⟨hy, _⟩⟩ := hr
      cases ‹Rps p H _ []›
      refine ⟨_, rfl, ?_⟩
      refine ⟨_, _, _, _, _, rfl, .ty _, Rp.ty (by assumption), kit_tup _, ?_⟩
      refine ⟨_, rfl, ?_⟩
      refine ⟨_, rfl, ?_⟩
      refine ⟨_, _, rfl, Or.inr (SqT.of (by assumption)), ?_⟩
      refine ⟨rfl, ?_⟩
      refine ⟨_, rfl, ?_⟩
      refine ⟨_, rfl, ?_⟩
      refine ⟨_, rfl, ?_⟩
      refine ⟨_, _, _, _, rfl, rfl, SqT.of (by assumption), rfl, ?_⟩
      refine ⟨_, _, _, _, _, rfl, (by assumption), (by assumption), ?_⟩
      refine ⟨_, rfl, ?_⟩
      refine iB (fun h => ?_) (fun h => ?_)
      · walk_at "rds"
        exact ⟨k2, fun H' s' => ansB (q H' s') (by simp [isFin, h])⟩
      · exact ansB (q H (Same.rfl' H)) (by simp [isFin, h])
    · have e := isFin_no (c := c) hno
      rw [e] at q
      rcases hno with ⟨ds, rfl, hl⟩ | hno
      · obtain _ | _ | _ | _ | _ | @⟨a, xs, _, ha, np, hw, hr⟩ := hd
        have hl2 := hr.length
        refine ⟨_, rfl, ?_⟩
        refine ⟨_, _, _, _, _, rfl, .ty _, Rp.ty (by assumption), kit_tup _, ?_⟩
        refine ⟨_, rfl, ?_⟩
        refine ⟨_, rfl, ?_⟩
        refine ⟨_, _, rfl, Or.inr (SqT.of (by assumption)), ?_⟩
        refine ⟨rfl, ?_⟩
        refine ⟨_, rfl, ?_⟩
        refine nT (vint_ne (by omega)) ?_
        walk_at "rds"
        exact q H (Same.rfl' H)
      · cases hd <;> simp [dTup] at hno <;> walk_at "rds" <;> exact q H (Same.rfl' H)
theorem isFin_ids {c d : PyData} (h : isFin c d = true) : ∃ i l, d = .tuple [i, l] ∧ isVid c i = true := by
  unfold isFin at h
  split at h
  · rename_i i l
    rw [Bool.and_eq_true] at h
    exact ⟨i, l, rfl, h.1⟩
  · cases h
/-- so far all are right; the last one's id -/
def FinTo (c : PyData) (ds : List PyData) (i : Nat) (o : Option PyData) : Prop := finsFrom c none ds = finsFrom c o (ds.drop i) ∧ (i = 0 → o = none) ∧ ∀ j m, j + 1 = i → ds[j]? = some m → isFin c m = true ∧ o = some (idOf m)
abbrev s__is_finals : Stmt := top 46
abbrev N__is_finals : List Str := ["count", "value", "at", "pair"]
abbrev P__is_finals : List Str := ["count", "value"]
theorem sc__is_finals : FnScope N__is_finals P__is_finals (defScope s__is_finals) := ⟨rfl, rfl, rfl, by decide +kernel, rfl, by decide +kernel, by decide +kernel⟩
theorem ok__is_finals {f : Addr} {fd : FuncData} (T : Tx mg) (c__is_final : DefOk P w K mg base CX0 "_is_final" P__is_final 6 (spHS2 isFin))(F : Fun K "_is_finals" "_is_finals" s__is_finals f fd) : FnOk P w K mg base CX0 (7) f fd P__is_finals (spHS2 isFins) := by
  have nd := sc__is_finals.nd
  refine F.ok sc__is_finals (fun vs H Q E h => ?_) (fun cdv A outer s H vs Q E hr h => ?_)
  · obtain ⟨_, _, _, _, _, rfl, _⟩ := h
    rfl
  · obtain ⟨p, u, v, c, d, rfl, hc, hd, hh, q⟩ := h
    have hs := sl
    refine ⟨_, (pss_cons (ps_if (pt_not (pt_val (pe_callB call_isi (by rfl) T.b_isinstance (by decide +kernel) (pa_cons (pv 1) (pa_cons (pe_ty "tuple" T.b_tuple) pa_nil)))))
        (pss_one (ps_ret pe_bl))
        pss_nil)
      (pss_cons (ps_for PassesOwn.never rfl (pi_enT (by rfl) T.b_enumerate (pa_cons (pv 1) pa_nil)) (pg_tup (by rfl) (pgs_cons (pg_name (i := 2) nd rfl (Or.inl rfl)) (pgs_cons (pg_name (i := 3) nd rfl (Or.inl rfl)) pgs_nil)))
        (pss_cons (ps_if (pt_not (pt_val (pcall c__is_final hr (pa_cons (pv 0) (pa_cons (pv 3) pa_nil)))))
          (pss_one (ps_ret pe_bl))
          pss_nil)
        (pss_one (ps_if (PW.pt (pw_and (pt_cmpR op_gt (pv 2) pe_int (nomark _)) (pw_and1 (pt_cmpR (op_leD hr.units) (pe_ix ix_tup (pv 3) pe_int (fun _ _ => rfl)) (pe_ix ix_tup (pe_ix ix_tup (pv 1) (pe_op op_sub (pv 2) pe_int) (fun _ _ => rfl)) pe_int (fun _ _ => rfl)) (nomark _)))))
          (pss_one (ps_ret pe_bl))
          pss_nil))))
      (pss_one (ps_ret pe_bl)))), ?_⟩
    have hd' := hd
    cases hd
    case tup a xs ds ha np hw hr1 =>
      have hl := hr1.length
      refine ⟨_, rfl, ?_⟩
      refine ⟨_, _, _, _, _, rfl, .ty _, Rp.ty (by assumption), kit_tup _, ?_⟩
      refine ⟨_, rfl, ?_⟩
      refine ⟨_, rfl, ?_⟩
      refine ⟨a, xs, rfl, SqT.of ha, for_it (walk_enT (K := K) (a := a) (xs := xs)) (fun i σ H' => Same H H' ∧ ∃ (x1 x2 : Option V) (o : Option PyData), σ = [some u, some (.ref a), x1, x2] ∧ FinTo c ds i o) ?_ ?_ ?_ ?_⟩
      · exact ⟨Same.rfl' H, _, _, none, rfl, rfl, fun _ => rfl, fun j m e => by omega⟩
      · rintro i σ H' _ ⟨s1, _⟩
        exact SqT.of (s1 _ _ ha)
      · rintro i x σ H1 H2 hi ⟨s1, x1, x2, o, rfl, hp, ho, hprev⟩ ⟨t, y0, y, rfl, nt, rfl, e0, ey⟩
        cases e0
        obtain ⟨m, hm, rm⟩ := hr1.at ey
        have st := same_new nt (.tup [.int (i : Nat), y])
        have s2 := s1.trans st
        have hmh := hh.mem m (List.mem_of_getElem? hm)
        rw [drop_cons hm] at hp
        refine ⟨t, _, rfl, SqT.of upd_same, rfl, ?_⟩
        refine ⟨_, _, rfl, ?_⟩
        refine ⟨_, _, rfl, rfl, ?_⟩
        refine ⟨_, rfl, ?_⟩
        refine ⟨_, rfl, ?_⟩
        refine ⟨p, u, y, c, m, rfl, hc.same s2, rm.same s2, hmh, fun H3 s3 => ?_⟩
        have s4 := s2.trans s3
        refine ⟨_, rfl, ?_⟩
        refine iB (fun h => ?_) (fun h => ?_)
        · have h' : isFin c m = false := by simpa using h
          walk_at "rds"
          exact ansB (q _ s4) (hp.trans (by simp [finsFrom, h']))
        · have h' : isFin c m = true := by simpa using h
          obtain ⟨di, dl, rfl, hid⟩ := isFin_ids h'
          obtain ⟨n1, i1, l1, rfl, _⟩ := isVid_ids hid
          have rm2 := rm.same s4
          obtain _ | _ | _ | _ | _ | @⟨b, ys, _, hb, nb, hwb, hrb⟩ := rm2
          obtain _ | ⟨hx1, _ | ⟨hx2, hn⟩⟩ := hrb
          cases hn
          refine ⟨_, rfl, ?_⟩
          refine ⟨_, _, rfl, rfl, ?_⟩
          refine ⟨_, rfl, ?_⟩
          refine iB (fun h2 => ?_) (fun h2 => ?_)
          · have i0 : 0 < i := by have := of_decide_eq_true h2; omega
            obtain ⟨j, rfl⟩ : ∃ j, i = j + 1 := ⟨i - 1, by omega⟩
            have hj : j < xs.length := by omega
            obtain ⟨m', hm', rm'⟩ := (hr1.same s4).at (List.getElem?_eq_getElem hj)
            obtain ⟨hc', en⟩ := hprev j m' rfl hm'
            obtain ⟨di', dl', rfl, hid'⟩ := isFin_ids hc'
            obtain ⟨n2, i2, l2, rfl, _⟩ := isVid_ids hid'
            subst en
            generalize ex : xs[j] = x' at rm'
            obtain _ | _ | _ | _ | _ | @⟨b', ys', _, hb', nb', hwb', hrb'⟩ := rm'
            obtain _ | ⟨hy1, _ | ⟨hy2, hn⟩⟩ := hrb'
            cases hn
            refine ⟨_, rfl, ?_⟩
            refine ⟨_, _, _, _, rfl, rfl, SqT.of (by assumption), rfl, ?_⟩
            refine ⟨_, rfl, ?_⟩
            refine ⟨_, rfl, ?_⟩
            refine ⟨_, _, rfl, rfl, ?_⟩
            refine ⟨a, _, _, _, rfl, rfl, SqT.of (s4 _ _ ha), at_int (by omega) (by rw [show (((j + 1 : Nat) : Int) - 1).toNat = j by omega, List.getElem?_eq_getElem hj, ex]), ?_⟩
            refine ⟨_, _, _, _, rfl, rfl, SqT.of (by assumption), rfl, ?_⟩
            refine ⟨_, _, hx1.dp, hy1.dp, ids_alike _ _ _ _ _ _, (by intro z; cases z), ids_depth _ _ _, ?_⟩
            have hp : finsFrom c none ds = (isFin c _ && !(!PySem.W.dataLt (.tuple [.int n2, .tuple [.int i2, .int l2]]) (.tuple [.int n1, .tuple [.int i1, .int l1]])) && finsFrom c (some (.tuple [.int n1, .tuple [.int i1, .int l1]])) (ds.drop (j + 1 + 1))) := hp
            rw [h', Bool.true_and] at hp
            refine ⟨_, rfl, ?_⟩
            refine iB (fun h3 => ?_) (fun h3 => ?_)
            · replace h3 : (!PySem.W.dataLt (.tuple [.int n2, .tuple [.int i2, .int l2]]) (.tuple [.int n1, .tuple [.int i1, .int l1]])) = true := h3
              rw [h3] at hp
              walk_at "rds"
              exact ansB (q _ s4) hp
            · replace h3 : (!PySem.W.dataLt (.tuple [.int n2, .tuple [.int i2, .int l2]]) (.tuple [.int n1, .tuple [.int i1, .int l1]])) = false := h3
              rw [h3] at hp
              refine ⟨s4, _, _, some (.tuple [.int n1, .tuple [.int i1, .int l1]]), rfl, hp, (fun e => by omega), fun j2 m2 e2 hm2 => ?_⟩
              obtain rfl : j2 = j + 1 := by omega
              rw [hm] at hm2; cases hm2
              exact ⟨h', rfl⟩
          · have i0 : i = 0 := by have := of_decide_eq_false h2; omega
            subst i0
            have eo := ho rfl
            subst eo
            refine iteF ?_
            refine ⟨s4, _, _, some (.tuple [.int n1, .tuple [.int i1, .int l1]]), rfl, hp.trans (by simp [finsFrom, h', idOf]), (fun e => by omega), fun j2 m2 e2 hm2 => ?_⟩
            obtain rfl : j2 = 0 := by omega
            rw [hm] at hm2; cases hm2
            exact ⟨h', rfl⟩
      · rintro σ H1 ⟨s1, x1, x2, o, rfl, hp, _⟩
        walk_at "rds"
        refine ansB (q _ s1) ?_
        rw [hl, List.drop_length] at hp
        exact hp
    all_goals
      walk_at "rds"
      exact q H (Same.rfl' H)
end
end Mus

set_option maxRecDepth 100000
set_option maxHeartbeats 4000000
namespace Mus
open PySem L2 TL PySem.NumText
local macro_rules | `(tactic| walk_at "rd") => `(tactic| first
  | refine ⟨_, rfl, ?_⟩ | refine ⟨(True.intro : True), ?_⟩
  | refine ⟨_, _, rfl, rfl, (⟨by decide, by decide, by decide⟩ : CPow _ _), ?_⟩
  | refine ⟨_, _, rfl, rfl, (⟨by decide, by decide⟩ : CDiv _ _), ?_⟩
  | refine ⟨_, _, rfl, rfl, (by show (0 : Int) < _; decide), ?_⟩
  | refine ⟨_, _, rfl, rfl, ?_⟩ | refine ⟨rfl, ?_⟩ | refine iteT ?_ | refine iteF ?_ | refine ⟨_, _, rfl, ?_⟩ | refine .inl ⟨_, rfl, ?_⟩
  | refine ⟨_, _, _, _, _, rfl, (by assumption), (by assumption), (by assumption), rfl, ?_⟩ | refine ⟨_, _, _, _, rfl, rfl, SqT.of (by assumption), rfl, ?_⟩ | refine ⟨_, _, rfl, SqT.of (by assumption), rfl, ?_⟩
  | refine ⟨_, _, _, _, _, rfl, .ty _, Rp.ty (by assumption), kit_int _, ?_⟩ | refine ⟨_, _, _, _, _, rfl, .ty _, Rp.ty (by assumption), kit_bool _, ?_⟩
  | refine ⟨_, _, _, _, _, rfl, .ty _, Rp.ty (by assumption), kit_str _, ?_⟩ | refine ⟨_, _, _, _, _, rfl, .ty _, Rp.ty (by assumption), kit_tup _, ?_⟩)
local macro_rules | `(tactic| walk_at "cal") => `(tactic| first
  | refine ⟨_, _, _, _, _, rfl, (by assumption), ?_⟩ | refine ⟨_, _, _, _, _, rfl, (by assumption), (by assumption), ?_⟩)
local macro_rules | `(tactic| walk_at "sq") => `(tactic| first
  | refine ⟨_, _, rfl, Or.inr (SqT.of (by assumption)), ?_⟩ | refine ⟨_, _, _, _, rfl, rfl, SqT.of (by assumption), rfl, ?_⟩)
local macro_rules | `(tactic| walk_at "rds") => `(tactic| repeat first | walk_at "rd" | walk_at "cal" | walk_at "sq")
local macro_rules | `(tactic| walk_at "ze") => `(tactic| repeat first
  | exact zes_nil | exact ze_bl | exact ze_str | exact ze_non | apply zes_cons | apply ze_tup | apply ze_lst | apply ze_cat | exact di_c | exact di_v rfl | apply di_opC | apply di_op | apply di_neg | apply ze_i | (refine (⟨?_, ?_, ?_⟩ : CPow _ _) <;> decide) | exact Nat.le_of_ble_eq_true rfl | exact ze_varD rfl (by assumption))
local macro_rules | `(tactic| walk_at "rdz") => `(tactic| repeat (fail_if_success (first | show tLst _ _ _ _ | show tAsg (tLst _) _ _ _ _ | show tSeq (tAsg (tLst _) _) _ _ _ _)); first | walk_at "rd" | walk_at "cal" | walk_at "sq")
section
variable {P : Program} {w : World} {K : PySem.W.Frag} {mg : Str → Option Value} {base : Heap}
abbrev s__is_install : Stmt := top 43
abbrev N__is_install : List Str := ["count", "letter"]
abbrev P__is_install : List Str := ["count", "letter"]
theorem sc__is_install : FnScope N__is_install P__is_install (defScope s__is_install) := ⟨rfl, rfl, rfl, by decide +kernel, rfl, by decide +kernel, by decide +kernel⟩
theorem ok__is_install {f : Addr} {fd : FuncData} (T : Tx mg) (c_is_members : DefOk P w K mg base CX0 "is_members" P_is_members 4 (spB2 isMems)) (c__is_finals : DefOk P w K mg base CX0 "_is_finals" P__is_finals 7 (spHS2 isFins))(F : Fun K "_is_install" "_is_install" s__is_install f fd) : FnOk P w K mg base CX0 (8) f fd P__is_install (spRest rInstall) := by
  have nd := sc__is_install.nd
  refine F.ok sc__is_install (fun vs H Q E h => ?_) (fun cdv A outer s H vs Q E hr h => ?_)
  · obtain ⟨_, _, _, _, _, rfl, _⟩ := h
    rfl
  · obtain ⟨p, u, v, c, ds, rfl, hc, hd, hh, ⟨k, m, i, r, rfl, hm, hi⟩, q⟩ := h
    refine ⟨_, (pss_one (ps_ret (pe_and (pe_cmpR op_eq (pe_callB call_len_seq (by rfl) T.b_len (by decide +kernel) (pa_cons (pv 1) pa_nil)) pe_int (nomark _)) (pe_and (pcall c_is_members hr (pa_cons (pv 0) (pa_cons (pe_ix ix_tup (pv 1) pe_int (fun _ _ => rfl)) pa_nil))) (pe_one (pcall c__is_finals hr (pa_cons (pv 0) (pa_cons (pe_ix ix_tup (pv 1) pe_int (fun _ _ => rfl)) pa_nil)))))))), ?_⟩
    obtain _ | _ | _ | _ | _ | @⟨a, xs, _, ha, np, hw, hr⟩ := hd
    have hl := hr.length
    have dt : decide (V.int xs.length = V.int 5) = decide (r.length = 2) := by
      rw [hl]; exact decide_eq_decide.mpr ⟨fun h => by have := V.int.inj h; simp at this; omega, fun h => by simp [h]⟩
    refine ⟨_, rfl, ?_⟩
    refine ⟨_, _, rfl, Or.inr (SqT.of (by assumption)), ?_⟩
    refine ⟨rfl, ?_⟩
    refine ⟨_, rfl, ?_⟩
    rw [dt]
    refine iB (fun h => ?_) (fun h => ?_)
    · have h := of_decide_eq_true h
      obtain ⟨x, y, rfl⟩ : ∃ x y, r = [x, y] := by
        match r, h with
        | [x, y], _ => exact ⟨x, y, rfl⟩
      obtain _ | ⟨h1, _ | ⟨h2, _ | ⟨h3, _ | ⟨h4, _ | ⟨h5, hn⟩⟩⟩⟩⟩ := hr
      cases hn
      refine ⟨_, rfl, ?_⟩
      refine ⟨_, rfl, ?_⟩
      refine ⟨_, _, _, _, rfl, rfl, SqT.of (by assumption), rfl, ?_⟩
      refine ⟨_, _, _, _, _, rfl, (by assumption), (by assumption), ?_⟩
      refine ⟨_, rfl, ?_⟩
      refine iB (fun h6 => ?_) (fun h6 => ?_)
      · walk_at "rds"
        exact ⟨hh.mem _ (by simp), fun H' s' => ansB (q H' s') (by simp only [rInstall]; rw [h6, Bool.true_and])⟩
      · exact ansB (q H (Same.rfl' H)) (by simp only [rInstall]; rw [h6, Bool.false_and])
    · have h := of_decide_eq_false h
      exact ansB (q H (Same.rfl' H)) (by match r, h with | [], _ => rfl | [_], _ => rfl | _ :: _ :: _ :: _, _ => rfl)
abbrev s__is_here : Stmt := top 38
abbrev N__is_here : List Str := ["count", "letter", "view_id", "delivered", "promised"]
abbrev P__is_here : List Str := ["count", "letter"]
theorem sc__is_here : FnScope N__is_here P__is_here (defScope s__is_here) := ⟨rfl, rfl, rfl, by decide +kernel, rfl, by decide +kernel, by decide +kernel⟩
theorem ok__is_here {f : Addr} {fd : FuncData} (T : Tx mg) (c_is_integer : DefOk P w K mg base CX0 "is_integer" P_is_integer 1 (spI)) (c_is_view_id : DefOk P w K mg base CX0 "is_view_id" P_is_view_id 4 (spB2 isVid))(F : Fun K "_is_here" "_is_here" s__is_here f fd) : FnOk P w K mg base CX0 (8) f fd P__is_here (spRest rHere) := by
  have nd := sc__is_here.nd
  refine F.ok sc__is_here (fun vs H Q E h => ?_) (fun cdv A outer s H vs Q E hr h => ?_)
  · obtain ⟨_, _, _, _, _, rfl, _⟩ := h
    rfl
  · obtain ⟨p, u, v, c, ds, rfl, hc, hd, hh, ⟨k, m, i, r, rfl, hm, hi⟩, q⟩ := h
    have hs := sl
    refine ⟨_, (pss_cons (ps_if (pt_cmpR op_ne (pe_callB call_len_seq (by rfl) T.b_len (by decide +kernel) (pa_cons (pv 1) pa_nil)) pe_int (nomark _))
        (pss_one (ps_ret pe_bl))
        pss_nil)
      (pss_cons (ps_asg (pe_slice sl_tupA (pv 1) (po_some pe_int) po_none) (pg_tup (by rfl) (pgs_cons (pg_name (i := 2) nd rfl (Or.inl rfl)) (pgs_cons (pg_name (i := 3) nd rfl (Or.inl rfl)) (pgs_cons (pg_name (i := 4) nd rfl (Or.inl rfl)) pgs_nil)))))
      (pss_cons (ps_if (PW.pt (pw_or (pt_not (pt_val (pcall c_is_integer hr (pa_cons (pv 3) (pa_cons pe_int (pa_cons (pe_const T.c_MOST_NUMBER) pa_nil)))))) (pw_or1 (pt_not (pt_val (pcall c_is_view_id hr (pa_cons (pv 0) (pa_cons (pv 4) pa_nil))))))))
        (pss_one (ps_ret pe_bl))
        pss_nil)
      (pss_one (ps_ret (pe_cmpR (op_geD hr.units) (pv 4) (pv 2) (nomark _))))))), ?_⟩
    obtain _ | _ | _ | _ | _ | @⟨a, xs, _, ha, np, hw, hr⟩ := hd
    have hl := hr.length
    have dt : decide (V.int xs.length = V.int 5) = decide (r.length = 2) := by
      rw [hl]; exact decide_eq_decide.mpr ⟨fun h => by have := V.int.inj h; simp at this; omega, fun h => by simp [h]⟩
    refine ⟨_, rfl, ?_⟩
    refine ⟨_, _, rfl, Or.inr (SqT.of (by assumption)), ?_⟩
    refine ⟨rfl, ?_⟩
    refine ⟨_, rfl, ?_⟩
    rw [dt]
    refine iB (fun h => ?_) (fun h => ?_)
    · have h : ¬ r.length = 2 := by simpa using h
      exact ansB (q H (Same.rfl' H)) (by match r, h with | [], _ => rfl | [_], _ => rfl | _ :: _ :: _ :: _, _ => rfl)
    · have h : r.length = 2 := by simpa using h
      obtain ⟨x, y, rfl⟩ : ∃ x y, r = [x, y] := by
        match r, h with
        | [x, y], _ => exact ⟨x, y, rfl⟩
      obtain _ | @⟨v1, _, _, _, h1, _ | @⟨v2, _, _, _, h2, _ | @⟨v3, _, _, _, h3, _ | @⟨v4, _, _, _, h4, _ | @⟨v5, _, _, _, h5, hn⟩⟩⟩⟩⟩ := hr
      cases hn
      refine ⟨_, rfl, ?_⟩
      refine ⟨_, rfl, ?_⟩
      refine ⟨a, _, rfl, SqT.of ha, fun z => absurd z.1 (by show ¬ (HT.sIx 5 0 (some 2) = 0); decide), fun _ t nt => ?_⟩
      have st := same_new nt (.tup [v3, v4, v5])
      refine ⟨t, [v3, v4, v5], rfl, SqT.of upd_same, rfl, ?_⟩
      refine ⟨_, _, rfl, ?_⟩
      refine ⟨_, _, rfl, ?_⟩
      refine ⟨_, _, rfl, rfl, ?_⟩
      refine ⟨_, rfl, ?_⟩
      refine ⟨p, _, x, _, _, rfl, h4.same st, ?_⟩
      have Q' : ∀ b : Bool, rHere c [k, m, i, x, y] = b → Q (.bl b) (upd H t (.tup [v3, v4, v5])) := fun b e => ansB (q _ st) e
      refine ⟨_, rfl, ?_⟩
      refine iB (fun h6 => ?_) (fun h6 => ?_)
      · have h6 : isInt x 0 1000000000000 = false := by simpa using h6
        refine iteT ?_
        exact Q' _ (by simp [rHere, h6])
      · have h6 : isInt x 0 1000000000000 = true := by simpa using h6
        refine ⟨_, rfl, ?_⟩
        refine ⟨_, rfl, ?_⟩
        refine ⟨p, _, _, c, y, rfl, hc.same st, h5.same st, ?_⟩
        refine ⟨_, rfl, ?_⟩
        refine iB (fun h7 => ?_) (fun h7 => ?_)
        · have h7 : isVid c y = false := by simpa using h7
          walk_at "rds"
          exact Q' _ (by simp [rHere, h7])
        · have h7 : isVid c y = true := by simpa using h7
          obtain ⟨n1, i1, l1, rfl, _⟩ := isVid_ids h7
          obtain ⟨n2, i2, l2, rfl, _⟩ := isVid_ids hi
          refine ⟨_, rfl, ?_⟩
          refine ⟨_, rfl, ?_⟩
          refine ⟨_, _, (h5.same st).dp, (h3.same st).dp, ids_alike _ _ _ _ _ _, (by intro z; cases z), ids_depth _ _ _, ?_⟩
          exact Q' _ (by simp only [rHere]; rw [h6, h7]; rfl)
abbrev s__is_state : Stmt := top 42
abbrev N__is_state : List Str := ["count", "letter", "view_id", "log", "pending"]
abbrev P__is_state : List Str := ["count", "letter"]
theorem sc__is_state : FnScope N__is_state P__is_state (defScope s__is_state) := ⟨rfl, rfl, rfl, by decide +kernel, rfl, by decide +kernel, by decide +kernel⟩
theorem ok__is_state {f : Addr} {fd : FuncData} (T : Tx mg) (c_is_view_id : DefOk P w K mg base CX0 "is_view_id" P_is_view_id 4 (spB2 isVid)) (c_is_log : DefOk P w K mg base CX0 "is_log" P_is_log 5 (spHS2 isLog)) (c_is_pending : DefOk P w K mg base CX0 "is_pending" P_is_pending 5 (spHS1 isPend)) (c_last_index : DefOk P w K mg base CX0 "last_index" P_last_index 1 (sp_last))(F : Fun K "_is_state" "_is_state" s__is_state f fd) : FnOk P w K mg base CX0 (8) f fd P__is_state (spRest rState) := by
  have nd := sc__is_state.nd
  refine F.ok sc__is_state (fun vs H Q E h => ?_) (fun cdv A outer s H vs Q E hr h => ?_)
  · obtain ⟨_, _, _, _, _, rfl, _⟩ := h
    rfl
  · obtain ⟨p, u, v, c, ds, rfl, hc, hd, hh, ⟨k, m, i, r, rfl, hm, hi⟩, q⟩ := h
    have hs := sl
    refine ⟨_, (pss_cons (ps_if (pt_cmpR op_ne (pe_callB call_len_seq (by rfl) T.b_len (by decide +kernel) (pa_cons (pv 1) pa_nil)) pe_int (nomark _))
        (pss_one (ps_ret pe_bl))
        pss_nil)
      (pss_cons (ps_asg (pe_slice sl_tupA (pv 1) (po_some pe_int) po_none) (pg_tup (by rfl) (pgs_cons (pg_name (i := 2) nd rfl (Or.inl rfl)) (pgs_cons (pg_name (i := 3) nd rfl (Or.inl rfl)) (pgs_cons (pg_name (i := 4) nd rfl (Or.inl rfl)) pgs_nil)))))
      (pss_cons (ps_if (PW.pt (pw_or (pt_not (pt_val (pcall c_is_view_id hr (pa_cons (pv 0) (pa_cons (pv 2) pa_nil))))) (pw_or (pt_not (pt_val (pcall c_is_log hr (pa_cons (pv 0) (pa_cons (pv 3) pa_nil))))) (pw_or1 (pt_not (pt_val (pcall c_is_pending hr (pa_cons (pv 4) pa_nil))))))))
        (pss_one (ps_ret pe_bl))
        pss_nil)
      (pss_one (ps_ret (pe_or (pe_cmpR op_eq (pe_callB call_len_seq (by rfl) T.b_len (by decide +kernel) (pa_cons (pv 4) pa_nil)) pe_int (nomark _)) (pe_one (pe_cmpR op_eq (pe_ix ix_tup (pe_ix ix_tup (pv 4) pe_int (fun _ _ => rfl)) pe_int (fun _ _ => rfl)) (pe_op op_add (pcall c_last_index hr (pa_cons (pv 3) (pa_cons (pe_ix ix_tup (pv 1) pe_int (fun _ _ => rfl)) pa_nil))) pe_int) (nomark _))))))))), ?_⟩
    obtain _ | _ | _ | _ | _ | @⟨a, xs, _, ha, np, hw, hr⟩ := hd
    have hl := hr.length
    have dt : decide (V.int xs.length = V.int 6) = decide (r.length = 3) := by
      rw [hl]; exact decide_eq_decide.mpr ⟨fun h => by have := V.int.inj h; simp at this; omega, fun h => by simp [h]⟩
    refine ⟨_, rfl, ?_⟩
    refine ⟨_, _, rfl, Or.inr (SqT.of (by assumption)), ?_⟩
    refine ⟨rfl, ?_⟩
    refine ⟨_, rfl, ?_⟩
    rw [dt]
    refine iB (fun h => ?_) (fun h => ?_)
    · have h : ¬ r.length = 3 := by simpa using h
      exact ansB (q H (Same.rfl' H)) (by match r, h with | [], _ => rfl | [_], _ => rfl | [_, _], _ => rfl | _ :: _ :: _ :: _ :: _, _ => rfl)
    · have h : r.length = 3 := by simpa using h
      obtain ⟨x, y, z, rfl⟩ : ∃ x y z, r = [x, y, z] := by
        match r, h with
        | [x, y, z], _ => exact ⟨x, y, z, rfl⟩
      obtain _ | @⟨v1, _, _, _, h1, _ | @⟨v2, _, _, _, h2, _ | @⟨v3, _, _, _, h3, _ | @⟨v4, _, _, _, h4, _ | @⟨v5, _, _, _, h5, _ | @⟨v6, _, _, _, h6, hn⟩⟩⟩⟩⟩⟩ := hr
      cases hn
      have hy := hh.mem y (by simp)
      have hz := hh.mem z (by simp)
      refine ⟨_, rfl, ?_⟩
      refine ⟨_, rfl, ?_⟩
      refine ⟨a, _, rfl, SqT.of ha, fun z => absurd z.1 (by show ¬ (HT.sIx 6 0 (some 3) = 0); decide), fun _ t nt => ?_⟩
      have st := same_new nt (.tup [v4, v5, v6])
      refine ⟨t, [v4, v5, v6], rfl, SqT.of upd_same, rfl, ?_⟩
      refine ⟨_, _, rfl, ?_⟩
      refine ⟨_, _, rfl, ?_⟩
      refine ⟨_, _, rfl, rfl, ?_⟩
      refine ⟨_, rfl, ?_⟩
      refine ⟨_, rfl, ?_⟩
      have Q' : ∀ (b : Bool) (H' : Hp), Same (upd H t (.tup [v4, v5, v6])) H' → rState c [k, m, i, x, y, z] = b → Q (.bl b) H' := fun b H' s' e => ansB (q _ (st.trans s')) e
      refine ⟨p, _, _, c, x, rfl, hc.same st, h4.same st, ?_⟩
      refine ⟨_, rfl, ?_⟩
      refine iB (fun e1 => ?_) (fun e1 => ?_)
      · have e1 : isVid c x = false := by simpa using e1
        refine iteT ?_
        exact Q' _ _ (Same.rfl' _) (by simp [rState, e1])
      · have e1 : isVid c x = true := by simpa using e1
        refine ⟨_, rfl, ?_⟩
        refine ⟨_, rfl, ?_⟩
        refine ⟨p, _, _, c, y, rfl, hc.same st, h5.same st, hy, fun H2 s2 => ?_⟩
        refine ⟨_, rfl, ?_⟩
        refine iB (fun e2 => ?_) (fun e2 => ?_)
        · have e2 : isLog c y = false := by simpa using e2
          refine iteT ?_
          exact Q' _ _ s2 (by simp [rState, e2])
        · have e2 : isLog c y = true := by simpa using e2
          refine ⟨_, rfl, ?_⟩
          refine ⟨p, _, z, rfl, h6.same (st.trans s2), hz, fun H3 s3 => ?_⟩
          refine ⟨_, rfl, ?_⟩
          have s23 := s2.trans s3
          have s03 := st.trans s23
          refine iB (fun e3 => ?_) (fun e3 => ?_)
          · have e3 : isPend z = false := by simpa using e3
            walk_at "rds"
            exact Q' _ _ s23 (by simp [rState, e3])
          · have e3 : isPend z = true := by simpa using e3
            obtain ⟨ms, rfl⟩ : ∃ ms, z = .tuple ms := by cases z <;> first | exact ⟨_, rfl⟩ | cases e3
            obtain ⟨ls, rfl⟩ : ∃ ls, y = .tuple ls := by cases y <;> first | exact ⟨_, rfl⟩ | cases e2
            obtain ⟨n0, i0, l0, rfl, rfl, _⟩ := isMem_int hm
            have fin : rState (.int n0) [k, .tuple [.int i0, .int l0], i, x, .tuple ls, .tuple ms] = firstIs (cnt ls (i0, l0) + 1) ms := by
              simp only [rState]; rw [e1, e2, e3]; rfl
            have h63 := h6.same s03
            obtain _ | _ | _ | _ | _ | @⟨b, ws, _, hb, nb, hwb, hrb⟩ := h63
            refine ⟨_, rfl, ?_⟩
            refine ⟨_, _, rfl, Or.inr (SqT.of (by assumption)), ?_⟩
            refine ⟨rfl, ?_⟩
            refine ⟨_, rfl, ?_⟩
            cases hrb with
            | nil => exact Q' _ _ s23 fin
            | @cons w1 ws m1 ms hw1 hrs =>
              have hw1' := hw1
              have e4 : (isCast m1 && pendFrom (procOf m1 + 1) ms) = true := e3
              rw [Bool.and_eq_true] at e4
              obtain ⟨kk, zz, rfl, _⟩ := isCast_int e4.1
              obtain _ | _ | _ | _ | _ | @⟨b2, ws2, _, hb2, nb2, hwb2, hrb2⟩ := hw1
              obtain _ | ⟨hx1, _ | ⟨hx2, hn⟩⟩ := hrb2
              cases hn
              cases hx1
              refine iteF ?_
              have a0 : ∀ (x : V) (l : List V), atI (x :: l) 0 = some x := fun x l => at_int (by decide) rfl
              refine ⟨_, rfl, ?_⟩
              refine ⟨b, _, _, _, rfl, rfl, SqT.of hb, a0 _ _, ?_⟩
              refine ⟨_, _, _, _, rfl, rfl, SqT.of (by assumption), rfl, ?_⟩
              refine ⟨_, rfl, ?_⟩
              refine ⟨_, rfl, ?_⟩
              have a1 : ∀ (x y : V) (l : List V), atI (x :: y :: l) 1 = some y := fun x y l => at_int (by decide) rfl
              refine ⟨a, _, _, _, rfl, rfl, SqT.of (s03 _ _ ha), a1 _ _ _, ?_⟩
              walk_at "rds"
              refine ⟨p, _, _, ls, i0, l0, .int n0, rfl, h5.same s03, h2.same s03, e2, ?_⟩
              refine ⟨_, _, rfl, rfl, ?_⟩
              refine ⟨rfl, ?_⟩
              refine Q' _ _ s23 (fin.trans ?_)
              show decide (kk = (cnt ls (i0, l0) : Nat) + 1) = _
              exact decide_eq_decide.mpr ⟨fun h => congrArg V.int h, fun h => V.int.inj h⟩
end
end Mus

set_option maxRecDepth 100000
set_option maxHeartbeats 4000000
/-! A written dict: a text that is none of its keys is not in it. -/
namespace Mus
open PySem PySem.Spec PyProof.Rows L2
def keyT (e : DictEntry) : Option Str := match e.key with | .str x _ => some x | _ => none
theorem kd_none {K : PySem.W.Frag} {D : Addr} {es : Array DictEntry} {n : Nat} {ks : List Str} {z : Str} (h : K.lookup D = some ⟨.type "dict", none, .dict es n, #[]⟩) (hk : es.toList.map keyT = ks.map some) (hz : z ∉ ks) : PySem.W.nsIn K D z = some none := by
  have all : ∀ e ∈ es.toList, ∃ x t, e.key = .str x t ∧ x ∈ ks := fun e he => by
    have m : keyT e ∈ ks.map some := by rw [← hk]; exact List.mem_map.mpr ⟨e, he, rfl⟩
    obtain ⟨x, hx, ex⟩ := List.mem_map.mp m
    unfold keyT at ex
    split at ex
    · rename_i x' t ek
      cases ex
      exact ⟨_, _, ek, hx⟩
    · cases ex
  unfold PySem.W.nsIn
  rw [h]
  have f : es.toList.find? (·.key.isStr z) = none := by
    rw [List.find?_eq_none]
    intro e he
    obtain ⟨x, t, ek, hx⟩ := all e he
    rw [ek]
    intro w
    have w : x = z := by simpa [Value.isStr] using w
    exact hz (w ▸ hx)
  have g : es.toList.any (·.refKey) = false := by
    rw [List.any_eq_false]
    intro e he
    obtain ⟨x, t, ek, hx⟩ := all e he
    unfold DictEntry.refKey
    rw [ek]
    exact Bool.false_ne_true
  simp only [f, g]
  rfl
end Mus

set_option maxRecDepth 100000
set_option maxHeartbeats 4000000
namespace Mus
open PySem L2 TL PySem.NumText
local macro_rules | `(tactic| walk_at "rd") => `(tactic| first
  | refine ⟨_, rfl, ?_⟩ | refine ⟨(True.intro : True), ?_⟩
  | refine ⟨_, _, rfl, rfl, (⟨by decide, by decide, by decide⟩ : CPow _ _), ?_⟩
  | refine ⟨_, _, rfl, rfl, (⟨by decide, by decide⟩ : CDiv _ _), ?_⟩
  | refine ⟨_, _, rfl, rfl, (by show (0 : Int) < _; decide), ?_⟩
  | refine ⟨_, _, rfl, rfl, ?_⟩ | refine ⟨rfl, ?_⟩ | refine iteT ?_ | refine iteF ?_ | refine ⟨_, _, rfl, ?_⟩ | refine .inl ⟨_, rfl, ?_⟩
  | refine ⟨_, _, _, _, _, rfl, (by assumption), (by assumption), (by assumption), rfl, ?_⟩ | refine ⟨_, _, _, _, rfl, rfl, SqT.of (by assumption), rfl, ?_⟩ | refine ⟨_, _, rfl, SqT.of (by assumption), rfl, ?_⟩
  | refine ⟨_, _, _, _, _, rfl, .ty _, Rp.ty (by assumption), kit_int _, ?_⟩ | refine ⟨_, _, _, _, _, rfl, .ty _, Rp.ty (by assumption), kit_bool _, ?_⟩
  | refine ⟨_, _, _, _, _, rfl, .ty _, Rp.ty (by assumption), kit_str _, ?_⟩ | refine ⟨_, _, _, _, _, rfl, .ty _, Rp.ty (by assumption), kit_tup _, ?_⟩)
local macro_rules | `(tactic| walk_at "cal") => `(tactic| first
  | refine ⟨_, _, _, _, _, rfl, (by assumption), ?_⟩ | refine ⟨_, _, _, _, _, rfl, (by assumption), (by assumption), ?_⟩)
local macro_rules | `(tactic| walk_at "sq") => `(tactic| first
  | refine ⟨_, _, rfl, Or.inr (SqT.of (by assumption)), ?_⟩ | refine ⟨_, _, _, _, rfl, rfl, SqT.of (by assumption), rfl, ?_⟩)
local macro_rules | `(tactic| walk_at "rds") => `(tactic| repeat first | walk_at "rd" | walk_at "cal" | walk_at "sq")
local macro_rules | `(tactic| walk_at "ze") => `(tactic| repeat first
  | exact zes_nil | exact ze_bl | exact ze_str | exact ze_non | apply zes_cons | apply ze_tup | apply ze_lst | apply ze_cat | exact di_c | exact di_v rfl | apply di_opC | apply di_op | apply di_neg | apply ze_i | (refine (⟨?_, ?_, ?_⟩ : CPow _ _) <;> decide) | exact Nat.le_of_ble_eq_true rfl | exact ze_varD rfl (by assumption))
local macro_rules | `(tactic| walk_at "rdz") => `(tactic| repeat (fail_if_success (first | show tLst _ _ _ _ | show tAsg (tLst _) _ _ _ _ | show tSeq (tAsg (tLst _) _) _ _ _ _)); first | walk_at "rd" | walk_at "cal" | walk_at "sq")
def Seven (z : Str) : Prop := z = "here" ∨ z = "cast" ∨ z = "order" ∨ z = "propose" ∨ z = "state" ∨ z = "install" ∨ z = "higher"
def sevens : List Str := ["here", "cast", "order", "propose", "state", "install", "higher"]
theorem seven_iff (z : Str) : Seven z ↔ z ∈ sevens := by simp [Seven, sevens]
def restOf (z : Str) (c : PyData) (ds : List PyData) : Bool :=
  if z = "here" then rHere c ds else if z = "cast" then rCast ds else if z = "order" then rOrder c ds else if z = "propose" then rPropose c ds else if z = "state" then rState c ds else if z = "install" then rInstall c ds else rHigher c ds
def isLet (c : PyData) : PyData → Bool
  | .tuple (.str z :: m :: i :: r) => sevens.contains z && isMem c m && isVid c i && restOf z c (.str z :: m :: i :: r)
  | _ => false
/-- the dict of the checks -/
structure Ch (w : World) (K : PySem.W.Frag) (mg : Str → Option Value) (DC fh fc fo fp fs fi fg : Addr) : Prop where
  g__CHECKS : mg "_CHECKS" = some (.ref DC)
  D : ∃ es n, KDict K w DC es n
  no : ∀ z, z ∉ sevens → PySem.W.nsIn K DC z = some none
  eh : PySem.W.nsIn K DC "here" = some (some (.ref fh))
  ec : PySem.W.nsIn K DC "cast" = some (some (.ref fc))
  eo : PySem.W.nsIn K DC "order" = some (some (.ref fo))
  ep : PySem.W.nsIn K DC "propose" = some (some (.ref fp))
  es : PySem.W.nsIn K DC "state" = some (some (.ref fs))
  ei : PySem.W.nsIn K DC "install" = some (some (.ref fi))
  eg : PySem.W.nsIn K DC "higher" = some (some (.ref fg))
theorem rest_h (c : PyData) (ds : List PyData) : restOf "here" c ds = rHere c ds := rfl
section
variable {P : Program} {w : World} {K : PySem.W.Frag} {mg : Str → Option Value} {base : Heap} {DC fh fc fo fp fs fi fg : Addr}
abbrev s_is_letter : Stmt := top 49
abbrev N_is_letter : List Str := ["count", "value", "kind", "is_rest"]
abbrev P_is_letter : List Str := ["count", "value"]
theorem sc_is_letter : FnScope N_is_letter P_is_letter (defScope s_is_letter) := ⟨rfl, rfl, rfl, by decide +kernel, rfl, by decide +kernel, by decide +kernel⟩
theorem ok_is_letter {f : Addr} {fd : FuncData} (T : Tx mg) (C : Ch w K mg DC fh fc fo fp fs fi fg) (c_is_member : DefOk P w K mg base CX0 "is_member" P_is_member 3 (spB2 isMem)) (c_is_view_id : DefOk P w K mg base CX0 "is_view_id" P_is_view_id 4 (spB2 isVid))
    (Hh : Held P w K mg base 8 fh (spRest rHere)) (Hc : Held P w K mg base 8 fc (spRest fun _ => rCast)) (Ho : Held P w K mg base 8 fo (spRest rOrder)) (Hp : Held P w K mg base 8 fp (spRest rPropose)) (Hs : Held P w K mg base 8 fs (spRest rState)) (Hi : Held P w K mg base 8 fi (spRest rInstall)) (Hg : Held P w K mg base 8 fg (spRest rHigher))
    (F : Fun K "is_letter" "is_letter" s_is_letter f fd) : FnOk P w K mg base CX0 9 f fd P_is_letter (spHS2 isLet) := by
  have nd := sc_is_letter.nd
  refine F.ok sc_is_letter (fun vs H Q E h => ?_) (fun cdv A outer s H vs Q E hr h => ?_)
  · obtain ⟨_, _, _, _, _, rfl, _⟩ := h
    rfl
  · obtain ⟨p, u, v, c, d, rfl, hc, hd, hh, q⟩ := h
    have hs := sl
    obtain ⟨es, nE, D⟩ := C.D
    have D : KDict K w DC es nE := D
    have all : ∀ z, z ∈ sevens → ∃ (fz : Addr) (g : PyData → List PyData → Bool), PySem.W.nsIn K DC z = some (some (.ref fz)) ∧ Held P w K mg base 8 fz (spRest g) ∧ ∀ c ds, restOf z c ds = g c ds := fun z hz => by
      simp only [sevens, List.mem_cons, List.not_mem_nil, or_false] at hz
      rcases hz with rfl | rfl | rfl | rfl | rfl | rfl | rfl
      · exact ⟨fh, _, C.eh, Hh, fun _ _ => rfl⟩
      · exact ⟨fc, _, C.ec, Hc, fun _ _ => rfl⟩
      · exact ⟨fo, _, C.eo, Ho, fun _ _ => rfl⟩
      · exact ⟨fp, _, C.ep, Hp, fun _ _ => rfl⟩
      · exact ⟨fs, _, C.es, Hs, fun _ _ => rfl⟩
      · exact ⟨fi, _, C.ei, Hi, fun _ _ => rfl⟩
      · exact ⟨fg, _, C.eg, Hg, fun _ _ => rfl⟩
    obtain ⟨S, AH, hS⟩ : ∃ S : Addr → Option Sp, (∀ f sp, S f = some sp → Held P w K mg base 8 f sp) ∧ ∀ z ds, d = .tuple (.str z :: ds) → z ∈ sevens → ∃ (fz : Addr) (g : PyData → List PyData → Bool), PySem.W.nsIn K DC z = some (some (.ref fz)) ∧ S fz = some (spRest g) ∧ ∀ c ds, restOf z c ds = g c ds := by
      by_cases h : ∃ z ds, d = .tuple (.str z :: ds) ∧ z ∈ sevens
      · obtain ⟨z, ds, rfl, hz⟩ := h
        obtain ⟨fz, g, e1, e2, e3⟩ := all z hz
        refine ⟨fun a => if a = fz then some (spRest g) else none, fun f sp e => ?_, fun z' ds' e hz' => ?_⟩
        · dsimp only at e
          split at e
          · rename_i ef
            cases e
            rw [ef]; exact e2
          · cases e
        · cases e
          exact ⟨fz, g, e1, if_pos rfl, e3⟩
      · exact ⟨fun _ => none, (fun _ _ e => by cases e), fun z ds e hz => absurd ⟨z, ds, e, hz⟩ h⟩
    refine ⟨_, (pss_cons (ps_if (PW.pt (pw_or (pt_not (pt_val (pe_callB call_isi (by rfl) T.b_isinstance (by decide +kernel) (pa_cons (pv 1) (pa_cons (pe_ty "tuple" T.b_tuple) pa_nil))))) (pw_or1 (pt_cmpR op_lt (pe_callB call_len_seq (by rfl) T.b_len (by decide +kernel) (pa_cons (pv 1) pa_nil)) pe_int (nomark _)))))
        (pss_one (ps_ret pe_bl))
        pss_nil)
      (pss_cons (ps_set (i := 2) nd rfl (Or.inl rfl) (pe_ix ix_tup (pv 1) pe_int (fun _ _ => rfl)))
      (pss_cons (ps_if (PW.pt (pw_or (pt_not (pt_val (pe_callB call_isi (by rfl) T.b_isinstance (by decide +kernel) (pa_cons (pv 2) (pa_cons (pe_ty "str" T.b_str) pa_nil))))) (pw_or1 (pt_cmpR (op_notIn_kd D) (pv 2) (pe_cls C.g__CHECKS) (by rfl)))))
        (pss_one (ps_ret pe_bl))
        pss_nil)
      (pss_cons (ps_if (PW.pt (pw_or (pt_not (pt_val (pcall c_is_member hr (pa_cons (pv 0) (pa_cons (pe_ix ix_tup (pv 1) pe_int (fun _ _ => rfl)) pa_nil))))) (pw_or1 (pt_not (pt_val (pcall c_is_view_id hr (pa_cons (pv 0) (pa_cons (pe_ix ix_tup (pv 1) pe_int (fun _ _ => rfl)) pa_nil))))))))
        (pss_one (ps_ret pe_bl))
        pss_nil)
      (pss_cons (ps_set (i := 3) nd rfl (Or.inl rfl) (pe_ix ix_kdict (pe_cls C.g__CHECKS) (pv 2) (fun _ _ => rfl)))
      (pss_one (ps_ret (pe_callA (i := 3) (S := S) AH hr rfl (Or.inl rfl) (pa_cons (pv 0) (pa_cons (pv 1) pa_nil)))))))))), ?_⟩
    have hd' := hd
    cases hd
    case tup a xs ds ha np hw hr1 =>
      have hl := hr1.length
      have Q0 : isLet c (.tuple ds) = false → Q (.bl false) H := fun e => ansB (q H (Same.rfl' H)) e
      refine ⟨_, rfl, ?_⟩
      refine ⟨_, _, _, _, _, rfl, .ty _, Rp.ty (by assumption), kit_tup _, ?_⟩
      refine ⟨_, rfl, ?_⟩
      refine ⟨_, rfl, ?_⟩
      refine ⟨_, _, rfl, Or.inr (SqT.of (by assumption)), ?_⟩
      refine ⟨_, _, rfl, rfl, ?_⟩
      refine ⟨_, rfl, ?_⟩
      refine iB (fun h => ?_) (fun h => ?_)
      · have h : xs.length < 3 := by have := of_decide_eq_true h; omega
        refine Q0 ?_
        match ds, (show ds.length < 3 by omega) with
        | [], _ => rfl
        | [x], _ => cases x <;> rfl
        | [x, y], _ => cases x <;> rfl
      · have h : ¬ xs.length < 3 := by have := of_decide_eq_false h; omega
        obtain ⟨k, m, i, r, rfl⟩ : ∃ k m i r, ds = k :: m :: i :: r := by
          match ds, (show ¬ ds.length < 3 by omega) with
          | k :: m :: i :: r, _ => exact ⟨k, m, i, r, rfl⟩
          | [], h => exact absurd (by decide) h
          | [_], h => exact absurd (by simp) h
          | [_, _], h => exact absurd (by simp) h
        obtain _ | @⟨v1, _, _, _, h1, _ | @⟨v2, _, _, _, h2, _ | @⟨v3, vs, _, _, h3, hrs⟩⟩⟩ := hr1
        have a0 : ∀ (x : V) (l : List V), atI (x :: l) 0 = some x := fun x l => at_int (by decide) rfl
        have a1 : ∀ (x y : V) (l : List V), atI (x :: y :: l) 1 = some y := fun x y l => at_int (by decide) rfl
        have a2 : ∀ (x y z : V) (l : List V), atI (x :: y :: z :: l) 2 = some z := fun x y z l => at_int (by decide) rfl
        refine ⟨_, rfl, ?_⟩
        refine ⟨a, _, _, _, rfl, rfl, SqT.of ha, a0 _ _, ?_⟩
        have h1' := h1
        by_cases hk : ∃ z, k = .str z
        · obtain ⟨z, rfl⟩ := hk
          cases h1
          refine ⟨_, rfl, ?_⟩
          refine ⟨_, _, _, _, _, rfl, .ty _, Rp.ty (by assumption), kit_str _, ?_⟩
          refine ⟨_, rfl, ?_⟩
          refine ⟨_, rfl, ?_⟩
          by_cases hz : z ∈ sevens
          · obtain ⟨fz, g, e1, e2, e3⟩ := hS z _ rfl hz
            refine ⟨z, _, rfl, rfl, e1, ?_⟩
            refine ⟨_, rfl, ?_⟩
            refine ⟨_, rfl, ?_⟩
            refine ⟨_, rfl, ?_⟩
            have ez : sevens.contains z = true := by simpa using hz
            have full : isLet c (.tuple (.str z :: m :: i :: r)) = (isMem c m && isVid c i && restOf z c (.str z :: m :: i :: r)) := by simp only [isLet]; rw [ez, Bool.true_and]
            refine ⟨a, _, _, _, rfl, rfl, SqT.of ha, a1 _ _ _, ?_⟩
            refine ⟨_, _, _, _, _, rfl, (by assumption), (by assumption), ?_⟩
            refine ⟨_, rfl, ?_⟩
            refine iB (fun hm => ?_) (fun hm => ?_)
            · have hm : isMem c m = false := by simpa using hm
              refine iteT ?_
              exact Q0 (full.trans (by rw [hm]; rfl))
            · have hm : isMem c m = true := by simpa using hm
              refine ⟨_, rfl, ?_⟩
              refine ⟨_, rfl, ?_⟩
              refine ⟨a, _, _, _, rfl, rfl, SqT.of ha, a2 _ _ _ _, ?_⟩
              refine ⟨_, _, _, _, _, rfl, (by assumption), (by assumption), ?_⟩
              refine ⟨_, rfl, ?_⟩
              refine iB (fun hi => ?_) (fun hi => ?_)
              · have hi : isVid c i = false := by simpa using hi
                walk_at "rds"
                exact Q0 (full.trans (by rw [hm, hi]; rfl))
              · have hi : isVid c i = true := by simpa using hi
                refine ⟨_, rfl, ?_⟩
                refine ⟨DC, z, .ref fz, rfl, rfl, ⟨es, nE, _, D.at_, D.lit, e1, rfl⟩, ?_⟩
                refine ⟨fz, _, rfl, e2, ?_⟩
                refine ⟨_, rfl, _, rfl, ?_⟩
                refine ⟨p, _, _, c, _, rfl, hc, hd', hh, ⟨_, m, i, r, rfl, hm, hi⟩, fun H' s' => ansB (q H' s') ?_⟩
                rw [full, hm, hi, e3]; rfl
          · refine ⟨z, _, rfl, rfl, C.no z hz, ?_⟩
            refine ⟨_, rfl, ?_⟩
            refine iteT ?_
            refine Q0 ?_
            have e : sevens.contains z = false := by simpa using hz
            simp only [isLet]; rw [e]; simp
        · cases h1
          case str => exact absurd ⟨_, rfl⟩ hk
          all_goals
            walk_at "rds"
            exact Q0 rfl
    all_goals
      walk_at "rds"
      exact q H (Same.rfl' H)
end
end Mus

set_option maxRecDepth 100000
set_option maxHeartbeats 4000000
/-! Errors of the program's own: made without arguments, let out by methods. -/
namespace Mus
open PySem PySem.Spec PyProof.Rows L2
section
variable {X : Cx} {C : Addr} {bmB : List Value} {B newId initId : String}
theorem pmk_own0 {x : Str} {p pos : Pos} (F : ExcBaseFacts B newId initId bmB) (q : PySem.W.excIn X.K C bmB newId = true) (gC : X.mg x = some (.ref C)) (kC : PySem.W.keepIn X.K (.ref C) = true) (r : Raises X (.ref C)) (hg : Gl X x := by rfl)
    (hdb : (x == ("__debug__" : Str)) = false := by decide) : PMk X (.Call (.Name x p) [] [] pos) (fun _ H Q => Q (.ref C) none H) := by
  intro pins s σ H Q I h
  refine wpAny_Call_Name_kw (ld_glob I hg gC ?_ hdb)
  refine PySem.W.callWith_K0 I.kIn kC ?_
  show wpAny _ _ (call (.ref C) []) _ _ _
  obtain ⟨mem, g, dw, tn, io⟩ := s
  obtain ⟨chain, N, nm0, qn, bs, hdct, sn, sub, ab, col, dd, k0, k1, k2, k3, k5, mN, cC, hN, hni, T⟩ := exc_obj I.kIn q
  exact wpAny_call_exc_subT F T cC hN hni (fun h' a hm => mk_of I hm r h (I.hok.gone hm.new)) (by show 0 ≤ sizeLine; rw [sizeLine_eq]; omega)
end
section
variable {X : Cx} {C : Addr} {x m : Str} {ps : List Str} {j k : Nat} {sp : Sp} {o e : Expr} {es : List Expr} {to : TE} {t : TA} {p pos apos : Pos} {W : WX} {E : XK}
/-- o.m(e, ..), what it lets out leaves this def, too -/
theorem pmethE {pl : Sem Bool} (c : MethOk X.prog X.w X.K X.mg X.base (L2.CX X.prog X.w) C m ps j sp) (cl : Cls X.K C) (tk : Takes X W) (hW : ∀ cls d σ H, E cls d H → W cls d σ H) (ho : PE X o to) (hr : Room k X.A) (ha : PA X (e :: es) t) (hj : j ≤ k := by first | decide | omega)
    (st0 : starEach (e :: es) X.env = (false, eval e X.env) :: starEach es X.env := by rfl) (pl0 : (backTo pos (starEach es X.env)).any (·.1) = false := by rfl)
    (ht : eval (.Call (.Attribute o m apos) (e :: es) [] pos) X.env = (do
      let v ← eval o X.env; standAt apos.atName; let (f, one) ← holding [v] (getMethod v m pl)
      callWith pos f one (backTo pos (starEach (e :: es) X.env)) (backToKw pos (keywordEach [] X.env))) := by rfl) :
    PE X (.Call (.Attribute o m apos) (e :: es) [] pos) (tMeth C m sp [] E to t) := pe_meth ho cl c.m c.G (hr.mono hj) c.b .nil (passes_call tk hW) ha st0 pl0 ht
theorem pmethE0 {pl : Sem Bool} (c : MethOk X.prog X.w X.K X.mg X.base (L2.CX X.prog X.w) C m ps j sp) (cl : Cls X.K C) (tk : Takes X W) (hW : ∀ cls d σ H, E cls d H → W cls d σ H) (ho : PE X o to) (hr : Room k X.A) (hj : j ≤ k := by first | decide | omega)
    (ht : eval (.Call (.Attribute o m apos) [] [] pos) X.env = (do
      let v ← eval o X.env; standAt apos.atName; let (f, one) ← holding [v] (getMethod v m pl)
      callWith pos f one (backTo pos (starEach [] X.env)) (backToKw pos (keywordEach [] X.env))) := by rfl) :
    PE X (.Call (.Attribute o m apos) [] [] pos) (tMeth C m sp [] E to tNil) := pe_meth0 ho cl c.m c.G (hr.mono hj) c.b .nil (passes_call tk hW) ht
/-- f(e, ..), the same of a def -/
theorem pcallE (c : DefOk X.prog X.w X.K X.mg X.base (L2.CX X.prog X.w) x ps j sp) (tk : Takes X W) (hW : ∀ cls d σ H, E cls d H → W cls d σ H) (hr : Room k X.A) (ha : PA X (e :: es) t) (hj : j ≤ k := by first | decide | omega) (hg : Gl X x := by rfl)
    (db0 : (x == ("__debug__" : Str)) = false := by decide) (st0 : starEach (e :: es) X.env = (false, eval e X.env) :: starEach es X.env := by rfl) (pl0 : (backTo pos (starEach es X.env)).any (·.1) = false := by rfl) :
    PE X (.Call (.Name x p) (e :: es) [] pos) (tCall sp [] E t) := pe_call c.G (hr.mono hj) hg c.m c.kp c.b .nil (passes_call tk hW) ha db0 st0 pl0
end
end Mus

set_option maxRecDepth 100000
set_option maxHeartbeats 4000000
/-! Calls whose errors are caught where the slots stand. -/
namespace Mus
open PySem PySem.Spec PyProof.Rows L2
/-! ### calls in a try's body -/
def tMethA (C : Addr) (m : Str) (sp : Sp) (E : L2.St → XK) (ta : TE) (t : TA) : TE := fun σ H Q => ta σ H fun x H1 => ∃ a dx fs, x = .ref a ∧ H1 a = some (.ins C dx fs) ∧ fs.lookup m = none ∧ t σ H1 fun vs H2 => sp (x :: vs) H2 Q (E σ)
section
variable {X : Cx} {C : Addr} {x m : Str} {ps : List Str} {j k : Nat} {sp : Sp} {o e : Expr} {es : List Expr} {to : TE} {t : TA} {p pos apos : Pos} {W : WX}
theorem pmethA {pl : Sem Bool} (c : MethOk X.prog X.w X.K X.mg X.base (L2.CX X.prog X.w) C m ps j sp) (cl : Cls X.K C) (tk : Takes X W) (ho : PE X o to) (hr : Room k X.A) (ha : PA X (e :: es) t) (hj : j ≤ k := by first | decide | omega)
    (st0 : starEach (e :: es) X.env = (false, eval e X.env) :: starEach es X.env := by rfl) (pl0 : (backTo pos (starEach es X.env)).any (·.1) = false := by rfl)
    (ht : eval (.Call (.Attribute o m apos) (e :: es) [] pos) X.env = (do
      let v ← eval o X.env; standAt apos.atName; let (f, one) ← holding [v] (getMethod v m pl)
      callWith pos f one (backTo pos (starEach (e :: es) X.env)) (backToKw pos (keywordEach [] X.env))) := by rfl) :
    PE X (.Call (.Attribute o m apos) (e :: es) [] pos) (tMethA C m sp (WE W) to t) := by
  refine ⟨fun pins s σ H Q I h => ?_⟩
  refine PySem.W.methodCall_KW (pl := pl) (thn (ho.run pins s σ H _ I h) fun u s1 ⟨x, H1, I1, rx, a, dx, fs, ex, ea, l, q⟩ => ?_) ht
  subst ex
  obtain rfl : u = Value.ref a := rx
  refine getmeth_ok I1 ea cl c.m l ?_
  refine PySem.W.callWith_K (first := [.ref a]) (h₀ := X.base) I.ok.mod.kin c.m.kp (thn (ha.run pos pins s1 σ H1 _ I1 q) fun us s2 ⟨vs, H2, I2, r, q2⟩ => ⟨I2.kIn, ?_⟩) st0 pl0
  exact run_fnS (us := .ref a :: us) (vs := .ref a :: vs) c.G (hr.mono hj) c.b (passAt tk σ) I2 (.cons rfl r) q2
theorem pmethA0 {pl : Sem Bool} (c : MethOk X.prog X.w X.K X.mg X.base (L2.CX X.prog X.w) C m ps j sp) (cl : Cls X.K C) (tk : Takes X W) (ho : PE X o to) (hr : Room k X.A) (hj : j ≤ k := by first | decide | omega)
    (ht : eval (.Call (.Attribute o m apos) [] [] pos) X.env = (do
      let v ← eval o X.env; standAt apos.atName; let (f, one) ← holding [v] (getMethod v m pl)
      callWith pos f one (backTo pos (starEach [] X.env)) (backToKw pos (keywordEach [] X.env))) := by rfl) :
    PE X (.Call (.Attribute o m apos) [] [] pos) (tMethA C m sp (WE W) to tNil) := by
  refine ⟨fun pins s σ H Q I h => ?_⟩
  refine PySem.W.methodCall_KW (pl := pl) (thn (ho.run pins s σ H _ I h) fun u s1 ⟨x, H1, I1, rx, a, dx, fs, ex, ea, l, q⟩ => ?_) ht
  subst ex
  obtain rfl : u = Value.ref a := rx
  refine getmeth_ok I1 ea cl c.m l ?_
  refine PySem.W.callWith_K0 (first := [.ref a]) I1.kIn c.m.kp ?_
  exact run_fnS (us := [.ref a]) (vs := [.ref a]) c.G (hr.mono hj) c.b (passAt tk σ) I1 (.cons rfl .nil) q
theorem pcallA (c : DefOk X.prog X.w X.K X.mg X.base (L2.CX X.prog X.w) x ps j sp) (tk : Takes X W) (hr : Room k X.A) (ha : PA X (e :: es) t) (hj : j ≤ k := by first | decide | omega) (hg : Gl X x := by rfl)
    (db0 : (x == ("__debug__" : Str)) = false := by decide) (st0 : starEach (e :: es) X.env = (false, eval e X.env) :: starEach es X.env := by rfl) (pl0 : (backTo pos (starEach es X.env)).any (·.1) = false := by rfl) :
    PE X (.Call (.Name x p) (e :: es) [] pos) (tCallS sp (WE W) t) := pe_callS c.G (hr.mono hj) hg c.m c.kp c.b (fun σ => passAt tk σ) ha db0 st0 pl0
end
end Mus

set_option maxRecDepth 100000
set_option maxHeartbeats 4000000
/-! The same rules, so that Lean finds the inner readings: they may name what they don't depend on. -/
namespace Mus
open PySem PySem.Spec PyProof.Rows L2
def s00 : Shared := {}
def h00 : Hp := fun _ => none
def o00 : Obj := default
def x00 : Value → Shared → Prop := fun _ _ => False
section
variable {X : Cx} {x n : Str} {c : Value} {i : Nat} {body suite : List Stmt} {b₀ : Stmt} {np pos pos' : Pos} {tb : WX → List (Addr × Obj) → (Value → Shared → Prop) → TS} {ts : Addr → Obj → Value → Option Addr → List (Addr × Obj) → TS} {Wout : WX}
theorem ps_tryAs (hs : X.stack = X.env :: X.outer) (hf : X.env.frame = some X.env.locals) (hN : X.N.Nodup) (hi : X.N[i]? = some n) (hln : X.env.kindOf n = some .local) (hc : Names X x c) (tk : Takes X Wout)
    (hb : ∀ W pn xe, Takes (X.tr pn xe) W → PassesOwn (model X.prog X.w) X.A X.env xe → PSs (X.tr pn xe) body (tb W pn xe)) (hsu : ∀ a oe cls d pn, Zc cls d oe → (∃ vs, oe.data = .fields vs) → PSs (X.suite a ((a, oe) :: pn)) (b₀ :: suite) (ts a oe cls d pn))
    (i1 : ∀ W pn xe, tb W pn xe = tb W [] x00 := by intros; rfl) (i2 : ∀ a oe cls d pn, ts a oe cls d pn = ts a o00 cls d [] := by intros; rfl) :
    PS X (.Try body [.ExceptHandler (some (.Name x np)) (some n) (b₀ :: suite) pos'] [] [] pos) (fun D σ H => tb (wAs X.K c i (fun a cls d => ts a o00 cls d []) Wout D) [] x00 D σ H) :=
  ps_try_as (tb := fun W => tb W [] x00) hs hf hN hi hln hc tk (fun W pn xe t p => i1 W pn xe ▸ hb W pn xe t p) fun a oe cls d pn z f => i2 a oe cls d pn ▸ hsu a oe cls d pn z f
end
section
variable {X : Cx} {body : List Stmt} {h₀ : ExceptHandler} {hds : List ExceptHandler} {l : List (Value × (Addr → Value → Option Addr → TS))} {pos : Pos} {tb : WX → List (Addr × Obj) → (Value → Shared → Prop) → TS} {Wout : WX}
theorem ps_tryX (hs : X.stack = X.env :: X.outer) (hf : X.env.frame = some X.env.locals) (tk : Takes X Wout)
    (hb : ∀ W pn xe, Takes (X.tr pn xe) W → PassesOwn (model X.prog X.w) X.A X.env xe → PSs (X.tr pn xe) body (tb W pn xe)) (hh : HdsOk X (h₀ :: hds) l) (i1 : ∀ W pn xe, tb W pn xe = tb W [] x00 := by intros; rfl) :
    PS X (.Try body (h₀ :: hds) [] [] pos) (fun D σ H => tb (wMany X.K Wout D l) [] x00 D σ H) :=
  ps_try_many (tb := fun W => tb W [] x00) hs hf tk (fun W pn xe t p => i1 W pn xe ▸ hb W pn xe t p) hh
theorem hd_one {x : Str} {c : Value} {ts : Addr → Obj → Value → Option Addr → List (Addr × Obj) → TS} {b₀ : Stmt} {suite : List Stmt} {np pos' : Pos} (hc : Names X x c)
    (hsu : ∀ a oe cls d pn, Zc cls d oe → (∃ vs, oe.data = .fields vs) → PSs (X.suite a ((a, oe) :: pn)) (b₀ :: suite) (ts a oe cls d pn)) (r : HdsOk X hds l) (i2 : ∀ a oe cls d pn, ts a oe cls d pn = ts a o00 cls d [] := by intros; rfl) :
    HdsOk X (.ExceptHandler (some (.Name x np)) none (b₀ :: suite) pos' :: hds) ((c, fun a cls d => ts a o00 cls d []) :: l) :=
  .cons hc (fun a oe cls d pn z f => i2 a oe cls d pn ▸ hsu a oe cls d pn z f) r
end
section
variable {X : Cx} {elt tg iter : Expr} {ifs : List Expr} {scope : Scope} {own : List (Str × Nat)} {pos : Pos} {wi : TI} {g : Shared → Hp → Addr → List (Str × Addr) → List Addr → TG} {tt : Shared → Hp → Addr → List (Str × Addr) → List Addr → TT} {te : Shared → Hp → Addr → List (Str × Addr) → List Addr → TE}
theorem pe_lcX (hc : X.calm = true) (hN : X.N.Nodup) (hi : PI X tg iter wi) (ok : BlkOk X.N X.env.scope scope own)
    (hg : ∀ (s : Shared) (H : Hp) (C : Addr) (cl : List (Str × Addr)) (fp : List Addr), PG (X.blk s H scope (compEnvC scope cl C X.env) fp) tg (g s H C cl fp)) (ht : ∀ (s : Shared) (H : Hp) (C : Addr) (cl : List (Str × Addr)) (fp : List Addr), PTs (X.blk s H scope (compEnvC scope cl C X.env) fp) ifs (tt s H C cl fp))
    (he : ∀ (s : Shared) (H : Hp) (C : Addr) (cl : List (Str × Addr)) (fp : List Addr), PE (X.blk s H scope (compEnvC scope cl C X.env) fp) elt (te s H C cl fp)) (hs : ∀ x, foldedSetIterable iter X.env x = pure x := by intro _; rfl)
    (i1 : ∀ s H C cl fp, g s H C cl fp = g s00 h00 0 [] [] := by intros; rfl) (i2 : ∀ s H C cl fp, tt s H C cl fp = tt s00 h00 0 [] [] := by intros; rfl) (i3 : ∀ s H C cl fp, te s H C cl fp = te s00 h00 0 [] [] := by intros; rfl) :
    PE X (.ListComp elt [⟨tg, iter, ifs, 0⟩] scope pos) (tLc wi (g s00 h00 0 [] []) (tt s00 h00 0 [] []) (te s00 h00 0 [] []) (own.map (·.2))) :=
  pe_lc hc hN hi ok (fun s H C cl fp => i1 s H C cl fp ▸ hg s H C cl fp) (fun s H C cl fp => i2 s H C cl fp ▸ ht s H C cl fp) (fun s H C cl fp => i3 s H C cl fp ▸ he s H C cl fp) hs
theorem ps_setLcX {i : Nat} {y : Str} {py : Pos} {spos : Pos} (hc : X.calm = true) (hN : X.N.Nodup) (hy : X.N[i]? = some y) (hyl : X.env.scope.names.lookup y = some .local)
    (hsw : swapsWith (.ListComp elt [⟨tg, iter, ifs, 0⟩] scope pos) (some (.Name y py)) spos.line X.env = pure true) (hi : PI X tg iter wi) (ok : BlkOk X.N X.env.scope scope own)
    (hg : ∀ (s : Shared) (H : Hp) (C : Addr) (cl : List (Str × Addr)) (fp : List Addr), PG (X.blk s H scope (compEnvC scope cl C X.env) fp) tg (g s H C cl fp)) (ht : ∀ (s : Shared) (H : Hp) (C : Addr) (cl : List (Str × Addr)) (fp : List Addr), PTs (X.blk s H scope (compEnvC scope cl C X.env) fp) ifs (tt s H C cl fp))
    (he : ∀ (s : Shared) (H : Hp) (C : Addr) (cl : List (Str × Addr)) (fp : List Addr), PE (X.blk s H scope (compEnvC scope cl C X.env) fp) elt (te s H C cl fp)) (hs : ∀ x, foldedSetIterable iter X.env x = pure x := by intro _; rfl)
    (i1 : ∀ s H C cl fp, g s H C cl fp = g s00 h00 0 [] [] := by intros; rfl) (i2 : ∀ s H C cl fp, tt s H C cl fp = tt s00 h00 0 [] [] := by intros; rfl) (i3 : ∀ s H C cl fp, te s H C cl fp = te s00 h00 0 [] [] := by intros; rfl) :
    PS X (.Assign [.Name y py] (.ListComp elt [⟨tg, iter, ifs, 0⟩] scope pos) spos) (tAsg (tLc wi (g s00 h00 0 [] []) (tt s00 h00 0 [] []) (te s00 h00 0 [] []) (own.map (·.2))) (gName i)) :=
  ps_setLc hc hN hy hyl hsw hi ok (fun s H C cl fp => i1 s H C cl fp ▸ hg s H C cl fp) (fun s H C cl fp => i2 s H C cl fp ▸ ht s H C cl fp) (fun s H C cl fp => i3 s H C cl fp ▸ he s H C cl fp) hs
end
end Mus

set_option maxRecDepth 100000
set_option maxHeartbeats 4000000
/-! try whose clauses are of both kinds, named and not: the error on its way from clause to clause as one thing (Fell), and what each kind of clause does with it. -/
namespace Mus
open PySem PySem.Spec PyProof.Rows L2
/-- the error at a has come down in X's frame, nobody has taken it so far -/
structure Fell (X : Cx) (pins : List (Addr × Obj)) (σ : L2.St) (H : Hp) (a : Addr) (cls : Value) (d : Option Addr) (s : Shared) : Prop where
  inv : Inv X pins σ H s
  new : H a = none
  air : ∃ (B : Heap) (sI : Shared), Inv X pins σ H sI ∧ (∀ b o, sI.heap.get? b = some o → b ∉ frs X.stack → B.get? b = some o) ∧ sI.heap.UpToSlots s.heap ∧ HandSPX.FlyingZ B (X.env :: X.outer) a (Zc cls d) s.heap ∧ s.os = sI.os ∧ AllBare s.gens
section
variable {X : Cx} {pins : List (Addr × Obj)} {σ : L2.St} {H : Hp} {a : Addr} {cls : Value} {d : Option Addr} {s : Shared} {D : Ends} {W : WX}
/-- the error as an object, and that it is no frame -/
theorem Fell.obj (f : Fell X pins σ H a cls d s) (hs : X.stack = X.env :: X.outer) (hf : X.env.frame = some X.env.locals) : ∃ oe vs, s.heap.get? a = some oe ∧ Zc cls d oe ∧ oe.data = .fields vs ∧ a ≠ X.env.locals ∧ a ∉ X.fs := by
  obtain ⟨B, sI, _, _, _, fl, _⟩ := f.air
  obtain ⟨oe, vs, e1, e2, e3⟩ := fl.there
  have out : a ∉ frs (X.env :: X.outer) := fun m => by
    obtain ⟨_, o, e, no⟩ := fl.2.2.1.mem m
    exact no _ ((Option.some.inj (e1.symm.trans e)) ▸ e3)
  refine ⟨oe, vs, e1, e2, e3, fun z => out ?_, fun m => out ?_⟩
  · exact List.mem_filterMap.mpr ⟨X.env, .head _, z ▸ hf⟩
  · obtain ⟨e, m, q⟩ := List.mem_filterMap.mp m
    exact List.mem_filterMap.mpr ⟨e, .tail _ m, q⟩
/-- the body has let it go -/
theorem Fell.start {h' : Heap} {sI : Shared} {B : Heap} (J : Inv X pins σ H sI) (nb : ∀ b o, sI.heap.get? b = some o → b ∉ frs X.stack → B.get? b = some o) (up : sI.heap.UpToSlots s.heap) (na : H a = none) (os : s.os = sI.os) (ag : AllBare s.gens)
    (fl : HandSPX.FlyingZ B (X.env :: X.outer) a (Zc cls d) h') (up' : s.heap.UpToSlots h') : Fell X pins σ H a cls d { s with heap := h' } :=
  ⟨J.landed nb fl.1 (up.trans up') os ag, na, B, sI, J, nb, up.trans up', fl, os, ag⟩
theorem Fell.next {h' : Heap} {B : Heap} (f : Fell X pins σ H a cls d s) (g : ∀ B sI, Inv X pins σ H sI → (∀ b o, sI.heap.get? b = some o → b ∉ frs X.stack → B.get? b = some o) → sI.heap.UpToSlots s.heap → HandSPX.FlyingZ B (X.env :: X.outer) a (Zc cls d) s.heap → s.os = sI.os → AllBare s.gens →
    HandSPX.FlyingZ B (X.env :: X.outer) a (Zc cls d) h' ∧ s.heap.UpToSlots h') : Fell X pins σ H a cls d { s with heap := h' } := by
  obtain ⟨B, sI, J, nb, up, fl, os, ag⟩ := f.air
  obtain ⟨fl', up'⟩ := g B sI J nb up fl os ag
  exact .start J nb up f.new os ag fl' up'
/-- no clause is left: it goes on -/
theorem Fell.out {Q : Flow → Shared → Prop} (f : Fell X pins σ H a cls d s) (hs : X.stack = X.env :: X.outer) (hf : X.env.frame = some X.env.locals) (tk : Takes X W) (w : W cls d σ H) : wpAny (model X.prog X.w) X.A (handleBy (.ref a) X.env []) Q X.xe s := by
  obtain ⟨B, sI, J, nb, up, fl, os, ag⟩ := f.air
  refine wpAny_handleBy_nil ?_
  obtain ⟨_, _, _, oe, vs, T, _, _, e1, _, e3, e4, _⟩ := id fl
  unfold PySem.passOn
  refine wpAny_bind (wpAny_field e1 e3 e4 ?_)
  rw [if_neg (by simp : ¬ ((Value.ref T == Value.none) = true))]
  have go : wpAny (model X.prog X.w) X.A (setFlight (.ref a) X.env.frame) (fun _ s4 => wpAny (model X.prog X.w) X.A (throw (.ref a) : Sem Flow) Q X.xe s4) X.xe s := hf ▸
    HandSPX.setFlight_upZ fl fun h4 held up4 => wpAny_throw (tk _ _ ⟨a, B, sI, pins, σ, H, cls, d, rfl, J, nb, up.trans up4, .inr (.inr (hs ▸ held)), f.new, os, ag, w⟩)
  first
    | exact wpAny_bind (wpAny_pure (wpAny_bind go))
    | exact wpAny_bind go
/-- is it the clause's? -/
theorem Fell.asks {x : Str} {np : Pos} {c : Value} {b : Bool} {E : Value → Shared → Prop} {R : Bool → Shared → Prop} {F : Value → Shared → Prop} (f : Fell X pins σ H a cls d s) (hs : X.stack = X.env :: X.outer) (hf : X.env.frame = some X.env.locals) (hc : Names X x c) (hb : PySem.W.exmOne X.K cls c = some b)
    (h : R b s) : wpAny (model X.prog X.w) (X.A.mark (some (.ref a))) (eval (.Name x np) X.env) (fun c s1 => wpAny (model X.prog X.w) (X.A.mark (some (.ref a))) (excMatches (.ref a) c) (fun b s2 => R b s2) F s1) E s := by
  obtain ⟨oe, vs, e1, e2, e3, n1, n2⟩ := f.obj hs hf
  have S := f.inv.suite e1 e3 f.new n1 n2
  have L : PySem.W.Looks (model X.prog X.w) s.heap (typeOf (.ref a)) cls := fun A Q E s k q => wpAny_typeOf_ref (k _ _ e1) (e2.1 ▸ q)
  have M := PySem.W.exm_one (M := model X.prog X.w) f.inv.kIn L hb
  obtain ⟨hg, hd, hm | ⟨hm, hv, hn⟩⟩ := hc
  · exact ld_glob (X := X.suite a ((a, oe) :: (X.pn ++ pins))) S hg hm (M.here h) hd
  · exact ld_blt (X := X.suite a ((a, oe) :: (X.pn ++ pins))) S hg hm hv (M.here h) hn hd
end
/-- one clause: its class, its name's slot if it has one, its suite -/
structure Cl where
  c : Value
  i : Option Nat
  ts : Addr → Value → Option Addr → TS
/-- behind a suite the name's slot is empty -/
def endI (D : Ends) : Option Nat → Ends
  | none => D
  | some i => { nx := fun σ H => D.nx (σ.set i none) H, rt := D.rt, bk := fun σ H => D.bk (σ.set i none) H, ct := fun σ H => D.ct (σ.set i none) H }
def putI (a : Addr) (σ : L2.St) : Option Nat → L2.St
  | none => σ
  | some i => σ.set i (some (.ref a))
def wCl (K : PySem.W.Frag) (Wout : WX) (D : Ends) : List Cl → WX
  | [] => Wout
  | k :: r => fun cls d σ H => ∃ b, PySem.W.exmOne K cls k.c = some b ∧ (b = true → ∀ a, H a = none → k.ts a cls d (endI D k.i) (putI a σ k.i) H) ∧ (b = false → wCl K Wout D r cls d σ H)
/-- the clause's name -/
def Nm (X : Cx) : Option Str → Option Nat → Prop
  | none, none => True
  | some n, some i => X.N.Nodup ∧ X.N[i]? = some n ∧ X.env.kindOf n = some .local
  | _, _ => False
inductive Cls' (X : Cx) : List ExceptHandler → List Cl → Prop
  | nil : Cls' X [] []
  | cons {x : Str} {n : Option Str} {i : Option Nat} {c : Value} {ts : Addr → Value → Option Addr → TS} {b₀ : Stmt} {suite : List Stmt} {np pos' : Pos} {hds : List ExceptHandler} {l : List Cl} (hn : Nm X n i) (hc : Names X x c)
      (hsu : ∀ a oe cls d pn, Zc cls d oe → (∃ vs, oe.data = .fields vs) → PSs (X.suite a ((a, oe) :: pn)) (b₀ :: suite) (ts a cls d)) (r : Cls' X hds l) : Cls' X (.ExceptHandler (some (.Name x np)) n (b₀ :: suite) pos' :: hds) (⟨c, i, ts⟩ :: l)
section
variable {X : Cx} {pins : List (Addr × Obj)} {σ : L2.St} {H : Hp} {a : Addr} {cls : Value} {d : Option Addr} {s : Shared} {D : Ends} {W : WX}
/-- a suite without a name runs to its ends -/
theorem Fell.suite0 {b₀ : Stmt} {suite : List Stmt} {pos' : Pos} {t : TS} {E : Value → Shared → Prop} (f : Fell X pins σ H a cls d s) (hs : X.stack = X.env :: X.outer) (hf : X.env.frame = some X.env.locals)
    (hsu : ∀ oe pn, Zc cls d oe → (∃ vs, oe.data = .fields vs) → PSs (X.suite a ((a, oe) :: pn)) (b₀ :: suite) t) (q : t D σ H) :
    codeAny (model X.prog X.w) (X.A.mark (some (.ref a))) (.handlers (.ref a) [.ExceptHandler none none (b₀ :: suite) pos'] X.env) (fun r s2 => match r with | .ok g => SP X pins D g s2 | .error x => E x s2) s := by
  have ok := f.inv.ok
  refine codeAny_handlers_suite ?_
  obtain ⟨B, sI, J, nb, up, fl, os, ag⟩ := id f.air
  refine HandSPX.lands_againZ fl fun h4 fl4 up4 => ?_
  have f4 : Fell X pins σ H a cls d { s with heap := h4 } := .start J nb up f.new os ag fl4 up4
  obtain ⟨oe, vs, e1, e2, e3, n1, n2⟩ := f4.obj hs hf
  refine wpAny_mono ((hsu oe (X.pn ++ pins) e2 ⟨_, e3⟩).run [] _ σ H D (f4.inv.suite e1 e3 f.new n1 n2) q) (fun g s6 h => ?_) fun _ _ z => z.elim
  cases g with
  | ret u => obtain ⟨v, σ6, H6, S6, r6, q6⟩ := h; exact ⟨v, σ6, H6, S6.unsuite ok, r6, q6⟩
  | _ => obtain ⟨σ6, H6, S6, q6⟩ := h; exact ⟨σ6, H6, S6.unsuite ok, q6⟩
/-- one with a name -/
theorem Fell.suite1 {n : Str} {i : Nat} {b₀ : Stmt} {suite : List Stmt} {pos' : Pos} {t : TS} {E F : Value → Shared → Prop} (f : Fell X pins σ H a cls d s) (hs : X.stack = X.env :: X.outer) (hf : X.env.frame = some X.env.locals) (hN : X.N.Nodup) (hi : X.N[i]? = some n) (hl : X.env.kindOf n = some .local)
    (hsu : ∀ oe pn, Zc cls d oe → (∃ vs, oe.data = .fields vs) → PSs (X.suite a ((a, oe) :: pn)) (b₀ :: suite) t) (q : t (endI D (some i)) (σ.set i (some (.ref a))) H) :
    codeAny (model X.prog X.w) (X.A.mark (some (.ref a))) (.handlers (.ref a) [.ExceptHandler none (some n) (b₀ :: suite) pos'] X.env)
      (fun r s2 => match r with | .ok g => wpAny (model X.prog X.w) X.A (do bindName X.env n .none; unbindBehindTheSuite X.env n pos') (fun _ s3 => SP X pins D g s3) F s2 | .error x => E x s2) s := by
  have ok := f.inv.ok
  refine codeAny_handlers_suite_as ?_
  obtain ⟨B, sI, J, nb, up, fl, os, ag⟩ := id f.air
  refine HandSPX.lands_againZ fl fun h4 fl4 up4 => ?_
  have f4 : Fell X pins σ H a cls d { s with heap := h4 } := .start J nb up f.new os ag fl4 up4
  obtain ⟨oe, vs, e1, e2, e3, n1, n2⟩ := f4.obj hs hf
  refine store_ok (X := X.suite a ((a, oe) :: (X.pn ++ pins))) (v := .ref a) (f4.inv.suite e1 e3 f.new n1 n2) hN hi (.inl hl) rfl (fun s5 S5 => ?_) (.inr hl)
  refine wpAny_mono ((hsu oe (X.pn ++ pins) e2 ⟨_, e3⟩).run [] s5 _ H _ S5 q) (fun g s6 h => ?_) fun _ _ z => z.elim
  cases g with
  | ret u => obtain ⟨v, σ6, H6, S6, r6, q6⟩ := h; exact gone_ok (S6.unsuite ok) hN hi hl fun s7 J7 => ⟨v, _, _, J7, r6, q6⟩
  | _ => obtain ⟨σ6, H6, S6, q6⟩ := h; exact gone_ok (S6.unsuite ok) hN hi hl fun s7 J7 => ⟨_, _, J7, q6⟩
/-- from clause to clause -/
theorem Fell.all {hds : List ExceptHandler} {l : List Cl} (hh : Cls' X hds l) (hs : X.stack = X.env :: X.outer) (hf : X.env.frame = some X.env.locals) (tk : Takes X W) (f : Fell X pins σ H a cls d s) (w : wCl X.K W D l cls d σ H) :
    wpAny (model X.prog X.w) X.A (handleBy (.ref a) X.env hds) (SP X pins D) X.xe s := by
  induction hh with
  | nil => exact f.out hs hf tk w
  | @cons x n i c ts b₀ suite np pos' hds l hn hc hsu r ih =>
    obtain ⟨b, hb, yes, no⟩ := w
    refine wpAny_handleBy_cons (codeAny_handlers_test (f.asks (R := fun b s2 => _) hs hf hc hb ?_)) (by intro q; cases q)
    cases b with
    | false => exact ih (no rfl)
    | true =>
      have q := yes rfl a f.new
      match n, i, hn with
      | none, none, _ => exact f.suite0 hs hf (fun oe pn z k => hsu a oe cls d pn z k) q
      | some n, some i, ⟨h1, h2, h3⟩ => exact f.suite1 hs hf h1 h2 h3 (fun oe pn z k => hsu a oe cls d pn z k) q
end
section
variable {X : Cx} {body : List Stmt} {h₀ : ExceptHandler} {hds : List ExceptHandler} {l : List Cl} {pos : Pos} {tb : WX → List (Addr × Obj) → (Value → Shared → Prop) → TS} {Wout : WX}
theorem ps_tryC (hs : X.stack = X.env :: X.outer) (hf : X.env.frame = some X.env.locals) (tk : Takes X Wout)
    (hb : ∀ W pn xe, Takes (X.tr pn xe) W → PassesOwn (model X.prog X.w) X.A X.env xe → PSs (X.tr pn xe) body (tb W pn xe)) (hh : Cls' X (h₀ :: hds) l) (i1 : ∀ W pn xe, tb W pn xe = tb W [] x00 := by intros; rfl) :
    PS X (.Try body (h₀ :: hds) [] [] pos) (fun D σ H => tb (wCl X.K Wout D l) [] x00 D σ H) := by
  refine ⟨fun pins s σ H D I h => ?_⟩
  have ok := I.ok
  have fr : X.A.frames = some (X.env :: X.outer) := ok.frames.trans (hs ▸ rfl)
  rw [← i1 _ (X.pn ++ pins) (fun e s1 => wpAny (model X.prog X.w) X.A (noteFrame e X.env) (fun _ s2 => wpAny (model X.prog X.w) X.A (setFlight e none) (fun _ s3 => wpAny (model X.prog X.w) X.A (handleBy e X.env (h₀ :: hds)) (SP X pins D) X.xe s3) X.xe s2) X.xe s1)] at h
  refine wpAny_Try_except (wpAny_mono ((hb _ _ _ (fun u s' x => ?_) PassesOwn.looking).run [] s σ H D (I.toTry _) h) (fun f s1 e => ?_) fun _ _ e => e)
  · obtain ⟨a, B, sI, pins', σ', H', cls, d, rfl, J, nb, up, sky, na, os, ag, w⟩ := x
    exact Sky.land Zc.steady fr hf (show Sky B (X.env :: X.outer) a (Zc cls d) X.env.locals s'.heap from hs ▸ sky) fun h3 fl up3 => Fell.all hh hs hf tk (.start (J.ofTry ok) nb up na os ag fl up3) w
  · cases f with
    | next => obtain ⟨σ', H', J, q⟩ := e; exact wpAny_execs_nil ⟨σ', H', J.ofTry ok, q⟩
    | ret u => obtain ⟨v, σ', H', J, r, q⟩ := e; exact ⟨v, σ', H', J.ofTry ok, r, q⟩
    | _ => obtain ⟨σ', H', J, q⟩ := e; exact ⟨σ', H', J.ofTry ok, q⟩
theorem cl_one {x : Str} {c : Value} {ts : Addr → Obj → Value → Option Addr → List (Addr × Obj) → TS} {b₀ : Stmt} {suite : List Stmt} {np pos' : Pos} (hc : Names X x c)
    (hsu : ∀ a oe cls d pn, Zc cls d oe → (∃ vs, oe.data = .fields vs) → PSs (X.suite a ((a, oe) :: pn)) (b₀ :: suite) (ts a oe cls d pn)) (r : Cls' X hds l)
    (hj : ∀ a oe cls d pn, ts a oe cls d pn = ts a o00 cls d [] := by intros; rfl) : Cls' X (.ExceptHandler (some (.Name x np)) none (b₀ :: suite) pos' :: hds) (⟨c, none, fun a cls d => ts a o00 cls d []⟩ :: l) :=
  .cons trivial hc (fun a oe cls d pn z f => hj a oe cls d pn ▸ hsu a oe cls d pn z f) r
theorem cl_as {x n : Str} {i : Nat} {c : Value} {ts : Addr → Obj → Value → Option Addr → List (Addr × Obj) → TS} {b₀ : Stmt} {suite : List Stmt} {np pos' : Pos} (hN : X.N.Nodup) (hi : X.N[i]? = some n) (hln : X.env.kindOf n = some .local) (hc : Names X x c)
    (hsu : ∀ a oe cls d pn, Zc cls d oe → (∃ vs, oe.data = .fields vs) → PSs (X.suite a ((a, oe) :: pn)) (b₀ :: suite) (ts a oe cls d pn)) (r : Cls' X hds l)
    (hj : ∀ a oe cls d pn, ts a oe cls d pn = ts a o00 cls d [] := by intros; rfl) : Cls' X (.ExceptHandler (some (.Name x np)) (some n) (b₀ :: suite) pos' :: hds) (⟨c, some i, fun a cls d => ts a o00 cls d []⟩ :: l) :=
  .cons ⟨hN, hi, hln⟩ hc (fun a oe cls d pn z f => hj a oe cls d pn ▸ hsu a oe cls d pn z f) r
end
/-- isinstance(e, c), e what the suite holds, of the class D -/
theorem call_isEx {X : Cx} {a : Addr} {oe : Obj} {cls : Value} {d : Option Addr} {pn : List (Addr × Obj)} (hz : Zc cls d oe) (hf : ∃ vs, oe.data = .fields vs) :
    CallR (X.suite a ((a, oe) :: pn)) (.builtin "isinstance") (fun xs H Q => ∃ D, cls = .ref D ∧ d = none ∧ ExcC X.K D ∧ rIsE X.K D a xs H Q) := by
  intro pins s σ H xs us Q I r h
  obtain ⟨D, rfl, rfl, C, h⟩ := h
  exact call_isE C hz hf pins s σ H xs us Q I r h
end Mus

set_option maxRecDepth 100000
set_option maxHeartbeats 4000000
namespace Mus
open PySem L2 TL PySem.NumText
local macro_rules | `(tactic| walk_at "rd") => `(tactic| first
  | refine ⟨_, rfl, ?_⟩ | refine ⟨(True.intro : True), ?_⟩
  | refine ⟨_, _, rfl, rfl, (⟨by decide, by decide, by decide⟩ : CPow _ _), ?_⟩
  | refine ⟨_, _, rfl, rfl, (⟨by decide, by decide⟩ : CDiv _ _), ?_⟩
  | refine ⟨_, _, rfl, rfl, (by show (0 : Int) < _; decide), ?_⟩
  | refine ⟨_, _, rfl, rfl, ?_⟩ | refine ⟨rfl, ?_⟩ | refine iteT ?_ | refine iteF ?_ | refine ⟨_, _, rfl, ?_⟩ | refine .inl ⟨_, rfl, ?_⟩
  | refine ⟨_, _, _, _, _, rfl, (by assumption), (by assumption), (by assumption), rfl, ?_⟩ | refine ⟨_, _, _, _, rfl, rfl, SqT.of (by assumption), rfl, ?_⟩ | refine ⟨_, _, rfl, SqT.of (by assumption), rfl, ?_⟩
  | refine ⟨_, _, _, _, _, rfl, .ty _, Rp.ty (by assumption), kit_int _, ?_⟩ | refine ⟨_, _, _, _, _, rfl, .ty _, Rp.ty (by assumption), kit_bool _, ?_⟩
  | refine ⟨_, _, _, _, _, rfl, .ty _, Rp.ty (by assumption), kit_str _, ?_⟩ | refine ⟨_, _, _, _, _, rfl, .ty _, Rp.ty (by assumption), kit_tup _, ?_⟩)
local macro_rules | `(tactic| walk_at "cal") => `(tactic| first
  | refine ⟨_, _, _, _, _, rfl, (by assumption), ?_⟩ | refine ⟨_, _, _, _, _, rfl, (by assumption), (by assumption), ?_⟩)
local macro_rules | `(tactic| walk_at "sq") => `(tactic| first
  | refine ⟨_, _, rfl, Or.inr (SqT.of (by assumption)), ?_⟩ | refine ⟨_, _, _, _, rfl, rfl, SqT.of (by assumption), rfl, ?_⟩)
local macro_rules | `(tactic| walk_at "rds") => `(tactic| repeat first | walk_at "rd" | walk_at "cal" | walk_at "sq")
local macro_rules | `(tactic| walk_at "ze") => `(tactic| repeat first
  | exact zes_nil | exact ze_bl | exact ze_str | exact ze_non | apply zes_cons | apply ze_tup | apply ze_lst | apply ze_cat | exact di_c | exact di_v rfl | apply di_opC | apply di_op | apply di_neg | apply ze_i | (refine (⟨?_, ?_, ?_⟩ : CPow _ _) <;> decide) | exact Nat.le_of_ble_eq_true rfl | exact ze_varD rfl (by assumption))
local macro_rules | `(tactic| walk_at "rdz") => `(tactic| repeat (fail_if_success (first | show tLst _ _ _ _ | show tAsg (tLst _) _ _ _ _ | show tSeq (tAsg (tLst _) _) _ _ _ _)); first | walk_at "rd" | walk_at "cal" | walk_at "sq")
section
variable {P : Program} {w : World} {K : PySem.W.Frag} {mg : Str → Option Value} {base : Heap}
abbrev s__law_bag : Stmt := top 51
abbrev N__law_bag : List Str := ["script", "k", "cell"]
abbrev P__law_bag : List Str := ["script", "k"]
theorem sc__law_bag : FnScope N__law_bag P__law_bag (defScope s__law_bag) := ⟨rfl, rfl, rfl, by decide +kernel, rfl, by decide +kernel, by decide +kernel⟩
theorem ok__law_bag {f : Addr} {fd : FuncData} (T : Tx mg) (F : Fun K "_law_bag" "_law_bag" s__law_bag f fd) : FnOk P w K mg base CX0 (1) f fd P__law_bag (sp_bag K) := by
  have nd := sc__law_bag.nd
  refine F.ok sc__law_bag (fun vs H Q E h => ?_) (fun cdv A outer s H vs Q E hr h => ?_)
  · obtain ⟨_, _, _, rfl, _⟩ := h
    rfl
  · obtain ⟨a, ns, k, rfl, hS, q⟩ := h
    have hs := sl
    refine ⟨_, (pss_cons (ps_set (i := 2) nd rfl (Or.inl rfl) pe_int)
      (pss_cons (ps_if (pt_cmpR op_lt (pv 1) (pe_callB call_len_seq (by rfl) T.b_len (by decide +kernel) (pa_cons (pv 0) pa_nil)) (nomark _))
        (pss_one (ps_set (i := 2) nd rfl (Or.inl rfl) (pe_callTy call_int1 (by rfl) T.b_int (by decide +kernel) (pa_cons (pe_ix ix_list (pv 0) (pv 1) (fun _ _ => rfl)) pa_nil))))
        pss_nil)
      (pss_cons (ps_if (pt_cmpR op_ge (pv 2) (pe_op op_pow pe_int pe_int) (nomark _))
        (pss_one (ps_ret (pe_lst (pa_cons (pv 2) (pa_cons (pv 2) (pa_cons (pv 1) pa_nil))))))
        pss_nil)
      (pss_one (ps_ret (pe_lst (pa_cons pe_int (pa_cons (pv 2) (pa_cons (pv 1) pa_nil))))))))), ?_⟩
    have hl : (ns.map V.int).length = ns.length := List.length_map _
    have fin : ∀ x y : Int, ∀ p, H p = none → Q (.ref p) (upd H p (.lst [.int x, .int y, .int k])) := fun x y p np => q p _ np (same_new np _) ⟨x, y, upd_same⟩
    refine ⟨_, rfl, _, rfl, a, _, rfl, .inl hS, _, _, rfl, rfl, _, rfl, ?_⟩
    by_cases hk : (k : Int) < (((ns.map V.int).length : Nat) : Int)
    · refine dT hk ?_
      have hk2 : k < ns.length := by omega
      refine ⟨_, rfl, _, rfl, a, _, _, .int ns[k], rfl, rfl, hS, atI_nat (by rw [List.getElem?_map, List.getElem?_eq_getElem hk2]; rfl), .inl ⟨_, rfl, ?_⟩⟩
      refine ⟨_, rfl, _, _, rfl, rfl, ⟨by decide, by decide, by decide⟩, _, _, rfl, rfl, _, rfl, ?_⟩
      refine ite2 (fun _ => ?_) (fun _ => ?_)
      · exact ⟨_, rfl, _, rfl, _, rfl, by show 3 ≤ sizeLine; omega, fun p np => fin _ _ p np⟩
      · exact ⟨_, rfl, _, rfl, by show 3 ≤ sizeLine; omega, fun p np => fin _ _ p np⟩
    · refine dF hk ?_
      refine ⟨_, rfl, _, _, rfl, rfl, ⟨by decide, by decide, by decide⟩, _, _, rfl, rfl, _, rfl, ?_⟩
      refine ite2 (fun _ => ?_) (fun _ => ?_)
      · exact ⟨_, rfl, _, rfl, _, rfl, by show 3 ≤ sizeLine; omega, fun p np => fin _ _ p np⟩
      · exact ⟨_, rfl, _, rfl, by show 3 ≤ sizeLine; omega, fun p np => fin _ _ p np⟩
abbrev s__law_draw : Stmt := top 52
abbrev N__law_draw : List Str := ["bag", "many", "seed", "rest"]
abbrev P__law_draw : List Str := ["bag", "many"]
theorem sc__law_draw : FnScope N__law_draw P__law_draw (defScope s__law_draw) := ⟨rfl, rfl, rfl, by decide +kernel, rfl, by decide +kernel, by decide +kernel⟩
theorem ok__law_draw {f : Addr} {fd : FuncData} (T : Tx mg) (F : Fun K "_law_draw" "_law_draw" s__law_draw f fd) : FnOk P w K mg base CX0 (1) f fd P__law_draw (sp_draw) := by
  have nd := sc__law_draw.nd
  refine F.ok sc__law_draw (fun vs H Q E h => ?_) (fun cdv A outer s H vs Q E hr h => ?_)
  · obtain ⟨_, _, _, rfl, _⟩ := h
    rfl
  · obtain ⟨p, c, m, rfl, ⟨x, y, hp⟩, hm, hm2, q⟩ := h
    refine ⟨_, (pss_cons (ps_if (pt_cmpR op_eq (pe_ix ix_list (pv 0) pe_int (fun _ _ => rfl)) pe_int (nomark _))
        (pss_cons (ps_set (i := 2) nd rfl (Or.inl rfl) (pe_op op_mod (pe_callTy call_int1 (by rfl) T.b_int (by decide +kernel) (pa_cons (pe_op op_add (pe_op op_add (pe_op op_mul (pe_ix ix_list (pv 0) pe_int (fun _ _ => rfl)) pe_int) (pe_op op_mul (pe_ix ix_list (pv 0) pe_int (fun _ _ => rfl)) pe_int)) pe_int) pa_nil)) pe_int))
        (pss_cons (ps_asg (pe_op op_add (pe_op op_mul (pv 2) pe_int) (pe_op op_mod (pe_callTy call_int1 (by rfl) T.b_int (by decide +kernel) (pa_cons (pe_op op_add (pe_op op_mul (pv 2) (pv 2)) (pe_op op_mul (pe_ix ix_list (pv 0) pe_int (fun _ _ => rfl)) pe_int)) pa_nil)) pe_int)) (pg_sub (pv 0) pe_int set_list))
        (pss_one (ps_asg (pv 2) (pg_sub (pv 0) pe_int set_list)))))
        pss_nil)
      (pss_cons (ps_set (i := 3) nd rfl (Or.inl rfl) (pe_ix ix_list (pv 0) pe_int (fun _ _ => rfl)))
      (pss_cons (ps_asg (pe_op op_fdivW (pv 3) (pv 1)) (pg_sub (pv 0) pe_int set_list))
      (pss_one (ps_ret (pe_op op_mod (pe_callTy call_int1 (by rfl) T.b_int (by decide +kernel) (pa_cons (pv 3) pa_nil)) (pv 1))))))), ?_⟩
    have wd : CDivW 0 m := wide_div (i := 0) hm hm2 (by omega) (by omega)
    refine ⟨_, rfl, p, _, _, _, rfl, rfl, SqL.of hp, rfl, rfl, _, rfl, ?_⟩
    by_cases h0 : x = 0
    · subst h0
      refine dT rfl ?_
      refine ⟨_, rfl, p, _, _, _, rfl, rfl, SqL.of hp, rfl, _, _, rfl, rfl, .inr ⟨by decide, by decide⟩, ?_⟩
      refine ⟨_, rfl, p, _, _, _, rfl, rfl, SqL.of hp, rfl, _, _, rfl, rfl, .inr ⟨by decide, by decide⟩, _, _, rfl, rfl, _, _, rfl, rfl, .inl ⟨_, rfl, _, _, rfl, rfl, (by show (0 : Int) < 2147483647; decide), ?_⟩⟩
      have b0 : 0 ≤ (y * 48271 + c * 69621 + 11) % 2147483647 := Int.emod_nonneg _ (by decide)
      have b1 : (y * 48271 + c * 69621 + 11) % 2147483647 < 2147483647 := Int.emod_lt_of_pos _ (by decide)
      have bb : -(2 ^ 64) < (y * 48271 + c * 69621 + 11) % 2147483647 ∧ (y * 48271 + c * 69621 + 11) % 2147483647 < 2 ^ 64 := ⟨by omega, by omega⟩
      refine ⟨_, rfl, _, _, rfl, rfl, .inl bb, _, rfl, _, rfl, _, _, rfl, rfl, .inl bb, _, rfl, p, _, _, _, rfl, rfl, SqL.of hp, rfl, _, _, rfl, rfl, .inr ⟨by decide, by decide⟩, _, _, rfl, rfl, .inl ⟨_, rfl, _, _, rfl, rfl, (by show (0 : Int) < 2147483629; decide), _, _, rfl, rfl, ?_⟩⟩
      refine ⟨_, rfl, p, _, _, 0, rfl, rfl, hp, rfl, ?_⟩
      refine ⟨_, rfl, _, rfl, p, _, _, 1, rfl, rfl, upd_same, rfl, ?_⟩
      refine ⟨_, rfl, p, _, _, _, rfl, rfl, SqL.of upd_same, rfl, ?_⟩
      refine ⟨_, rfl, _, rfl, _, _, rfl, rfl, wd, _, rfl, p, _, _, 0, rfl, rfl, upd_same, rfl, ?_⟩
      refine ⟨_, rfl, .inl ⟨_, rfl, _, rfl, _, _, rfl, rfl, hm, ?_⟩⟩
      exact q _ _ (Int.emod_nonneg _ (by omega)) (Int.emod_lt_of_pos _ hm) ((but_upd _).trans ((but_upd _).trans (but_upd _))) ⟨_, _, upd_same⟩
    · refine dF (by intro z; cases z; exact h0 rfl) ?_
      refine ⟨_, rfl, p, _, _, _, rfl, rfl, SqL.of hp, rfl, ?_⟩
      refine ⟨_, rfl, _, rfl, _, _, rfl, rfl, wd, _, rfl, p, _, _, 0, rfl, rfl, hp, rfl, ?_⟩
      refine ⟨_, rfl, .inl ⟨_, rfl, _, rfl, _, _, rfl, rfl, hm, ?_⟩⟩
      exact q _ _ (Int.emod_nonneg _ (by omega)) (Int.emod_lt_of_pos _ hm) (but_upd _) ⟨_, _, upd_same⟩

abbrev s__law_positive : Stmt := top 53
abbrev N__law_positive : List Str := ["bag"]
abbrev P__law_positive : List Str := ["bag"]
theorem sc__law_positive : FnScope N__law_positive P__law_positive (defScope s__law_positive) := ⟨rfl, rfl, rfl, by decide +kernel, rfl, by decide +kernel, by decide +kernel⟩
theorem ok__law_positive {f : Addr} {fd : FuncData} (T : Tx mg) (c__law_draw : DefOk P w K mg base CX0 "_law_draw" P__law_draw 1 (sp_draw))(F : Fun K "_law_positive" "_law_positive" s__law_positive f fd) : FnOk P w K mg base CX0 (2) f fd P__law_positive (sp_pos) := by
  have nd := sc__law_positive.nd
  refine F.ok sc__law_positive (fun vs H Q E h => ?_) (fun cdv A outer s H vs Q E hr h => ?_)
  · obtain ⟨_, _, rfl, _⟩ := h
    rfl
  · obtain ⟨p, c, rfl, g, q⟩ := h
    refine ⟨_, (pss_cons (ps_if (pt_cmpR op_eq (pcall c__law_draw hr (pa_cons (pv 0) (pa_cons pe_int pa_nil))) pe_int (nomark _))
        (pss_one (ps_ret (pe_op op_add pe_int (pcall c__law_draw hr (pa_cons (pv 0) (pa_cons (pe_op op_pow pe_int pe_int) pa_nil))))))
        pss_nil)
      (pss_one (ps_ret (pe_op op_add pe_int (pcall c__law_draw hr (pa_cons (pv 0) (pa_cons pe_int pa_nil))))))), ?_⟩
    refine ⟨_, rfl, p, c, _, rfl, g, by decide, by decide, fun r H1 r0 r1 b1 g1 => ?_⟩
    refine ⟨rfl, ?_⟩
    refine ⟨_, rfl, ?_⟩
    refine iB (fun _ => ?_) (fun _ => ?_)
    · walk_at "rds"
      refine ⟨p, c, 1000000000000, rfl, g1, by decide, by decide, fun r2 H2 s0 s1 b2 g2 => ?_⟩
      refine ⟨_, _, rfl, rfl, ?_⟩
      exact q _ _ (by omega) (by omega) (b1.trans b2) g2
    · walk_at "rds"
      refine ⟨p, c, _, rfl, g1, by decide, by decide, fun r2 H2 s0 s1 b2 g2 => ?_⟩
      refine ⟨_, _, rfl, rfl, ?_⟩
      exact q _ _ (by omega) (by omega) (b1.trans b2) g2
abbrev s__law_members : Stmt := top 55
abbrev N__law_members : List Str := ["bag", "count", "lives", "k", "process"]
abbrev P__law_members : List Str := ["bag", "count"]
theorem sc__law_members : FnScope N__law_members P__law_members (defScope s__law_members) := ⟨rfl, rfl, rfl, by decide +kernel, rfl, by decide +kernel, by decide +kernel⟩
theorem ok__law_members {f : Addr} {fd : FuncData} (T : Tx mg) (c__law_draw : DefOk P w K mg base CX0 "_law_draw" P__law_draw 1 (sp_draw)) (c__law_positive : DefOk P w K mg base CX0 "_law_positive" P__law_positive 2 (sp_pos))(F : Fun K "_law_members" "_law_members" s__law_members f fd) : FnOk P w K mg base CX0 (3) f fd P__law_members (sp_mems) := by
  have nd := sc__law_members.nd
  refine F.ok sc__law_members (fun vs H Q E h => ?_) (fun cdv A outer s H vs Q E hr h => ?_)
  · obtain ⟨_, _, _, rfl, _⟩ := h
    rfl
  · obtain ⟨p, c, n, rfl, g, n0, n1, q⟩ := h
    have hu := hu_of hr
    have hs := sl
    refine ⟨_, (pss_cons (ps_set (i := 2) nd rfl (Or.inr rfl) pe_dnewK)
      (pss_cons (ps_for PassesOwn.never rfl (pi_range1 (by rfl) T.b_range (pa_cons (pe_op op_add pe_int (pcall c__law_draw hr (pa_cons (pv 0) (pa_cons pe_int pa_nil)))) pa_nil)) (pg_name (i := 3) nd rfl (Or.inl rfl))
        (pss_one (ps_dput hu (pv 2) (pcall c__law_draw hr (pa_cons (pv 0) (pa_cons (pv 1) pa_nil))) (pcall c__law_positive hr (pa_cons (pv 0) pa_nil)) rfl)))
      (pss_one (ps_ret (pe_callTy call_tuple_of (by rfl) T.b_tuple (by decide +kernel) (pa_cons (pe_lcX (own := [("process", 4)]) rfl nd (pi_list (pe_callB (call_sortedDI rfl) (by rfl) T.b_sorted (by decide +kernel) (pa_cons (pv 2) pa_nil))) (blkOk_by (own := [("process", 4)]) (N := N__law_members) (sc := defScope s__law_members) (by decide +kernel)) (fun _ _ _ _ _ => (pg_name (i := 4) nd rfl (Or.inl rfl))) (fun _ _ _ _ _ => pts_nil) (fun _ _ _ _ _ => (pe_tup (pa_cons (pv 4) (pa_cons (pe_dget hu (pv 2) (pv 4) (fun _ _ => rfl)) pa_nil))))) pa_nil)))))), ?_⟩
    intro d nd
    have pd := g.ne nd
    have g := g.new (o := .dK []) nd
    refine ⟨_, rfl, p, c, _, rfl, g, by decide, by decide, fun r H1 r0 r1 b1 g1 => ?_⟩
    have hd1 := b1 d _ upd_same pd.symm
    refine ⟨_, _, rfl, rfl, _, rfl, by omega, by omega, for_range (lo := 0) (n := (1 + r).toNat) (fun i σ H' => ∃ (kvs : List (Key × V)) (x : Option V), σ = [some (.ref p), some (.int n), some (.ref d), x, none] ∧ But p H H' ∧ Bag p c H' ∧ H' d = some (.dK kvs) ∧ KvI n 1000000000000 kvs ∧ kvs.length ≤ i ∧ (0 < i → kvs ≠ [])) ?_ ?_ ?_⟩
    · exact ⟨[], none, rfl, ((But.refl p H).new nd).trans b1, g1, hd1, fun kv h => absurd h List.not_mem_nil, Nat.le_refl _, fun h => absurd h (by decide)⟩
    · rintro i σ H2 hi ⟨kvs, x, rfl, b2, g2, hd2, hk, hl, _⟩
      refine ⟨_, rfl, p, c, rfl, g2, fun l H3 l0 l1 b3 g3 => ?_⟩
      refine ⟨_, rfl, ?_⟩
      refine ⟨_, rfl, ?_⟩
      refine ⟨_, rfl, ?_⟩
      refine ⟨p, c, n, rfl, g3, by omega, by omega, fun k H4 k0 k1 b4 g4 => ?_⟩
      have hd4 := b4 d _ (b3 d _ hd2 pd.symm) pd.symm
      refine ⟨d, _, rfl, DPut.k (k := Sum.inl k) hd4 (by omega), ?_⟩
      exact ⟨_, _, rfl, (b2.trans (b3.trans b4)).later nd, g4.upd pd, upd_same, hk.put k0 k1 l0 l1, Nat.le_trans (putK_le _ _ _) (by omega), fun _ => putK_ne _ _ _⟩
    · rintro σ H2 ⟨kvs, x, rfl, b2, g2, hd2, hk, hl, hne⟩
      have hne := hne (by omega)
      refine ⟨_, rfl, d, kvs, _, rfl, .inl hd2, hk.keys, by rw [List.length_map]; omega, fun ys s pm _ ns => ?_⟩
      have b3 := b2.new (o := .lst (ys.map V.int)) ns
      have g3 := g2.new (o := .lst (ys.map V.int)) ns
      have ds : d ≠ s := ne_of_none hd2 ns
      have hd3 : (upd H2 s (.lst (ys.map V.int))) d = some (.dK kvs) := by rw [upd_ne ds]; exact hd2
      refine ⟨s, rfl, ⟨_, SqL.of upd_same⟩, fun D nD => ?_⟩
      have sD : s ≠ D := ne_of_none upd_same nD
      have dD : d ≠ D := ne_of_none hd3 nD
      have pD := g3.ne nD
      have ly : ys.length = kvs.length := by rw [pm.length_eq, List.length_map]
      refine lc_list (K := K) (a := s) (xs := ys.map V.int) (fun i H' => ∃ (ws : List V) (ds : List PyData), H' D = some (.lst ws) ∧ H' s = some (.lst (ys.map V.int)) ∧ H' d = some (.dK kvs) ∧ Rps p H' ws ds ∧ Mems n ds ∧ ds.length = i ∧ But p H H' ∧ Bag p c H') ?_ ?_ ?_ ?_
      · exact ⟨[], [], upd_same, by rw [upd_ne sD]; exact upd_same, by rw [upd_ne dD]; exact hd3, .nil, fun d h => absurd h List.not_mem_nil, rfl, b3.new nD, g3.upd pD⟩
      · rintro i H' _ ⟨ws, ds, _, h2, _⟩
        exact SqL.of h2
      · rintro i x H' hx ⟨ws, ds, h1, h2, h3, h4, h5, h6, b5, g5⟩
        obtain ⟨k, hk1, hk2⟩ : ∃ k, k ∈ ys ∧ x = V.int k := by
          rw [List.getElem?_map] at hx
          cases e : ys[i]? with
          | none => rw [e] at hx; cases hx
          | some k => rw [e] at hx; exact ⟨k, List.mem_of_getElem? e, (Option.some.inj hx).symm⟩
        subst hk2
        have hi : i < ys.length := by
          have := (List.getElem?_eq_some_iff.mp hx).1
          rwa [List.length_map] at this
        obtain ⟨v, hv, hm⟩ := valV_mem (kvs := kvs) (k := (Sum.inl k : Key)) (by rw [hk.keys]; exact List.mem_map.mpr ⟨k, pm.mem_iff.mp hk1, rfl⟩)
        obtain ⟨i0, l0, e, q0, q1, q2, q3⟩ := hk _ hm
        cases e
        refine ⟨rfl, ?_⟩
        refine ⟨_, rfl, _, rfl, _, rfl, d, _, rfl, (hv ▸ DGet.k (k := Sum.inl k) h3), by show 2 ≤ sizeLine; omega, fun t nt => ?_⟩
        have st := same_new nt (.tup [V.int k, V.int l0])
        refine ⟨ws, st _ _ h1, by have := h4.length; omega, ws ++ [.ref t], ds ++ [.tuple [.int k, .int l0]], upd_same, ?_, ?_, ?_, ?_, by rw [List.length_append, h6]; rfl, ?_, ?_⟩
        · rw [upd_ne sD]; exact st _ _ h2
        · rw [upd_ne dD]; exact st _ _ h3
        · have r1 : Rps p (upd H' t (.tup [V.int k, V.int l0])) (ws ++ [.ref t]) (ds ++ [.tuple [.int k, .int l0]]) := (h4.same st).append (.cons (.tup upd_same (g5.ne nt).symm (by show 2 ≤ 100000; decide) (.cons (.int _) (.cons (.int _) .nil))) .nil)
          refine r1.updL (st _ _ h1) fun d hd => ?_
          rcases List.mem_append.mp hd with hd | hd
          · exact h5.noL d hd
          · rw [List.mem_singleton.mp hd]; exact .two (.int _) (.int _)
        · intro d hd
          rcases List.mem_append.mp hd with hd | hd
          · exact h5 d hd
          · rw [List.mem_singleton.mp hd]; exact ⟨k, l0, rfl, q0, q1, q2, q3⟩
        · exact (b5.new nt).later (b3.free nD pD.symm)
        · exact (g5.new nt).upd pD
      · rintro H' ⟨ws, ds, h1, h2, h3, h4, h5, h6, b5, g5⟩
        rw [List.length_map] at h6
        refine ⟨D, ws, rfl, .inl ⟨SqL.of h1, fun a na => ?_⟩⟩
        have lw := h4.length
        have l0 : 0 < kvs.length := List.length_pos_iff.mpr hne
        exact q a _ ds (.tup upd_same (g5.ne na).symm (by omega) (h4.same (same_new na _))) h5 (by omega) (by omega) (b5.new na) (g5.new na)
theorem fit_len {n : Nat} {ds : List PyData} (h : fit n (.tuple ds)) : ds.length ≤ 3000 := by
  cases n with
  | zero => exact h.elim
  | succ n => exact h.1
theorem dTup_tuple {d : PyData} (h : dTup d = true) : ∃ ds, d = .tuple ds := by cases d <;> first | exact ⟨_, rfl⟩ | cases h
end
end Mus

set_option maxRecDepth 100000
set_option maxHeartbeats 4000000
/-! Data stand where a thing that is no list and no tuple changes. -/
namespace Mus
open PySem L2
mutual
theorem Rp.upN {p D : Addr} {H : Hp} {o : HO} (h1 : ∀ xs, H D ≠ some (.lst xs)) (h2 : ∀ xs, H D ≠ some (.tup xs)) : ∀ {v : V} {d : PyData}, Rp p H v d → Rp p (upd H D o) v d
  | _, _, .non => .non
  | _, _, .bl b => .bl b
  | _, _, .int i => .int i
  | _, _, .str x => .str x
  | _, _, .lst h n r => .lst (by rw [upd_ne fun z => h1 _ (by rw [← z]; exact h)]; exact h) n (Rps.upN h1 h2 r)
  | _, _, .tup h n l r => .tup (by rw [upd_ne fun z => h2 _ (by rw [← z]; exact h)]; exact h) n l (Rps.upN h1 h2 r)
theorem Rps.upN {p D : Addr} {H : Hp} {o : HO} (h1 : ∀ xs, H D ≠ some (.lst xs)) (h2 : ∀ xs, H D ≠ some (.tup xs)) : ∀ {vs : List V} {ds : List PyData}, Rps p H vs ds → Rps p (upd H D o) vs ds
  | _, _, .nil => .nil
  | _, _, .cons a b => .cons (Rp.upN h1 h2 a) (Rps.upN h1 h2 b)
end
theorem rp_tup {p t : Addr} {c : Int} {H : Hp} {vs : List V} {ds : List PyData} (g : Bag p c H) (nt : H t = none) (r : Rps p H vs ds) (hl : vs.length ≤ 100000 := by exact Nat.le_of_ble_eq_true rfl) : Rp p (upd H t (.tup vs)) (.ref t) (.tuple ds) :=
  .tup upd_same (g.ne nt).symm hl (r.same (same_new nt _))
theorem atI_intsU {ns : List Int} {r : Int} (h0 : 0 ≤ r) (h1 : r < ns.length) : ∃ x, x ∈ ns ∧ atI (ns.map V.int) r = some (.int x) := by
  have hi : r.toNat < ns.length := by omega
  refine ⟨ns[r.toNat], List.getElem_mem _, at_int h0 ?_⟩
  rw [List.getElem?_map, List.getElem?_eq_getElem hi]; rfl
/-- one of the listed values -/
theorem atI_mem {xs : List V} {r : Int} (h0 : 0 ≤ r) (h1 : r < xs.length) : ∃ x, x ∈ xs ∧ atI xs r = some x := by
  have hi : r.toNat < xs.length := by omega
  exact ⟨xs[r.toNat], List.getElem_mem _, at_int h0 (List.getElem?_eq_getElem hi)⟩
end Mus

set_option maxRecDepth 100000
/-! Plain values and their canonical texts: the mathematics. -/
namespace Txt4
open PySem L2 PySem.NumText TL
/-- a plain value -/
inductive D where
  | int (i : Int)
  | str (z : Str)
  | tup (ds : List D)
/-- the signs of an int -/
def numI (i : Int) : List Nat := if i < 0 then 45 :: numL i.natAbs else numL i.natAbs
mutual
def enc : D → List Nat
  | .int i => numI i
  | .str z => numL (tl z).length ++ 58 :: tl z
  | .tup ds => 40 :: (encs ds ++ [41])
def encs : List D → List Nat
  | [] => []
  | d :: ds => enc d ++ 59 :: encs ds
end
mutual
def dep : D → Nat
  | .int _ => 0
  | .str _ => 0
  | .tup ds => deps ds + 1
def deps : List D → Nat
  | [] => 0
  | d :: ds => max (dep d) (deps ds)
end
/-- a printable sign -/
def Pr (c : Nat) : Prop := 32 ≤ c ∧ c ≤ 126 ∧ c ≠ 37
mutual
def ok : D → Prop
  | .int i => i.natAbs < 10 ^ 24
  | .str z => ∀ c ∈ tl z, Pr c
  | .tup ds => oks ds
def oks : List D → Prop
  | [] => True
  | d :: ds => ok d ∧ oks ds
end
/-- what may stand behind a value's text -/
def tailOk (r : List Nat) : Prop := r = [] ∨ ∃ q, r = 59 :: q
/-- no digit at the head -/
def nd (r : List Nat) : Prop := ∀ c q, r = c :: q → ¬ (48 ≤ c ∧ c ≤ 57)
theorem tailOk.nd {r : List Nat} (h : tailOk r) : nd r := by
  intro c q e
  rcases h with h | ⟨s, h⟩
  · rw [h] at e; cases e
  · rw [h] at e; cases e; omega
theorem nd_cons {c : Nat} {q : List Nat} (h : ¬ (48 ≤ c ∧ c ≤ 57)) : nd (c :: q) := by
  intro d s e; cases e; exact h
/-- two runs of digits -/
theorem run_eq : ∀ {a b r s : List Nat}, AllDigits a → AllDigits b → nd r → nd s → a ++ r = b ++ s → a = b ∧ r = s
  | [], [], _, _, _, _, _, _, e => ⟨rfl, e⟩
  | [], y :: b, r, s, _, hb, hr, _, e => by
    have z : r = y :: (b ++ s) := e
    exact absurd hb.head (hr _ _ z)
  | x :: a, [], r, s, ha, _, _, hs, e => by
    have z : s = x :: (a ++ r) := e.symm
    exact absurd ha.head (hs _ _ z)
  | x :: a, y :: b, r, s, ha, hb, hr, hs, e => by
    have z : x = y ∧ a ++ r = b ++ s := List.cons.inj e
    obtain ⟨h1, h2⟩ := run_eq ha.tail hb.tail hr hs z.2
    exact ⟨by rw [z.1, h1], h2⟩
theorem numI_inj {i j : Int} (h : numI i = numI j) : i = j := by
  unfold numI at h
  have d1 := numL_digits i.natAbs
  have d2 := numL_digits j.natAbs
  split at h <;> split at h
  · have := numL_inj (List.cons.inj h).2; omega
  · exfalso
    rw [← h] at d2
    have := d2.head; omega
  · exfalso
    rw [h] at d1
    have := d1.head; omega
  · have := numL_inj h; omega
theorem numL_head (n : Nat) : ∃ c q, numL n = c :: q ∧ 48 ≤ c ∧ c ≤ 57 := by
  have d := numL_digits n
  cases e : numL n with
  | nil => exact absurd e (numL_ne n)
  | cons c q =>
    rw [e] at d
    exact ⟨c, q, rfl, d.head⟩
theorem numI_run {i j : Int} {r s : List Nat} (hr : nd r) (hs : nd s) (e : numI i ++ r = numI j ++ s) : i = j ∧ r = s := by
  have d1 := numL_digits i.natAbs
  have d2 := numL_digits j.natAbs
  by_cases hi : i < 0 <;> by_cases hj : j < 0
  · have e' : 45 :: (numL i.natAbs ++ r) = 45 :: (numL j.natAbs ++ s) := by
      unfold numI at e; rw [if_pos hi, if_pos hj] at e; exact e
    obtain ⟨h1, h2⟩ := run_eq d1 d2 hr hs (List.cons.inj e').2
    have := numL_inj h1
    exact ⟨by omega, h2⟩
  · exfalso
    obtain ⟨c, q, h, hc⟩ := numL_head j.natAbs
    unfold numI at e; rw [if_pos hi, if_neg hj, h] at e
    have := (List.cons.inj e).1
    omega
  · exfalso
    obtain ⟨c, q, h, hc⟩ := numL_head i.natAbs
    unfold numI at e; rw [if_neg hi, if_pos hj, h] at e
    have := (List.cons.inj e).1
    omega
  · unfold numI at e; rw [if_neg hi, if_neg hj] at e
    obtain ⟨h1, h2⟩ := run_eq d1 d2 hr hs e
    have := numL_inj h1
    exact ⟨by omega, h2⟩
theorem numI_not40 {i : Int} {r q : List Nat} (e : numI i ++ r = 40 :: q) : False := by
  unfold numI at e
  split at e
  · have := (List.cons.inj e).1; omega
  · obtain ⟨c, p, h, hc⟩ := numL_head i.natAbs
    rw [h] at e
    have := (List.cons.inj e).1; omega
theorem numL_not40 {n : Nat} {r q : List Nat} (e : numL n ++ r = 40 :: q) : False := by
  obtain ⟨c, p, h, hc⟩ := numL_head n
  rw [h] at e
  have := (List.cons.inj e).1; omega
theorem int_str {i : Int} {n : Nat} {r q : List Nat} (hr : tailOk r) (e : numI i ++ r = numL n ++ 58 :: q) : False := by
  unfold numI at e
  split at e
  · obtain ⟨c, p, h, hc⟩ := numL_head n
    rw [h] at e
    have := (List.cons.inj e).1; omega
  · obtain ⟨_, h2⟩ := run_eq (numL_digits _) (numL_digits _) hr.nd (nd_cons (by omega)) e
    rcases hr with hr | ⟨s, hr⟩
    · rw [hr] at h2; cases h2
    · rw [hr] at h2; have := (List.cons.inj h2).1; omega
theorem cat_len {a b r s : List Nat} (h : a.length = b.length) (e : a ++ r = b ++ s) : a = b ∧ r = s := List.append_inj e h
mutual
/-- a text ahead of an end or a semicolon is one value's -/
theorem enc_run : ∀ (d e : D) (r s : List Nat), tailOk r → tailOk s → enc d ++ r = enc e ++ s → d = e ∧ r = s
  | .int i, .int j, r, s, hr, hs, h => by
    obtain ⟨h1, h2⟩ := numI_run hr.nd hs.nd h
    exact ⟨by rw [h1], h2⟩
  | .int i, .str z, r, s, hr, hs, h => by
    have h' : numI i ++ r = numL (tl z).length ++ 58 :: (tl z ++ s) := by
      have h0 : numI i ++ r = (numL (tl z).length ++ 58 :: tl z) ++ s := h
      rw [h0, List.append_assoc]; rfl
    exact (int_str hr h').elim
  | .int i, .tup es, r, s, hr, hs, h => (numI_not40 (h : numI i ++ r = 40 :: ((encs es ++ [41]) ++ s))).elim
  | .str z, .int j, r, s, hr, hs, h => by
    have h' : numI j ++ s = numL (tl z).length ++ 58 :: (tl z ++ r) := by
      have h0 : (numL (tl z).length ++ 58 :: tl z) ++ r = numI j ++ s := h
      rw [← h0, List.append_assoc]; rfl
    exact (int_str hs h').elim
  | .str z, .str y, r, s, hr, hs, h => by
    have h' : numL (tl z).length ++ 58 :: (tl z ++ r) = numL (tl y).length ++ 58 :: (tl y ++ s) := by
      have h0 : (numL (tl z).length ++ 58 :: tl z) ++ r = (numL (tl y).length ++ 58 :: tl y) ++ s := h
      rw [List.append_assoc, List.append_assoc] at h0; exact h0
    obtain ⟨h1, h2⟩ := run_eq (numL_digits _) (numL_digits _) (nd_cons (by omega)) (nd_cons (by omega)) h'
    obtain ⟨h3, h4⟩ := cat_len (numL_inj h1) (List.cons.inj h2).2
    exact ⟨by rw [ext_tl h3], h4⟩
  | .str z, .tup es, r, s, hr, hs, h => by
    have h0 : (numL (tl z).length ++ 58 :: tl z) ++ r = 40 :: ((encs es ++ [41]) ++ s) := h
    rw [List.append_assoc] at h0
    exact (numL_not40 h0).elim
  | .tup ds, .int j, r, s, hr, hs, h => (numI_not40 (h.symm : numI j ++ s = 40 :: ((encs ds ++ [41]) ++ r))).elim
  | .tup ds, .str z, r, s, hr, hs, h => by
    have h0 : (numL (tl z).length ++ 58 :: tl z) ++ s = 40 :: ((encs ds ++ [41]) ++ r) := h.symm
    rw [List.append_assoc] at h0
    exact (numL_not40 h0).elim
  | .tup ds, .tup es, r, s, hr, hs, h => by
    have h0 : 40 :: ((encs ds ++ [41]) ++ r) = 40 :: ((encs es ++ [41]) ++ s) := h
    have h1 := (List.cons.inj h0).2
    rw [List.append_assoc, List.append_assoc] at h1
    obtain ⟨h2, h3⟩ := encs_run ds es r s h1
    exact ⟨by rw [h2], h3⟩
theorem encs_run : ∀ (ds es : List D) (r s : List Nat), encs ds ++ 41 :: r = encs es ++ 41 :: s → ds = es ∧ r = s
  | [], [], r, s, h => ⟨rfl, (List.cons.inj h).2⟩
  | [], e :: es, r, s, h => by
    exfalso
    have h0 : 41 :: r = (enc e ++ 59 :: encs es) ++ 41 :: s := h
    rw [List.append_assoc] at h0
    exact enc_not41 e h0.symm
  | d :: ds, [], r, s, h => by
    exfalso
    have h0 : (enc d ++ 59 :: encs ds) ++ 41 :: r = 41 :: s := h
    rw [List.append_assoc] at h0
    exact enc_not41 d h0
  | d :: ds, e :: es, r, s, h => by
    have h0 : (enc d ++ 59 :: encs ds) ++ 41 :: r = (enc e ++ 59 :: encs es) ++ 41 :: s := h
    rw [List.append_assoc, List.append_assoc] at h0
    obtain ⟨h1, h2⟩ := enc_run d e _ _ (.inr ⟨_, rfl⟩) (.inr ⟨_, rfl⟩) h0
    obtain ⟨h3, h4⟩ := encs_run ds es r s (List.cons.inj h2).2
    exact ⟨by rw [h1, h3], h4⟩
theorem enc_not41 : ∀ (d : D) {r q : List Nat}, enc d ++ r = 41 :: q → False
  | .int i, r, q, h => by
    have h0 : numI i ++ r = 41 :: q := h
    unfold numI at h0
    split at h0
    · have := (List.cons.inj h0).1; omega
    · obtain ⟨c, p, e, hc⟩ := numL_head i.natAbs
      rw [e] at h0
      have := (List.cons.inj h0).1; omega
  | .str z, r, q, h => by
    obtain ⟨c, p, e, hc⟩ := numL_head (tl z).length
    have h0 : (numL (tl z).length ++ 58 :: tl z) ++ r = 41 :: q := h
    rw [e] at h0
    have := (List.cons.inj h0).1; omega
  | .tup ds, r, q, h => by
    have := (List.cons.inj (h : 40 :: ((encs ds ++ [41]) ++ r) = 41 :: q)).1; omega
end
/-- equal texts, equal values -/
theorem enc_inj {d e : D} (h : enc d = enc e) : d = e := (enc_run d e [] [] (.inl rfl) (.inl rfl) (by rw [List.append_nil, List.append_nil]; exact h)).1
/-- no text goes on behind another one with a semicolon -/
theorem enc_pre {d e : D} {q : List Nat} (h : enc e = enc d ++ 59 :: q) : False := by
  have z := enc_run e d [] (59 :: q) (.inl rfl) (.inr ⟨_, rfl⟩) (by rw [List.append_nil]; exact h)
  cases z.2
/-- every sign of a text is printable -/
theorem pr_digits {l : List Nat} (h : AllDigits l) : ∀ c ∈ l, Pr c := fun c hc => by
  have := h c hc
  exact ⟨by omega, by omega, by omega⟩
mutual
theorem enc_pr : ∀ (d : D), ok d → ∀ c ∈ enc d, Pr c
  | .int i, _, c, hc => by
    have hc' : c ∈ numI i := hc
    unfold numI at hc'
    split at hc'
    · rcases List.mem_cons.mp hc' with e | hc'
      · rw [e]; exact ⟨by omega, by omega, by omega⟩
      · exact pr_digits (numL_digits _) c hc'
    · exact pr_digits (numL_digits _) c hc'
  | .str z, h, c, hc => by
    have hc' : c ∈ numL (tl z).length ++ 58 :: tl z := hc
    rcases List.mem_append.mp hc' with hc' | hc'
    · exact pr_digits (numL_digits _) c hc'
    · rcases List.mem_cons.mp hc' with e | hc'
      · rw [e]; exact ⟨by omega, by omega, by omega⟩
      · exact h c hc'
  | .tup ds, h, c, hc => by
    have hc' : c ∈ 40 :: (encs ds ++ [41]) := hc
    rcases List.mem_cons.mp hc' with e | hc'
    · rw [e]; exact ⟨by omega, by omega, by omega⟩
    · rcases List.mem_append.mp hc' with hc' | hc'
      · exact encs_pr ds h c hc'
      · rw [List.mem_singleton.mp hc']; exact ⟨by omega, by omega, by omega⟩
theorem encs_pr : ∀ (ds : List D), oks ds → ∀ c ∈ encs ds, Pr c
  | [], _, c, hc => absurd (hc : c ∈ ([] : List Nat)) (List.not_mem_nil)
  | d :: ds, h, c, hc => by
    have hc' : c ∈ enc d ++ 59 :: encs ds := hc
    have h' : ok d ∧ oks ds := h
    rcases List.mem_append.mp hc' with hc' | hc'
    · exact enc_pr d h'.1 c hc'
    · rcases List.mem_cons.mp hc' with e | hc'
      · rw [e]; exact ⟨by omega, by omega, by omega⟩
      · exact encs_pr ds h'.2 c hc'
end
theorem enc_len (d : D) : 1 ≤ (enc d).length := by
  cases d with
  | int i =>
    have e : enc (.int i) = numI i := by rw [enc]
    rw [e]; unfold numI
    split
    · simp
    · obtain ⟨c, q, h, _⟩ := numL_head i.natAbs
      rw [h]; simp
  | str z => rw [enc, List.length_append, List.length_cons]; omega
  | tup ds => rw [enc]; simp

/-! ### parts -/
theorem encs_append : ∀ a b : List D, encs (a ++ b) = encs a ++ encs b
  | [], _ => rfl
  | d :: a, b => by
    show enc d ++ 59 :: encs (a ++ b) = (enc d ++ 59 :: encs a) ++ encs b
    rw [encs_append a b, List.append_assoc]; rfl
theorem encs_one (d : D) : encs [d] = enc d ++ [59] := rfl
theorem take_more {α : Type} {l : List α} {i : Nat} {x : α} (h : l[i]? = some x) : l.take (i + 1) = l.take i ++ [x] := by
  have hi : i < l.length := (List.getElem?_eq_some_iff.mp h).1
  have e : l[i] = x := (List.getElem?_eq_some_iff.mp h).2
  rw [List.take_succ_eq_append_getElem hi, e]
theorem encs_take {ds : List D} {i : Nat} {d : D} (h : ds[i]? = some d) : encs (ds.take (i + 1)) = encs (ds.take i) ++ (enc d ++ [59]) := by
  rw [take_more h, encs_append, encs_one]
theorem encs_take_le (ds : List D) (i : Nat) : (encs (ds.take i)).length ≤ (encs ds).length := by
  have e : encs ds = encs (ds.take i) ++ encs (ds.drop i) := by rw [← encs_append, List.take_append_drop]
  rw [e, List.length_append]; omega
theorem oks_at : ∀ {ds : List D} {i : Nat} {d : D}, oks ds → ds[i]? = some d → ok d
  | [], _, _, _, h => by simp at h
  | e :: ds, 0, d, k, h => by
    have z : e = d := Option.some.inj h
    rw [← z]; exact (k : ok e ∧ oks ds).1
  | e :: ds, i + 1, d, k, h => oks_at (k : ok e ∧ oks ds).2 (by simpa using h)
theorem deps_at : ∀ {ds : List D} {i : Nat} {d : D}, ds[i]? = some d → dep d ≤ deps ds
  | [], _, _, h => by simp at h
  | e :: ds, 0, d, h => by
    have z : e = d := Option.some.inj h
    rw [← z]; exact Nat.le_max_left _ _
  | e :: ds, i + 1, d, h => Nat.le_trans (deps_at (ds := ds) (by simpa using h)) (Nat.le_max_right _ _)
theorem oks_snoc : ∀ {ds : List D} {d : D}, oks ds → ok d → oks (ds ++ [d])
  | [], d, _, k => ⟨k, trivial⟩
  | e :: ds, d, h, k => ⟨(h : ok e ∧ oks ds).1, oks_snoc (h : ok e ∧ oks ds).2 k⟩
theorem deps_snoc : ∀ {ds : List D} {d : D} {n : Nat}, deps ds ≤ n → dep d ≤ n → deps (ds ++ [d]) ≤ n
  | [], d, n, _, k => Nat.max_le.mpr ⟨k, Nat.zero_le _⟩
  | e :: ds, d, n, h, k => Nat.max_le.mpr ⟨(Nat.max_le.mp h).1, deps_snoc (Nat.max_le.mp h).2 k⟩
theorem encs_len : ∀ ds : List D, ds.length ≤ (encs ds).length
  | [] => Nat.le_refl _
  | d :: ds => by
    have h := encs_len ds
    show ds.length + 1 ≤ (enc d ++ 59 :: encs ds).length
    rw [List.length_append, List.length_cons]; omega
/-- texts one behind the other -/
def flat (ws : List Str) : List Nat := (ws.map tl).flatten
theorem flat_append (a b : List Str) : flat (a ++ b) = flat a ++ flat b := by
  unfold flat; rw [List.map_append, List.flatten_append]
theorem flat_one (z : Str) : flat [z] = tl z := by
  unfold flat; simp
theorem joinL_nil : ∀ l : List (List Nat), joinL [] l = l.flatten
  | [] => rfl
  | [p] => by simp [joinL]
  | p :: q :: r => by
    show p ++ ([] ++ joinL [] (q :: r)) = _
    rw [joinL_nil (q :: r)]; rfl
theorem tl_glue (ws : List Str) : tl (Txt.join Str.empty ws) = flat ws := by
  rw [join_eq, tl_join]
  exact joinL_nil _
theorem flat_len (ws : List Str) : (ws.map (·.length)).sum = (flat ws).length := by
  induction ws with
  | nil => rfl
  | cons z r ih =>
    rw [List.map_cons, List.sum_cons, ih]
    show z.length + (flat r).length = (flat ([z] ++ r)).length
    rw [flat_append, flat_one, List.length_append, len_tl]

/-! ### numbers as texts -/
theorem tl_int (i : Int) : tl (Str.ofString (toString i)) = numI i := by
  cases i with
  | ofNat m =>
    have e : numI (Int.ofNat m) = numL m := by
      unfold numI
      rw [if_neg (by simp)]
      rfl
    rw [e]
    exact tl_num m
  | negSucc m =>
    have e : numI (Int.negSucc m) = 45 :: numL (m + 1) := by
      unfold numI
      rw [if_pos (by omega)]
      rfl
    rw [e, tl_ofString]
    have e2 : toString (Int.negSucc m) = "-" ++ toString (m + 1) := rfl
    rw [e2, String.toList_append, List.map_append]
    have e3 := tl_num (m + 1)
    rw [tl_ofString] at e3
    have e4 : (toString (((m + 1 : Nat)) : Int)) = toString (m + 1) := rfl
    rw [e4] at e3
    rw [e3]
    rfl
theorem numI_len {i : Int} (h : i.natAbs < 10 ^ 24) : (numI i).length ≤ 25 := by
  have z := numL_len (n := i.natAbs) (k := 24) (by omega) h
  unfold numI
  split
  · rw [List.length_cons]; omega
  · omega
theorem intText_numI {z : Str} {i : Int} (e : tl z = numI i) (h : i.natAbs < 10 ^ 24) : intText? z = some i := by
  have hl := numI_len h
  have hz : z.length ≤ 4300 := by rw [len_tl, e]; omega
  by_cases hi : i < 0
  · have e1 : z.cps.toList = 45 :: numL i.natAbs := by
      have e0 : tl z = numI i := e
      unfold numI at e0; rw [if_pos hi] at e0; exact e0
    rw [intText_neg e1 (numL_digits _) (numL_ne _) hz, numL_val]
    exact congrArg some (by omega)
  · have e1 : z.cps.toList = numL i.natAbs := by
      have e0 : tl z = numI i := e
      unfold numI at e0; rw [if_neg hi] at e0; exact e0
    have e2 := intText_digits (x := z) (by rw [e1]; exact numL_digits _) (by rw [e1]; exact numL_ne _) hz
    rw [e2, e1, numL_val]
    exact congrArg some (by omega)
end Txt4

set_option maxRecDepth 100000
set_option maxHeartbeats 4000000
namespace Mus
open PySem L2 TL PySem.NumText
local macro_rules | `(tactic| walk_at "rd") => `(tactic| first
  | refine ⟨_, rfl, ?_⟩ | refine ⟨(True.intro : True), ?_⟩
  | refine ⟨_, _, rfl, rfl, (⟨by decide, by decide, by decide⟩ : CPow _ _), ?_⟩
  | refine ⟨_, _, rfl, rfl, (⟨by decide, by decide⟩ : CDiv _ _), ?_⟩
  | refine ⟨_, _, rfl, rfl, (by show (0 : Int) < _; decide), ?_⟩
  | refine ⟨_, _, rfl, rfl, ?_⟩ | refine ⟨rfl, ?_⟩ | refine iteT ?_ | refine iteF ?_ | refine ⟨_, _, rfl, ?_⟩ | refine .inl ⟨_, rfl, ?_⟩
  | refine ⟨_, _, _, _, _, rfl, (by assumption), (by assumption), (by assumption), rfl, ?_⟩ | refine ⟨_, _, _, _, rfl, rfl, SqT.of (by assumption), rfl, ?_⟩ | refine ⟨_, _, rfl, SqT.of (by assumption), rfl, ?_⟩
  | refine ⟨_, _, _, _, _, rfl, .ty _, Rp.ty (by assumption), kit_int _, ?_⟩ | refine ⟨_, _, _, _, _, rfl, .ty _, Rp.ty (by assumption), kit_bool _, ?_⟩
  | refine ⟨_, _, _, _, _, rfl, .ty _, Rp.ty (by assumption), kit_str _, ?_⟩ | refine ⟨_, _, _, _, _, rfl, .ty _, Rp.ty (by assumption), kit_tup _, ?_⟩)
local macro_rules | `(tactic| walk_at "cal") => `(tactic| first
  | refine ⟨_, _, _, _, _, rfl, (by assumption), ?_⟩ | refine ⟨_, _, _, _, _, rfl, (by assumption), (by assumption), ?_⟩)
local macro_rules | `(tactic| walk_at "sq") => `(tactic| first
  | refine ⟨_, _, rfl, Or.inr (SqT.of (by assumption)), ?_⟩ | refine ⟨_, _, _, _, rfl, rfl, SqT.of (by assumption), rfl, ?_⟩)
local macro_rules | `(tactic| walk_at "rds") => `(tactic| repeat first | walk_at "rd" | walk_at "cal" | walk_at "sq")
local macro_rules | `(tactic| walk_at "ze") => `(tactic| repeat first
  | exact zes_nil | exact ze_bl | exact ze_str | exact ze_non | apply zes_cons | apply ze_tup | apply ze_lst | apply ze_cat | exact di_c | exact di_v rfl | apply di_opC | apply di_op | apply di_neg | apply ze_i | (refine (⟨?_, ?_, ?_⟩ : CPow _ _) <;> decide) | exact Nat.le_of_ble_eq_true rfl | exact ze_varD rfl (by assumption))
local macro_rules | `(tactic| walk_at "rdz") => `(tactic| repeat (fail_if_success (first | show tLst _ _ _ _ | show tAsg (tLst _) _ _ _ _ | show tSeq (tAsg (tLst _) _) _ _ _ _)); first | walk_at "rd" | walk_at "cal" | walk_at "sq")
section
variable {P : Program} {w : World} {K : PySem.W.Frag} {mg : Str → Option Value} {base : Heap}
/-! ### payloads, logs and lists of pending casts, drawn -/
def PayOk (z : Str) : Prop := z.length ≤ 30 ∧ (tl z).all prB = true
def chars94 : Str := " !\"#$&'()*+,-./0123456789:;<=>?@ABCDEFGHIJKLMNOPQRSTUVWXYZ[\\]^_`abcdefghijklmnopqrstuvwxyz{|}~"
theorem chars_len : (tl chars94).length = 94 := by decide +kernel
theorem chars_pr : (tl chars94).all prB = true := by decide +kernel
theorem prB_nl {l : List Nat} (h : l.all prB = true) : 10 ∉ l := fun m => by
  have := List.all_eq_true.mp h 10 m
  revert this
  decide
theorem PayOk.ok {z : Str} (h : PayOk z) : Ok z := ⟨by have := h.1; omega, by rw [h.2, decide_eq_true (prB_nl h.2)]⟩
theorem PayOk.pay {z : Str} (h : PayOk z) : isPay (.str z) = true := by simp only [isPay]; rw [h.2, decide_eq_true h.1]; rfl
def sp_pay : Sp := fun vs H Q _ => ∃ (p : Addr) (c : Int), vs = [.ref p] ∧ Bag p c H ∧ ∀ z H', PayOk z → But p H H' → Bag p c H' → Q (.str z) H'
abbrev s__law_payload : Stmt := top 57
abbrev N__law_payload : List Str := ["bag", "chars", "k"]
abbrev P__law_payload : List Str := ["bag"]
theorem sc__law_payload : FnScope N__law_payload P__law_payload (defScope s__law_payload) := ⟨rfl, rfl, rfl, by decide +kernel, rfl, by decide +kernel, by decide +kernel⟩
theorem ok__law_payload {f : Addr} {fd : FuncData} (T : Tx mg) (c__law_draw : DefOk P w K mg base CX0 "_law_draw" P__law_draw 1 (sp_draw))(F : Fun K "_law_payload" "_law_payload" s__law_payload f fd) : FnOk P w K mg base CX0 (2) f fd P__law_payload (sp_pay) := by
  have nd := sc__law_payload.nd
  refine F.ok sc__law_payload (fun vs H Q E h => ?_) (fun cdv A outer s H vs Q E hr h => ?_)
  · obtain ⟨_, _, rfl, _⟩ := h
    rfl
  · obtain ⟨p, c, rfl, g, q⟩ := h
    have hs := sl
    refine ⟨_, (pss_cons (ps_set (i := 1) nd rfl (Or.inr rfl) pe_str)
      (pss_cons (ps_if (pt_cmpR op_eq (pcall c__law_draw hr (pa_cons (pv 0) (pa_cons pe_int pa_nil))) pe_int (nomark _))
        (pss_one (ps_ret (pe_join pe_str (pe_lcX (own := [("k", 2)]) rfl nd (pi_range1 (by rfl) T.b_range (pa_cons (pcall c__law_draw hr (pa_cons (pv 0) (pa_cons pe_int pa_nil))) pa_nil)) (blkOk_by (own := [("k", 2)]) (N := N__law_payload) (sc := defScope s__law_payload) (by decide +kernel)) (fun _ _ _ _ _ => (pg_name (i := 2) nd rfl (Or.inl rfl))) (fun _ _ _ _ _ => pts_nil) (fun _ _ _ _ _ => (pe_ix ix_str (pv 1) (pcall c__law_draw hr (pa_cons (pv 0) (pa_cons pe_int pa_nil))) (fun _ _ => rfl)))))))
        pss_nil)
      (pss_one (ps_ret (pe_ix ix_list (pe_lst (pa_cons pe_str (pa_cons pe_str (pa_cons pe_str (pa_cons pe_str (pa_cons pe_str pa_nil)))))) (pcall c__law_draw hr (pa_cons (pv 0) (pa_cons pe_int pa_nil))) (fun _ _ => rfl)))))), ?_⟩
    have z0 := chars_len
    have z1 := TL.len_tl chars94
    refine ⟨_, rfl, p, c, _, rfl, g, by decide, by decide, fun r H1 r0 r1 b1 g1 => ?_⟩
    refine ⟨rfl, ?_⟩
    refine ⟨_, rfl, ?_⟩
    refine iB (fun _ => ?_) (fun _ => ?_)
    · walk_at "rds"
      refine ⟨⟨_, rfl⟩, ?_⟩
      refine ⟨_, rfl, ?_⟩
      refine ⟨p, c, _, rfl, g1, by decide, by decide, fun n H2 n0 n1 b2 g2 => ?_⟩
      refine ⟨n, rfl, by omega, by omega, fun D nD => ?_⟩
      have pD := g2.ne nD
      have b12 := b1.trans b2
      refine lc_range (lo := 0) (n := n.toNat) (fun i H' => ∃ ys : List Str, H' D = some (.lst (ys.map V.str)) ∧ ys.length = i ∧ (Txt4.flat ys).length = i ∧ (Txt4.flat ys).all prB = true ∧ But p H H' ∧ Bag p c H') ?_ ?_ ?_
      · exact ⟨[], upd_same, rfl, rfl, rfl, b12.new nD, g2.new nD⟩
      · rintro i H' hi ⟨ys, h1, h2, h3, h4, b3, g3⟩
        refine ⟨rfl, ?_⟩
        refine ⟨_, rfl, _, rfl, p, c, _, rfl, g3, by decide, by decide, fun m H4 m0 m1 b4 g4 => ?_⟩
        have hlt : m.toNat < (tl chars94).length := by rw [chars_len]; omega
        refine ⟨chars94, _, (tl chars94)[m.toNat], rfl, rfl, by omega, at_int m0 (List.getElem?_eq_getElem hlt), ?_⟩
        have hD4 := b4 D _ h1 pD.symm
        refine ⟨_, hD4, by rw [List.length_map]; omega, ys ++ [⟨#[(tl chars94)[m.toNat]]⟩], ?_, by rw [List.length_append, h2]; rfl, ?_, ?_, (b3.trans b4).later (b12.free nD pD.symm), g4.upd pD⟩
        · rw [upd_same, List.map_append]; rfl
        · rw [Txt4.flat_append, Txt4.flat_one, List.length_append, h3]; rfl
        · rw [Txt4.flat_append, Txt4.flat_one, List.all_append, h4]
          have : prB (tl chars94)[m.toNat] = true := List.all_eq_true.mp chars_pr _ (List.getElem_mem hlt)
          show (true && (prB (tl chars94)[m.toNat] && true)) = true
          rw [this]; rfl
      · rintro H' ⟨ys, h1, h2, h3, h4, b3, g3⟩
        have z2 := Txt4.flat_len ys
        have e : tl (Txt.join (Str.ofString "") ys) = Txt4.flat ys := Txt4.tl_glue ys
        refine ⟨_, D, ys, rfl, rfl, .inl (SqL.of h1), ?_, q _ _ ⟨?_, ?_⟩ b3 g3⟩
        · rw [z2]
          have : (Str.ofString "").length = 0 := by decide
          rw [this]; omega
        · rw [TL.len_tl, e]; omega
        · rw [e]; exact h4
    · refine ⟨by show 5 ≤ sizeLine; omega, fun t nt => ?_⟩
      have st := same_new nt (.lst [V.str "", V.str "a", V.str "b", V.str "x;1:(", V.str "hi there"])
      refine ⟨_, rfl, ?_⟩
      refine ⟨p, c, _, rfl, g1.new nt, by decide, by decide, fun m H2 m0 m1 b2 g2 => ?_⟩
      have h2 := b2 t _ upd_same (g1.ne nt).symm
      have bb := (b1.trans (But.of st)).trans b2
      have hm : m = 0 ∨ m = 1 ∨ m = 2 ∨ m = 3 ∨ m = 4 := by omega
      rcases hm with rfl | rfl | rfl | rfl | rfl
      · exact ⟨t, _, _, _, rfl, rfl, SqL.of h2, rfl, q _ _ ⟨by decide, by decide +kernel⟩ bb g2⟩
      · exact ⟨t, _, _, _, rfl, rfl, SqL.of h2, rfl, q _ _ ⟨by decide, by decide +kernel⟩ bb g2⟩
      · exact ⟨t, _, _, _, rfl, rfl, SqL.of h2, rfl, q _ _ ⟨by decide, by decide +kernel⟩ bb g2⟩
      · exact ⟨t, _, _, _, rfl, rfl, SqL.of h2, rfl, q _ _ ⟨by decide +kernel, by decide +kernel⟩ bb g2⟩
      · exact ⟨t, _, _, _, rfl, rfl, SqL.of h2, rfl, q _ _ ⟨by decide +kernel, by decide +kernel⟩ bb g2⟩
end
end Mus

set_option maxRecDepth 100000
set_option maxHeartbeats 4000000
namespace Mus
open PySem L2 TL PySem.NumText
local macro_rules | `(tactic| walk_at "rd") => `(tactic| first
  | refine ⟨_, rfl, ?_⟩ | refine ⟨(True.intro : True), ?_⟩
  | refine ⟨_, _, rfl, rfl, (⟨by decide, by decide, by decide⟩ : CPow _ _), ?_⟩
  | refine ⟨_, _, rfl, rfl, (⟨by decide, by decide⟩ : CDiv _ _), ?_⟩
  | refine ⟨_, _, rfl, rfl, (by show (0 : Int) < _; decide), ?_⟩
  | refine ⟨_, _, rfl, rfl, ?_⟩ | refine ⟨rfl, ?_⟩ | refine iteT ?_ | refine iteF ?_ | refine ⟨_, _, rfl, ?_⟩ | refine .inl ⟨_, rfl, ?_⟩
  | refine ⟨_, _, _, _, _, rfl, (by assumption), (by assumption), (by assumption), rfl, ?_⟩ | refine ⟨_, _, _, _, rfl, rfl, SqT.of (by assumption), rfl, ?_⟩ | refine ⟨_, _, rfl, SqT.of (by assumption), rfl, ?_⟩
  | refine ⟨_, _, _, _, _, rfl, .ty _, Rp.ty (by assumption), kit_int _, ?_⟩ | refine ⟨_, _, _, _, _, rfl, .ty _, Rp.ty (by assumption), kit_bool _, ?_⟩
  | refine ⟨_, _, _, _, _, rfl, .ty _, Rp.ty (by assumption), kit_str _, ?_⟩ | refine ⟨_, _, _, _, _, rfl, .ty _, Rp.ty (by assumption), kit_tup _, ?_⟩)
local macro_rules | `(tactic| walk_at "cal") => `(tactic| first
  | refine ⟨_, _, _, _, _, rfl, (by assumption), ?_⟩ | refine ⟨_, _, _, _, _, rfl, (by assumption), (by assumption), ?_⟩)
local macro_rules | `(tactic| walk_at "sq") => `(tactic| first
  | refine ⟨_, _, rfl, Or.inr (SqT.of (by assumption)), ?_⟩ | refine ⟨_, _, _, _, rfl, rfl, SqT.of (by assumption), rfl, ?_⟩)
local macro_rules | `(tactic| walk_at "rds") => `(tactic| repeat first | walk_at "rd" | walk_at "cal" | walk_at "sq")
local macro_rules | `(tactic| walk_at "ze") => `(tactic| repeat first
  | exact zes_nil | exact ze_bl | exact ze_str | exact ze_non | apply zes_cons | apply ze_tup | apply ze_lst | apply ze_cat | exact di_c | exact di_v rfl | apply di_opC | apply di_op | apply di_neg | apply ze_i | (refine (⟨?_, ?_, ?_⟩ : CPow _ _) <;> decide) | exact Nat.le_of_ble_eq_true rfl | exact ze_varD rfl (by assumption))
local macro_rules | `(tactic| walk_at "rdz") => `(tactic| repeat (fail_if_success (first | show tLst _ _ _ _ | show tAsg (tLst _) _ _ _ _ | show tSeq (tAsg (tLst _) _) _ _ _ _)); first | walk_at "rd" | walk_at "cal" | walk_at "sq")
theorem cnt_le (ds : List PyData) (k : Int × Int) : cnt ds k ≤ ds.length := List.length_filter_le _ _
section
variable {P : Program} {w : World} {K : PySem.W.Frag} {mg : Str → Option Value} {base : Heap}
def pendD : Int → List Str → List PyData
  | _, [] => []
  | n, z :: zs => .tuple [.int n, .str z] :: pendD (n + 1) zs
theorem pendD_snoc : ∀ (n : Int) (zs : List Str) (z : Str), pendD n (zs ++ [z]) = pendD n zs ++ [.tuple [.int (n + (zs.length : Nat)), .str z]]
  | n, [], z => by simp [pendD]
  | n, y :: zs, z => by
    have e : n + 1 + ((zs.length : Nat) : Int) = n + (((y :: zs).length : Nat) : Int) := by rw [List.length_cons]; omega
    show _ :: pendD (n + 1) (zs ++ [z]) = _
    rw [pendD_snoc, e]; rfl
theorem pendD_len : ∀ (n : Int) (zs : List Str), (pendD n zs).length = zs.length
  | _, [] => rfl
  | n, _ :: zs => congrArg (· + 1) (pendD_len (n + 1) zs)
theorem pendD_mem : ∀ {n : Int} {zs : List Str} {d : PyData}, d ∈ pendD n zs → ∃ k z, z ∈ zs ∧ d = .tuple [.int k, .str z]
  | _, [], _, h => by cases h
  | n, z :: zs, d, h => by
    rcases List.mem_cons.mp h with rfl | h
    · exact ⟨n, z, List.mem_cons_self, rfl⟩
    · obtain ⟨k, y, hy, e⟩ := pendD_mem h
      exact ⟨k, y, List.mem_cons_of_mem _ hy, e⟩
theorem pendD_noL {n : Int} {zs : List Str} : ∀ d ∈ pendD n zs, NoL d := fun d h => by
  obtain ⟨k, z, _, rfl⟩ := pendD_mem h
  exact .two (.int _) (.str _)
theorem two_her {P : Str → Prop} {a b : PyData} (h : Her P a) (k : Her P b) : Her P (.tuple [a, b]) := .tup fun d m => by
  rcases List.mem_cons.mp m with rfl | m
  · exact h
  · rw [List.mem_singleton.mp m]; exact k
theorem three_her {P : Str → Prop} {a b c : PyData} (h : Her P a) (k : Her P b) (l : Her P c) : Her P (.tuple [a, b, c]) := .tup fun d m => by
  rcases List.mem_cons.mp m with rfl | m
  · exact h
  · rcases List.mem_cons.mp m with rfl | m
    · exact k
    · rw [List.mem_singleton.mp m]; exact l
theorem pendD_her {n : Int} {zs : List Str} (h : ∀ z ∈ zs, PayOk z) : Her Ok (.tuple (pendD n zs)) := .tup fun d hd => by
  obtain ⟨k, z, hz, rfl⟩ := pendD_mem hd
  exact two_her (.int _) (.str (h z hz).ok)
def sp_pend : Sp := fun vs H Q _ => ∃ (p : Addr) (c n : Int), vs = [.ref p, .int n] ∧ Bag p c H ∧ ∀ v zs H', (∀ z ∈ zs, PayOk z) → zs.length ≤ 8 → Rp p H' v (.tuple (pendD n zs)) → But p H H' → Bag p c H' → Q v H'
abbrev s__law_pending : Stmt := top 59
abbrev N__law_pending : List Str := ["bag", "first", "k"]
abbrev P__law_pending : List Str := ["bag", "first"]
theorem sc__law_pending : FnScope N__law_pending P__law_pending (defScope s__law_pending) := ⟨rfl, rfl, rfl, by decide +kernel, rfl, by decide +kernel, by decide +kernel⟩
theorem ok__law_pending {f : Addr} {fd : FuncData} (T : Tx mg) (c__law_draw : DefOk P w K mg base CX0 "_law_draw" P__law_draw 1 (sp_draw)) (c__law_payload : DefOk P w K mg base CX0 "_law_payload" P__law_payload 2 (sp_pay))(F : Fun K "_law_pending" "_law_pending" s__law_pending f fd) : FnOk P w K mg base CX0 (3) f fd P__law_pending (sp_pend) := by
  have nd := sc__law_pending.nd
  refine F.ok sc__law_pending (fun vs H Q E h => ?_) (fun cdv A outer s H vs Q E hr h => ?_)
  · obtain ⟨_, _, _, rfl, _⟩ := h
    rfl
  · obtain ⟨p, c, n, rfl, g, q⟩ := h
    have hs := sl
    refine ⟨_, (pss_one (ps_ret (pe_callTy call_tuple_of (by rfl) T.b_tuple (by decide +kernel) (pa_cons (pe_lcX (own := [("k", 2)]) rfl nd (pi_range1 (by rfl) T.b_range (pa_cons (pcall c__law_draw hr (pa_cons (pv 0) (pa_cons pe_int pa_nil))) pa_nil)) (blkOk_by (own := [("k", 2)]) (N := N__law_pending) (sc := defScope s__law_pending) (by decide +kernel)) (fun _ _ _ _ _ => (pg_name (i := 2) nd rfl (Or.inl rfl))) (fun _ _ _ _ _ => pts_nil) (fun _ _ _ _ _ => (pe_tup (pa_cons (pe_op op_add (pv 1) (pv 2)) (pa_cons (pcall c__law_payload hr (pa_cons (pv 0) pa_nil)) pa_nil))))) pa_nil)))), ?_⟩
    refine ⟨_, rfl, p, c, _, rfl, g, by decide, by decide, fun r H1 r0 r1 b1 g1 => ?_⟩
    refine ⟨r, rfl, by omega, by omega, fun D nD => ?_⟩
    have pD := g1.ne nD
    refine lc_range (lo := 0) (n := r.toNat) (fun i H' => ∃ (ws : List V) (zs : List Str), H' D = some (.lst ws) ∧ zs.length = i ∧ (∀ z ∈ zs, PayOk z) ∧ Rps p H' ws (pendD n zs) ∧ But p H H' ∧ Bag p c H') ?_ ?_ ?_
    · exact ⟨[], [], upd_same, rfl, fun z h => (by cases h), .nil, b1.new nD, g1.new nD⟩
    · rintro i H' hi ⟨ws, zs, h1, h2, h3, h4, b3, g3⟩
      refine ⟨rfl, ?_⟩
      refine ⟨_, rfl, ?_⟩
      refine ⟨_, rfl, ?_⟩
      refine ⟨_, _, rfl, rfl, ?_⟩
      refine ⟨_, rfl, ?_⟩
      refine ⟨p, c, rfl, g3, fun z H4 hz b4 g4 => ?_⟩
      refine ⟨by show 2 ≤ sizeLine; omega, fun t nt => ?_⟩
      have st := same_new nt (.tup [V.int (n + (0 + (i : Int))), V.str z])
      have h1' := st _ _ (b4 D _ h1 pD.symm)
      have hz' : ∀ y ∈ zs ++ [z], PayOk y := fun y hy => by
        rcases List.mem_append.mp hy with hy | hy
        · exact h3 y hy
        · rw [List.mem_singleton.mp hy]; exact hz
      have lw := h4.length
      rw [pendD_len] at lw
      have e : n + (0 + (i : Int)) = n + ((zs.length : Nat) : Int) := by omega
      refine ⟨ws, h1', by omega, ws ++ [.ref t], zs ++ [z], upd_same, by rw [List.length_append, h2]; rfl, hz', ?_, ((b3.trans b4).new nt).later (b1.free nD pD.symm), (g4.new nt).upd pD⟩
      rw [pendD_snoc]
      have r1 : Rps p _ (ws ++ [.ref t]) (pendD n zs ++ [.tuple [.int (n + ((zs.length : Nat) : Int)), .str z]]) := ((h4.mono b4).same st).append (.cons (.tup upd_same (g4.ne nt).symm (by show 2 ≤ 100000; decide) (by rw [e]; exact .cons (.int _) (.cons (.str _) .nil))) .nil)
      refine r1.updL h1' fun d hd => ?_
      rcases List.mem_append.mp hd with hd | hd
      · exact pendD_noL d hd
      · rw [List.mem_singleton.mp hd]; exact .two (.int _) (.str _)
    · rintro H' ⟨ws, zs, h1, h2, h3, h4, b3, g3⟩
      refine ⟨D, ws, rfl, .inl ⟨SqL.of h1, fun a na => ?_⟩⟩
      have lw := h4.length
      rw [pendD_len] at lw
      exact q _ zs _ h3 (by omega) (.tup upd_same (g3.ne na).symm (by omega) (h4.same (same_new na _))) (b3.new na) (g3.new na)
theorem logFrom_snoc (c : PyData) : ∀ (ds pre : List PyData) (m : PyData), logFrom c pre (ds ++ [m]) = (logFrom c pre ds && (isMsg c m && decide (idxK m = cnt (pre ++ ds) (sndK m) + 1)))
  | [], pre, m => by simp [logFrom]
  | d :: ds, pre, m => by
    show (isMsg c d && decide _ && logFrom c (pre ++ [d]) (ds ++ [m])) = (isMsg c d && decide _ && logFrom c (pre ++ [d]) ds && _)
    rw [logFrom_snoc c ds, List.append_assoc, List.singleton_append]
    simp only [Bool.and_assoc]
def sp_log : Sp := fun vs H Q _ => ∃ (p : Addr) (c n : Int) (v : V) (ms : List PyData), vs = [.ref p, v] ∧ Bag p c H ∧ Rp p H v (.tuple ms) ∧ Mems n ms ∧ 1 ≤ n ∧ n ≤ 12 ∧ ms ≠ [] ∧ ms.length ≤ 100 ∧
  ∀ v ds H', logFrom (.int n) [] ds = true → Her Ok (.tuple ds) → (∀ d ∈ ds, NoL d) → ds.length ≤ 39 → Rp p H' v (.tuple ds) → But p H H' → Bag p c H' → Q v H'
abbrev s__law_log : Stmt := top 58
abbrev N__law_log : List Str := ["bag", "members", "size", "counts", "log", "k", "sender"]
abbrev P__law_log : List Str := ["bag", "members"]
theorem sc__law_log : FnScope N__law_log P__law_log (defScope s__law_log) := ⟨rfl, rfl, rfl, by decide +kernel, rfl, by decide +kernel, by decide +kernel⟩
theorem ok__law_log {f : Addr} {fd : FuncData} (T : Tx mg) (c__law_draw : DefOk P w K mg base CX0 "_law_draw" P__law_draw 1 (sp_draw)) (c__law_payload : DefOk P w K mg base CX0 "_law_payload" P__law_payload 2 (sp_pay))(F : Fun K "_law_log" "_law_log" s__law_log f fd) : FnOk P w K mg base CX0 (3) f fd P__law_log (sp_log) := by
  have nd := sc__law_log.nd
  refine F.ok sc__law_log (fun vs H Q E h => ?_) (fun cdv A outer s H vs Q E hr h => ?_)
  · obtain ⟨_, _, _, _, _, rfl, _⟩ := h
    rfl
  · obtain ⟨p, c, n, v, ms, rfl, g, hv, hm, n1, n2, hne, hml, q⟩ := h
    have hs := sl
    have hu := hu_of hr
    obtain _ | _ | _ | _ | _ | @⟨am, xs, _, ham, nam, hwm, hrm⟩ := id hv
    have hlm := hrm.length
    have h0 : 0 < ms.length := List.length_pos_iff.mpr hne
    refine ⟨_, (pss_cons (ps_set (i := 2) nd rfl (Or.inl rfl) (pcall c__law_draw hr (pa_cons (pv 0) (pa_cons pe_int pa_nil))))
      (C8.pss_cut (ps_if (pt_cmpR op_eq (pcall c__law_draw hr (pa_cons (pv 0) (pa_cons pe_int pa_nil))) pe_int (nomark _))
        (pss_one (ps_set (i := 2) nd rfl (Or.inl rfl) (pcall c__law_draw hr (pa_cons (pv 0) (pa_cons pe_int pa_nil)))))
        pss_nil)
      (pss_cons (ps_set (i := 3) nd rfl (Or.inl rfl) pe_dnewT)
      (pss_cons (ps_set (i := 4) nd rfl (Or.inl rfl) (pe_lst pa_nil))
      (pss_cons (ps_for PassesOwn.never rfl (pi_range1 (by rfl) T.b_range (pa_cons (pv 2) pa_nil)) (pg_name (i := 5) nd rfl (Or.inl rfl))
        (pss_cons (ps_set (i := 6) nd rfl (Or.inl rfl) (pe_ix ix_tup (pv 1) (pcall c__law_draw hr (pa_cons (pv 0) (pa_cons (pe_callB call_len_seq (by rfl) T.b_len (by decide +kernel) (pa_cons (pv 1) pa_nil)) pa_nil))) (fun _ _ => rfl)))
        (pss_cons (ps_dput hu (pv 3) (pv 6) (pe_op op_add (pe_dget2 hu (pv 3) (pv 6) pe_int ⟨rfl, rfl, rfl, rfl⟩) pe_int) rfl)
        (pss_one (ps_expr (pe_bm PySem.F.plainAttrs_list PySem.F.slot_list_append PySem.F.type_list_append mt_append (pv 4) (pa_cons (pe_tup (pa_cons (pv 6) (pa_cons (pe_dget hu (pv 3) (pv 6) (fun _ _ => rfl)) (pa_cons (pcall c__law_payload hr (pa_cons (pv 0) pa_nil)) pa_nil)))) pa_nil)))))))
      (pss_one (ps_ret (pe_callTy call_tuple_of (by rfl) T.b_tuple (by decide +kernel) (pa_cons (pv 4) pa_nil))))))))), ?_⟩
    refine ⟨_, rfl, p, c, _, rfl, g, by decide, by decide, fun r H1 r0 r1 b1 g1 => ?_⟩
    refine ⟨fun σ' H' => ∃ z : Int, σ' = [some (.ref p), some (.ref am), some (.int z), none, none, none, none] ∧ 0 ≤ z ∧ z ≤ 39 ∧ But p H H' ∧ Bag p c H', ?_, ?_⟩
    · refine ⟨_, rfl, p, c, _, rfl, g1, by decide, by decide, fun r2 H2 _ _ b2 g2 => ?_⟩
      refine ⟨rfl, ?_⟩
      refine ⟨_, rfl, ?_⟩
      refine iB (fun _ => ?_) (fun _ => ?_)
      · refine ⟨_, rfl, p, c, _, rfl, g2, by decide, by decide, fun r3 H3 z0 z1 b3 g3 => ?_⟩
        exact ⟨r3, rfl, z0, by omega, b1.trans (b2.trans b3), g3⟩
      · exact ⟨r, rfl, r0, by omega, b1.trans b2, g2⟩
    rintro _ H2 ⟨z, rfl, z0, z1, b2, g2⟩
    intro d nd
    have pd := g2.ne nd
    refine ⟨by show 0 ≤ sizeLine; omega, fun l nl => ?_⟩
    have dl : d ≠ l := ne_of_none upd_same nl
    have nl2 : H2 l = none := by rwa [upd_ne dl.symm] at nl
    have pl := g2.ne nl2
    have e1 : (upd (upd H2 d (.dT [])) l (.lst [])) d = some (.dT []) := by rw [upd_ne dl]; exact upd_same
    have b3 : But p H (upd (upd H2 d (.dT [])) l (.lst [])) := (b2.new nd).new nl
    have g3 := (g2.new (o := .dT []) nd).new (o := .lst []) nl
    have fd := b2.free nd pd.symm
    have fl := b2.free nl2 pl.symm
    refine ⟨_, rfl, z, rfl, by omega, by omega, for_range (lo := 0) (n := z.toNat) (fun i σ H' => ∃ (kvs : List (List Key × V)) (ws : List V) (ds : List PyData) (x5 x6 : Option V), σ = [some (.ref p), some (.ref am), some (.int z), some (.ref d), some (.ref l), x5, x6] ∧ H' d = some (.dT kvs) ∧ H' l = some (.lst ws) ∧ Rps p H' ws ds ∧ ds.length = i ∧ Last kvs ds ∧ logFrom (.int n) [] ds = true ∧ (∀ d ∈ ds, NoL d ∧ Her Ok d) ∧ But p H H' ∧ Bag p c H') ?_ ?_ ?_⟩
    · exact ⟨[], [], [], _, _, rfl, e1, upd_same, .nil, rfl, ⟨Nat.zero_le _, fun _ _ => rfl⟩, rfl, fun d h => (by cases h), b3, g3⟩
    · rintro i σ H4 hi ⟨kvs, ws, ds, x5, x6, rfl, hd4, hl4, r4, len4, L4, lf4, ok4, b4, g4⟩
      refine ⟨_, rfl, _, rfl, _, rfl, am, _, rfl, .inr (SqT.of (b4 _ _ ham nam)), p, c, _, rfl, g4, by omega, by omega, fun m H5 m0 m1 b5 g5 => ?_⟩
      have hlt : m.toNat < xs.length := by omega
      have b45 := b4.trans b5
      obtain ⟨dm, hdm, rdm⟩ := (hrm.mono b45).at (List.getElem?_eq_getElem hlt)
      obtain ⟨i0, l0, rfl, q0, q1, q2, q3⟩ := hm dm (List.mem_of_getElem? hdm)
      refine ⟨am, _, _, _, rfl, rfl, SqT.of (b45 _ _ ham nam), at_int m0 (List.getElem?_eq_getElem hlt), ?_⟩
      generalize xs[m.toNat] = vm at rdm
      have rdm' := rdm
      obtain _ | _ | _ | _ | _ | @⟨b, ys, _, hb, nb, hwb, hrb⟩ := rdm
      obtain _ | ⟨hy1, _ | ⟨hy2, hn⟩⟩ := hrb
      cases hn
      cases hy1
      cases hy2
      have hbt : H5 b = some (.tup (([Sum.inl i0, Sum.inl l0] : List Key).map kV)) := hb
      have hd5 := b5 _ _ hd4 pd.symm
      have hl5 := b5 _ _ hl4 pl.symm
      have r5 := r4.mono b5
      refine ⟨_, rfl, ?_⟩
      refine ⟨_, rfl, ?_⟩
      refine ⟨.inr ⟨kvs, .inl hd5⟩, ?_⟩
      refine ⟨_, rfl, ?_⟩
      refine ⟨_, DGet.t hd5 hbt, ?_⟩
      rw [L4.2]
      refine ⟨_, _, rfl, rfl, ?_⟩
      refine ⟨_, rfl, ?_⟩
      refine ⟨_, rfl, ?_⟩
      refine ⟨d, _, rfl, DPut.t hd5 hbt (by have := L4.1; omega), ?_⟩
      have bd : b ≠ d := ne_of hb hd5 (by intro z; cases z)
      have ld : l ≠ d := dl.symm
      have nL : ∀ xs, H5 d ≠ some (.lst xs) := fun xs e => by rw [hd5] at e; cases e
      have nT : ∀ xs, H5 d ≠ some (.tup xs) := fun xs e => by rw [hd5] at e; cases e
      have vp : valV (putK kvs ([Sum.inl i0, Sum.inl l0] : List Key) (.int ((cnt ds (i0, l0) : Nat) + 1))) ([Sum.inl i0, Sum.inl l0] : List Key) = some (.int ((cnt ds (i0, l0) : Nat) + 1)) := by rw [valV_put, if_pos rfl]
      have r6 := r5.upN (o := .dT (putK kvs ([Sum.inl i0, Sum.inl l0] : List Key) (.int ((cnt ds (i0, l0) : Nat) + 1)))) nL nT
      have m6 := rdm'.upN (o := .dT (putK kvs ([Sum.inl i0, Sum.inl l0] : List Key) (.int ((cnt ds (i0, l0) : Nat) + 1)))) nL nT
      have hb6 := (upd_ne (H := H5) (o := .dT (putK kvs ([Sum.inl i0, Sum.inl l0] : List Key) (.int ((cnt ds (i0, l0) : Nat) + 1)))) bd).trans hbt
      have hl6 := (upd_ne (H := H5) (o := .dT (putK kvs ([Sum.inl i0, Sum.inl l0] : List Key) (.int ((cnt ds (i0, l0) : Nat) + 1)))) ld).trans hl5
      have hd6 : (upd H5 d (.dT (putK kvs ([Sum.inl i0, Sum.inl l0] : List Key) (.int ((cnt ds (i0, l0) : Nat) + 1))))) d = some (.dT (putK kvs ([Sum.inl i0, Sum.inl l0] : List Key) (.int ((cnt ds (i0, l0) : Nat) + 1)))) := upd_same
      have g6 := g5.upd (o := .dT (putK kvs ([Sum.inl i0, Sum.inl l0] : List Key) (.int ((cnt ds (i0, l0) : Nat) + 1)))) pd
      have b6 := b45.later (o := .dT (putK kvs ([Sum.inl i0, Sum.inl l0] : List Key) (.int ((cnt ds (i0, l0) : Nat) + 1)))) fd
      generalize upd H5 d _ = H6 at *
      refine ⟨_, rfl, ?_⟩
      refine ⟨.inl ⟨rfl, _, SqL.of hl6⟩, ?_⟩
      refine ⟨_, rfl, ?_⟩
      refine ⟨_, rfl, ?_⟩
      refine ⟨_, rfl, ?_⟩
      have dg : DGet H6 d (.ref b) (some (.int ((cnt ds (i0, l0) : Nat) + 1))) := vp ▸ DGet.t hd6 hb6
      refine ⟨d, _, rfl, dg, ?_⟩
      refine ⟨_, rfl, ?_⟩
      refine ⟨p, c, rfl, g6, fun z2 H7 hz b7 g7 => ?_⟩
      refine ⟨by show 3 ≤ sizeLine; omega, fun t nt => ?_⟩
      have st := same_new nt (.tup [V.ref b, V.int ((cnt ds (i0, l0) : Nat) + 1), V.str z2])
      have hl8 := st _ _ (b7 _ _ hl6 pl.symm)
      have hd8 := st _ _ (b7 _ _ hd6 pd.symm)
      have lw := r4.length
      refine ⟨l, _, _, rfl, rfl, hl8, by omega, ?_⟩
      have tl' : t ≠ l := (ne_of_none (b7 _ _ hl6 pl.symm) nt).symm
      have r8 : Rps p _ (ws ++ [.ref t]) (ds ++ [.tuple [.tuple [.int i0, .int l0], .int ((cnt ds (i0, l0) : Nat) + 1), .str z2]]) :=
        ((r6.mono b7).same st).append (.cons (.tup upd_same (g7.ne nt).symm (by show 3 ≤ 100000; decide) (.cons ((m6.mono b7).same st) (.cons (.int _) (.cons (.str _) .nil)))) .nil)
      have ok8 : ∀ d ∈ ds ++ [.tuple [.tuple [.int i0, .int l0], .int ((cnt ds (i0, l0) : Nat) + 1), .str z2]], NoL d ∧ Her Ok d := fun d hd => by
        rcases List.mem_append.mp hd with hd | hd
        · exact ok4 d hd
        · rw [List.mem_singleton.mp hd]; exact ⟨.three (.two (.int _) (.int _)) (.int _) (.str _), three_her (two_her (.int _) (.int _)) (.int _) (.str hz.ok)⟩
      have msg : isMsg (.int n) (.tuple [.tuple [.int i0, .int l0], .int ((cnt ds (i0, l0) : Nat) + 1), .str z2]) = true := by
        have c1 := cnt_le ds (i0, l0)
        have e1 : isMem (.int n) (.tuple [.int i0, .int l0]) = true := by simp only [isMem, isProc, isInt, Bool.and_eq_true, decide_eq_true_eq]; omega
        have e2 : isInt (.int ((cnt ds (i0, l0) : Nat) + 1)) 1 1000000000000 = true := by simp only [isInt, Bool.and_eq_true, decide_eq_true_eq]; omega
        show (isMem _ _ && isInt _ _ _ && isPay _) = true
        rw [e1, e2, hz.pay]; rfl
      refine ⟨_, ws ++ [.ref t], ds ++ [.tuple [.tuple [.int i0, .int l0], .int ((cnt ds (i0, l0) : Nat) + 1), .str z2]], _, _, rfl, (by rw [upd_ne dl]; exact hd8), upd_same, r8.updL hl8 fun d hd => (ok8 d hd).1, by rw [List.length_append, len4]; rfl, ⟨?_, ?_⟩, ?_, ok8, ((b6.trans b7).new nt).later fl, (g7.new nt).upd pl⟩
      · have := putK_le kvs ([Sum.inl i0, Sum.inl l0] : List Key) (V.int ((cnt ds (i0, l0) : Nat) + 1))
        rw [List.length_append]
        have := L4.1
        show _ ≤ _ + 1
        omega
      · intro i1 l1
        have es : sndK (.tuple [.tuple [.int i0, .int l0], .int ((cnt ds (i0, l0) : Nat) + 1), .str z2]) = (i0, l0) := rfl
        rw [valV_put, cnt_snoc, es]
        by_cases he1 : i1 = i0 ∧ l1 = l0
        · obtain ⟨rfl, rfl⟩ := he1
          rw [if_pos rfl, if_pos rfl]
          rfl
        · rw [if_neg (by intro z; injection z with z1 z2; injection z1 with z1; injection z2 with z2; injection z2 with z2; exact he1 ⟨z1, z2⟩), if_neg (by intro z; injection z with z1 z2; exact he1 ⟨z1.symm, z2.symm⟩)]
          exact L4.2 i1 l1
      · rw [logFrom_snoc, lf4, msg, List.nil_append]
        show (true && (true && decide (((cnt ds (i0, l0) : Nat) : Int) + 1 = (cnt ds (i0, l0) : Nat) + 1))) = true
        rw [decide_eq_true rfl]; rfl
    · rintro σ H4 ⟨kvs, ws, ds, x5, x6, rfl, hd4, hl4, r4, len4, L4, lf4, ok4, b4, g4⟩
      have lw := r4.length
      refine ⟨_, rfl, ?_⟩
      refine ⟨l, ws, rfl, .inl ⟨SqL.of hl4, fun a na => ?_⟩⟩
      exact q _ ds _ lf4 (.tup fun d h => (ok4 d h).2) (fun d h => (ok4 d h).1) (by omega) (.tup upd_same (g4.ne na).symm (by omega) (r4.same (same_new na _))) (b4.new na) (g4.new na)
end
end Mus

set_option maxRecDepth 100000
set_option maxHeartbeats 4000000
/-! Dicts whose keys are nested tuples: {}, d[k], d[k] = v, d.get(k, x), k in d. -/
namespace Mus
open PySem PySem.Spec PyProof.Rows L2
/-! ### keys -/
mutual
inductive NK (H : Hp) : V → NestedKey → Prop
  | non : NK H .non .none
  | int (i : Int) : NK H (.int i) (.num i)
  | str (x : Str) : NK H (.str x) (.text x)
  | tup {a : Addr} {xs : List V} {ks : List NestedKey} : H a = some (.tup xs) → NKs H xs ks → NK H (.ref a) (.tup ks)
inductive NKs (H : Hp) : List V → List NestedKey → Prop
  | nil : NKs H [] []
  | cons {v : V} {vs : List V} {k : NestedKey} {ks : List NestedKey} : NK H v k → NKs H vs ks → NKs H (v :: vs) (k :: ks)
end
mutual
theorem NK.mono {H H' : Hp} (t : ∀ b xs, H b = some (.tup xs) → H' b = some (.tup xs)) : ∀ {v : V} {k : NestedKey}, NK H v k → NK H' v k
  | _, _, .non => .non
  | _, _, .int i => .int i
  | _, _, .str x => .str x
  | _, _, .tup h r => .tup (t _ _ h) (r.mono t)
theorem NKs.mono {H H' : Hp} (t : ∀ b xs, H b = some (.tup xs) → H' b = some (.tup xs)) : ∀ {vs : List V} {ks : List NestedKey}, NKs H vs ks → NKs H' vs ks
  | _, _, .nil => .nil
  | _, _, .cons a b => .cons (a.mono t) (b.mono t)
end
mutual
theorem NK.is {P : Program} {w : World} {H : Hp} {h : Heap} (ok : HOk P w H h) : ∀ {v : V} {k : NestedKey} {u : Value}, NK H v k → RelV v u → NestedIs h k u
  | _, _, _, .non, r => by cases (show _ = Value.none from r); exact .none
  | _, _, _, .int i, r => by obtain ⟨t, rfl⟩ := (show ∃ t, _ = Value.int i t from r); exact .int i t
  | _, _, _, .str x, r => by obtain ⟨t, rfl⟩ := (show ∃ t, _ = Value.str x t from r); exact .text x t
  | _, _, _, .tup (a := a) (xs := xs) e q, r => by
    cases (show _ = Value.ref a from r)
    obtain ⟨_, its, rv, o, h1, h2, n, h3⟩ := (show ObjOk P w H h a (.tup xs) from ok a _ e)
    exact .tup h1 h2 h3 (by simpa using NKs.all ok q rv)
theorem NKs.all {P : Program} {w : World} {H : Hp} {h : Heap} (ok : HOk P w H h) : ∀ {vs : List V} {ks : List NestedKey} {us : List Value}, NKs H vs ks → Vals vs us → NestedAll h ks us
  | _, _, _, .nil, r => by cases r; exact .nil
  | _, _, _, .cons a b, r => by
    cases r with
    | cons r1 r2 => exact .cons (a.is ok r1) (b.all ok r2)
end
/-! ### the dict -/
abbrev NKV := List (NestedKey × Addr × V)
abbrev KN : NKV → List (NestedKey × Addr × Value) → Prop := Paired fun p q => p.1 = q.1 ∧ p.2.1 = q.2.1 ∧ RelV p.2.2 q.2.2
def ndE (w : World) (x : NestedKey × Addr × Value) : DictEntry := ⟨x.1.hash w, .ref x.2.1, x.2.2⟩
def ndΦ (w : World) (d : Addr) (ks : NKV) : Heap → Prop := fun h => ∃ xs o es ep, KN ks xs ∧ h.get? d = some o ∧ o.ExactDict ∧ o.data = .dict es ep ∧ es.toList = xs.map (ndE w)
def ndO (w : World) (d : Addr) (ks : NKV) : HO := .ext (ndΦ w d ks)
structure Nd (w : World) (H : Hp) (d : Addr) (ks : NKV) : Prop where
  ob : H d = some (ndO w d ks)
  keys : ∀ x ∈ ks, NK H (.ref x.2.1) x.1 ∧ x.1.depth ≤ 8
  one : (ks.map (·.1)).Nodup
  sz : ks.length ≤ sizeLine
  sm : (d == sysModules) = false
def valN (ks : NKV) (k : NestedKey) : Option V := (ks.find? fun x => decide (x.1 = k)).map (·.2.2)
def putN (ks : NKV) (k : NestedKey) (b : Addr) (v : V) : NKV := if (valN ks k).isSome then ks.map (fun x => if x.1 = k then (x.1, x.2.1, v) else x) else ks ++ [(k, b, v)]
theorem KN.val {ks : NKV} {xs : List (NestedKey × Addr × Value)} (r : KN ks xs) (k : NestedKey) : RelO (valN ks k) ((atKey xs k).map (·.2)) := by
  unfold valN atKey
  induction r with
  | nil => exact trivial
  | @cons p q ps qs h t ih =>
    rw [List.find?_cons, List.find?_cons]
    by_cases e : p.1 = k
    · have e2 : q.1 = k := h.1 ▸ e
      simp only [e, e2, decide_true]
      exact h.2.2
    · have e2 : ¬ q.1 = k := h.1 ▸ e
      simp only [e, e2, decide_false]
      exact ih
theorem KN.fsts {ks : NKV} {xs : List (NestedKey × Addr × Value)} (r : KN ks xs) : ks.map (·.1) = xs.map (·.1) := by
  induction r with
  | nil => rfl
  | cons h t ih => rw [List.map_cons, List.map_cons, ih, h.1]
theorem KN.repl {ks : NKV} {xs : List (NestedKey × Addr × Value)} (r : KN ks xs) (k : NestedKey) {v : V} {u : Value} (rv : RelV v u) : KN (ks.map fun x => if x.1 = k then (x.1, x.2.1, v) else x) (xs.map (putAt k u)) := by
  induction r with
  | nil => exact .nil
  | @cons p q ps qs h t ih =>
    refine .cons ?_ ih
    unfold putAt
    dsimp only
    by_cases e : p.1 = k
    · have e2 : q.1 = k := h.1 ▸ e
      rw [if_pos e, if_pos e2]
      exact ⟨h.1, h.2.1, rv⟩
    · have e2 : ¬ q.1 = k := h.1 ▸ e
      rw [if_neg e, if_neg e2]
      exact h
theorem KN.put {ks : NKV} {xs : List (NestedKey × Addr × Value)} (r : KN ks xs) (k : NestedKey) (b : Addr) {v : V} {u : Value} (rv : RelV v u) : KN (putN ks k b v) (storedH xs k b u) := by
  have e : (valN ks k).isSome = (atKey xs k).isSome := by rw [(r.val k).isSome_eq, Option.isSome_map]
  unfold putN storedH
  rw [e]
  by_cases q : (atKey xs k).isSome = true
  · rw [if_pos q, if_pos q]; exact r.repl k rv
  · rw [if_neg q, if_neg q]; exact Paired.snoc r ⟨rfl, rfl, rv⟩
theorem KN.mem {ks : NKV} {xs : List (NestedKey × Addr × Value)} (r : KN ks xs) {F : NestedKey → Addr → Prop} (h : ∀ x ∈ ks, F x.1 x.2.1) : ∀ x ∈ xs, F x.1 x.2.1 := by
  induction r with
  | nil => intro x hx; exact nomatch hx
  | @cons p q ps qs hq t ih =>
    intro x hx
    rcases List.mem_cons.mp hx with e | hx
    · subst e
      rw [← hq.1, ← hq.2.1]
      exact h p List.mem_cons_self
    · exact ih (fun y hy => h y (List.mem_cons_of_mem _ hy)) x hx
theorem putN_len (ks : NKV) (k : NestedKey) (b : Addr) (v : V) : (putN ks k b v).length ≤ ks.length + 1 := by
  unfold putN
  split
  · rw [List.length_map]; omega
  · rw [List.length_append]; exact Nat.le_refl _
theorem putN_keys {ks : NKV} {k : NestedKey} {b : Addr} {v : V} {F : NestedKey → Addr → Prop} (h : ∀ x ∈ ks, F x.1 x.2.1) (hk : F k b) : ∀ x ∈ putN ks k b v, F x.1 x.2.1 := by
  intro x hx
  unfold putN at hx
  split at hx
  · obtain ⟨y, hy, rfl⟩ := List.mem_map.mp hx
    split
    · exact h y hy
    · exact h y hy
  · rcases List.mem_append.mp hx with hx | hx
    · exact h x hx
    · rw [List.mem_singleton.mp hx]; exact hk
theorem valN_none {ks : NKV} {k : NestedKey} (h : valN ks k = none) : k ∉ ks.map (·.1) := fun m => by
  obtain ⟨x, hx, e⟩ := List.mem_map.mp m
  unfold valN at h
  rw [Option.map_eq_none_iff, List.find?_eq_none] at h
  exact h x hx (by simpa using e)
theorem putN_one {ks : NKV} {k : NestedKey} {b : Addr} {v : V} (h : (ks.map (·.1)).Nodup) : ((putN ks k b v).map (·.1)).Nodup := by
  unfold putN
  split
  · have e : (ks.map fun x => if x.1 = k then (x.1, x.2.1, v) else x).map (·.1) = ks.map (·.1) := by
      rw [List.map_map]
      refine List.map_congr_left fun x _ => ?_
      show (if x.1 = k then (x.1, x.2.1, v) else x).1 = x.1
      split <;> rfl
    rw [e]; exact h
  · rename_i q
    have q : valN ks k = none := by cases e : valN ks k with | none => rfl | some _ => rw [e] at q; exact absurd rfl q
    rw [List.map_append, List.nodup_append]
    refine ⟨h, by simp, fun x hx y hy e => ?_⟩
    rw [List.map_singleton, List.mem_singleton] at hy
    have hy : y = k := hy
    exact valN_none q (by rw [← hy, ← e]; exact hx)
theorem Nd.mono {w : World} {H H' : Hp} {d : Addr} {ks : NKV} (n : Nd w H d ks) (ho : H' d = some (ndO w d ks)) (t : ∀ b xs, H b = some (.tup xs) → H' b = some (.tup xs)) : Nd w H' d ks :=
  ⟨ho, fun x hx => ⟨(n.keys x hx).1.mono t, (n.keys x hx).2⟩, n.one, n.sz, n.sm⟩
theorem Nd.same {w : World} {H H' : Hp} {d : Addr} {ks : NKV} (n : Nd w H d ks) (s : Same H H') : Nd w H' d ks := n.mono (s _ _ n.ob) fun _ _ h => s _ _ h
section
variable {X : Cx} {pins : List (Addr × Obj)} {σ : L2.St} {H : Hp} {s : Shared} {a b : Addr} {v : V} {u r : Value} {A : Around} {E : Value → Shared → Prop} {ks : NKV} {k : NestedKey}
theorem Nd.heap (I : Inv X pins σ H s) (n : Nd X.w H a ks) : ∃ xs, KN ks xs ∧ s.heap.DictOfH (nestedKind X.prog X.w) a xs := by
  obtain ⟨⟨xs, o, es, ep, rel, h1, h2, h3, h4⟩, _⟩ := (show ObjOk X.prog X.w H s.heap a (ndO X.w a ks) from I.hok a _ n.ob)
  exact ⟨xs, rel, o, es, ep, h1, h2, h3, h4, rel.mem (F := fun k b => (nestedKind X.prog X.w).is s.heap k b) fun x hx => ⟨(n.keys x hx).1.is I.hok rfl, (n.keys x hx).2⟩, rel.fsts ▸ n.one⟩
theorem nd_room (hu : A.units + 64 < cLine) : (nestedKind X.prog X.w).room A.in1 := by
  show A.in1.units + 8 < cLine
  have : A.in1.units = A.units + 1 := rfl
  omega
/-- what the dict at a holds at the key at b -/
def NGet (w : World) (H : Hp) (a b : Addr) (o : Option V) : Prop := ∃ ks k, Nd w H a ks ∧ NK H (.ref b) k ∧ k.depth ≤ 8 ∧ o = valN ks k
theorem n_getItem {Q : Value → Shared → Prop} (hu : A.units + 64 < cLine) (I : Inv X pins σ H s) (g : NGet X.w H a b (some v)) (h : ∀ w' s', Inv X pins σ H s' → RelV v w' → Q w' s') :
    wpAny (model X.prog X.w) A (getItem (.ref a) (.ref b)) Q E s := by
  obtain ⟨ks, k, n, nk, dk, l⟩ := g
  obtain ⟨xs, rel, dd⟩ := n.heap I
  obtain ⟨w', hw, rw'⟩ := RelO.some_of (v := v) (o := (atKey xs k).map (·.2)) (by rw [l]; exact rel.val k)
  obtain ⟨p, hp, hp2⟩ := Option.map_eq_some_iff.mp hw
  refine wpAny_getItem_heap (knd := nestedKind X.prog X.w) (nd_room hu) ⟨nk.is I.hok rfl, dk⟩ dd hp ?_
  rw [hp2]
  exact h w' _ (I.tok _) rw'
theorem n_in {o : Option V} {Q : Value → Shared → Prop} (hu : A.units + 64 < cLine) (I : Inv X pins σ H s) (g : NGet X.w H a b o) (h : ∀ s', Inv X pins σ H s' → Q (.bool o.isSome) s') :
    wpAny (model X.prog X.w) A (compareOp .In (.ref b) (.ref a)) Q E s := by
  obtain ⟨ks, k, n, nk, dk, l⟩ := g
  obtain ⟨xs, rel, dd⟩ := n.heap I
  refine wpAny_in_heap (knd := nestedKind X.prog X.w) (nd_room hu) ⟨nk.is I.hok rfl, dk⟩ n.sm dd ?_
  have q := (rel.val k).isSome_eq
  rw [Option.isSome_map] at q
  rw [← q, ← l]
  exact h _ (I.tok _)
theorem n_notIn {o : Option V} {Q : Value → Shared → Prop} (hu : A.units + 64 < cLine) (I : Inv X pins σ H s) (g : NGet X.w H a b o) (h : ∀ s', Inv X pins σ H s' → Q (.bool (!o.isSome)) s') :
    wpAny (model X.prog X.w) A (compareOp .NotIn (.ref b) (.ref a)) Q E s := by
  obtain ⟨ks, k, n, nk, dk, l⟩ := g
  obtain ⟨xs, rel, dd⟩ := n.heap I
  refine wpAny_notIn_heap (knd := nestedKind X.prog X.w) (nd_room hu) ⟨nk.is I.hok rfl, dk⟩ n.sm dd ?_
  have q := (rel.val k).isSome_eq
  rw [Option.isSome_map] at q
  rw [← q, ← l]
  exact h _ (I.tok _)
theorem n_get2 {o : Option V} {y : V} {Q : Value → Shared → Prop} (hu : A.units + 64 < cLine) (I : Inv X pins σ H s) (g : NGet X.w H a b o) (rd : RelV y r) (h : ∀ w' s', Inv X pins σ H s' → RelV (o.getD y) w' → Q w' s') :
    wpAny (model X.prog X.w) A (call (.builtin "dict.get") [.ref a, .ref b, r]) Q E s := by
  obtain ⟨ks, k, n, nk, dk, l⟩ := g
  obtain ⟨xs, rel, dd⟩ := n.heap I
  refine call_meetsIn PySem.F.slot_dict_get dd.typeIs PySem.F.entry_dict_get (PySem.F.args_dict_get_3 _ _ _) (meetsH_dict_get_default (nestedKind X.prog X.w) a b n.sm r) ⟨nd_room hu, k, xs, ⟨nk.is I.hok rfl, dk⟩, dd, h _ _ (I.tok _) ?_⟩
  rw [l]
  exact (rel.val k).getD rd
/-- the heap behind d[k] = v -/
theorem n_setItem {Q : Unit → Shared → Prop} (hu : A.units + 64 < cLine) (I : Inv X pins σ H s) (n : Nd X.w H a ks) (nk : NK H (.ref b) k) (dk : k.depth ≤ 8) (rv : RelV v r) (h : ∀ s', Inv X pins σ (upd H a (ndO X.w a (putN ks k b v))) s' → Q () s') :
    wpAny (model X.prog X.w) A (setItem (.ref a) (.ref b) r) Q E s := by
  obtain ⟨xs, rel, dd⟩ := n.heap I
  have hz : xs.length ≤ sizeLine := by rw [← Paired.length rel]; exact n.sz
  refine wpAny_setItem_heap (knd := nestedKind X.prog X.w) (hsz := hz) (nd_room hu) ⟨nk.is I.hok rfl, dk⟩ dd fun h' dd' hs => h _ ?_
  obtain ⟨q, es, ep, hq, h2, h3, h4, _, h5⟩ := dd'
  refine d_write I (by rw [n.ob]; exact True.intro) hs ⟨q, hq⟩ ⟨⟨_, q, es, ep, rel.put k b rv, hq, h2, h3, h4⟩, ⟨q, hq⟩, fun h1 h2 p st => ?_⟩
  obtain ⟨ys, o, es', ep', p1, p2, p3⟩ := p
  exact ⟨ys, o, es', ep', p1, st _ p2, p3⟩
theorem Nd.put {w : World} (n : Nd w H a ks) (nk : NK H (.ref b) k) (dk : k.depth ≤ 8) (hl : ks.length < sizeLine) : Nd w (upd H a (ndO w a (putN ks k b v))) a (putN ks k b v) := by
  have t : ∀ c xs, H c = some (.tup xs) → (upd H a (ndO w a (putN ks k b v))) c = some (.tup xs) := fun c xs hc => by
    rw [upd_ne (ne_of hc n.ob (by intro z; cases z))]; exact hc
  exact ⟨upd_same, putN_keys (F := fun k b => NK _ (.ref b) k ∧ k.depth ≤ 8) (fun x hx => ⟨(n.keys x hx).1.mono t, (n.keys x hx).2⟩) ⟨nk.mono t, dk⟩, putN_one n.one, Nat.le_trans (putN_len _ _ _ _) hl, n.sm⟩
end
/-! ### readings and rules -/
def tNNew (w : World) : TE := fun _ H Q => ∀ d, H d = none → (d == sysModules) = false → Q (.ref d) (upd H d (ndO w d []))
def tNGet (w : World) (td ty : TE) : TE := fun σ H Q => td σ H fun x H1 => ty σ H1 fun y H2 => ∃ a b v, x = .ref a ∧ y = .ref b ∧ NGet w H2 a b (some v) ∧ Q v H2
def tNIn (w : World) (ty td : TE) : TE := fun σ H Q => ty σ H fun y H1 => td σ H1 fun x H2 => ∃ a b o, x = .ref a ∧ y = .ref b ∧ NGet w H2 a b o ∧ Q (.bl o.isSome) H2
def tNNotIn (w : World) (ty td : TE) : TE := fun σ H Q => ty σ H fun y H1 => td σ H1 fun x H2 => ∃ a b o, x = .ref a ∧ y = .ref b ∧ NGet w H2 a b o ∧ Q (.bl (!o.isSome)) H2
def sNPut (w : World) (td ty tv : TE) : TS := fun D σ H => tv σ H fun v H1 => td σ H1 fun x H2 => ty σ H2 fun y H3 => ∃ a b ks k, x = .ref a ∧ y = .ref b ∧ Nd w H3 a ks ∧ NK H3 (.ref b) k ∧ k.depth ≤ 8 ∧ D.nx σ (upd H3 a (ndO w a (putN ks k b v)))
def tNGet2 (w : World) (td ty tx : TE) : TE := fun σ H Q => td σ H fun x H1 => ∃ a ks, x = .ref a ∧ Nd w H1 a ks ∧ ty σ H1 fun y H2 => tx σ H2 fun z H3 => ∃ b o, y = .ref b ∧ NGet w H3 a b o ∧ Q (o.getD z) H3
theorem nd_new {w : World} {H : Hp} {d : Addr} (h : (d == sysModules) = false) : Nd w (upd H d (ndO w d [])) d [] :=
  ⟨upd_same, fun x hx => (by cases hx), List.nodup_nil, Nat.zero_le _, h⟩
section
variable {X : Cx} {o i e f value : Expr} {pos pos' apos cpos : Pos} {td ty tv tx : TE}
theorem pe_nnew : PE X (.Dict [] [] pos) (tNNew X.w) := ⟨fun pins s σ H Q I h =>
  wpAny_Dict_empty ⟨.ref s.heap.objs.size, _, I.laid (a := s.heap.objs.size) (o := ndO X.w s.heap.objs.size []) (t' := s.toks) (fun _ _ q => Heap.get?_push_of_some _ q) (Nat.le_refl _)
    ⟨⟨[], _, #[], 0, .nil, Heap.get?_push_size _ rfl, ⟨rfl, rfl, rfl⟩, rfl, rfl⟩, ⟨_, Heap.get?_push_size _ rfl⟩, fun h1 h2 p st => by
      obtain ⟨ys, o, es', ep', p1, p2, p3⟩ := p
      exact ⟨ys, o, es', ep', p1, st _ p2, p3⟩⟩, rfl, h _ (I.hok.fresh (Nat.le_refl _)) (beq_eq_false_iff_ne.mpr (Ne.symm (Nat.ne_of_lt I.big)))⟩⟩
theorem pe_nget (hu : X.A.units + 64 < cLine) (ho : PE X o td) (hi : PE X i ty) (hs : NoSl i) : PE X (.Subscript o i pos) (tNGet X.w td ty) := by
  refine ⟨fun pins s σ H Q I h => ?_⟩
  refine subD_of PySem.F.slot_dict_getitem.lookup hs (thn (ho.run pins s σ H _ I h) fun u s1 ⟨x, H1, I1, rx, q1⟩ => thn (hi.run pins s1 σ H1 _ I1 q1) fun iv s2 ⟨y, H2, I2, ry, a, b, v, ex, ey, g, q2⟩ => ?_)
  subst ex ey
  obtain rfl : u = Value.ref a := rx
  obtain rfl : iv = Value.ref b := ry
  have t : s2.TypeIs (.ref a) "dict" := by
    obtain ⟨ks, k, n, _⟩ := g
    obtain ⟨xs, rel, dd⟩ := n.heap I2
    exact dd.typeIs
  exact ⟨t, n_getItem hu I2 g fun w' s3 I3 rw' => ⟨v, H2, I3, rw', q2⟩⟩
theorem pc_nin (hu : X.A.units + 64 < cLine) (hi : PE X i ty) (ho : PE X o td) : PC X .In i o (tNIn X.w ty td) := by
  refine ⟨fun pins s σ H Q I h => ?_⟩
  refine thn (hi.run pins s σ H _ I h) fun iv s1 ⟨y, H1, I1, ry, q1⟩ => thn (ho.run pins s1 σ H1 _ I1 q1) fun u s2 ⟨x, H2, I2, rx, a, b, ov, ex, ey, g, q2⟩ => ?_
  subst ex ey
  obtain rfl : u = Value.ref a := rx
  obtain rfl : iv = Value.ref b := ry
  exact n_in hu I2 g fun s3 I3 => ⟨.bl ov.isSome, H2, I3, rfl, q2⟩
theorem pc_nnotin (hu : X.A.units + 64 < cLine) (hi : PE X i ty) (ho : PE X o td) : PC X .NotIn i o (tNNotIn X.w ty td) := by
  refine ⟨fun pins s σ H Q I h => ?_⟩
  refine thn (hi.run pins s σ H _ I h) fun iv s1 ⟨y, H1, I1, ry, q1⟩ => thn (ho.run pins s1 σ H1 _ I1 q1) fun u s2 ⟨x, H2, I2, rx, a, b, ov, ex, ey, g, q2⟩ => ?_
  subst ex ey
  obtain rfl : u = Value.ref a := rx
  obtain rfl : iv = Value.ref b := ry
  exact n_notIn hu I2 g fun s3 I3 => ⟨.bl (!ov.isSome), H2, I3, rfl, q2⟩
theorem ps_nput (hu : X.A.units + 64 < cLine) (ho : PE X o td) (hi : PE X i ty) (hv : PE X value tv) (hs : swapsWith value (some (.Subscript o i pos')) pos.line X.env = pure false) :
    PS X (.Assign [.Subscript o i pos'] value pos) (sNPut X.w td ty tv) := by
  refine ⟨fun pins s σ H D I h => ?_⟩
  refine wpAny_Assign_Subscript (thn (hv.run pins s σ H _ I h) fun r s1 ⟨v, H1, I1, rv, q1⟩ => thn (ho.run pins s1 σ H1 _ I1 q1) fun u s2 ⟨x, H2, I2, rx, q2⟩ => thn (hi.run pins s2 σ H2 _ I2 q2) fun iv s3 ⟨y, H3, I3, ry, a, b, ks, k, ex, ey, n, nk, dk, q3⟩ => ?_) hs
  subst ex ey
  obtain rfl : u = Value.ref a := rx
  obtain rfl : iv = Value.ref b := ry
  exact n_setItem hu I3 n nk dk rv fun s4 I4 => ⟨σ, _, I4, q3⟩
theorem pe_nget2 (hu : X.A.units + 64 < cLine) (ho : PE X o td) (he : PE X e ty) (hf : PE X f tx) (m : M2 X o "get" apos e f cpos) : PE X (.Call (.Attribute o "get" apos) [e, f] [] cpos) (tNGet2 X.w td ty tx) := by
  refine ⟨fun pins s σ H Q I h => ?_⟩
  refine wpAny_Call_method m.base m.few m.line PySem.F.plainAttrs_dict PySem.F.slot_dict_get PySem.F.type_dict_get (thn (ho.run pins s σ H _ I h) fun u s1 ⟨x, H1, I1, rx, a, ks, ex, n, q1⟩ => ?_)
  subst ex
  obtain rfl : u = Value.ref a := rx
  obtain ⟨xs, rel, dd⟩ := n.heap I1
  refine ⟨dd.typeIs, fun b q => ?_, ?_⟩
  · cases q
    obtain ⟨ob, _, _, h1, h2, _⟩ := dd
    exact ⟨ob, h1, h2.2.1⟩
  rw [m.trees]
  refine Calls.callWith_builtin rfl (Calls.evalArgs_plain (Calls.spliced_cons (thn (he.run pins s1 σ H1 _ I1 q1) fun iv s2 ⟨y, H2, I2, ry, q2⟩ =>
    Calls.spliced_cons (thn (hf.run pins s2 σ H2 _ I2 q2) fun fv s3 ⟨z, H3, I3, rz, b, ov, ey, g, q3⟩ => Calls.spliced_nil ?_))))
  subst ey
  obtain rfl : iv = Value.ref b := ry
  exact n_get2 hu I3 g rz fun w' s4 I4 rw' => ⟨_, H3, I4, rw', q3⟩
end
end Mus

set_option maxRecDepth 100000
set_option maxHeartbeats 4000000
/-! sorted(x), x a list or a tuple of data of one shape. -/
namespace PySem.W
open PySem PySem.Calls PyProof.Rows
section
variable {prog : Program} {w : World} {A : Around} {E : Value → Shared → Prop} {s : Shared}
/-- the items of a tuple, in a list of their own -/
theorem mus_collect {a : Addr} {vs : List Value} {Q : List Value → Shared → Prop} (ht : s.heap.IsTuple a vs.toArray) (hz : vs.length ≤ sizeLine)
    (h : Q vs { s with heap := (s.heap.push (seqObj "list" #[] 0)).update s.heap.objs.size (Obj.mapSeq (· ++ vs.toArray)) }) : wpAny (model prog w) A (collect (.ref a)) Q E s := by
  obtain ⟨o, e1, e2, n, e3⟩ := id ht
  have f1 : (s.heap.push (seqObj "list" #[] 0)).get? a = some o := Heap.get?_push_of_some _ e1
  have f2 : (s.heap.push (seqObj "list" #[] 0)).get? s.heap.objs.size = some (seqObj "list" #[] 0) := Heap.get?_push_size _ rfl
  have k1 : (Value.type "tuple" == Value.type "list") = false := by decide +kernel
  have k2 : (Value.type "tuple" == Value.type "tuple") = true := by decide +kernel
  unfold collect
  refine wpAny_bind (wpAny_runValue (codeAny_builtin entry_proto_collect' ?_))
  refine wpAny_bind (wpAny_newList (wpAny_pure ⟨Code.quiet_builtin _ (by decide +kernel), codeAny_builtin entry_list_iadd' ?_⟩))
  show wpAny _ _ (Builtin.List.listExtendWith (.ref s.heap.objs.size) (.ref a) (.ref s.heap.objs.size)) _ _ { s with heap := s.heap.push (seqObj "list" #[] 0) }
  unfold Builtin.List.listExtendWith
  refine wpAny_bind (wpAny_typeOf (T := "tuple") ⟨o, f1, e2⟩ ?_)
  rw [if_pos (by rw [k1, k2]; simp)]
  refine wpAny_bind (listItems_at f1 e3 (wpAny_bind (listItems_at (xs := #[]) (n := 0) f2 rfl ?_)))
  rw [if_neg (by simp)]
  refine wpAny_bind (listUpdate_at (xs := #[]) (n := 0) f2 rfl (wpAny_pure ?_) (Nat.zero_le _) (by simp only [Array.size_append, List.size_toArray, List.length_nil]; omega))
  refine wpAny_bind (wpAny_load (get?_update_seq f2 _) ?_)
  have e : ((#[] : Array Value) ++ vs.toArray).toList = vs := by simp
  show wpAny _ _ (pure ((#[] : Array Value) ++ vs.toArray).toList) Q E _
  rw [e]
  exact wpAny_pure h
theorem mus_sortedT {a : Addr} {vs : List Value} {Q : Value → Shared → Prop} (ht : s.heap.IsTuple a vs.toArray) (hL : vs.length ≤ sizeLine)
    (body : ∀ E' : Value → Shared → Prop, wpAny (model prog w) A.in1.in1 (Builtin.«list.sort» ⟨[.ref (s.heap.objs.size + 1)], []⟩) (fun f s' => f = .done (.ret .none) ∧ Q (.ref (s.heap.objs.size + 1)) s') E' { s with heap := copyHeap s.heap vs }) :
    wpAny (model prog w) A (call (.builtin "sorted") [.ref a]) Q E s := by
  have z : ((s.heap.push (seqObj "list" #[] 0)).update s.heap.objs.size (Obj.mapSeq (· ++ vs.toArray))).objs.size = s.heap.objs.size + 1 := (Heap.size_update ..).trans (size_push' ..)
  refine call_function_entry_kw kind_sorted plain_sorted entry_sorted (args_sorted1 _) ?_
  unfold Builtin.«sorted»
  refine wpAny_bind (m := checkCount "sorted" 1 1 _) (wpAny_pure (wpAny_bind (mus_collect ht hL (wpAny_bind (wpAny_newList ?_ hL)))))
  show wpAny _ _ _ _ _ { s with heap := copyHeap s.heap vs }
  rw [z]
  refine wpAny_bind (wpAny_holding (wpAny_call_entry_kw slot_list_sort ⟨_, copyHeap_at s.heap vs, rfl⟩ entry_list_sort ?sorts (args_list_sort _)))
  case sorts =>
    refine wpAny_mono (body _) (fun f s' q => ?_) fun _ _ e => e
    obtain ⟨rfl, q⟩ := q
    exact ⟨_, rfl, wpAny_pure ⟨_, rfl, q⟩⟩
theorem mus_sorted {β : Type} {R : Value → β → Prop} {enc : β → PyData} {bs : List β} {a : Addr} {vs : List Value} {Q : Value → Shared → Prop} (ht : s.heap.IsTuple a vs.toArray) (e : EachIs R vs bs) (er : EachIs (fun v b => ∃ as, Reads s.heap v (enc b) as) vs bs) (hal : AllAlike (bs.map enc)) (hk : Sortable (bs.map enc)) (hL : bs.length ≤ sizeLine)
    (hu : ∀ b, b ∈ bs → A.units + 2 + (enc b).depth < cLine) (h : ∀ out, out.length = bs.length → EachIs R out (bs.mergeSort (dataLe false enc)) → Q (.ref (s.heap.objs.size + 1)) { s with heap := sortedAll s.heap vs (List.toArray out) }) :
    wpAny (model prog w) A (call (.builtin "sorted") [.ref a]) Q E s := by
  have lv : vs.length ≤ sizeLine := e.length ▸ hL
  have er' : EachIs (fun v b => ∃ as, Reads (sortingHeap (copyHeap s.heap vs) (s.heap.objs.size + 1) vs) v (enc b) as) vs bs := er.mono fun _ _ ⟨as, r⟩ => ⟨as, PyProof.Rows.Reads.keeps (fun _ _ => sorting_copy_old) r⟩
  have S := SortsAt.data (prog := prog) (w := w) (A := A.in1.in1) (s := { s with heap := sortingHeap (copyHeap s.heap vs) (s.heap.objs.size + 1) vs }) (each_map (R := fun v d => ∃ as, Reads (sortingHeap (copyHeap s.heap vs) (s.heap.objs.size + 1) vs) v d as) enc er') hal hk (bound_map hu)
  exact mus_sortedT ht lv fun _ => list_sort_vals (s := { s with heap := copyHeap s.heap vs }) (copyHeap_at s.heap vs) S lv ⟨rfl, h _ (by rw [sortVals_length false rfl]; exact e.length) (sortVals_data false e er' hal)⟩
end
end PySem.W
namespace Mus
open PySem PySem.Spec PyProof.Rows L2
def rSortedD (K : PySem.W.Frag) : List V → Hp → VK → Prop := fun vs H Q => ∃ (a : Addr) (xs : List V) (ds : List PyData), vs = [V.ref a] ∧ (SqL K H a xs ∨ SqT K H a xs) ∧ DpAll K H xs ds ∧ PySem.W.AllAlike ds ∧ PySem.W.Sortable ds ∧ (∀ d ∈ ds, d.depth ≤ 20) ∧
  ∀ (ps : List (V × PyData)) p, ps = (xs.zip ds).mergeSort (PySem.W.dataLe false (·.2)) → H p = none → Q (.ref p) (upd H p (.lst (ps.map (·.1))))
theorem each_zip {h : Heap} : ∀ {xs : List V} {ds : List PyData} {vs : List Value}, Vals xs vs → xs.length = ds.length → PySem.W.EachIs (fun v (b : V × PyData) => RelV b.1 v) vs (xs.zip ds)
  | [], [], _, .nil, _ => .nil
  | x :: xs, d :: ds, _, .cons r rs, hl => .cons r (each_zip (h := h) rs (by simpa using hl))
  | [], _ :: _, _, _, hl => by cases hl
  | _ :: _, [], _, _, hl => by cases hl
theorem each_reads {h : Heap} : ∀ {xs : List V} {ds : List PyData} {vs : List Value} {as : List Addr}, xs.length = ds.length → ReadsAll h vs ds as → vs.length = xs.length → PySem.W.EachIs (fun v (b : V × PyData) => ∃ as, Reads h v b.2 as) vs (xs.zip ds)
  | [], [], _, _, _, .nil, _ => .nil
  | x :: xs, d :: ds, _, _, hl, .cons r rs, h2 => .cons ⟨_, r⟩ (each_reads (by simpa using hl) rs (by simpa using h2))
  | [], _ :: _, _, _, hl, _, _ => by cases hl
  | _ :: _, [], _, _, hl, _, _ => by cases hl
theorem vals_of_each : ∀ {ps : List (V × PyData)} {out : List Value}, PySem.W.EachIs (fun v (b : V × PyData) => RelV b.1 v) out ps → Vals (ps.map (·.1)) out
  | _, _, .nil => .nil
  | _, _, .cons r rs => .cons r (vals_of_each rs)
theorem dpAll_len {K : PySem.W.Frag} {H : Hp} : ∀ {xs : List V} {ds : List PyData}, DpAll K H xs ds → xs.length = ds.length
  | _, _, .nil => rfl
  | _, _, .cons _ r => congrArg (· + 1) (dpAll_len r)
section
variable {X : Cx}
theorem cr_sortedD (hu : X.A.units + 64 < cLine) : CallR X (.builtin "sorted") (rSortedD X.K) := by
  intro pins s σ H vs us Q I r h
  obtain ⟨a, xs, ds, rfl, hs, hd, hal, hk, hdep, q⟩ := h
  obtain ⟨u, rfl, ru⟩ := vals1 r
  obtain rfl : u = Value.ref a := ru
  have ll := dpAll_len hd
  have lz : (xs.zip ds).length = ds.length := by rw [List.length_zip, ll, Nat.min_self]
  have em : (xs.zip ds).map (·.2) = ds := List.map_snd_zip (by omega)
  have hu' : ∀ b ∈ xs.zip ds, X.A.units + 2 + b.2.depth < cLine := fun b hb => by
    have := hdep b.2 (by rw [← em]; exact List.mem_map.mpr ⟨b, hb, rfl⟩)
    omega
  have fin : ∀ {vs : List Value}, Vals xs vs → ∀ out, out.length = (xs.zip ds).length → PySem.W.EachIs (fun v (b : V × PyData) => RelV b.1 v) out ((xs.zip ds).mergeSort (PySem.W.dataLe false (·.2))) → EP X pins σ Q (.ref (s.heap.objs.size + 1)) { s with heap := sortedAll s.heap vs (List.toArray out) } := fun {vs} rv out hl he => by
    obtain ⟨n, hn⟩ := sortedAll_at s.heap vs (List.toArray out)
    have nd : H (s.heap.objs.size + 1) = none := I.hok.fresh (Nat.le_succ _)
    have hz : ((xs.zip ds).mergeSort (PySem.W.dataLe false (·.2))).length ≤ sizeLine := by
      rw [List.length_mergeSort, lz, ← ll]
      rcases hs with hs | hs
      · obtain ⟨_, _, _, hz⟩ := I.list hs; exact hz
      · obtain ⟨_, _, _, hz⟩ := I.tuple hs; exact hz
    exact ⟨.ref (s.heap.objs.size + 1), _, I.laid (t' := s.toks) (o := .lst (((xs.zip ds).mergeSort (PySem.W.dataLe false (·.2))).map (·.1))) (fun b o e => sortedAll_old e) (Nat.le_succ _) ⟨by rw [List.length_map]; exact hz, out, n, vals_of_each he, hn⟩, rfl, q _ _ rfl nd⟩
  rcases hs with hs | hs
  · obtain ⟨its, rv, hl, hz⟩ := I.list hs
    obtain ⟨as, ra⟩ := Dp.readsAll I ds xs its hd rv
    exact PySem.W.sorted_data hl.isList (each_zip (h := s.heap) rv ll) (each_reads ll ra rv.length.symm) (by rw [em]; exact hal) (by rw [em]; exact hk) (by rw [lz, ← ll]; exact hz) hu' (fin rv)
  · obtain ⟨its, rv, hl, hz⟩ := I.tuple hs
    obtain ⟨as, ra⟩ := Dp.readsAll I ds xs its hd rv
    exact PySem.W.mus_sorted hl (each_zip (h := s.heap) rv ll) (each_reads ll ra rv.length.symm) (by rw [em]; exact hal) (by rw [em]; exact hk) (by rw [lz, ← ll]; exact hz) hu' (fin rv)
end
end Mus

set_option maxRecDepth 100000
set_option maxHeartbeats 4000000
/-! sorted(d) and d.get(k, x) of a dict whose keys are nested tuples. -/
namespace PySem.W
open PySem PySem.Calls PyProof.Rows
theorem mus_raw {prog : Program} {w : World} {d : Addr} {es : Array DictEntry} {ep : Nat} (lo : (d == sysModules) = false) : KdlSrc prog w "dict" d d es.size (fun i v => ∃ hi : i < es.size, v = es[i].key) (fun h => h.DictRaw d es ep) where
  type := fun _ hm => hm.typeIs
  there := fun _ hm => ⟨let ⟨_, ho, _⟩ := hm; Heap.lt_size ho, let ⟨_, ho, _⟩ := hm; Heap.lt_size ho⟩
  keep := fun _ _ hm hk => hm.at fun o e => hk d (.inl rfl) o e
  notList := by decide
  notTuple := by decide
  hint := fun _ _ _ _ hm hq => kdl_hint_dict hm.typeIs hq
  iter := fun _ _ hh hm => ⟨_, _, (fun _ _ hq => wpAny_pyIter_dict_raw lo hm hq), Walks.rawKeys hh _ d (Nat.ne_of_lt (let ⟨_, ho, _⟩ := hm; Heap.lt_size ho)) es ep, ⟨⟨_, Heap.get?_push_size _ rfl, rfl, rfl⟩, hm.at fun _ e => Heap.get?_push_of_some _ e⟩⟩
end PySem.W
namespace Mus
open PySem PySem.Spec PyProof.Rows L2
def rSortedN (K : PySem.W.Frag) (w : World) : List V → Hp → VK → Prop := fun vs H Q => ∃ (a : Addr) (kvs : NKV) (ds : List PyData), vs = [V.ref a] ∧ Nd w H a kvs ∧ DpAll K H (kvs.map fun x => V.ref x.2.1) ds ∧ PySem.W.AllAlike ds ∧ PySem.W.Sortable ds ∧ (∀ d ∈ ds, d.depth ≤ 20) ∧
  ∀ (ps : List (V × PyData)) p, ps = ((kvs.map fun x => V.ref x.2.1).zip ds).mergeSort (PySem.W.dataLe false (·.2)) → H p = none → Q (.ref p) (upd H p (.lst (ps.map (·.1))))
theorem vals_refs : ∀ kvs : NKV, Vals (kvs.map fun x => V.ref x.2.1) (kvs.map fun x => Value.ref x.2.1)
  | [] => .nil
  | x :: r => .cons rfl (vals_refs r)
theorem KN.ref {ks : NKV} {xs : List (NestedKey × Addr × Value)} (r : KN ks xs) : xs.map (fun x => Value.ref x.2.1) = ks.map fun x => Value.ref x.2.1 := by
  induction r with
  | nil => rfl
  | cons h t ih => rw [List.map_cons, List.map_cons, ih, h.2.1]
section
variable {X : Cx}
theorem cr_sortedN (hc : X.calm = true) (hu : X.A.units + 64 < cLine) : CallR X (.builtin "sorted") (rSortedN X.K X.w) := by
  intro pins s σ H vs us Q I r h
  obtain ⟨a, kvs, ds, rfl, n, hd, hal, hk, hdep, q⟩ := h
  obtain ⟨u, rfl, ru⟩ := vals1 r
  obtain rfl : u = Value.ref a := ru
  obtain ⟨xs, rel, dd⟩ := n.heap I
  obtain ⟨es, ep, raw, hs, hx⟩ := dd.raw
  have hl : es.size = kvs.length := by rw [hs, Paired.length rel]
  have h16 : es.size ≤ sizeLine := by rw [hl]; exact n.sz
  refine Calls.call_function_entry PyProof.Rows.kind_sorted PyProof.Rows.plain_sorted PyProof.Rows.entry_sorted (PyProof.Rows.args_sorted1 _) ?_
  unfold Builtin.«sorted»
  refine wpAny_bind (m := checkCount "sorted" 1 1 _) (wpAny_pure ?_)
  refine wpAny_bind (PySem.W.kdu_collect (A := X.A.in1) (PySem.W.mus_raw n.sm) (I.ok.hd hc) raw h16 fun h' tk acc hk' hacc => ?_)
  have e1 : acc.toList = kvs.map fun x => Value.ref x.2.1 := by
    rw [← rel.ref]
    refine List.ext_getElem? fun j => ?_
    rw [List.getElem?_map]
    cases e : acc.toList[j]? with
    | none =>
      have : acc.toList.length ≤ j := List.getElem?_eq_none_iff.mp e
      rw [Array.length_toList, hacc.1, hs] at this
      rw [List.getElem?_eq_none this]; rfl
    | some v =>
      obtain ⟨hi, rfl⟩ := hacc.2 j v (by rw [← Array.getElem?_toList]; exact e)
      obtain ⟨y, hy, ey, _⟩ := hx j hi
      rw [hy, ey]; rfl
  have rv : Vals (kvs.map fun x => V.ref x.2.1) acc.toList := by rw [e1]; exact vals_refs kvs
  have I1 : Inv X pins σ H { s with heap := h', toks := tk } := I.kept hk'
  have ll := dpAll_len hd
  have lz : ((kvs.map fun x => V.ref x.2.1).zip ds).length = ds.length := by rw [List.length_zip, ll, Nat.min_self]
  have em : ((kvs.map fun x => V.ref x.2.1).zip ds).map (·.2) = ds := List.map_snd_zip (by omega)
  have la : acc.toList.length = ds.length := by rw [← rv.length]; exact ll
  have hL : acc.toList.length ≤ sizeLine := by rw [Array.length_toList, hacc.1]; exact h16
  obtain ⟨as, ra⟩ := Dp.readsAll I1 ds _ _ hd rv
  refine wpAny_bind (wpAny_newList ?_ hL)
  have hoL : (h'.push (seqObj "list" acc.toList.toArray 0)).get? h'.objs.size = some (seqObj "list" acc.toList.toArray 0) := Heap.get?_push_size _ rfl
  show wpAny _ _ _ _ _ { s with heap := h'.push (seqObj "list" acc.toList.toArray 0), toks := tk }
  have old : ∀ b o, h'.get? b = some o → (PySem.W.sortingHeap (h'.push (seqObj "list" acc.toList.toArray 0)) h'.objs.size acc.toList).get? b = some o := fun b o e => PySem.W.sortingHeap_old (Nat.ne_of_lt (Heap.lt_size e)) (Heap.get?_push_of_some _ e)
  have er : PySem.W.EachIs (fun v (b : V × PyData) => ∃ as, Reads (PySem.W.sortingHeap (h'.push (seqObj "list" acc.toList.toArray 0)) h'.objs.size acc.toList) v b.2 as) acc.toList ((kvs.map fun x => V.ref x.2.1).zip ds) :=
    (each_reads ll ra rv.length.symm).mono fun _ _ ⟨as, r⟩ => ⟨as, PyProof.Rows.Reads.keeps old r⟩
  have hu' : ∀ b ∈ (kvs.map fun x => V.ref x.2.1).zip ds, X.A.in1.in1.units + b.2.depth < cLine := fun b hb => by
    have := hdep b.2 (by rw [← em]; exact List.mem_map.mpr ⟨b, hb, rfl⟩)
    have e : X.A.in1.in1.units = X.A.units + 2 := rfl
    omega
  have S := PySem.W.SortsAt.data (prog := X.prog) (w := X.w) (A := X.A.in1.in1) (s := { s with heap := PySem.W.sortingHeap (h'.push (seqObj "list" acc.toList.toArray 0)) h'.objs.size acc.toList, toks := tk }) (PySem.W.each_map (R := fun v d => ∃ as, Reads _ v d as) (fun b : V × PyData => b.2) er) (by rw [em]; exact hal) (by rw [em]; exact hk) (PySem.W.bound_map hu')
  have he := PySem.W.sortVals_data false (each_zip (h := h') rv ll) er (by rw [em]; exact hal)
  refine wpAny_bind (wpAny_holding (wpAny_call_entry PyProof.Rows.slot_list_sort ⟨_, hoL, rfl⟩ PyProof.Rows.entry_list_sort
    (PySem.W.list_sort_vals (s := { s with heap := h'.push (seqObj "list" acc.toList.toArray 0), toks := tk }) hoL S hL ⟨_, rfl, ?_⟩) (PyProof.Rows.args_list_sort _)))
  generalize PySem.W.sortVals _ false acc.toList acc.toList = out at he ⊢
  obtain ⟨e', he'⟩ := PyProof.Rows.sortedHeap_at (vs := acc.toList) (out := out.toArray) hoL
  refine wpAny_pure ⟨_, rfl, .ref h'.objs.size, upd H h'.objs.size (.lst ((((kvs.map fun x => V.ref x.2.1).zip ds).mergeSort (PySem.W.dataLe false (·.2))).map (·.1))), I1.laid (t' := tk) (fun b u e => ?_) (Nat.le_refl _)
    (show ObjOk X.prog X.w _ _ _ (.lst _) from ⟨?_, out, e', vals_of_each he, he'⟩), rfl, q _ _ rfl (I1.hok.fresh (Nat.le_refl _))⟩
  · have hb : b < h'.objs.size := Heap.lt_size e
    rw [PyProof.Rows.sortedHeap_old (Nat.ne_of_lt hb) (by rw [size_push']; exact Nat.lt_succ_of_lt hb)]
    exact Heap.get?_push_of_some _ e
  · rw [List.length_map, List.length_mergeSort, lz, ← la]; exact hL
end
end Mus

set_option maxRecDepth 100000
set_option maxHeartbeats 4000000
namespace Mus
open PySem L2 TL PySem.NumText
local macro_rules | `(tactic| walk_at "rd") => `(tactic| first
  | refine ⟨_, rfl, ?_⟩ | refine ⟨(True.intro : True), ?_⟩
  | refine ⟨_, _, rfl, rfl, (⟨by decide, by decide, by decide⟩ : CPow _ _), ?_⟩
  | refine ⟨_, _, rfl, rfl, (⟨by decide, by decide⟩ : CDiv _ _), ?_⟩
  | refine ⟨_, _, rfl, rfl, (by show (0 : Int) < _; decide), ?_⟩
  | refine ⟨_, _, rfl, rfl, ?_⟩ | refine ⟨rfl, ?_⟩ | refine iteT ?_ | refine iteF ?_ | refine ⟨_, _, rfl, ?_⟩ | refine .inl ⟨_, rfl, ?_⟩
  | refine ⟨_, _, _, _, _, rfl, (by assumption), (by assumption), (by assumption), rfl, ?_⟩ | refine ⟨_, _, _, _, rfl, rfl, SqT.of (by assumption), rfl, ?_⟩ | refine ⟨_, _, rfl, SqT.of (by assumption), rfl, ?_⟩
  | refine ⟨_, _, _, _, _, rfl, .ty _, Rp.ty (by assumption), kit_int _, ?_⟩ | refine ⟨_, _, _, _, _, rfl, .ty _, Rp.ty (by assumption), kit_bool _, ?_⟩
  | refine ⟨_, _, _, _, _, rfl, .ty _, Rp.ty (by assumption), kit_str _, ?_⟩ | refine ⟨_, _, _, _, _, rfl, .ty _, Rp.ty (by assumption), kit_tup _, ?_⟩)
local macro_rules | `(tactic| walk_at "cal") => `(tactic| first
  | refine ⟨_, _, _, _, _, rfl, (by assumption), ?_⟩ | refine ⟨_, _, _, _, _, rfl, (by assumption), (by assumption), ?_⟩)
local macro_rules | `(tactic| walk_at "sq") => `(tactic| first
  | refine ⟨_, _, rfl, Or.inr (SqT.of (by assumption)), ?_⟩ | refine ⟨_, _, _, _, rfl, rfl, SqT.of (by assumption), rfl, ?_⟩)
local macro_rules | `(tactic| walk_at "rds") => `(tactic| repeat first | walk_at "rd" | walk_at "cal" | walk_at "sq")
local macro_rules | `(tactic| walk_at "ze") => `(tactic| repeat first
  | exact zes_nil | exact ze_bl | exact ze_str | exact ze_non | apply zes_cons | apply ze_tup | apply ze_lst | apply ze_cat | exact di_c | exact di_v rfl | apply di_opC | apply di_op | apply di_neg | apply ze_i | (refine (⟨?_, ?_, ?_⟩ : CPow _ _) <;> decide) | exact Nat.le_of_ble_eq_true rfl | exact ze_varD rfl (by assumption))
local macro_rules | `(tactic| walk_at "rdz") => `(tactic| repeat (fail_if_success (first | show tLst _ _ _ _ | show tAsg (tLst _) _ _ _ _ | show tSeq (tAsg (tLst _) _) _ _ _ _)); first | walk_at "rd" | walk_at "cal" | walk_at "sq")
def sp_mem1 : Sp := fun vs H Q _ => ∃ (p : Addr) (c n : Int), vs = [.ref p, .int n] ∧ Bag p c H ∧ 1 ≤ n ∧ n ≤ 12 ∧ ∀ (a : Addr) (i l : Int) (H' : Hp), 0 ≤ i → i < n → 1 ≤ l → l ≤ 1000000000000 → Rp p H' (.ref a) (.tuple [.int i, .int l]) → But p H H' → Bag p c H' → Q (.ref a) H'
def sp_vid1 : Sp := fun vs H Q _ => ∃ (p : Addr) (c n : Int), vs = [.ref p, .int n] ∧ Bag p c H ∧ 1 ≤ n ∧ n ≤ 12 ∧ ∀ (a : Addr) (k i l : Int) (H' : Hp), 0 ≤ k → k ≤ 1000000000000 → 0 ≤ i → i < n → 1 ≤ l → l ≤ 1000000000000 → Rp p H' (.ref a) (.tuple [.int k, .tuple [.int i, .int l]]) → But p H H' → Bag p c H' → Q (.ref a) H'
section
variable {P : Program} {w : World} {K : PySem.W.Frag} {mg : Str → Option Value} {base : Heap}
abbrev s__law_member : Stmt := top 54
abbrev N__law_member : List Str := ["bag", "count"]
abbrev P__law_member : List Str := ["bag", "count"]
theorem sc__law_member : FnScope N__law_member P__law_member (defScope s__law_member) := ⟨rfl, rfl, rfl, by decide +kernel, rfl, by decide +kernel, by decide +kernel⟩
theorem ok__law_member {f : Addr} {fd : FuncData} (T : Tx mg) (c__law_draw : DefOk P w K mg base CX0 "_law_draw" P__law_draw 1 (sp_draw)) (c__law_positive : DefOk P w K mg base CX0 "_law_positive" P__law_positive 2 (sp_pos))(F : Fun K "_law_member" "_law_member" s__law_member f fd) : FnOk P w K mg base CX0 (3) f fd P__law_member (sp_mem1) := by
  have nd := sc__law_member.nd
  refine F.ok sc__law_member (fun vs H Q E h => ?_) (fun cdv A outer s H vs Q E hr h => ?_)
  · obtain ⟨_, _, _, rfl, _⟩ := h
    rfl
  · obtain ⟨p, c, n, rfl, g, n1, n2, q⟩ := h
    have hs := sl
    refine ⟨_, (pss_one (ps_ret (pe_tup (pa_cons (pcall c__law_draw hr (pa_cons (pv 0) (pa_cons (pv 1) pa_nil))) (pa_cons (pcall c__law_positive hr (pa_cons (pv 0) pa_nil)) pa_nil))))), ?_⟩
    refine ⟨_, rfl, _, rfl, p, c, n, rfl, g, by omega, by omega, fun i H1 i0 i1 b1 g1 => ?_⟩
    refine ⟨_, rfl, p, c, rfl, g1, fun l H2 l0 l1 b2 g2 => ?_⟩
    refine ⟨by show 2 ≤ sizeLine; omega, fun t nt => ?_⟩
    exact q t i l _ i0 i1 l0 l1 (rp_tup g2 nt (.cons (.int i) (.cons (.int l) .nil))) ((b1.trans b2).new nt) (g2.new nt)
abbrev s__law_id : Stmt := top 56
abbrev N__law_id : List Str := ["bag", "count"]
abbrev P__law_id : List Str := ["bag", "count"]
theorem sc__law_id : FnScope N__law_id P__law_id (defScope s__law_id) := ⟨rfl, rfl, rfl, by decide +kernel, rfl, by decide +kernel, by decide +kernel⟩
theorem ok__law_id {f : Addr} {fd : FuncData} (T : Tx mg) (c__law_positive : DefOk P w K mg base CX0 "_law_positive" P__law_positive 2 (sp_pos)) (c__law_member : DefOk P w K mg base CX0 "_law_member" P__law_member 3 (sp_mem1))(F : Fun K "_law_id" "_law_id" s__law_id f fd) : FnOk P w K mg base CX0 (4) f fd P__law_id (sp_vid1) := by
  have nd := sc__law_id.nd
  refine F.ok sc__law_id (fun vs H Q E h => ?_) (fun cdv A outer s H vs Q E hr h => ?_)
  · obtain ⟨_, _, _, rfl, _⟩ := h
    rfl
  · obtain ⟨p, c, n, rfl, g, n1, n2, q⟩ := h
    have hs := sl
    refine ⟨_, (pss_one (ps_ret (pe_tup (pa_cons (pe_op op_sub (pcall c__law_positive hr (pa_cons (pv 0) pa_nil)) pe_int) (pa_cons (pcall c__law_member hr (pa_cons (pv 0) (pa_cons (pv 1) pa_nil))) pa_nil))))), ?_⟩
    refine ⟨_, rfl, p, c, rfl, g, fun k H1 k0 k1 b1 g1 => ?_⟩
    walk_at "rds"
    refine ⟨p, c, n, rfl, g1, n1, n2, fun a i l H2 i0 i1 l0 l1 r2 b2 g2 => ?_⟩
    refine ⟨by show 2 ≤ sizeLine; omega, fun t nt => ?_⟩
    exact q t (k - 1) i l _ (by omega) (by omega) i0 i1 l0 l1 (rp_tup g2 nt (.cons (.int _) (.cons r2 .nil))) ((b1.trans b2).new nt) (g2.new nt)
end
end Mus

set_option maxRecDepth 100000
set_option maxHeartbeats 4000000
/-! View ids as data and as keys; their order; lists sorted by them. -/
namespace Mus
open PySem PySem.Spec PyProof.Rows L2
def vKey (k i l : Int) : NestedKey := .tup [.num k, .tup [.num i, .num l]]
def vD (k i l : Int) : PyData := .tuple [.int k, .tuple [.int i, .int l]]
mutual
def kD : NestedKey → PyData
  | .none => .none
  | .num i => .int i
  | .text x => .str x
  | .tup ks => .tuple (kDs ks)
def kDs : List NestedKey → List PyData
  | [] => []
  | k :: ks => kD k :: kDs ks
end
theorem kD_v (k i l : Int) : kD (vKey k i l) = vD k i l := rfl
theorem vKey_depth (k i l : Int) : (vKey k i l).depth ≤ 8 := by simp [vKey, NestedKey.depth, NestedKey.depthAll]
theorem vKey_inj {k i l k' i' l' : Int} (h : vKey k i l = vKey k' i' l') : k = k' ∧ i = i' ∧ l = l' := by
  injection h with h
  injection h with h1 h2
  injection h1 with h1
  injection h2 with h2 _
  injection h2 with h2
  injection h2 with h2 h3
  injection h2 with h2
  injection h3 with h3 _
  injection h3 with h3
  exact ⟨h1, h2, h3⟩
theorem nk_vid {p : Addr} {H : Hp} {a : Addr} {k i l : Int} (h : Rp p H (.ref a) (vD k i l)) : NK H (.ref a) (vKey k i l) := by
  obtain _ | _ | _ | _ | _ | @⟨_, xs, _, ha, _, _, hr⟩ := h
  obtain _ | ⟨h1, _ | ⟨h2, hn⟩⟩ := hr
  cases hn
  cases h1
  obtain _ | _ | _ | _ | _ | @⟨b, ys, _, hb, _, _, hr2⟩ := h2
  obtain _ | ⟨h3, _ | ⟨h4, hn⟩⟩ := hr2
  cases hn
  cases h3
  cases h4
  exact .tup ha (.cons (.int _) (.cons (.tup hb (.cons (.int _) (.cons (.int _) .nil))) .nil))
theorem v_alike (k i l k' i' l' : Int) : PySem.W.alike (vD k i l) (vD k' i' l') = true := rfl
theorem v_depth (k i l : Int) : (vD k i l).depth ≤ 20 := by simp [vD, PyData.depth, PyData.depthAll]
/-- the order of view ids -/
def vLt (k i l k' i' l' : Int) : Bool := decide (k < k' ∨ k = k' ∧ (i < i' ∨ i = i' ∧ l < l'))
theorem v_lt (k i l k' i' l' : Int) : PySem.W.dataLt (vD k i l) (vD k' i' l') = vLt k i l k' i' l' := by
  unfold vD vLt
  rw [PySem.W.dataLt_pair rfl rfl, PySem.W.dataLt_ii, PySem.W.dataLt_int]
  have e1 : PyData.eqv (.int k) (.int k') = decide (k = k') := rfl
  have e2 : PyData.eqv (.tuple [.int i, .int l]) (.tuple [.int i', .int l']) = (decide (i = i') && decide (l = l')) := by
    show (decide (i = i') && (decide (l = l') && true)) = _
    rw [Bool.and_true]
  rw [e1, e2]
  by_cases h1 : k = k'
  · subst h1
    by_cases h2 : i = i'
    · subst h2
      by_cases h3 : l = l'
      · subst h3; simp
      · simp [h3]
    · simp [h2]
  · simp [h1]
theorem valN_mem {ks : NKV} {x : NestedKey × Addr × V} (h : (ks.map (·.1)).Nodup) (hx : x ∈ ks) : valN ks x.1 = some x.2.2 := by
  induction ks with
  | nil => cases hx
  | cons y ys ih =>
    rw [List.map_cons, List.nodup_cons] at h
    unfold valN
    rw [List.find?_cons]
    rcases List.mem_cons.mp hx with rfl | hx
    · simp
    · have ne : ¬ y.1 = x.1 := fun e => h.1 (by rw [e]; exact List.mem_map.mpr ⟨x, hx, rfl⟩)
      rw [decide_eq_false ne]
      exact ih h.2 hx
theorem putN_all {ks : NKV} {k : NestedKey} {b : Addr} {v : V} {A : NestedKey → Addr → Prop} {B : V → Prop} (h : ∀ x ∈ ks, A x.1 x.2.1 ∧ B x.2.2) (hk : A k b) (hv : B v) : ∀ x ∈ putN ks k b v, A x.1 x.2.1 ∧ B x.2.2 := by
  intro x hx
  unfold putN at hx
  split at hx
  · obtain ⟨y, hy, rfl⟩ := List.mem_map.mp hx
    split
    · exact ⟨(h y hy).1, hv⟩
    · exact h y hy
  · rcases List.mem_append.mp hx with hx | hx
    · exact h x hx
    · rw [List.mem_singleton.mp hx]; exact ⟨hk, hv⟩
/-- the entries, sorted by their keys -/
theorem sort_split {kvs : NKV} {ps : List (V × PyData)} (e : ps = ((kvs.map fun x => V.ref x.2.1).zip (kvs.map fun x => kD x.1)).mergeSort (PySem.W.dataLe false (·.2))) :
    ∃ ys : NKV, ys.Perm kvs ∧ ps.map (·.1) = ys.map (fun x => V.ref x.2.1) ∧ ys = kvs.mergeSort fun a b => !(PySem.W.dataLt (kD b.1) (kD a.1)) := by
  refine ⟨_, List.mergeSort_perm _ _, ?_, rfl⟩
  have z : (kvs.map fun x => V.ref x.2.1).zip (kvs.map fun x => kD x.1) = kvs.map fun x => (V.ref x.2.1, kD x.1) := List.zip_map' ..
  rw [e, z, ← List.map_mergeSort (r := fun a b => !(PySem.W.dataLt (kD b.1) (kD a.1))) (fun _ _ _ _ => rfl), List.map_map]
  rfl
theorem v_sorted {kvs : NKV} (h : ∀ x ∈ kvs, ∃ k i l, x.1 = vKey k i l) (n : (kvs.map (·.1)).Nodup) : (kvs.mergeSort fun a b => !(PySem.W.dataLt (kD b.1) (kD a.1))).Pairwise fun a b => PySem.W.dataLt (kD a.1) (kD b.1) = true := by
  have P : (kvs.mergeSort fun a b => !(PySem.W.dataLt (kD b.1) (kD a.1))).Perm kvs := List.mergeSort_perm _ _
  have S : (kvs.mergeSort fun a b => !(PySem.W.dataLt (kD b.1) (kD a.1))).Pairwise fun a b => (!(PySem.W.dataLt (kD b.1) (kD a.1))) = true := by
    refine List.pairwise_mergeSort (fun a b c h1 h2 => ?_) (fun a b => ?_) _
    · simp only [Bool.not_eq_true'] at h1 h2 ⊢
      cases e : PySem.W.dataLt (kD c.1) (kD a.1) with
      | false => rfl
      | true =>
        by_cases h3 : PySem.W.dataLt (kD b.1) (kD c.1) = true
        · have := PyProof.Rows.lex_trans _ _ _ h3 e
          rw [show PyProof.Rows.lexLt PyProof.Rows.itemOrd _ _ = PySem.W.dataLt (kD b.1) (kD a.1) from rfl, h1] at this
          cases this
        · have h3 : PySem.W.dataLt (kD b.1) (kD c.1) = false := by simpa using h3
          have e2 := PyProof.Rows.lex_total _ _ h2 h3
          have : PySem.W.dataLt (kD c.1) (kD a.1) = PySem.W.dataLt (kD b.1) (kD a.1) := by unfold PySem.W.dataLt; rw [e2]
          rw [this, h1] at e; cases e
    · cases e : PySem.W.dataLt (kD b.1) (kD a.1) with
      | false => rfl
      | true =>
        cases e2 : PySem.W.dataLt (kD a.1) (kD b.1) with
        | false => rfl
        | true =>
          have := PyProof.Rows.lex_trans _ _ _ e e2
          rw [PyProof.Rows.lex_irrefl] at this
          cases this
  have N : (kvs.mergeSort fun a b => !(PySem.W.dataLt (kD b.1) (kD a.1))).Pairwise fun a b => a.1 ≠ b.1 := by
    have : ((kvs.mergeSort fun a b => !(PySem.W.dataLt (kD b.1) (kD a.1))).map (·.1)).Nodup := (P.map _).nodup_iff.mpr n
    exact List.pairwise_map.mp this
  refine (S.and N).imp_of_mem fun {a b} ha hb ⟨h1, h2⟩ => ?_
  obtain ⟨k, i, l, ea⟩ := h a (P.mem_iff.mp ha)
  obtain ⟨k', i', l', eb⟩ := h b (P.mem_iff.mp hb)
  rw [ea, eb] at h1 h2 ⊢
  rw [kD_v, kD_v, v_lt] at h1 ⊢
  unfold vLt at h1 ⊢
  have ne : ¬ (k = k' ∧ i = i' ∧ l = l') := fun ⟨e1, e2, e3⟩ => h2 (by rw [e1, e2, e3])
  simp only [Bool.not_eq_true', decide_eq_false_iff_not, decide_eq_true_eq] at h1 ⊢
  omega
end Mus

set_option maxRecDepth 100000
set_option maxHeartbeats 4000000
namespace Mus
open PySem L2 TL PySem.NumText
local macro_rules | `(tactic| walk_at "rd") => `(tactic| first
  | refine ⟨_, rfl, ?_⟩ | refine ⟨(True.intro : True), ?_⟩
  | refine ⟨_, _, rfl, rfl, (⟨by decide, by decide, by decide⟩ : CPow _ _), ?_⟩
  | refine ⟨_, _, rfl, rfl, (⟨by decide, by decide⟩ : CDiv _ _), ?_⟩
  | refine ⟨_, _, rfl, rfl, (by show (0 : Int) < _; decide), ?_⟩
  | refine ⟨_, _, rfl, rfl, ?_⟩ | refine ⟨rfl, ?_⟩ | refine iteT ?_ | refine iteF ?_ | refine ⟨_, _, rfl, ?_⟩ | refine .inl ⟨_, rfl, ?_⟩
  | refine ⟨_, _, _, _, _, rfl, (by assumption), (by assumption), (by assumption), rfl, ?_⟩ | refine ⟨_, _, _, _, rfl, rfl, SqT.of (by assumption), rfl, ?_⟩ | refine ⟨_, _, rfl, SqT.of (by assumption), rfl, ?_⟩
  | refine ⟨_, _, _, _, _, rfl, .ty _, Rp.ty (by assumption), kit_int _, ?_⟩ | refine ⟨_, _, _, _, _, rfl, .ty _, Rp.ty (by assumption), kit_bool _, ?_⟩
  | refine ⟨_, _, _, _, _, rfl, .ty _, Rp.ty (by assumption), kit_str _, ?_⟩ | refine ⟨_, _, _, _, _, rfl, .ty _, Rp.ty (by assumption), kit_tup _, ?_⟩)
local macro_rules | `(tactic| walk_at "cal") => `(tactic| first
  | refine ⟨_, _, _, _, _, rfl, (by assumption), ?_⟩ | refine ⟨_, _, _, _, _, rfl, (by assumption), (by assumption), ?_⟩)
local macro_rules | `(tactic| walk_at "sq") => `(tactic| first
  | refine ⟨_, _, rfl, Or.inr (SqT.of (by assumption)), ?_⟩ | refine ⟨_, _, _, _, rfl, rfl, SqT.of (by assumption), rfl, ?_⟩)
local macro_rules | `(tactic| walk_at "rds") => `(tactic| repeat first | walk_at "rd" | walk_at "cal" | walk_at "sq")
local macro_rules | `(tactic| walk_at "ze") => `(tactic| repeat first
  | exact zes_nil | exact ze_bl | exact ze_str | exact ze_non | apply zes_cons | apply ze_tup | apply ze_lst | apply ze_cat | exact di_c | exact di_v rfl | apply di_opC | apply di_op | apply di_neg | apply ze_i | (refine (⟨?_, ?_, ?_⟩ : CPow _ _) <;> decide) | exact Nat.le_of_ble_eq_true rfl | exact ze_varD rfl (by assumption))
local macro_rules | `(tactic| walk_at "rdz") => `(tactic| repeat (fail_if_success (first | show tLst _ _ _ _ | show tAsg (tLst _) _ _ _ _ | show tSeq (tAsg (tLst _) _) _ _ _ _)); first | walk_at "rd" | walk_at "cal" | walk_at "sq")
/-- the finals of a letter that the law makes -/
def Fins (n : Int) (fs : List PyData) : Prop := finsFrom (.int n) none fs = true ∧ fs.length ≤ 4 ∧ ∀ f ∈ fs, ∃ (k i l : Int) (ds : List PyData), f = .tuple [vD k i l, .tuple ds] ∧ 0 ≤ k ∧ k ≤ 1000000000000 ∧ 0 ≤ i ∧ i < n ∧ 1 ≤ l ∧ l ≤ 1000000000000 ∧ logFrom (.int n) [] ds = true ∧ Her Ok (.tuple ds) ∧ (∀ d ∈ ds, NoL d) ∧ ds.length ≤ 39
def sp_fins : Sp := fun vs H Q _ => ∃ (p : Addr) (c n : Int) (v : V) (ms : List PyData), vs = [.ref p, .int n, v] ∧ Bag p c H ∧ Rp p H v (.tuple ms) ∧ Mems n ms ∧ 1 ≤ n ∧ n ≤ 12 ∧ ms ≠ [] ∧ ms.length ≤ 100 ∧
  ∀ v fs H', Fins n fs → Rp p H' v (.tuple fs) → But p H H' → Bag p c H' → Q v H'
/-- an entry's key and its place -/
def FinA (n : Int) (p : Addr) (H : Hp) (k : NestedKey) (b : Addr) : Prop := ∃ m i l : Int, k = vKey m i l ∧ 0 ≤ m ∧ m ≤ 1000000000000 ∧ 0 ≤ i ∧ i < n ∧ 1 ≤ l ∧ l ≤ 1000000000000 ∧ Rp p H (.ref b) (vD m i l)
def FinB (n : Int) (p : Addr) (H : Hp) (v : V) : Prop := ∃ ds : List PyData, Rp p H v (.tuple ds) ∧ logFrom (.int n) [] ds = true ∧ Her Ok (.tuple ds) ∧ (∀ d ∈ ds, NoL d) ∧ ds.length ≤ 39
theorem FinA.to {n : Int} {p : Addr} {H H' : Hp} {k : NestedKey} {b : Addr} (f : FinA n p H k b) (t : ∀ {v : V} {d : PyData}, Rp p H v d → Rp p H' v d) : FinA n p H' k b := by
  obtain ⟨m, i, l, e, q1, q2, q3, q4, q5, q6, r⟩ := f
  exact ⟨m, i, l, e, q1, q2, q3, q4, q5, q6, t r⟩
theorem FinB.to {n : Int} {p : Addr} {H H' : Hp} {v : V} (f : FinB n p H v) (t : ∀ {v : V} {d : PyData}, Rp p H v d → Rp p H' v d) : FinB n p H' v := by
  obtain ⟨ds, r, q⟩ := f
  exact ⟨ds, t r, q⟩
theorem vid_ok {n k i l : Int} (n1 : 1 ≤ n) (n2 : n ≤ 12) (h0 : 0 ≤ k) (h1 : k ≤ 1000000000000) (h2 : 0 ≤ i) (h3 : i < n) (h4 : 1 ≤ l) (h5 : l ≤ 1000000000000) : isVid (.int n) (vD k i l) = true := by
  simp only [vD, isVid, isMem, isProc, isInt, Bool.and_eq_true, decide_eq_true_eq]; omega
theorem log_is {n : Int} {ds : List PyData} (h : logFrom (.int n) [] ds = true) : isLog (.int n) (.tuple ds) = true := h
theorem fins_of {n : Int} (n1 : 1 ≤ n) (n2 : n ≤ 12) : ∀ {fs : List PyData}, (∀ f ∈ fs, ∃ (k i l : Int) (ds : List PyData), f = .tuple [vD k i l, .tuple ds] ∧ 0 ≤ k ∧ k ≤ 1000000000000 ∧ 0 ≤ i ∧ i < n ∧ 1 ≤ l ∧ l ≤ 1000000000000 ∧ logFrom (.int n) [] ds = true) →
    (fs.Pairwise fun a b => PySem.W.dataLt (idOf a) (idOf b) = true) → ∀ o, (∀ i, o = some i → ∀ f ∈ fs, PySem.W.dataLt i (idOf f) = true) → finsFrom (.int n) o fs = true
  | [], _, _, _, _ => rfl
  | f :: fs, h, s, o, ho => by
    obtain ⟨k, i, l, ds, rfl, q0, q1, q2, q3, q4, q5, q6⟩ := h _ List.mem_cons_self
    obtain ⟨s1, s2⟩ := List.pairwise_cons.mp s
    have ih := fins_of n1 n2 (fun f hf => h f (List.mem_cons_of_mem _ hf)) s2 (some (vD k i l)) (fun j e f hf => by cases e; exact s1 f hf)
    have e1 : isFin (.int n) (.tuple [vD k i l, .tuple ds]) = true := by
      show (isVid _ _ && isLog _ _) = true
      rw [vid_ok n1 n2 q0 q1 q2 q3 q4 q5, log_is q6]; rfl
    show (isFin (.int n) (.tuple [vD k i l, .tuple ds]) && _ && finsFrom (.int n) (some (vD k i l)) fs) = true
    rw [e1, ih]
    cases o with
    | none => rfl
    | some j =>
      have : PySem.W.dataLt j (vD k i l) = true := ho j rfl _ List.mem_cons_self
      show (true && !(!PySem.W.dataLt j (vD k i l)) && true) = true
      rw [this]; rfl
section
variable {P : Program} {w : World} {K : PySem.W.Frag} {mg : Str → Option Value} {base : Heap}
abbrev s__law_finals : Stmt := top 61
abbrev N__law_finals : List Str := ["bag", "count", "members", "table", "k", "view_id"]
abbrev P__law_finals : List Str := ["bag", "count", "members"]
theorem sc__law_finals : FnScope N__law_finals P__law_finals (defScope s__law_finals) := ⟨rfl, rfl, rfl, by decide +kernel, rfl, by decide +kernel, by decide +kernel⟩
theorem ok__law_finals {f : Addr} {fd : FuncData} (T : Tx mg) (c__law_draw : DefOk P w K mg base CX0 "_law_draw" P__law_draw 1 (sp_draw)) (c__law_id : DefOk P w K mg base CX0 "_law_id" P__law_id 4 (sp_vid1)) (c__law_log : DefOk P w K mg base CX0 "_law_log" P__law_log 3 (sp_log))(F : Fun K "_law_finals" "_law_finals" s__law_finals f fd) : FnOk P w K mg base CX0 (5) f fd P__law_finals (sp_fins) := by
  have nd := sc__law_finals.nd
  refine F.ok sc__law_finals (fun vs H Q E h => ?_) (fun cdv A outer s H vs Q E hr h => ?_)
  · obtain ⟨_, _, _, _, _, rfl, _⟩ := h
    rfl
  · obtain ⟨p, c, n, v, ms, rfl, g, hv, hm, n1, n2, hne, hml, q⟩ := h
    have hs := sl
    refine ⟨_, (pss_cons (ps_set (i := 3) nd rfl (Or.inr rfl) pe_nnew)
      (pss_cons (ps_for PassesOwn.never rfl (pi_range1 (by rfl) T.b_range (pa_cons (pcall c__law_draw hr (pa_cons (pv 0) (pa_cons pe_int pa_nil))) pa_nil)) (pg_name (i := 4) nd rfl (Or.inl rfl))
        (pss_one (ps_nput hr.units (pv 3) (pcall c__law_id hr (pa_cons (pv 0) (pa_cons (pv 1) pa_nil))) (pcall c__law_log hr (pa_cons (pv 0) (pa_cons (pv 2) pa_nil))) rfl)))
      (pss_one (ps_ret (pe_callTy call_tuple_of (by rfl) T.b_tuple (by decide +kernel) (pa_cons (pe_lcX (own := [("view_id", 5)]) rfl nd (pi_list (pe_callB (cr_sortedN rfl hr.units) (by rfl) T.b_sorted (by decide +kernel) (pa_cons (pv 3) pa_nil))) (blkOk_by (own := [("view_id", 5)]) (N := N__law_finals) (sc := defScope s__law_finals) (by decide +kernel)) (fun _ _ _ _ _ => (pg_name (i := 5) nd rfl (Or.inl rfl))) (fun _ _ _ _ _ => pts_nil) (fun _ _ _ _ _ => (pe_tup (pa_cons (pv 5) (pa_cons (pe_nget hr.units (pv 3) (pv 5) (fun _ _ => rfl)) pa_nil))))) pa_nil)))))), ?_⟩
    intro d nd lo
    have pd := g.ne nd
    have N0 : Nd w (upd H d (ndO w d [])) d [] := nd_new lo
    have b0 : But p H (upd H d (ndO w d [])) := .of (same_new nd _)
    have g0 := g.new (o := ndO w d []) nd
    refine ⟨_, rfl, p, c, _, rfl, g0, by decide, by decide, fun z H1 z0 z1 b1 g1 => ?_⟩
    have stepN : ∀ {H H' : Hp} {kvs : NKV}, Bag p c H → But p H H' → Nd w H d kvs → Nd w H' d kvs := fun g b N => N.mono (b _ _ N.ob pd.symm) fun a xs h => b _ _ h fun e => by obtain ⟨_, _, g0⟩ := g; rw [e, g0] at h; cases h
    refine ⟨z, rfl, by omega, by omega, for_range (lo := 0) (n := z.toNat) (fun i σ H' => ∃ (kvs : NKV) (x4 : Option V), σ = [some (.ref p), some (.int n), some v, some (.ref d), x4, none] ∧ But p H H' ∧ Bag p c H' ∧ Nd w H' d kvs ∧ kvs.length ≤ i ∧ ∀ x ∈ kvs, FinA n p H' x.1 x.2.1 ∧ FinB n p H' x.2.2) ?_ ?_ ?_⟩
    · exact ⟨[], none, rfl, b0.trans b1, g1, stepN g0 b1 N0, Nat.le_refl _, fun x h => by cases h⟩
    · rintro i σ H2 hi ⟨kvs, x4, rfl, b2, g2, N2, hk, hA⟩
      refine ⟨_, rfl, _, rfl, p, c, n, v, ms, rfl, g2, hv.mono b2, hm, n1, n2, hne, hml, fun u ds H3 l1 l2 l3 l4 r3 b3 g3 => ?_⟩
      refine ⟨_, rfl, _, rfl, _, rfl, p, c, n, rfl, g3, n1, n2, fun b k i1 l H4 k0 k1 i0 i2 l0 l6 r4 b4 g4 => ?_⟩
      have b34 := b3.trans b4
      have N4 := stepN g2 b34 N2
      have nk := nk_vid r4
      refine ⟨d, b, kvs, vKey k i1 l, rfl, rfl, N4, nk, vKey_depth _ _ _, ?_⟩
      have nL : ∀ xs, H4 d ≠ some (.lst xs) := fun xs e => by rw [N4.ob] at e; cases e
      have nT : ∀ xs, H4 d ≠ some (.tup xs) := fun xs e => by rw [N4.ob] at e; cases e
      have N5 := N4.put (v := u) nk (vKey_depth _ _ _) (by omega)
      have t5 : ∀ {v : V} {e : PyData}, Rp p H4 v e → Rp p (upd H4 d (ndO w d (putN kvs (vKey k i1 l) b u))) v e := fun r => r.upN nL nT
      refine ⟨_, _, rfl, (b2.trans b34).later nd, g4.upd pd, N5, Nat.le_trans (putN_len _ _ _ _) (by omega), ?_⟩
      refine putN_all (A := FinA n p _) (B := FinB n p _) (fun x hx => ?_) ⟨k, i1, l, rfl, k0, k1, i0, i2, l0, l6, t5 r4⟩ ⟨ds, t5 (r3.mono b4), l1, l2, l3, l4⟩
      exact ⟨(hA x hx).1.to fun r => t5 (r.mono b34), (hA x hx).2.to fun r => t5 (r.mono b34)⟩
    · rintro σ H2 ⟨kvs, x4, rfl, b2, g2, N2, hk, hA⟩
      have vk : ∀ x ∈ kvs, ∃ k i l, x.1 = vKey k i l := fun x hx => by
        obtain ⟨k, i, l, e, _⟩ := (hA x hx).1
        exact ⟨k, i, l, e⟩
      have kv : ∀ y ∈ kvs.map (fun x => kD x.1), ∃ k i l, y = vD k i l := fun y hy => by
        obtain ⟨x, hx, rfl⟩ := List.mem_map.mp hy
        obtain ⟨k, i, l, e⟩ := vk x hx
        exact ⟨k, i, l, by rw [e]; rfl⟩
      have dps : ∀ ks : NKV, (∀ x ∈ ks, FinA n p H2 x.1 x.2.1) → DpAll K H2 (ks.map fun x => V.ref x.2.1) (ks.map fun x => kD x.1) := fun ks => by
        induction ks with
        | nil => intro _; exact .nil
        | cons x r ih =>
          intro h
          obtain ⟨k, i, l, e, _, _, _, _, _, _, rx⟩ := h x List.mem_cons_self
          refine .cons ?_ (ih fun y hy => h y (List.mem_cons_of_mem _ hy))
          show Dp K H2 (V.ref x.2.1) (kD x.1)
          rw [e]; exact rx.dp
      refine ⟨_, rfl, d, kvs, kvs.map (fun x : NestedKey × Addr × V => kD x.1), rfl, N2, dps kvs fun x hx => (hA x hx).1, ?_, .inl ?_, ?_, fun ps s eps ns => ?_⟩
      · intro a ha b hb
        obtain ⟨_, _, _, rfl⟩ := kv a ha
        obtain ⟨_, _, _, rfl⟩ := kv b hb
        rfl
      · intro a ha
        obtain ⟨_, _, _, rfl⟩ := kv a ha
        exact ⟨_, _, rfl⟩
      · intro a ha
        obtain ⟨_, _, _, rfl⟩ := kv a ha
        exact v_depth _ _ _
      obtain ⟨ys, P, em, ey⟩ := sort_split eps
      have srt := v_sorted vk N2.one
      rw [← ey] at srt
      rw [em]
      have s1 := same_new ns (.lst (ys.map fun x => V.ref x.2.1))
      have b3 := b2.new (o := .lst (ys.map fun x => V.ref x.2.1)) ns
      have g3 := g2.new (o := .lst (ys.map fun x => V.ref x.2.1)) ns
      have N3 := N2.same s1
      have hA3 : ∀ x ∈ ys, FinA n p (upd H2 s (.lst (ys.map fun x => V.ref x.2.1))) x.1 x.2.1 ∧ FinB n p (upd H2 s (.lst (ys.map fun x => V.ref x.2.1))) x.2.2 := fun x hx =>
        ⟨(hA x (P.mem_iff.mp hx)).1.to fun r => r.same s1, (hA x (P.mem_iff.mp hx)).2.to fun r => r.same s1⟩
      have hs3 : (upd H2 s (.lst (ys.map fun x => V.ref x.2.1))) s = some (.lst (ys.map fun x => V.ref x.2.1)) := upd_same
      have ly : ys.length ≤ 4 := by rw [P.length_eq]; omega
      generalize upd H2 s _ = H3 at *
      refine ⟨s, rfl, ⟨_, SqL.of hs3⟩, fun D nD => ?_⟩
      have sD : s ≠ D := ne_of_none hs3 nD
      have pD := g3.ne nD
      have S0 := same_new nD (.lst [])
      refine lc_list (K := K) (a := s) (xs := ys.map fun x => V.ref x.2.1) (fun i H' => ∃ (ws : List V) (fs : List PyData), H' D = some (.lst ws) ∧ (∀ b o, H3 b = some o → b ≠ D → b ≠ p → H' b = some o) ∧ Rps p H' ws fs ∧ (∀ f ∈ fs, ∃ (k i l : Int) (ds : List PyData), f = .tuple [vD k i l, .tuple ds] ∧ 0 ≤ k ∧ k ≤ 1000000000000 ∧ 0 ≤ i ∧ i < n ∧ 1 ≤ l ∧ l ≤ 1000000000000 ∧ logFrom (.int n) [] ds = true ∧ Her Ok (.tuple ds) ∧ (∀ d ∈ ds, NoL d) ∧ ds.length ≤ 39) ∧ fs.map idOf = (ys.take i).map (fun x => kD x.1) ∧ But p H H' ∧ Bag p c H') ?_ ?_ ?_ ?_
      · exact ⟨[], [], upd_same, fun b o h n _ => by rw [upd_ne n]; exact h, .nil, (fun f h => by cases h), rfl, b3.new nD, g3.new nD⟩
      · rintro i H' _ ⟨ws, fs, h1, h2, _⟩
        have sp : s ≠ p := fun e => by obtain ⟨_, _, g0⟩ := g2; rw [e] at ns; rw [g0] at ns; cases ns
        exact SqL.of (h2 _ _ hs3 sD sp)
      · rintro i x H' hx ⟨ws, fs, h1, h2, h3, h4, h5, b5, g5⟩
        rw [List.getElem?_map] at hx
        obtain ⟨y, hy, rfl⟩ := Option.map_eq_some_iff.mp hx
        have my := List.mem_of_getElem? hy
        obtain ⟨⟨k, i1, l, e1, q0, q1, q2, q3, q4, q5, ra⟩, ⟨ds, rb, q6, q7, q8, q9⟩⟩ := hA3 y my
        have up : ∀ {v : V} {d : PyData}, Rp p H3 v d → Rp p H' v d := fun r => r.mono fun b o hb np => h2 b o hb (ne_of_none hb nD) np
        have N5 : Nd w H' d kvs := N3.mono (h2 _ _ N3.ob (ne_of_none N3.ob nD) pd.symm) fun b xs hb => h2 _ _ hb (ne_of_none hb nD) fun e => by obtain ⟨_, _, g0⟩ := g3; rw [e, g0] at hb; cases hb
        have ra5 := up ra
        have rb5 := up rb
        refine ⟨rfl, ?_⟩
        have ng : NGet w H' d y.2.1 (some y.2.2) := ⟨kvs, y.1, N5, by rw [e1]; exact nk_vid ra5, by rw [e1]; exact vKey_depth _ _ _, (valN_mem N5.one (P.mem_iff.mp my)).symm⟩
        refine ⟨_, rfl, _, rfl, _, rfl, d, y.2.1, y.2.2, rfl, rfl, ng, ?_⟩
        refine ⟨by show 2 ≤ sizeLine; omega, fun t nt => ?_⟩
        have st := same_new nt (.tup [V.ref y.2.1, y.2.2])
        have lw := h3.length
        have lf : fs.length ≤ ys.length := by
          have := congrArg List.length h5
          rw [List.length_map, List.length_map, List.length_take] at this
          omega
        have hi : i < ys.length := (List.getElem?_eq_some_iff.mp hy).1
        refine ⟨ws, st _ _ h1, by omega, ws ++ [.ref t], fs ++ [.tuple [vD k i1 l, .tuple ds]], upd_same, ?_, ?_, ?_, ?_, (b5.new nt).later (b3.free nD pD.symm), (g5.new nt).upd pD⟩
        · intro b o hb nb np
          rw [upd_ne nb]
          exact st _ _ (h2 b o hb nb np)
        · have r1 : Rps p _ (ws ++ [.ref t]) (fs ++ [.tuple [vD k i1 l, .tuple ds]]) := (h3.same st).append (.cons (rp_tup g5 nt (.cons ra5 (.cons rb5 .nil))) .nil)
          refine r1.updL (st _ _ h1) fun f hf => ?_
          rcases List.mem_append.mp hf with hf | hf
          · obtain ⟨_, _, _, _, rfl, _, _, _, _, _, _, _, _, q8, _⟩ := h4 f hf
            exact .two (.two (.int _) (.two (.int _) (.int _))) (.tup q8)
          · rw [List.mem_singleton.mp hf]; exact .two (.two (.int _) (.two (.int _) (.int _))) (.tup q8)
        · intro f hf
          rcases List.mem_append.mp hf with hf | hf
          · exact h4 f hf
          · rw [List.mem_singleton.mp hf]; exact ⟨k, i1, l, ds, rfl, q0, q1, q2, q3, q4, q5, q6, q7, q8, q9⟩
        · rw [List.map_append, h5, List.take_succ, hy, List.map_append]
          show _ ++ [vD k i1 l] = _ ++ [kD y.1]
          rw [e1]; rfl
      · rintro H' ⟨ws, fs, h1, h2, h3, h4, h5, b5, g5⟩
        refine ⟨D, ws, rfl, .inl ⟨SqL.of h1, fun a na => ?_⟩⟩
        have lw := h3.length
        rw [List.length_map, List.take_length] at h5
        have lf : fs.length = ys.length := by
          have := congrArg List.length h5
          rwa [List.length_map, List.length_map] at this
        refine q _ fs _ ⟨fins_of n1 n2 (fun f hf => ?_) ?_ none (fun i e => by cases e), by omega, h4⟩ (.tup upd_same (g5.ne na).symm (by omega) (h3.same (same_new na _))) (b5.new na) (g5.new na)
        · obtain ⟨k, i1, l, ds, e, q0, q1, q2, q3, q4, q5, q6, _⟩ := h4 f hf
          exact ⟨k, i1, l, ds, e, q0, q1, q2, q3, q4, q5, q6⟩
        · have : (fs.map idOf).Pairwise fun a b => PySem.W.dataLt a b = true := by
            rw [h5]
            exact List.pairwise_map.mpr srt
          exact List.pairwise_map.mp this
end
end Mus

set_option maxRecDepth 100000
set_option maxHeartbeats 4000000
namespace Mus
open PySem L2 TL PySem.NumText
local macro_rules | `(tactic| walk_at "rd") => `(tactic| first
  | refine ⟨_, rfl, ?_⟩ | refine ⟨(True.intro : True), ?_⟩
  | refine ⟨_, _, rfl, rfl, (⟨by decide, by decide, by decide⟩ : CPow _ _), ?_⟩
  | refine ⟨_, _, rfl, rfl, (⟨by decide, by decide⟩ : CDiv _ _), ?_⟩
  | refine ⟨_, _, rfl, rfl, (by show (0 : Int) < _; decide), ?_⟩
  | refine ⟨_, _, rfl, rfl, ?_⟩ | refine ⟨rfl, ?_⟩ | refine iteT ?_ | refine iteF ?_ | refine ⟨_, _, rfl, ?_⟩ | refine .inl ⟨_, rfl, ?_⟩
  | refine ⟨_, _, _, _, _, rfl, (by assumption), (by assumption), (by assumption), rfl, ?_⟩ | refine ⟨_, _, _, _, rfl, rfl, SqT.of (by assumption), rfl, ?_⟩ | refine ⟨_, _, rfl, SqT.of (by assumption), rfl, ?_⟩
  | refine ⟨_, _, _, _, _, rfl, .ty _, Rp.ty (by assumption), kit_int _, ?_⟩ | refine ⟨_, _, _, _, _, rfl, .ty _, Rp.ty (by assumption), kit_bool _, ?_⟩
  | refine ⟨_, _, _, _, _, rfl, .ty _, Rp.ty (by assumption), kit_str _, ?_⟩ | refine ⟨_, _, _, _, _, rfl, .ty _, Rp.ty (by assumption), kit_tup _, ?_⟩)
local macro_rules | `(tactic| walk_at "cal") => `(tactic| first
  | refine ⟨_, _, _, _, _, rfl, (by assumption), ?_⟩ | refine ⟨_, _, _, _, _, rfl, (by assumption), (by assumption), ?_⟩)
local macro_rules | `(tactic| walk_at "sq") => `(tactic| first
  | refine ⟨_, _, rfl, Or.inr (SqT.of (by assumption)), ?_⟩ | refine ⟨_, _, _, _, rfl, rfl, SqT.of (by assumption), rfl, ?_⟩)
local macro_rules | `(tactic| walk_at "rds") => `(tactic| repeat first | walk_at "rd" | walk_at "cal" | walk_at "sq")
local macro_rules | `(tactic| walk_at "ze") => `(tactic| repeat first
  | exact zes_nil | exact ze_bl | exact ze_str | exact ze_non | apply zes_cons | apply ze_tup | apply ze_lst | apply ze_cat | exact di_c | exact di_v rfl | apply di_opC | apply di_op | apply di_neg | apply ze_i | (refine (⟨?_, ?_, ?_⟩ : CPow _ _) <;> decide) | exact Nat.le_of_ble_eq_true rfl | exact ze_varD rfl (by assumption))
local macro_rules | `(tactic| walk_at "rdz") => `(tactic| repeat (fail_if_success (first | show tLst _ _ _ _ | show tAsg (tLst _) _ _ _ _ | show tSeq (tAsg (tLst _) _) _ _ _ _)); first | walk_at "rd" | walk_at "cal" | walk_at "sq")
theorem putK_nodup {κ : Type} [DecidableEq κ] {kvs : List (κ × V)} {k : κ} {v : V} (h : (kvs.map (·.1)).Nodup) : ((putK kvs k v).map (·.1)).Nodup := by
  unfold putK
  split
  · have e : (kvs.map fun kv => if kv.1 = k then (kv.1, v) else kv).map (·.1) = kvs.map (·.1) := by
      rw [List.map_map]
      refine List.map_congr_left fun x _ => ?_
      show (if x.1 = k then (x.1, v) else x).1 = x.1
      split <;> rfl
    rw [e]; exact h
  · rename_i q
    rw [List.map_append, List.nodup_append]
    refine ⟨h, by simp, fun x hx y hy e => ?_⟩
    rw [List.map_singleton, List.mem_singleton] at hy
    have hy : y = k := hy
    obtain ⟨z, hz, ez⟩ := List.mem_map.mp hx
    exact q (List.any_eq_true.mpr ⟨z, hz, by rw [ez, e, hy]; simp⟩)
theorem mems_from0 {n : Int} (n1 : 0 < n) (n2 : n ≤ 12) : ∀ {ds : List PyData} {l : Int}, Mems n ds → (ds.map procOf).Pairwise (· < ·) → (∀ d ∈ ds, l < procOf d) → memsFrom (.int n) l ds = true
  | [], _, _, _, _ => rfl
  | d :: ds, l, m, s, b => by
    rw [List.map_cons, List.pairwise_cons] at s
    obtain ⟨i, k, rfl, q0, q1, q2, q3⟩ := m d List.mem_cons_self
    have e : isMem (.int n) (.tuple [.int i, .int k]) = true := by simp only [isMem, isProc, isInt, Bool.and_eq_true, decide_eq_true_eq]; omega
    have e2 : l < i := b _ List.mem_cons_self
    show (isMem _ _ && decide (l < i) && memsFrom (.int n) i ds) = true
    have ih : memsFrom (.int n) i ds = true := mems_from0 n1 n2 (fun d hd => m d (List.mem_cons_of_mem _ hd)) s.2 (fun d hd => s.1 _ (List.mem_map.mpr ⟨d, hd, rfl⟩))
    rw [e, decide_eq_true e2, ih]
    rfl
theorem mems_from {n : Int} {ds : List PyData} {l : Int} (m : Mems n ds) (n1 : 0 < n) (n2 : n ≤ 12) (s : (ds.map procOf).Pairwise (· < ·)) (b : ∀ d ∈ ds, l < procOf d) : memsFrom (.int n) l ds = true := mems_from0 n1 n2 m s b
/-- _law_members, sorted -/
def sp_memsS : Sp := fun vs H Q _ => ∃ (p : Addr) (c n : Int), vs = [.ref p, .int n] ∧ Bag p c H ∧ 0 < n ∧ n ≤ 12 ∧ ∀ a H' ds, Rp p H' (.ref a) (.tuple ds) → Mems n ds → memsFrom (.int n) (-1) ds = true → 0 < ds.length → ds.length ≤ 5 → But p H H' → Bag p c H' → Q (.ref a) H'
section
variable {P : Program} {w : World} {K : PySem.W.Frag} {mg : Str → Option Value} {base : Heap}
theorem ok__law_membersS {f : Addr} {fd : FuncData} (T : Tx mg) (c__law_draw : DefOk P w K mg base CX0 "_law_draw" P__law_draw 1 (sp_draw)) (c__law_positive : DefOk P w K mg base CX0 "_law_positive" P__law_positive 2 (sp_pos)) (F : Fun K "_law_members" "_law_members" s__law_members f fd) : FnOk P w K mg base CX0 3 f fd P__law_members (sp_memsS) := by
  have nd := sc__law_members.nd
  refine F.ok sc__law_members (fun vs H Q E h => ?_) (fun cdv A outer s H vs Q E hr h => ?_)
  · obtain ⟨_, _, _, rfl, _⟩ := h
    rfl
  · obtain ⟨p, c, n, rfl, g, n0, n1, q⟩ := h
    have hu := hu_of hr
    have hs := sl
    refine ⟨_, (pss_cons (ps_set (i := 2) nd rfl (Or.inr rfl) pe_dnewK)
      (pss_cons (ps_for PassesOwn.never rfl (pi_range1 (by rfl) T.b_range (pa_cons (pe_op op_add pe_int (pcall c__law_draw hr (pa_cons (pv 0) (pa_cons pe_int pa_nil)))) pa_nil)) (pg_name (i := 3) nd rfl (Or.inl rfl))
        (pss_one (ps_dput hu (pv 2) (pcall c__law_draw hr (pa_cons (pv 0) (pa_cons (pv 1) pa_nil))) (pcall c__law_positive hr (pa_cons (pv 0) pa_nil)) rfl)))
      (pss_one (ps_ret (pe_callTy call_tuple_of (by rfl) T.b_tuple (by decide +kernel) (pa_cons (pe_lcX (own := [("process", 4)]) rfl nd (pi_list (pe_callB (call_sortedDI rfl) (by rfl) T.b_sorted (by decide +kernel) (pa_cons (pv 2) pa_nil))) (blkOk_by (own := [("process", 4)]) (N := N__law_members) (sc := defScope s__law_members) (by decide +kernel)) (fun _ _ _ _ _ => (pg_name (i := 4) nd rfl (Or.inl rfl))) (fun _ _ _ _ _ => pts_nil) (fun _ _ _ _ _ => (pe_tup (pa_cons (pv 4) (pa_cons (pe_dget hu (pv 2) (pv 4) (fun _ _ => rfl)) pa_nil))))) pa_nil)))))), ?_⟩
    intro d nd
    have pd := g.ne nd
    have g := g.new (o := .dK []) nd
    refine ⟨_, rfl, p, c, _, rfl, g, by decide, by decide, fun r H1 r0 r1 b1 g1 => ?_⟩
    have hd1 := b1 d _ upd_same pd.symm
    refine ⟨_, _, rfl, rfl, _, rfl, by omega, by omega, for_range (lo := 0) (n := (1 + r).toNat) (fun i σ H' => ∃ (kvs : List (Key × V)) (x : Option V), σ = [some (.ref p), some (.int n), some (.ref d), x, none] ∧ But p H H' ∧ Bag p c H' ∧ H' d = some (.dK kvs) ∧ KvI n 1000000000000 kvs ∧ kvs.length ≤ i ∧ (0 < i → kvs ≠ []) ∧ (kvs.map (·.1)).Nodup) ?_ ?_ ?_⟩
    · exact ⟨[], none, rfl, ((But.refl p H).new nd).trans b1, g1, hd1, fun kv h => absurd h List.not_mem_nil, Nat.le_refl _, fun h => absurd h (by decide), List.nodup_nil⟩
    · rintro i σ H2 hi ⟨kvs, x, rfl, b2, g2, hd2, hk, hl, _, hnd⟩
      refine ⟨_, rfl, p, c, rfl, g2, fun l H3 l0 l1 b3 g3 => ?_⟩
      walk_at "rds"
      refine ⟨p, c, n, rfl, g3, by omega, by omega, fun k H4 k0 k1 b4 g4 => ?_⟩
      have hd4 := b4 d _ (b3 d _ hd2 pd.symm) pd.symm
      refine ⟨d, _, rfl, DPut.k (k := Sum.inl k) hd4 (by omega), ?_⟩
      exact ⟨_, _, rfl, (b2.trans (b3.trans b4)).later nd, g4.upd pd, upd_same, hk.put k0 k1 l0 l1, Nat.le_trans (putK_le _ _ _) (by omega), fun _ => putK_ne _ _ _, putK_nodup hnd⟩
    · rintro σ H2 ⟨kvs, x, rfl, b2, g2, hd2, hk, hl, hne, hnd⟩
      have hne := hne (by omega)
      refine ⟨_, rfl, d, kvs, _, rfl, .inl hd2, hk.keys, by rw [List.length_map]; omega, fun ys s pm srt ns => ?_⟩
      have ysn : ys.Nodup := pm.nodup_iff.mpr (by rw [hk.keys] at hnd; exact List.Pairwise.of_map (S := fun a b : Key => a ≠ b) (Sum.inl : Int → Key) (fun a b h e => h (congrArg Sum.inl e)) hnd)
      have b3 := b2.new (o := .lst (ys.map V.int)) ns
      have g3 := g2.new (o := .lst (ys.map V.int)) ns
      have ds : d ≠ s := ne_of_none hd2 ns
      have hd3 : (upd H2 s (.lst (ys.map V.int))) d = some (.dK kvs) := by rw [upd_ne ds]; exact hd2
      refine ⟨s, rfl, ⟨_, SqL.of upd_same⟩, fun D nD => ?_⟩
      have sD : s ≠ D := ne_of_none upd_same nD
      have dD : d ≠ D := ne_of_none hd3 nD
      have pD := g3.ne nD
      have ly : ys.length = kvs.length := by rw [pm.length_eq, List.length_map]
      refine lc_list (K := K) (a := s) (xs := ys.map V.int) (fun i H' => ∃ (ws : List V) (ds : List PyData), H' D = some (.lst ws) ∧ H' s = some (.lst (ys.map V.int)) ∧ H' d = some (.dK kvs) ∧ Rps p H' ws ds ∧ Mems n ds ∧ ds.length = i ∧ ds.map procOf = ys.take i ∧ But p H H' ∧ Bag p c H') ?_ ?_ ?_ ?_
      · exact ⟨[], [], upd_same, by rw [upd_ne sD]; exact upd_same, by rw [upd_ne dD]; exact hd3, .nil, fun d h => absurd h List.not_mem_nil, rfl, rfl, b3.new nD, g3.upd pD⟩
      · rintro i H' _ ⟨ws, ds, _, h2, _⟩
        exact SqL.of h2
      · rintro i x H' hx ⟨ws, ds, h1, h2, h3, h4, h5, h6, h7, b5, g5⟩
        obtain ⟨k, hk1, hk3, hk2⟩ : ∃ k, k ∈ ys ∧ ys[i]? = some k ∧ x = V.int k := by
          rw [List.getElem?_map] at hx
          cases e : ys[i]? with
          | none => rw [e] at hx; cases hx
          | some k => rw [e] at hx; exact ⟨k, List.mem_of_getElem? e, rfl, (Option.some.inj hx).symm⟩
        subst hk2
        have hi : i < ys.length := by
          have := (List.getElem?_eq_some_iff.mp hx).1
          rwa [List.length_map] at this
        obtain ⟨v, hv, hm⟩ := valV_mem (kvs := kvs) (k := (Sum.inl k : Key)) (by rw [hk.keys]; exact List.mem_map.mpr ⟨k, pm.mem_iff.mp hk1, rfl⟩)
        obtain ⟨i0, l0, e, q0, q1, q2, q3⟩ := hk _ hm
        cases e
        refine ⟨rfl, ?_⟩
        refine ⟨_, rfl, _, rfl, _, rfl, d, _, rfl, (hv ▸ DGet.k (k := Sum.inl k) h3), by show 2 ≤ sizeLine; omega, fun t nt => ?_⟩
        have st := same_new nt (.tup [V.int k, V.int l0])
        refine ⟨ws, st _ _ h1, by have := h4.length; omega, ws ++ [.ref t], ds ++ [.tuple [.int k, .int l0]], upd_same, ?_, ?_, ?_, ?_, by rw [List.length_append, h6]; rfl, by rw [List.map_append, h7, List.take_succ, hk3]; rfl, ?_, ?_⟩
        · rw [upd_ne sD]; exact st _ _ h2
        · rw [upd_ne dD]; exact st _ _ h3
        · have r1 : Rps p (upd H' t (.tup [V.int k, V.int l0])) (ws ++ [.ref t]) (ds ++ [.tuple [.int k, .int l0]]) := (h4.same st).append (.cons (.tup upd_same (g5.ne nt).symm (by show 2 ≤ 100000; decide) (.cons (.int _) (.cons (.int _) .nil))) .nil)
          refine r1.updL (st _ _ h1) fun d hd => ?_
          rcases List.mem_append.mp hd with hd | hd
          · exact h5.noL d hd
          · rw [List.mem_singleton.mp hd]; exact .two (.int _) (.int _)
        · intro d hd
          rcases List.mem_append.mp hd with hd | hd
          · exact h5 d hd
          · rw [List.mem_singleton.mp hd]; exact ⟨k, l0, rfl, q0, q1, q2, q3⟩
        · exact (b5.new nt).later (b3.free nD pD.symm)
        · exact (g5.new nt).upd pD
      · rintro H' ⟨ws, ds, h1, h2, h3, h4, h5, h6, h7, b5, g5⟩
        rw [List.length_map] at h6
        refine ⟨D, ws, rfl, .inl ⟨SqL.of h1, fun a na => ?_⟩⟩
        have lw := h4.length
        have l0 : 0 < kvs.length := List.length_pos_iff.mpr hne
        rw [List.length_map, List.take_length] at h7
        exact q a _ ds (.tup upd_same (g5.ne na).symm (by omega) (h4.same (same_new na _))) h5 (mems_from h5 n0 n1 (by rw [h7]; exact (srt.and ysn).imp fun ⟨a, b⟩ => by omega) (fun d hd => by obtain ⟨i, l, rfl, _⟩ := h5 d hd; show -1 < i; omega)) (by omega) (by omega) (b5.new na) (g5.new na)
end
end Mus

set_option maxRecDepth 100000
set_option maxHeartbeats 4000000
namespace Mus
open PySem L2 TL PySem.NumText
local macro_rules | `(tactic| walk_at "rd") => `(tactic| first
  | refine ⟨_, rfl, ?_⟩ | refine ⟨(True.intro : True), ?_⟩
  | refine ⟨_, _, rfl, rfl, (⟨by decide, by decide, by decide⟩ : CPow _ _), ?_⟩
  | refine ⟨_, _, rfl, rfl, (⟨by decide, by decide⟩ : CDiv _ _), ?_⟩
  | refine ⟨_, _, rfl, rfl, (by show (0 : Int) < _; decide), ?_⟩
  | refine ⟨_, _, rfl, rfl, ?_⟩ | refine ⟨rfl, ?_⟩ | refine iteT ?_ | refine iteF ?_ | refine ⟨_, _, rfl, ?_⟩ | refine .inl ⟨_, rfl, ?_⟩
  | refine ⟨_, _, _, _, _, rfl, (by assumption), (by assumption), (by assumption), rfl, ?_⟩ | refine ⟨_, _, _, _, rfl, rfl, SqT.of (by assumption), rfl, ?_⟩ | refine ⟨_, _, rfl, SqT.of (by assumption), rfl, ?_⟩
  | refine ⟨_, _, _, _, _, rfl, .ty _, Rp.ty (by assumption), kit_int _, ?_⟩ | refine ⟨_, _, _, _, _, rfl, .ty _, Rp.ty (by assumption), kit_bool _, ?_⟩
  | refine ⟨_, _, _, _, _, rfl, .ty _, Rp.ty (by assumption), kit_str _, ?_⟩ | refine ⟨_, _, _, _, _, rfl, .ty _, Rp.ty (by assumption), kit_tup _, ?_⟩)
local macro_rules | `(tactic| walk_at "cal") => `(tactic| first
  | refine ⟨_, _, _, _, _, rfl, (by assumption), ?_⟩ | refine ⟨_, _, _, _, _, rfl, (by assumption), (by assumption), ?_⟩)
local macro_rules | `(tactic| walk_at "sq") => `(tactic| first
  | refine ⟨_, _, rfl, Or.inr (SqT.of (by assumption)), ?_⟩ | refine ⟨_, _, _, _, rfl, rfl, SqT.of (by assumption), rfl, ?_⟩)
local macro_rules | `(tactic| walk_at "rds") => `(tactic| repeat first | walk_at "rd" | walk_at "cal" | walk_at "sq")
local macro_rules | `(tactic| walk_at "ze") => `(tactic| repeat first
  | exact zes_nil | exact ze_bl | exact ze_str | exact ze_non | apply zes_cons | apply ze_tup | apply ze_lst | apply ze_cat | exact di_c | exact di_v rfl | apply di_opC | apply di_op | apply di_neg | apply ze_i | (refine (⟨?_, ?_, ?_⟩ : CPow _ _) <;> decide) | exact Nat.le_of_ble_eq_true rfl | exact ze_varD rfl (by assumption))
local macro_rules | `(tactic| walk_at "rdz") => `(tactic| repeat (fail_if_success (first | show tLst _ _ _ _ | show tAsg (tLst _) _ _ _ _ | show tSeq (tAsg (tLst _) _) _ _ _ _)); first | walk_at "rd" | walk_at "cal" | walk_at "sq")
section
variable {P : Program} {w : World} {K : PySem.W.Frag} {mg : Str → Option Value} {base : Heap}
def sp_count : Sp := fun vs H Q _ => ∃ (p : Addr) (u v : V) (ds : List PyData) (i l n : Int), vs = [u, v] ∧ Rp p H u (.tuple ds) ∧ Rp p H v (.tuple [.int i, .int l]) ∧ (∀ m ∈ ds, isMsg (.int n) m = true) ∧ ∀ H', Same H H' → Q (.int (cnt ds (i, l) : Nat)) H'
abbrev s__law_count : Stmt := top 60
abbrev N__law_count : List Str := ["log", "member", "message"]
abbrev P__law_count : List Str := ["log", "member"]
theorem sc__law_count : FnScope N__law_count P__law_count (defScope s__law_count) := ⟨rfl, rfl, rfl, by decide +kernel, rfl, by decide +kernel, by decide +kernel⟩
theorem ok__law_count {f : Addr} {fd : FuncData} (T : Tx mg) (F : Fun K "_law_count" "_law_count" s__law_count f fd) : FnOk P w K mg base CX0 (1) f fd P__law_count (sp_count) := by
  have nd := sc__law_count.nd
  refine F.ok sc__law_count (fun vs H Q E h => ?_) (fun cdv A outer s H vs Q E hr h => ?_)
  · obtain ⟨_, _, _, _, _, _, _, rfl, _⟩ := h
    rfl
  · obtain ⟨p, u, v, ds, i, l, n, rfl, hd, hv, hm, q⟩ := h
    have hs := sl
    refine ⟨_, (pss_one (ps_ret (pe_callB call_len_seq (by rfl) T.b_len (by decide +kernel) (pa_cons (pe_lcX (own := [("message", 2)]) rfl nd (pi_tup (pv 0)) (blkOk_by (own := [("message", 2)]) (N := N__law_count) (sc := defScope s__law_count) (by decide +kernel)) (fun _ _ _ _ _ => (pg_name (i := 2) nd rfl (Or.inl rfl))) (fun _ _ _ _ _ => (pts_one (pt_cmpR (op_eqD hr.units) (pe_ix ix_tup (pv 2) pe_int (fun _ _ => rfl)) (pv 1) (nomark _)))) (fun _ _ _ _ _ => (pv 2))) pa_nil)))), ?_⟩
    obtain _ | _ | _ | _ | _ | @⟨a, xs, _, ha, np, hw, hr1⟩ := hd
    refine ⟨_, rfl, ?_⟩
    refine ⟨_, rfl, ?_⟩
    refine ⟨⟨_, SqT.of ha⟩, fun D nD => lc_tup (K := K) (a := a) (xs := xs) (fun j H' => ∃ ws, H' D = some (.lst ws) ∧ ws.length = cnt (ds.take j) (i, l) ∧ Same H H') ?_ ?_ ?_ ?_⟩
    · exact ⟨[], upd_same, rfl, same_new nD _⟩
    · rintro j H' _ ⟨ws, _, _, s1⟩
      exact SqT.of (s1 _ _ ha)
    · rintro j x H' hx ⟨ws, hD, hw2, s1⟩
      obtain ⟨m, hm2, rm⟩ := hr1.at hx
      obtain ⟨i0, l0, k0, z0, rfl, hmem, _, _, _⟩ := isMsg_int (hm m (List.mem_of_getElem? hm2))
      have ht : ds.take (j + 1) = ds.take j ++ [.tuple [.tuple [.int i0, .int l0], .int k0, .str z0]] := by rw [List.take_succ, hm2]; rfl
      have es : sndK (.tuple [.tuple [.int i0, .int l0], .int k0, .str z0]) = (i0, l0) := rfl
      have rm := rm.same s1
      have hv1 := hv.same s1
      obtain _ | _ | _ | _ | _ | @⟨b, ys, _, hb, nb, hwb, hrb⟩ := rm
      obtain _ | ⟨hx1, _ | ⟨hx2, _ | ⟨hx3, hn⟩⟩⟩ := hrb
      cases hn
      refine ⟨rfl, ?_⟩
      refine ⟨_, rfl, ?_⟩
      refine ⟨_, _, _, _, rfl, rfl, SqT.of (by assumption), rfl, ?_⟩
      refine ⟨_, rfl, ?_⟩
      refine ⟨_, _, hx1.dp, hv1.dp, shaped2 _ _, shaped2 _ _, ?_⟩
      rw [eqv2]
      refine ⟨_, rfl, ?_⟩
      refine iB (fun h => ?_) (fun h => ?_)
      · have h := of_decide_eq_true h
        refine ⟨_, rfl, ?_⟩
        refine ⟨ws, hD, by rw [hw2]; unfold cnt; have := List.length_filter_le (fun m => decide (sndK m = (i, l))) (ds.take j); have := hr1.length; rw [List.length_take] at *; omega, _, upd_same, ?_, fun b' o h' => ?_⟩
        · rw [ht, cnt_snoc, es, if_pos h, List.length_append, hw2]; rfl
        · rw [upd_ne (ne_of_none h' nD)]; exact s1 b' o h'
      · have h := of_decide_eq_false h
        exact ⟨ws, hD, by rw [ht, cnt_snoc, es, if_neg h, hw2]; rfl, s1⟩
    · rintro H' ⟨ws, hD, hw2, s1⟩
      have hl := hr1.length
      rw [hl, List.take_length] at hw2
      refine ⟨D, ws, rfl, .inl (.of hD), ?_⟩
      rw [hw2]
      exact q _ s1
end
theorem pendD_is {n : Int} {zs : List Str} (h1 : 1 ≤ n) (h2 : n + zs.length ≤ 1000000000000) (h : ∀ z ∈ zs, PayOk z) : pendFrom n (pendD n zs) = true := by
  induction zs generalizing n with
  | nil => rfl
  | cons z zs ih =>
    rw [List.length_cons] at h2
    have e1 : isCast (.tuple [.int n, .str z]) = true := by
      show (isInt (.int n) 1 1000000000000 && isPay (.str z)) = true
      rw [(h z List.mem_cons_self).pay]
      simp only [isInt, Bool.and_true, Bool.and_eq_true, decide_eq_true_eq]; omega
    show (isCast (.tuple [.int n, .str z]) && decide (n = n) && pendFrom (n + 1) (pendD (n + 1) zs)) = true
    rw [e1, decide_eq_true rfl, ih (n := n + 1) (by omega) (by omega) fun y hy => h y (List.mem_cons_of_mem _ hy)]
    rfl
theorem pend_is {n : Int} {zs : List Str} (h1 : 1 ≤ n) (h2 : n + zs.length ≤ 1000000000000) (h : ∀ z ∈ zs, PayOk z) : isPend (.tuple (pendD n zs)) = true ∧ firstIs n (pendD n zs) = true := by
  have e := pendD_is h1 h2 h
  cases zs with
  | nil => exact ⟨rfl, rfl⟩
  | cons z zs =>
    refine ⟨?_, decide_eq_true rfl⟩
    have e : (isCast (.tuple [.int n, .str z]) && decide (n = n) && pendFrom (n + 1) (pendD (n + 1) zs)) = true := e
    show (isCast (.tuple [.int n, .str z]) && pendFrom (n + 1) (pendD (n + 1) zs)) = true
    simpa using e
theorem logFrom_msgs {c : PyData} : ∀ {ds pre : List PyData}, logFrom c pre ds = true → ∀ d ∈ ds, isMsg c d = true := fun h d hd => by
  obtain ⟨j, hj⟩ := List.mem_iff_getElem?.mp hd
  exact (logFrom_at h hj).1
/-! ### how long a text may be -/
mutual
def szD : PyData → Nat
  | .int _ => 25
  | .str z => z.length + 7
  | .tuple ds => szDs ds + 2
  | _ => 0
def szDs : List PyData → Nat
  | [] => 0
  | d :: ds => szD d + 1 + szDs ds
end
theorem szDs_le {s : Nat} : ∀ {ds : List PyData}, (∀ d ∈ ds, szD d ≤ s) → szDs ds ≤ ds.length * (s + 1)
  | [], _ => Nat.zero_le _
  | d :: ds, h => by
    have h1 := h d List.mem_cons_self
    have h2 := szDs_le (ds := ds) fun e he => h e (List.mem_cons_of_mem _ he)
    show szD d + 1 + szDs ds ≤ (ds.length + 1) * (s + 1)
    rw [Nat.add_mul]
    omega
theorem szD_le {s n : Nat} {ds : List PyData} (h : ∀ d ∈ ds, szD d ≤ s) (hl : ds.length ≤ n) : szD (.tuple ds) ≤ n * (s + 1) + 2 := by
  have h1 := szDs_le h
  have h2 : ds.length * (s + 1) ≤ n * (s + 1) := Nat.mul_le_mul_right _ hl
  show szDs ds + 2 ≤ _
  omega
/-- a letter that the law makes -/
structure Made (n : Int) (d : PyData) : Prop where
  let_ : isLet (.int n) d = true
  her : Her Ok d
  noL : NoL d
  fit : fit 6 d
  sz : szD d ≤ 70000
theorem tup_all {R : PyData → Prop} {ds : List PyData} (h : ∀ d ∈ ds, R d) : ∀ d ∈ ds, R d := h
theorem mem_nil {R : PyData → Prop} : ∀ d ∈ ([] : List PyData), R d := fun d h => by cases h
theorem mem_cs {R : PyData → Prop} {x : PyData} {ds : List PyData} (h : R x) (t : ∀ d ∈ ds, R d) : ∀ d ∈ x :: ds, R d := fun d m => by
  rcases List.mem_cons.mp m with rfl | m
  · exact h
  · exact t d m
/-- what is asked of each part -/
structure Prt (B k : Nat) (d : PyData) : Prop where
  her : Her Ok d
  noL : NoL d
  fit : fit k d
  sz : szD d ≤ B
theorem Prt.tup {B B' k : Nat} {ds : List PyData} (hl : ds.length ≤ 3000) (h : ∀ d ∈ ds, Prt B' k d) (hz : szD (.tuple ds) ≤ B) : Prt B (k + 1) (.tuple ds) := ⟨.tup fun d m => (h d m).her, .tup fun d m => (h d m).noL, ⟨hl, fun d m => (h d m).fit⟩, hz⟩
theorem Prt.int {B : Nat} (k : Nat) (i : Int) (hb : 25 ≤ B := by decide) : Prt B k (.int i) := ⟨.int i, .int i, by cases k <;> trivial, hb⟩
theorem Prt.str {B : Nat} (k : Nat) {z : Str} (h : Ok z) (hb : 1007 ≤ B := by decide) : Prt B k (.str z) := ⟨.str h, .str z, by cases k <;> trivial, by have := h.1; show z.length + 7 ≤ B; omega⟩
theorem Prt.mem {B : Nat} (k : Nat) (i l : Int) (hb : 54 ≤ B := by decide) : Prt B (k + 1) (.tuple [.int i, .int l]) := .tup (B' := 25) (by simp) (mem_cs (.int _ _) (mem_cs (.int _ _) mem_nil)) (by simp only [szD, szDs]; omega)
theorem Prt.vid {B : Nat} (k : Nat) (n i l : Int) (hb : 83 ≤ B := by decide) : Prt B (k + 2) (vD n i l) := .tup (B' := 54) (by simp) (mem_cs (.int _ _) (mem_cs (.mem _ _ _) mem_nil)) (by simp only [szD, szDs]; omega)
theorem Prt.msg {B : Nat} (k : Nat) (i l m : Int) {z : Str} (hz : Ok z) (h30 : z.length ≤ 30) (hb : 121 ≤ B := by decide) : Prt B (k + 2) (.tuple [.tuple [.int i, .int l], .int m, .str z]) :=
  .tup (B' := 2000) (by simp) (mem_cs (.mem _ _ _) (mem_cs (.int _ _) (mem_cs (.str _ hz) mem_nil))) (by simp only [szD, szDs]; omega)
theorem Prt.mems {B k : Nat} {n : Int} {ds : List PyData} (h : Mems n ds) (hl : ds.length ≤ 5) (hb : 277 ≤ B := by decide) : Prt B (k + 2) (.tuple ds) := by
  have e : ∀ d ∈ ds, Prt 54 (k + 1) d := fun d hd => by
    obtain ⟨i, l, rfl, _⟩ := h d hd
    exact .mem _ _ _
  exact .tup (by omega) e (Nat.le_trans (szD_le (fun d hd => (e d hd).sz) hl) hb)
theorem Prt.log {B k : Nat} {n : Int} {ds : List PyData} (h : logFrom (.int n) [] ds = true) (hh : Her Ok (.tuple ds)) (hl : ds.length ≤ 39) (hb : 4760 ≤ B := by decide) : Prt B (k + 3) (.tuple ds) := by
  have e : ∀ d ∈ ds, Prt 121 (k + 2) d := fun d hd => by
    obtain ⟨i, l, m, z, rfl, _, _, _, h30⟩ := isMsg_int (logFrom_msgs h d hd)
    have hz : Ok z := by
      have := (hh.mem _ hd).of3.2.2
      cases this with
      | str h => exact h
    exact .msg _ _ _ _ hz h30
  exact .tup (by omega) e (Nat.le_trans (szD_le (fun d hd => (e d hd).sz) hl) hb)
theorem Prt.pend {B k : Nat} {n : Int} {zs : List Str} (h : ∀ z ∈ zs, PayOk z) (hl : zs.length ≤ 8) (hb : 538 ≤ B := by decide) : Prt B (k + 2) (.tuple (pendD n zs)) := by
  have e : ∀ d ∈ pendD n zs, Prt 66 (k + 1) d := fun d hd => by
    obtain ⟨i, z, hz, rfl⟩ := pendD_mem hd
    exact .tup (B' := 2000) (by simp) (mem_cs (.int _ _) (mem_cs (.str _ (h z hz).ok) mem_nil)) (by have := (h z hz).1; simp only [szD, szDs]; omega)
  exact .tup (by rw [pendD_len]; omega) e (Nat.le_trans (szD_le (fun d hd => (e d hd).sz) (by rw [pendD_len]; exact hl)) hb)
theorem Prt.fins {B k : Nat} {n : Int} {fs : List PyData} (h : Fins n fs) (hb : 19394 ≤ B := by decide) : Prt B (k + 5) (.tuple fs) := by
  have e : ∀ d ∈ fs, Prt 4847 (k + 4) d := fun d hd => by
    obtain ⟨m, i, l, ds, rfl, _, _, _, _, _, _, q6, q7, q8, q9⟩ := h.2.2 d hd
    have hv : Prt 83 (k + 3) (vD m i l) := .vid _ _ _ _
    have hg : Prt 4760 (k + 3) (.tuple ds) := .log q6 q7 q9
    refine .tup (B' := 5000) (by simp) (mem_cs (.vid _ _ _ _) (mem_cs (.log q6 q7 q9) mem_nil)) ?_
    have h1 := hv.sz
    have h2 := hg.sz
    show szD (vD m i l) + 1 + (szD (.tuple ds) + 1 + 0) + 2 ≤ 4847
    omega
  exact .tup (by have := h.2.1; omega) e (Nat.le_trans (szD_le (fun d hd => (e d hd).sz) h.2.1) hb)
theorem made_of {n : Int} {z : Str} {m i : PyData} {r : List PyData} (hz : z ∈ sevens) (hm : isMem (.int n) m = true) (hi : isVid (.int n) i = true) (hr : restOf z (.int n) (.str z :: m :: i :: r) = true) (h : Prt 70000 6 (.tuple (.str z :: m :: i :: r))) : Made n (.tuple (.str z :: m :: i :: r)) :=
  ⟨by
    show (sevens.contains z && isMem _ m && isVid _ i && restOf z _ _) = true
    rw [hm, hi, hr, show sevens.contains z = true by simpa using hz]; rfl, h.her, h.noL, h.fit, h.sz⟩
def sp_letter : Sp := fun vs H Q _ => ∃ (p : Addr) (c n : Int), vs = [.ref p, .int n] ∧ Bag p c H ∧ 1 ≤ n ∧ n ≤ 12 ∧ ∀ a d H', Made n d → Rp p H' (.ref a) d → But p H H' → Bag p c H' → Q (.ref a) H'
section
variable {P : Program} {w : World} {K : PySem.W.Frag} {mg : Str → Option Value} {base : Heap}
abbrev s__law_letter : Stmt := top 62
abbrev N__law_letter : List Str := ["bag", "count", "kind", "members", "me", "view_id", "log"]
abbrev P__law_letter : List Str := ["bag", "count"]
theorem sc__law_letter : FnScope N__law_letter P__law_letter (defScope s__law_letter) := ⟨rfl, rfl, rfl, by decide +kernel, rfl, by decide +kernel, by decide +kernel⟩
theorem ok__law_letter {f : Addr} {fd : FuncData} (T : Tx mg) (c__law_draw : DefOk P w K mg base CX0 "_law_draw" P__law_draw 1 (sp_draw)) (c__law_positive : DefOk P w K mg base CX0 "_law_positive" P__law_positive 2 (sp_pos)) (c__law_member : DefOk P w K mg base CX0 "_law_member" P__law_member 3 (sp_mem1)) (c__law_members : DefOk P w K mg base CX0 "_law_members" P__law_members 3 (sp_memsS)) (c__law_id : DefOk P w K mg base CX0 "_law_id" P__law_id 4 (sp_vid1)) (c__law_payload : DefOk P w K mg base CX0 "_law_payload" P__law_payload 2 (sp_pay)) (c__law_log : DefOk P w K mg base CX0 "_law_log" P__law_log 3 (sp_log)) (c__law_pending : DefOk P w K mg base CX0 "_law_pending" P__law_pending 3 (sp_pend)) (c__law_count : DefOk P w K mg base CX0 "_law_count" P__law_count 1 (sp_count)) (c__law_finals : DefOk P w K mg base CX0 "_law_finals" P__law_finals 5 (sp_fins))(F : Fun K "_law_letter" "_law_letter" s__law_letter f fd) : FnOk P w K mg base CX0 (6) f fd P__law_letter (sp_letter) := by
  have nd := sc__law_letter.nd
  refine F.ok sc__law_letter (fun vs H Q E h => ?_) (fun cdv A outer s H vs Q E hr h => ?_)
  · obtain ⟨_, _, _, rfl, _⟩ := h
    rfl
  · obtain ⟨p, c, n, rfl, g, n1, n2, q⟩ := h
    have hs := sl
    refine ⟨_, (pss_cons (ps_set (i := 2) nd rfl (Or.inl rfl) (pe_ix ix_list (pe_lst (pa_cons pe_str (pa_cons pe_str (pa_cons pe_str (pa_cons pe_str (pa_cons pe_str (pa_cons pe_str (pa_cons pe_str pa_nil)))))))) (pcall c__law_draw hr (pa_cons (pv 0) (pa_cons pe_int pa_nil))) (fun _ _ => rfl)))
      (pss_cons (ps_set (i := 3) nd rfl (Or.inl rfl) (pcall c__law_members hr (pa_cons (pv 0) (pa_cons (pv 1) pa_nil))))
      (pss_cons (ps_set (i := 4) nd rfl (Or.inl rfl) (pe_ix ix_tup (pv 3) (pcall c__law_draw hr (pa_cons (pv 0) (pa_cons (pe_callB call_len_seq (by rfl) T.b_len (by decide +kernel) (pa_cons (pv 3) pa_nil)) pa_nil))) (fun _ _ => rfl)))
      (pss_cons (ps_set (i := 5) nd rfl (Or.inl rfl) (pcall c__law_id hr (pa_cons (pv 0) (pa_cons (pv 1) pa_nil))))
      (pss_cons (ps_if (pt_cmpR op_eq (pv 2) pe_str (nomark _))
        (pss_one (ps_ret (pe_tup (pa_cons (pv 2) (pa_cons (pv 4) (pa_cons (pv 5) (pa_cons (pe_op op_sub (pcall c__law_positive hr (pa_cons (pv 0) pa_nil)) pe_int) (pa_cons (pe_callB (call_maxD rfl hr.units) (by rfl) T.b_max (by decide +kernel) (pa_cons (pv 5) (pa_cons (pcall c__law_id hr (pa_cons (pv 0) (pa_cons (pv 1) pa_nil))) pa_nil))) pa_nil))))))))
        pss_nil)
      (pss_cons (ps_if (pt_cmpR op_eq (pv 2) pe_str (nomark _))
        (pss_one (ps_ret (pe_tup (pa_cons (pv 2) (pa_cons (pv 4) (pa_cons (pv 5) (pa_cons (pcall c__law_positive hr (pa_cons (pv 0) pa_nil)) (pa_cons (pcall c__law_payload hr (pa_cons (pv 0) pa_nil)) pa_nil))))))))
        pss_nil)
      (pss_cons (ps_if (pt_cmpR op_eq (pv 2) pe_str (nomark _))
        (pss_one (ps_ret (pe_tup (pa_cons (pv 2) (pa_cons (pv 4) (pa_cons (pv 5) (pa_cons (pcall c__law_positive hr (pa_cons (pv 0) pa_nil)) (pa_cons (pe_tup (pa_cons (pcall c__law_member hr (pa_cons (pv 0) (pa_cons (pv 1) pa_nil))) (pa_cons (pcall c__law_positive hr (pa_cons (pv 0) pa_nil)) (pa_cons (pcall c__law_payload hr (pa_cons (pv 0) pa_nil)) pa_nil)))) pa_nil))))))))
        pss_nil)
      (pss_cons (ps_if (pt_cmpR op_eq (pv 2) pe_str (nomark _))
        (pss_one (ps_ret (pe_tup (pa_cons (pv 2) (pa_cons (pv 4) (pa_cons (pv 5) (pa_cons (pv 3) pa_nil)))))))
        pss_nil)
      (pss_cons (ps_if (pt_cmpR op_eq (pv 2) pe_str (nomark _))
        (pss_one (ps_ret (pe_tup (pa_cons (pv 2) (pa_cons (pv 4) (pa_cons (pv 5) (pa_cons (pv 3) (pa_cons (pcall c__law_finals hr (pa_cons (pv 0) (pa_cons (pv 1) (pa_cons (pv 3) pa_nil)))) pa_nil))))))))
        pss_nil)
      (pss_cons (ps_if (pt_cmpR op_eq (pv 2) pe_str (nomark _))
        (pss_one (ps_ret (pe_tup (pa_cons (pv 2) (pa_cons (pv 4) (pa_cons (pv 5) (pa_cons (pcall c__law_id hr (pa_cons (pv 0) (pa_cons (pv 1) pa_nil))) pa_nil)))))))
        pss_nil)
      (pss_cons (ps_set (i := 6) nd rfl (Or.inl rfl) (pcall c__law_log hr (pa_cons (pv 0) (pa_cons (pv 3) pa_nil))))
      (pss_one (ps_ret (pe_tup (pa_cons (pv 2) (pa_cons (pv 4) (pa_cons (pv 5) (pa_cons (pcall c__law_id hr (pa_cons (pv 0) (pa_cons (pv 1) pa_nil))) (pa_cons (pv 6) (pa_cons (pcall c__law_pending hr (pa_cons (pv 0) (pa_cons (pe_op op_add (pcall c__law_count hr (pa_cons (pv 6) (pa_cons (pv 4) pa_nil))) pe_int) pa_nil))) pa_nil)))))))))))))))))))), ?_⟩
    refine ⟨by show 7 ≤ sizeLine; omega, fun t nt => ?_⟩
    have s0 := same_new nt (.lst [V.str "here", V.str "cast", V.str "order", V.str "propose", V.str "state", V.str "install", V.str "higher"])
    refine ⟨_, rfl, ?_⟩
    refine ⟨p, c, 7, rfl, g.new nt, by decide, by decide, fun kd H1 k0 k1 b1 g1 => ?_⟩
    have ht := b1 _ _ upd_same (g.ne nt).symm
    have b01 := (But.of s0).trans b1
    obtain ⟨z, ez, hz⟩ : ∃ z : Str, atI [V.str "here", V.str "cast", V.str "order", V.str "propose", V.str "state", V.str "install", V.str "higher"] kd = some (.str z) ∧ z ∈ sevens := by
      have hk : kd = 0 ∨ kd = 1 ∨ kd = 2 ∨ kd = 3 ∨ kd = 4 ∨ kd = 5 ∨ kd = 6 := by omega
      rcases hk with rfl | rfl | rfl | rfl | rfl | rfl | rfl
      · exact ⟨"here", rfl, by simp [sevens]⟩
      · exact ⟨"cast", rfl, by simp [sevens]⟩
      · exact ⟨"order", rfl, by simp [sevens]⟩
      · exact ⟨"propose", rfl, by simp [sevens]⟩
      · exact ⟨"state", rfl, by simp [sevens]⟩
      · exact ⟨"install", rfl, by simp [sevens]⟩
      · exact ⟨"higher", rfl, by simp [sevens]⟩
    refine ⟨t, _, _, _, rfl, rfl, SqL.of ht, ez, ?_⟩
    clear ht
    refine ⟨_, rfl, ?_⟩
    refine ⟨_, rfl, ?_⟩
    refine ⟨p, c, n, rfl, g1, by omega, n2, fun am H2 ms rm mm sm m0 m5 b2 g2 => ?_⟩
    obtain _ | _ | _ | _ | _ | @⟨_, xs, _, ham, nam, hwm, hrm⟩ := id rm
    have lm := hrm.length
    refine ⟨_, rfl, _, rfl, _, rfl, am, _, rfl, .inr (SqT.of ham), p, c, _, rfl, g2, by omega, by omega, fun r H3 r0 r1 b3 g3 => ?_⟩
    have hlt : r.toNat < xs.length := by omega
    obtain ⟨dm, hdm, rdm⟩ := (hrm.mono b3).at (List.getElem?_eq_getElem hlt)
    have mdm := List.mem_of_getElem? hdm
    obtain ⟨i0, l0, rfl, q0, q1, q2, q3⟩ := mm dm mdm
    refine ⟨am, _, _, _, rfl, rfl, SqT.of (b3 _ _ ham nam), at_int r0 (List.getElem?_eq_getElem hlt), ?_⟩
    generalize xs[r.toNat] = vm at rdm
    refine ⟨_, rfl, ?_⟩
    refine ⟨_, rfl, ?_⟩
    refine ⟨p, c, n, rfl, g3, n1, n2, fun av k i1 l1 H4 k0 k1 i10 i11 l10 l11 rv b4 g4 => ?_⟩
    have rm4 := (rm.mono b3).mono b4
    have rd4 := rdm.mono b4
    have b04 := b01.trans (b2.trans (b3.trans b4))
    have em : isMem (.int n) (.tuple [.int i0, .int l0]) = true := by simp only [isMem, isProc, isInt, Bool.and_eq_true, decide_eq_true_eq]; omega
    have ei : isVid (.int n) (.tuple [.int k, .tuple [.int i1, .int l1]]) = true := vid_ok n1 n2 k0 k1 i10 i11 l10 l11
    have P2 : ∀ {r : List PyData}, r.length ≤ 3 → Ok z → (∀ d ∈ r, Prt 20000 5 d) → Prt 70000 6 (.tuple (.str z :: .tuple [.int i0, .int l0] :: .tuple [.int k, .tuple [.int i1, .int l1]] :: r)) := fun {r} hl hz h =>
      .tup (by simp; omega) (mem_cs (.str _ hz) (mem_cs (.mem _ _ _) (mem_cs (.vid _ _ _ _) h))) (by
        have h1 := szDs_le (s := 20000) fun d hd => (h d hd).sz
        have h2 : r.length * 20001 ≤ 3 * 20001 := Nat.mul_le_mul_right _ hl
        have := hz.1
        simp only [szD, szDs]; omega)
    have oks : ∀ z ∈ sevens, Ok z := fun z hz => by
      simp only [sevens, List.mem_cons, List.not_mem_nil, or_false] at hz
      rcases hz with rfl | rfl | rfl | rfl | rfl | rfl | rfl <;> exact ⟨by decide +kernel, by decide +kernel⟩
    have okz := oks z hz
    have memsOk : isMems (.int n) (.tuple ms) = true := by
      show (!ms.isEmpty && memsFrom (.int n) (-1) ms) = true
      rw [sm]
      cases ms with
      | nil => cases m0
      | cons _ _ => rfl
    have fin : ∀ (vs : List V) (r : List PyData) (H' : Hp) (t : Addr), r.length ≤ 3 → (∀ d ∈ r, Prt 20000 5 d) → restOf z (.int n) (.str z :: .tuple [.int i0, .int l0] :: .tuple [.int k, .tuple [.int i1, .int l1]] :: r) = true →
        But p H4 H' → Bag p c H' → Rps p H' vs r → H' t = none → Q (.ref t) (upd H' t (.tup (.str z :: vm :: .ref av :: vs))) := fun vs r H' t hl hp hr b g' rr nt =>
      q t _ _ (made_of hz em ei hr (P2 hl okz hp)) (rp_tup g' nt (.cons (.str z) (.cons (rd4.mono b) (.cons (rv.mono b) rr))) (by have := rr.length; simp; omega)) ((b04.trans b).new nt) (g'.new nt)
    clear P2 okz oks
    simp only [sevens, List.mem_cons, List.not_mem_nil, or_false] at hz
    rcases hz with rfl | rfl | rfl | rfl | rfl | rfl | rfl
    · walk_at "rds"
      refine ⟨p, c, rfl, g4, fun m H5 m0 m1 b5 g5 => ?_⟩
      refine ⟨_, _, rfl, rfl, ?_⟩
      refine ⟨_, rfl, ?_⟩
      refine ⟨_, rfl, ?_⟩
      refine ⟨_, rfl, ?_⟩
      refine ⟨p, c, n, rfl, g5, n1, n2, fun aw k' i' l' H6 k0' k1' i0' i1' l0' l1' rw' b6 g6 => ?_⟩
      refine ⟨_, _, vD k i1 l1, vD k' i' l', rfl, (rv.mono (b5.trans b6)).dp, rw'.dp, ?_, v_depth _ _ _, v_depth _ _ _, ?_⟩
      · refine ⟨fun a ha b hb => ?_, fun a ha => ?_⟩
        · simp only [List.mem_cons, List.not_mem_nil, or_false] at ha hb
          rcases ha with rfl | rfl <;> rcases hb with rfl | rfl <;> rfl
        · simp only [List.mem_cons, List.not_mem_nil, or_false] at ha
          rcases ha with rfl | rfl <;> (intro z; cases z)
      obtain ⟨v6, kx, ix, lx, ev, kx0, kx1, ix0, ix1, lx0, lx1, rx, nlt⟩ : ∃ (v6 : V) (kx ix lx : Int), (if PySem.W.dataLt (vD k i1 l1) (vD k' i' l') = true then V.ref aw else V.ref av) = v6 ∧ 0 ≤ kx ∧ kx ≤ 1000000000000 ∧ 0 ≤ ix ∧ ix < n ∧ 1 ≤ lx ∧ lx ≤ 1000000000000 ∧ Rp p H6 v6 (vD kx ix lx) ∧ PySem.W.dataLt (vD kx ix lx) (vD k i1 l1) = false := by
        by_cases e : PySem.W.dataLt (vD k i1 l1) (vD k' i' l') = true
        · refine ⟨_, k', i', l', if_pos e, k0', k1', i0', i1', l0', l1', rw', ?_⟩
          rw [v_lt] at e ⊢
          unfold vLt at e ⊢
          simp only [decide_eq_true_eq, decide_eq_false_iff_not] at e ⊢
          omega
        · exact ⟨_, k, i1, l1, if_neg e, k0, k1, i10, i11, l10, l11, rv.mono (b5.trans b6), PyProof.Rows.lex_irrefl _⟩
      rw [ev]
      refine ⟨by show 5 ≤ sizeLine; omega, fun t nt => ?_⟩
      refine fin [.int (m - 1), v6] [.int (m - 1), vD kx ix lx] H6 t (by simp) (mem_cs (.int _ _) (mem_cs (.vid _ _ _ _) mem_nil)) ?_ (b5.trans b6) g6 (.cons (.int _) (.cons rx .nil)) nt
      show (isInt (.int (m - 1)) 0 1000000000000 && isVid (.int n) (vD kx ix lx) && !PySem.W.dataLt (vD kx ix lx) (vD k i1 l1)) = true
      rw [vid_ok n1 n2 kx0 kx1 ix0 ix1 lx0 lx1, nlt]
      simp only [isInt, Bool.and_true, Bool.not_false, Bool.and_eq_true, decide_eq_true_eq]; omega
    · walk_at "rds"
      refine ⟨p, c, rfl, g4, fun m H5 m0 m1 b5 g5 => ?_⟩
      refine ⟨_, rfl, ?_⟩
      refine ⟨p, c, rfl, g5, fun z H6 hz b6 g6 => ?_⟩
      refine ⟨by show 5 ≤ sizeLine; omega, fun t nt => ?_⟩
      refine fin [.int m, .str z] [.int m, .str z] H6 t (by simp) (mem_cs (.int _ _) (mem_cs (.str _ hz.ok) mem_nil)) ?_ (b5.trans b6) g6 (.cons (.int _) (.cons (.str _) .nil)) nt
      show (isInt (.int m) 1 1000000000000 && isPay (.str z)) = true
      rw [hz.pay]
      simp only [isInt, Bool.and_true, Bool.and_eq_true, decide_eq_true_eq]; omega
    · walk_at "rds"
      refine ⟨p, c, rfl, g4, fun m H5 m0 m1 b5 g5 => ?_⟩
      refine ⟨_, rfl, ?_⟩
      refine ⟨_, rfl, ?_⟩
      refine ⟨p, c, n, rfl, g5, n1, n2, fun ax i2 l2 H6 i20 i21 l20 l21 rx b6 g6 => ?_⟩
      refine ⟨_, rfl, ?_⟩
      refine ⟨p, c, rfl, g6, fun m2 H7 m20 m21 b7 g7 => ?_⟩
      refine ⟨_, rfl, ?_⟩
      refine ⟨p, c, rfl, g7, fun z H8 hz b8 g8 => ?_⟩
      refine ⟨by show 3 ≤ sizeLine; omega, fun t nt => ?_⟩
      have st := same_new nt (.tup [V.ref ax, .int m2, .str z])
      refine ⟨by show 5 ≤ sizeLine; omega, fun t2 nt2 => ?_⟩
      refine fin [.int m, .ref t] [.int m, .tuple [.tuple [.int i2, .int l2], .int m2, .str z]] _ t2 (by simp) (mem_cs (.int _ _) (mem_cs (.msg _ _ _ _ hz.ok hz.1) mem_nil)) ?_ ((b5.trans (b6.trans (b7.trans b8))).trans (But.of st)) (g8.new nt) (.cons (.int _) (.cons (rp_tup g8 nt (.cons (rx.mono (b7.trans b8)) (.cons (.int _) (.cons (.str _) .nil)))) .nil)) nt2
      show (isInt (.int m) 1 1000000000000 && (isMem (.int n) (.tuple [.int i2, .int l2]) && isInt (.int m2) 1 1000000000000 && isPay (.str z))) = true
      rw [hz.pay]
      simp only [isMem, isProc, isInt, Bool.and_true, Bool.and_eq_true, decide_eq_true_eq]; omega
    · walk_at "rds"
      refine ⟨by show 4 ≤ sizeLine; omega, fun t nt => ?_⟩
      refine fin [.ref am] [.tuple ms] H4 t (by simp) (mem_cs (.mems mm m5) mem_nil) ?_ (But.refl _ _) g4 (.cons rm4 .nil) nt
      exact memsOk
    · walk_at "rds"
      refine ⟨p, c, n, .ref am, ms, rfl, g4, rm4, mm, n1, n2, (fun e => by rw [e] at m0; cases m0), by omega, fun v ds H5 lf hh nl l39 r5 b5 g5 => ?_⟩
      refine ⟨_, rfl, ?_⟩
      refine ⟨_, rfl, ?_⟩
      refine ⟨_, rfl, ?_⟩
      refine ⟨_, rfl, ?_⟩
      refine ⟨_, rfl, ?_⟩
      refine ⟨p, c, n, rfl, g5, n1, n2, fun aw k' i' l' H6 k0' k1' i0' i1' l0' l1' rw' b6 g6 => ?_⟩
      refine ⟨_, rfl, ?_⟩
      refine ⟨_, rfl, ?_⟩
      refine ⟨_, rfl, ?_⟩
      refine ⟨_, rfl, ?_⟩
      refine ⟨p, v, vm, ds, i0, l0, n, rfl, r5.mono b6, rd4.mono (b5.trans b6), logFrom_msgs lf, fun H7 s7 => ?_⟩
      refine ⟨_, _, rfl, rfl, ?_⟩
      have cl := cnt_le ds (i0, l0)
      refine ⟨p, c, _, rfl, g6.same s7, fun v8 zs H8 hz l8 r8 b8 g8 => ?_⟩
      refine ⟨by show 6 ≤ sizeLine; omega, fun t nt => ?_⟩
      have b78 := (But.of s7 (p := p)).trans b8
      obtain ⟨pk1, pk2⟩ := pend_is (n := (cnt ds (i0, l0) : Nat) + 1) (by omega) (by omega) hz
      refine fin [.ref aw, v, v8] [vD k' i' l', .tuple ds, .tuple (pendD ((cnt ds (i0, l0) : Nat) + 1) zs)] H8 t (by simp) (mem_cs (.vid _ _ _ _) (mem_cs (.log lf hh l39) (mem_cs (.pend hz l8) mem_nil))) ?_ (b5.trans (b6.trans b78)) g8 (.cons (rw'.mono b78) (.cons (r5.mono (b6.trans b78)) (.cons r8 .nil))) nt
      show (isVid (.int n) (vD k' i' l') && isLog (.int n) (.tuple ds) && isPend (.tuple (pendD ((cnt ds (i0, l0) : Nat) + 1) zs)) && firstIs ((cnt ds (i0, l0) : Nat) + 1) (pendD ((cnt ds (i0, l0) : Nat) + 1) zs)) = true
      rw [vid_ok n1 n2 k0' k1' i0' i1' l0' l1', log_is lf, pk1, pk2]; rfl
    · walk_at "rds"
      refine ⟨mm, n1, n2, (fun e => by rw [e] at m0; cases m0), by omega, fun v fs H5 hf r5 b5 g5 => ?_⟩
      refine ⟨by show 5 ≤ sizeLine; omega, fun t nt => ?_⟩
      refine fin [.ref am, v] [.tuple ms, .tuple fs] H5 t (by simp) (mem_cs (.mems mm m5) (mem_cs (.fins hf) mem_nil)) ?_ b5 g5 (.cons (rm4.mono b5) (.cons r5 .nil)) nt
      show (isMems (.int n) (.tuple ms) && isFins (.int n) (.tuple fs)) = true
      rw [memsOk, show isFins (.int n) (.tuple fs) = true from hf.1]; rfl
    · walk_at "rds"
      refine ⟨p, c, n, rfl, g4, n1, n2, fun aw k' i' l' H5 k0' k1' i0' i1' l0' l1' rw' b5 g5 => ?_⟩
      refine ⟨by show 4 ≤ sizeLine; omega, fun t nt => ?_⟩
      refine fin [.ref aw] [vD k' i' l'] H5 t (by simp) (mem_cs (.vid _ _ _ _) mem_nil) ?_ b5 g5 (.cons rw' .nil) nt
      exact vid_ok n1 n2 k0' k1' i0' i1' l0' l1'
end
end Mus

set_option maxRecDepth 100000
set_option maxHeartbeats 4000000
namespace Mus
open PySem L2 TL PySem.NumText Txt4
/-! ### letters are plain values -/
mutual
def pyD : D → PyData
  | .int i => .int i
  | .str z => .str z
  | .tup ds => .tuple (pyDs ds)
def pyDs : List D → List PyData
  | [] => []
  | d :: ds => pyD d :: pyDs ds
end
mutual
/-- no long text in it -/
def sml : D → Prop
  | .int _ => True
  | .str z => z.length ≤ 1000
  | .tup ds => smls ds
def smls : List D → Prop
  | [] => True
  | d :: ds => sml d ∧ smls ds
end
theorem smls_at : ∀ {ds : List D} {i : Nat} {d : D}, smls ds → ds[i]? = some d → sml d
  | [], _, _, _, h => by simp at h
  | e :: ds, 0, d, k, h => by
    have z : e = d := Option.some.inj h
    rw [← z]; exact (k : sml e ∧ smls ds).1
  | e :: ds, i + 1, d, k, h => smls_at (k : sml e ∧ smls ds).2 (by simpa using h)
def Shp (k : Nat) (d : PyData) : Prop := ∃ e : D, d = pyD e ∧ Txt4.ok e ∧ sml e ∧ dep e ≤ k
theorem Shp.all {k : Nat} : ∀ {ds : List PyData}, (∀ d ∈ ds, Shp k d) → ∃ es : List D, ds = pyDs es ∧ Txt4.oks es ∧ smls es ∧ deps es ≤ k
  | [], _ => ⟨[], rfl, trivial, trivial, Nat.zero_le _⟩
  | d :: ds, h => by
    obtain ⟨e, rfl, h1, h5, h2⟩ := h d List.mem_cons_self
    obtain ⟨es, rfl, h3, h6, h4⟩ := Shp.all (ds := ds) fun e he => h e (List.mem_cons_of_mem _ he)
    exact ⟨e :: es, rfl, ⟨h1, h3⟩, ⟨h5, h6⟩, Nat.max_le.mpr ⟨h2, h4⟩⟩
theorem Shp.tup {k : Nat} {ds : List PyData} (h : ∀ d ∈ ds, Shp k d) : Shp (k + 1) (.tuple ds) := by
  obtain ⟨es, rfl, h1, h3, h2⟩ := Shp.all h
  exact ⟨.tup es, rfl, h1, h3, Nat.succ_le_succ h2⟩
theorem Shp.int (k : Nat) (i : Int) (h : i.natAbs < 10 ^ 24) : Shp k (.int i) := ⟨.int i, rfl, h, trivial, Nat.zero_le _⟩
theorem prB_pr {c : Nat} (h : prB c = true) : Pr c := by
  unfold prB at h
  simp only [Bool.and_eq_true, decide_eq_true_eq] at h
  exact ⟨h.1.1, h.1.2, h.2⟩
theorem Shp.str (k : Nat) {z : Str} (h : ((tl z).all prB && decide (z.length ≤ 1000)) = true) : Shp k (.str z) := by
  rw [Bool.and_eq_true, decide_eq_true_eq] at h
  exact ⟨.str z, rfl, fun c hc => prB_pr (List.all_eq_true.mp h.1 c hc), h.2, Nat.zero_le _⟩
theorem Shp.mono {k m : Nat} {d : PyData} (h : Shp k d) (l : k ≤ m) : Shp m d := by
  obtain ⟨e, h1, h2, h4, h3⟩ := h
  exact ⟨e, h1, h2, h4, Nat.le_trans h3 l⟩
theorem mem_shp {c d : PyData} (k : Nat) (h : isMem c d = true) : Shp (k + 1) d := by
  obtain ⟨_, i, l, _, rfl, _, _, _, _, _, _⟩ := isMem_int h
  exact .tup (mem_cs (.int _ _ (by omega)) (mem_cs (.int _ _ (by omega)) mem_nil))
theorem vid_shp {c d : PyData} (k : Nat) (h : isVid c d = true) : Shp (k + 2) d := by
  unfold isVid at h
  split at h
  · rw [Bool.and_eq_true] at h
    obtain ⟨i, rfl, h1, h2⟩ := isInt_int h.1
    exact .tup (mem_cs (.int _ _ (by omega)) (mem_cs (mem_shp k h.2) mem_nil))
  · cases h
theorem pay_shp {d : PyData} (k : Nat) (h : isPay d = true) : Shp k d := by
  cases d <;> try (cases h; done)
  rename_i z
  have h : (decide (z.length ≤ 30) && (tl z).all prB) = true := h
  rw [Bool.and_eq_true] at h
  exact .str _ (by rw [h.2, decide_eq_true (show z.length ≤ 1000 by have := of_decide_eq_true h.1; omega)]; rfl)
theorem msg_shp {c d : PyData} (k : Nat) (h : isMsg c d = true) : Shp (k + 2) d := by
  unfold isMsg at h
  split at h
  · rename_i a b z
    rw [Bool.and_eq_true, Bool.and_eq_true] at h
    obtain ⟨i, rfl, _, _⟩ := isInt_int h.1.2
    exact .tup (mem_cs (mem_shp _ h.1.1) (mem_cs (.int _ _ (by omega)) (mem_cs (pay_shp _ h.2) mem_nil)))
  · cases h
theorem log_shp {c d : PyData} (k : Nat) (h : isLog c d = true) : Shp (k + 3) d := by
  cases d <;> try (cases h; done)
  exact .tup fun e he => msg_shp _ (logFrom_msgs h e he)
theorem cast_shp {d : PyData} (k : Nat) (h : isCast d = true) : Shp (k + 1) d := by
  unfold isCast at h
  split at h
  · rw [Bool.and_eq_true] at h
    obtain ⟨i, rfl, _, _⟩ := isInt_int h.1
    exact .tup (mem_cs (.int _ _ (by omega)) (mem_cs (pay_shp _ h.2) mem_nil))
  · cases h
theorem pendFrom_all : ∀ {n : Int} {ds : List PyData}, pendFrom n ds = true → ∀ d ∈ ds, isCast d = true
  | _, [], _, d, h => by cases h
  | n, m :: ms, h, d, hd => by
    have h : (isCast m && decide (procOf m = n) && pendFrom (n + 1) ms) = true := h
    rw [Bool.and_eq_true, Bool.and_eq_true] at h
    rcases List.mem_cons.mp hd with rfl | hd
    · exact h.1.1
    · exact pendFrom_all h.2 d hd
theorem pend_shp {d : PyData} (k : Nat) (h : isPend d = true) : Shp (k + 2) d := by
  cases d <;> try (cases h; done)
  rename_i ds
  cases ds with
  | nil => exact .tup mem_nil
  | cons m ms =>
    have h : (isCast m && pendFrom (procOf m + 1) ms) = true := h
    rw [Bool.and_eq_true] at h
    exact .tup (mem_cs (cast_shp _ h.1) fun e he => cast_shp _ (pendFrom_all h.2 e he))
theorem memsFrom_all {c : PyData} : ∀ {l : Int} {ds : List PyData}, memsFrom c l ds = true → ∀ d ∈ ds, isMem c d = true
  | _, [], _, d, h => by cases h
  | l, m :: ms, h, d, hd => by
    have h : (isMem c m && decide (l < procOf m) && memsFrom c (procOf m) ms) = true := h
    rw [Bool.and_eq_true, Bool.and_eq_true] at h
    rcases List.mem_cons.mp hd with rfl | hd
    · exact h.1.1
    · exact memsFrom_all h.2 d hd
theorem mems_shp {c d : PyData} (k : Nat) (h : isMems c d = true) : Shp (k + 2) d := by
  cases d <;> try (cases h; done)
  rename_i ds
  have h : (!ds.isEmpty && memsFrom c (-1) ds) = true := h
  rw [Bool.and_eq_true] at h
  exact .tup fun e he => mem_shp _ (memsFrom_all h.2 e he)
theorem finsFrom_all {c : PyData} : ∀ {o : Option PyData} {ds : List PyData}, finsFrom c o ds = true → ∀ d ∈ ds, isFin c d = true
  | _, [], _, d, h => by cases h
  | o, m :: ms, h, d, hd => by
    unfold finsFrom at h
    rw [Bool.and_eq_true, Bool.and_eq_true] at h
    rcases List.mem_cons.mp hd with rfl | hd
    · exact h.1.1
    · exact finsFrom_all h.2 d hd
theorem fins_shp {c d : PyData} (k : Nat) (h : isFins c d = true) : Shp (k + 5) d := by
  cases d <;> try (cases h; done)
  refine .tup fun e he => ?_
  have h := finsFrom_all h e he
  unfold isFin at h
  split at h
  · rw [Bool.and_eq_true] at h
    exact .tup (mem_cs ((vid_shp (k + 1) h.1)) (mem_cs (log_shp k h.2) mem_nil))
  · cases h
theorem int_shp {d : PyData} {a b : Int} (k : Nat) (h : isInt d a b = true) (ha : 0 ≤ a := by decide) (hb : b ≤ 1000000000000 := by decide) : Shp k d := by
  obtain ⟨i, rfl, _, _⟩ := isInt_int h
  exact .int _ _ (by omega)
theorem let_shp {c d : PyData} (h : isLet c d = true) : Shp 6 d := by
  unfold isLet at h
  split at h
  · rename_i z m i r
    rw [Bool.and_eq_true, Bool.and_eq_true, Bool.and_eq_true] at h
    obtain ⟨⟨⟨hz, hm⟩, hi⟩, hr⟩ := h
    have hz : z ∈ sevens := by simpa using hz
    have key : ((tl z).all prB && decide (z.length ≤ 1000)) = true ∧ ∀ d ∈ r, Shp 5 d := by
      simp only [sevens, List.mem_cons, List.not_mem_nil, or_false] at hz
      rcases hz with rfl | rfl | rfl | rfl | rfl | rfl | rfl
      · refine ⟨by decide +kernel, ?_⟩
        have hr : rHere c (.str "here" :: m :: i :: r) = true := hr
        match r, hr with
        | [x, y], hr =>
          have hr : (isInt x 0 1000000000000 && isVid c y && _) = true := hr
          rw [Bool.and_eq_true, Bool.and_eq_true] at hr
          exact mem_cs (int_shp _ hr.1.1) (mem_cs (vid_shp 3 hr.1.2) mem_nil)
      · refine ⟨by decide +kernel, ?_⟩
        have hr : rCast (.str "cast" :: m :: i :: r) = true := hr
        match r, hr with
        | [x, y], hr =>
          have hr : (isPlc x && isPay y) = true := hr
          rw [Bool.and_eq_true] at hr
          exact mem_cs (int_shp _ hr.1) (mem_cs (pay_shp _ hr.2) mem_nil)
      · refine ⟨by decide +kernel, ?_⟩
        have hr : rOrder c (.str "order" :: m :: i :: r) = true := hr
        match r, hr with
        | [x, y], hr =>
          have hr : (isPlc x && isMsg c y) = true := hr
          rw [Bool.and_eq_true] at hr
          exact mem_cs (int_shp _ hr.1) (mem_cs (msg_shp 3 hr.2) mem_nil)
      · refine ⟨by decide +kernel, ?_⟩
        have hr : rPropose c (.str "propose" :: m :: i :: r) = true := hr
        match r, hr with
        | [x], hr => exact mem_cs (mems_shp 3 hr) mem_nil
      · refine ⟨by decide +kernel, ?_⟩
        have hr : rState c (.str "state" :: m :: i :: r) = true := hr
        match r, hr with
        | [x, y, w], hr =>
          have hr : (isVid c x && isLog c y && isPend w && _) = true := hr
          rw [Bool.and_eq_true, Bool.and_eq_true, Bool.and_eq_true] at hr
          exact mem_cs (vid_shp 3 hr.1.1.1) (mem_cs (log_shp 2 hr.1.1.2) (mem_cs (pend_shp 3 hr.1.2) mem_nil))
      · refine ⟨by decide +kernel, ?_⟩
        have hr : rInstall c (.str "install" :: m :: i :: r) = true := hr
        match r, hr with
        | [x, y], hr =>
          have hr : (isMems c x && isFins c y) = true := hr
          rw [Bool.and_eq_true] at hr
          exact mem_cs (mems_shp 3 hr.1) (mem_cs (fins_shp 0 hr.2) mem_nil)
      · refine ⟨by decide +kernel, ?_⟩
        have hr : rHigher c (.str "higher" :: m :: i :: r) = true := hr
        match r, hr with
        | [x], hr => exact mem_cs (vid_shp 3 hr) mem_nil
    exact .tup (mem_cs (.str _ key.1) (mem_cs (mem_shp 4 hm) (mem_cs (vid_shp 3 hi) key.2)))
  · cases h
/-! ### a text's length -/
mutual
theorem enc_sz : ∀ {e : D}, Txt4.ok e → sml e → (enc e).length ≤ szD (pyD e)
  | .int i, h, _ => by
    have := numI_len (i := i) h
    show (numI i).length ≤ 25
    exact this
  | .str z, _, hs => by
    have hs : z.length ≤ 1000 := hs
    have hl := len_tl z
    have := numL_len (n := (tl z).length) (k := 6) (by omega) (by omega)
    show (numL (tl z).length ++ 58 :: tl z).length ≤ z.length + 7
    rw [List.length_append, List.length_cons]
    omega
  | .tup es, h, hs => by
    have := encs_sz (es := es) h hs
    show (40 :: (encs es ++ [41])).length ≤ szDs (pyDs es) + 2
    rw [List.length_cons, List.length_append, List.length_singleton]
    omega
theorem encs_sz : ∀ {es : List D}, Txt4.oks es → smls es → (encs es).length ≤ szDs (pyDs es)
  | [], _, _ => Nat.zero_le _
  | e :: es, h, hs => by
    have h' : Txt4.ok e ∧ Txt4.oks es := h
    have hs' : sml e ∧ smls es := hs
    have h1 := enc_sz h'.1 hs'.1
    have h2 := encs_sz h'.2 hs'.2
    show (enc e ++ 59 :: encs es).length ≤ szD (pyD e) + 1 + szDs (pyDs es)
    rw [List.length_append, List.length_cons]
    omega
end
theorem pyDs_map : ∀ es : List D, pyDs es = es.map pyD
  | [] => rfl
  | e :: es => by show pyD e :: pyDs es = _; rw [pyDs_map es]; rfl
/-! ### plain values in the heap -/
mutual
inductive Rep (H : Hp) : V → D → Prop
  | int (i : Int) : Rep H (.int i) (.int i)
  | str (z : Str) : Rep H (.str z) (.str z)
  | tup {a : Addr} {xs : List V} {ds : List D} : H a = some (.tup xs) → xs.length ≤ 100000 → Reps H xs ds → Rep H (.ref a) (.tup ds)
inductive Reps (H : Hp) : List V → List D → Prop
  | nil : Reps H [] []
  | cons {v : V} {d : D} {vs : List V} {ds : List D} : Rep H v d → Reps H vs ds → Reps H (v :: vs) (d :: ds)
end
mutual
theorem Rep.mono {H H' : Hp} (k : ∀ a xs, H a = some (.tup xs) → H' a = some (.tup xs)) : ∀ {v : V} {d : D}, Rep H v d → Rep H' v d
  | _, _, .int i => .int i
  | _, _, .str z => .str z
  | _, _, .tup h l r => .tup (k _ _ h) l (Reps.mono k r)
theorem Reps.mono {H H' : Hp} (k : ∀ a xs, H a = some (.tup xs) → H' a = some (.tup xs)) : ∀ {vs : List V} {ds : List D}, Reps H vs ds → Reps H' vs ds
  | _, _, .nil => .nil
  | _, _, .cons h r => .cons (Rep.mono k h) (Reps.mono k r)
end
theorem Reps.length {H : Hp} : ∀ {vs : List V} {ds : List D}, Reps H vs ds → vs.length = ds.length
  | _, _, .nil => rfl
  | _, _, .cons _ r => congrArg Nat.succ (Reps.length r)
theorem Reps.at {H : Hp} : ∀ {vs : List V} {ds : List D} {i : Nat} {v : V}, Reps H vs ds → vs[i]? = some v → ∃ d, ds[i]? = some d ∧ Rep H v d
  | _, _, _, _, .nil, h => by simp at h
  | v :: vs, d :: ds, 0, x, .cons r _, h => by
    have e : v = x := Option.some.inj h
    subst e
    exact ⟨d, rfl, r⟩
  | v :: vs, d :: ds, i + 1, x, .cons _ r, h => by
    obtain ⟨e, h1, h2⟩ := Reps.at (i := i) r (by simpa using h)
    exact ⟨e, by simpa using h1, h2⟩
theorem Reps.snoc {H : Hp} : ∀ {vs : List V} {ds : List D} {v : V} {d : D}, Reps H vs ds → Rep H v d → Reps H (vs ++ [v]) (ds ++ [d])
  | _, _, _, _, .nil, h => .cons h .nil
  | _, _, _, _, .cons r s, h => .cons r (Reps.snoc s h)
mutual
theorem Rep.rp {p : Addr} {H : Hp} (hp : ∀ xs, H p ≠ some (.tup xs)) : ∀ {v : V} {d : D}, Rep H v d → Rp p H v (pyD d)
  | _, _, .int i => .int i
  | _, _, .str z => .str z
  | _, _, .tup h l r => .tup h (fun z => hp _ (by rw [← z]; exact h)) l (Reps.rp hp r)
theorem Reps.rp {p : Addr} {H : Hp} (hp : ∀ xs, H p ≠ some (.tup xs)) : ∀ {vs : List V} {ds : List D}, Reps H vs ds → Rps p H vs (pyDs ds)
  | _, _, .nil => .nil
  | _, _, .cons h r => .cons (Rep.rp hp h) (Reps.rp hp r)
end
mutual
theorem rp_rep {p : Addr} {H : Hp} : ∀ {v : V} {d : D}, Rp p H v (pyD d) → Rep H v d
  | _, .int _, h => by cases h; exact .int _
  | _, .str _, h => by cases h; exact .str _
  | _, .tup ds, h => by
    cases h with
    | tup h _ l r => exact .tup h l (rps_reps r)
theorem rps_reps {p : Addr} {H : Hp} : ∀ {vs : List V} {ds : List D}, Rps p H vs (pyDs ds) → Reps H vs ds
  | _, [], h => by cases h; exact .nil
  | _, d :: ds, h => by
    cases h with
    | cons a r => exact .cons (rp_rep a) (rps_reps r)
end
end Mus

set_option maxRecDepth 100000
set_option maxHeartbeats 4000000
namespace Mus
open PySem L2 TL PySem.NumText Txt4
local macro_rules | `(tactic| walk_at "rd") => `(tactic| first
  | refine ⟨_, rfl, ?_⟩ | refine ⟨(True.intro : True), ?_⟩
  | refine ⟨_, _, rfl, rfl, (⟨by decide, by decide, by decide⟩ : CPow _ _), ?_⟩
  | refine ⟨_, _, rfl, rfl, (⟨by decide, by decide⟩ : CDiv _ _), ?_⟩
  | refine ⟨_, _, rfl, rfl, (by show (0 : Int) < _; decide), ?_⟩
  | refine ⟨_, _, rfl, rfl, ?_⟩ | refine ⟨rfl, ?_⟩ | refine iteT ?_ | refine iteF ?_ | refine ⟨_, _, rfl, ?_⟩ | refine .inl ⟨_, rfl, ?_⟩
  | refine ⟨_, _, _, _, _, rfl, (by assumption), (by assumption), (by assumption), rfl, ?_⟩ | refine ⟨_, _, _, _, rfl, rfl, SqT.of (by assumption), rfl, ?_⟩ | refine ⟨_, _, rfl, SqT.of (by assumption), rfl, ?_⟩
  | refine ⟨_, _, _, _, _, rfl, .ty _, Rp.ty (by assumption), kit_int _, ?_⟩ | refine ⟨_, _, _, _, _, rfl, .ty _, Rp.ty (by assumption), kit_bool _, ?_⟩
  | refine ⟨_, _, _, _, _, rfl, .ty _, Rp.ty (by assumption), kit_str _, ?_⟩ | refine ⟨_, _, _, _, _, rfl, .ty _, Rp.ty (by assumption), kit_tup _, ?_⟩)
local macro_rules | `(tactic| walk_at "cal") => `(tactic| first
  | refine ⟨_, _, _, _, _, rfl, (by assumption), ?_⟩ | refine ⟨_, _, _, _, _, rfl, (by assumption), (by assumption), ?_⟩)
local macro_rules | `(tactic| walk_at "sq") => `(tactic| first
  | refine ⟨_, _, rfl, Or.inr (SqT.of (by assumption)), ?_⟩ | refine ⟨_, _, _, _, rfl, rfl, SqT.of (by assumption), rfl, ?_⟩)
local macro_rules | `(tactic| walk_at "rds") => `(tactic| repeat first | walk_at "rd" | walk_at "cal" | walk_at "sq")
local macro_rules | `(tactic| walk_at "ze") => `(tactic| repeat first
  | exact zes_nil | exact ze_bl | exact ze_str | exact ze_non | apply zes_cons | apply ze_tup | apply ze_lst | apply ze_cat | exact di_c | exact di_v rfl | apply di_opC | apply di_op | apply di_neg | apply ze_i | (refine (⟨?_, ?_, ?_⟩ : CPow _ _) <;> decide) | exact Nat.le_of_ble_eq_true rfl | exact ze_varD rfl (by assumption))
local macro_rules | `(tactic| walk_at "rdz") => `(tactic| repeat (fail_if_success (first | show tLst _ _ _ _ | show tAsg (tLst _) _ _ _ _ | show tSeq (tAsg (tLst _) _) _ _ _ _)); first | walk_at "rd" | walk_at "cal" | walk_at "sq")
theorem log_small {i : Int} (h : i.natAbs < 2 ^ 1000) : i.natAbs.log2 < 1920 := Nat.lt_of_lt_of_le (PySem.Flt.log2_lt_of (by omega) h) (by omega)
theorem prB_of {c : Nat} (h : Pr c) : prB c = true := by
  obtain ⟨h1, h2, h3⟩ := h
  unfold prB
  rw [decide_eq_true h1, decide_eq_true h2, decide_eq_true h3]; rfl
/-- the error of texts -/
structure Tt (K : PySem.W.Frag) (mg : Str → Option Value) (CT : Addr) : Prop extends Tx mg where
  g_BadText : mg "BadText" = some (.ref CT)
  x_BadText : PySem.W.excIn K CT [.type "ValueError", .type "Exception", .type "BaseException", .type "object"] "ValueError.__new__" = true
  k_BadText : PySem.W.keepIn K (.ref CT) = true
  b_BadText : PySem.W.subIn K (.ref CT) (.type "BaseException") = some true
  t_BadText : PySem.W.typeIn K (.ref CT) = some (.type "type")
  m_TT : PySem.W.exmOne K (.ref CT) (.ref CT) = some true
section
variable {P : Program} {w : World} {K : PySem.W.Frag} {mg : Str → Option Value} {base : Heap} {CT : Addr}
abbrev s__put : Stmt := top 17
abbrev N__put : List Str := ["piece", "room", "parts"]
abbrev P__put : List Str := ["piece", "room", "parts"]
theorem sc__put : FnScope N__put P__put (defScope s__put) := ⟨rfl, rfl, rfl, by decide +kernel, rfl, by decide +kernel, by decide +kernel⟩
def sp__put (CT : Addr) : Sp := fun vs H Q E => ∃ (z : Str) (r : Int) (p : Addr) (xs : List V), vs = [.str z, .int r, .ref p] ∧ H p = some (.lst xs) ∧ z.length ≤ 200000 ∧ r ≤ 100000 ∧ xs.length < sizeLine ∧
  ((z.length : Int) ≤ r → Q (.int (r - z.length)) (upd H p (.lst (xs ++ [.str z])))) ∧ (r < (z.length : Int) → E (.ref CT) none H)
theorem ok__put {f : Addr} {fd : FuncData} (T : Tt K mg CT) (F : Fun K "_put" "_put" s__put f fd) : FnOk P w K mg base (L2.CX P w) 1 f fd P__put (sp__put CT) := by
  have nd := sc__put.nd
  refine F.okX sc__put (fun vs H Q E h => ?_) (fun cdv A outer s H vs Q E hr h => ?_)
  · obtain ⟨_, _, _, _, rfl, _⟩ := h
    rfl
  · obtain ⟨z, r, p, xs, rfl, hp, hz, hr1, hx, q, q2⟩ := h
    have hs := sl
    refine ⟨_, (pss_cons (ps_if (pt_cmpR op_gt (pe_callB call_len_str (by rfl) T.b_len (by decide +kernel) (pa_cons (pv 0) pa_nil)) (pv 1) (nomark _))
        (pss_one (ps_raise rfl (takes_of rfl rfl rfl rfl) (pmk_own0 PySem.F.excBase_ValueError T.x_BadText T.g_BadText T.k_BadText (raises_own T.b_BadText T.t_BadText))))
        pss_nil)
      (pss_cons (ps_expr (pe_bm PySem.F.plainAttrs_list PySem.F.slot_list_append PySem.F.type_list_append mt_append (pv 2) (pa_cons (pv 0) pa_nil)))
      (pss_one (ps_ret (pe_op op_sub (pv 1) (pe_callB call_len_str (by rfl) T.b_len (by decide +kernel) (pa_cons (pv 0) pa_nil))))))), ?_⟩
    refine ⟨_, rfl, _, rfl, by omega, _, rfl, _, _, rfl, rfl, _, rfl, ?_⟩
    by_cases hc : r < (z.length : Int)
    · rw [decide_eq_true hc]
      refine iteT ?_
      exact q2 hc
    rw [decide_eq_false hc]
    refine iteF ?_
    refine ⟨_, rfl, .inl ⟨rfl, _, SqL.of hp⟩, _, rfl, p, xs, _, rfl, rfl, hp, hx, ?_⟩
    exact ⟨_, rfl, _, rfl, _, rfl, by omega, _, _, rfl, rfl, q (by omega)⟩
abbrev s__string_text : Stmt := top 18
abbrev N__string_text : List Str := ["value"]
abbrev P__string_text : List Str := ["value"]
theorem sc__string_text : FnScope N__string_text P__string_text (defScope s__string_text) := ⟨rfl, rfl, rfl, by decide +kernel, rfl, by decide +kernel, by decide +kernel⟩
def sp__string_text : Sp := fun vs H Q _ => ∃ z : Str, vs = [.str z] ∧ (tl z).length ≤ 100000 ∧ (∀ c ∈ tl z, Pr c) ∧ ∀ y : Str, tl y = enc (.str z) → Q (.str y) H
theorem all_pr {l : List Nat} (h : ∀ c ∈ l, Pr c) : l.all prB = true := by
  rw [List.all_eq_true]
  exact fun c hc => prB_of (h c hc)
theorem ok__string_text {f : Addr} {fd : FuncData} (T : Tx mg) (c_is_printable : DefOk P w K mg base CX0 "is_printable" P_is_printable 2 (sp_is_printable))(F : Fun K "_string_text" "_string_text" s__string_text f fd) : FnOk P w K mg base CX0 (3) f fd P__string_text (sp__string_text) := by
  have nd := sc__string_text.nd
  refine F.ok sc__string_text (fun vs H Q E h => ?_) (fun cdv A outer s H vs Q E hr h => ?_)
  · obtain ⟨_, rfl, _⟩ := h
    rfl
  · obtain ⟨z, rfl, hz, hp, q⟩ := h
    have hs := sl
    have hl := len_tl z
    refine ⟨_, (pss_cons (ps_if (PW.pt (pw_or (pt_cmpR op_gt (pe_callB call_len_str (by rfl) T.b_len (by decide +kernel) (pa_cons (pv 0) pa_nil)) (pe_const T.c_MOST_LENGTH) (nomark _)) (pw_or1 (pt_not (pt_val (pcall c_is_printable hr (pa_cons (pv 0) pa_nil)))))))
        (pss_one ps_never)
        pss_nil)
      (pss_one (ps_ret (pe_op op_add_str (pe_joined (.cons (pe_fmt (pe_callB call_len_str (by rfl) T.b_len (by decide +kernel) (pa_cons (pv 0) pa_nil))) (.cons pe_str .nil))) (pv 0))))), ?_⟩
    refine ⟨_, rfl, _, rfl, by omega, _, _, rfl, rfl, _, rfl, ?_⟩
    rw [decide_eq_false (show ¬ (100000 : Int) < (z.length : Int) by omega)]
    refine iteF ?_
    refine ⟨_, rfl, z, rfl, ?_⟩
    rw [all_pr hp]
    refine ⟨_, rfl, iteF ?_⟩
    have e1 : tl (Str.ofString (toString (z.length : Int))) = numL (tl z).length := by rw [hl]; exact tl_num _
    have hn := numL_len (n := (tl z).length) (k := 6) (by omega) (by omega)
    have e2 : tl (Str.empty ++ Str.ofString (toString (z.length : Int))) = numL (tl z).length := by rw [tl_append, e1]; rfl
    have e3 : tl (Str.empty ++ Str.ofString (toString (z.length : Int)) ++ Str.ofString ":") = numL (tl z).length ++ [58] := by rw [tl_append, e2]; rfl
    have z2 : (Str.empty ++ Str.ofString (toString (z.length : Int))).length ≤ sizeLine := by rw [len_tl, e2]; omega
    have z3 : (Str.empty ++ Str.ofString (toString (z.length : Int)) ++ Str.ofString ":").length ≤ 10 := by
      rw [len_tl, e3, List.length_append, List.length_singleton]; omega
    refine ⟨_, rfl, z, rfl, by omega, .inr ⟨(z.length : Int), rfl, log_small (by omega), _, rfl, z2, _, rfl, by omega, ?_⟩⟩
    refine ⟨_, rfl, _, _, rfl, rfl, by omega, q _ ?_⟩
    rw [tl_append, e3, List.append_assoc]
    rfl
abbrev s__integer_text : Stmt := top 19
abbrev N__integer_text : List Str := ["value", "greatest"]
abbrev P__integer_text : List Str := ["value"]
theorem sc__integer_text : FnScope N__integer_text P__integer_text (defScope s__integer_text) := ⟨rfl, rfl, rfl, by decide +kernel, rfl, by decide +kernel, by decide +kernel⟩
def sp__integer_text : Sp := fun vs H Q _ => ∃ i : Int, vs = [.int i] ∧ i.natAbs < 10 ^ 24 ∧ ∀ y : Str, tl y = numI i → Q (.str y) H
theorem ok__integer_text {f : Addr} {fd : FuncData} (T : Tx mg) (c_is_integer : DefOk P w K mg base CX0 "is_integer" P_is_integer 1 (spI))(F : Fun K "_integer_text" "_integer_text" s__integer_text f fd) : FnOk P w K mg base CX0 (2) f fd P__integer_text (sp__integer_text) := by
  have nd := sc__integer_text.nd
  refine F.ok sc__integer_text (fun vs H Q E h => ?_) (fun cdv A outer s H vs Q E hr h => ?_)
  · obtain ⟨_, rfl, _⟩ := h
    rfl
  · obtain ⟨i, rfl, hi, q⟩ := h
    refine ⟨_, (pss_cons (ps_set (i := 1) nd rfl (Or.inl rfl) (pe_callTy call_int_str (by rfl) T.b_int (by decide +kernel) (pa_cons (pe_op op_mul_strN pe_str (pe_const T.c_MOST_DIGITS)) pa_nil)))
      (pss_cons (ps_if (pt_not (pt_val (pcall c_is_integer hr (pa_cons (pv 0) (pa_cons (pe_un un_neg (pv 1)) (pa_cons (pv 1) pa_nil))))))
        (pss_one ps_never)
        pss_nil)
      (pss_one (ps_ret (pe_callTy call_str_int (by rfl) T.b_str (by decide +kernel) (pa_cons (pv 0) pa_nil)))))), ?_⟩
    refine ⟨_, 24, rfl, rfl, by omega, by omega, by decide, by decide, fun r hr1 => ?_⟩
    have e9 : tl r = numL (10 ^ 24 - 1) := by rw [hr1]; decide +kernel
    have n9 : intText? r = some (10 ^ 24 - 1) := by
      rw [intText_numI (i := 10 ^ 24 - 1) (by rw [e9]; rfl) (by decide)]
    refine ⟨r, _, rfl, n9, by rw [len_tl, e9]; decide +kernel, ?_⟩
    refine ⟨_, rfl, _, rfl, _, rfl, _, rfl, 0, .int i, .int i, _, _, rfl, .int i, _, rfl, ?_⟩
    rw [show isInt (.int i) (-(10 ^ 24 - 1)) (10 ^ 24 - 1) = true by simp only [isInt, Bool.and_eq_true, decide_eq_true_eq]; omega]
    refine iteF ?_
    refine ⟨_, rfl, i, rfl, log_small (by omega), q _ (tl_int i)⟩

/-! ### encode -/
def sp__write (CT : Addr) (n : Nat) : Sp := fun vs H Q E => ∃ (v : V) (d : D) (k r : Int) (p : Addr) (zs : List Str), vs = [v, .int k, .int r, .ref p] ∧ Rep H v d ∧ Txt4.ok d ∧ sml d ∧ (dep d : Int) ≤ k ∧ dep d ≤ n ∧
  H p = some (.lst (zs.map V.str)) ∧ 0 ≤ r ∧ (zs.length : Int) + r ≤ 100000 ∧
  (((enc d).length : Int) ≤ r → ∀ ws H', flat ws = enc d → ws.length ≤ (enc d).length → But p H H' → H' p = some (.lst ((zs ++ ws).map V.str)) → Q (.int (r - (enc d).length)) H') ∧ (r < ((enc d).length : Int) → ∀ H', But p H H' → E (.ref CT) none H')
def sp__write_tuple (CT : Addr) (n : Nat) : Sp := fun vs H Q E => ∃ (a : Addr) (xs : List V) (ds : List D) (k r : Int) (p : Addr) (zs : List Str), vs = [.ref a, .int k, .int r, .ref p] ∧ H a = some (.tup xs) ∧ Reps H xs ds ∧ oks ds ∧ smls ds ∧ (deps ds : Int) + 1 ≤ k ∧ deps ds + 1 ≤ n ∧
  H p = some (.lst (zs.map V.str)) ∧ 0 ≤ r ∧ (zs.length : Int) + r ≤ 100000 ∧
  (((enc (.tup ds)).length : Int) ≤ r → ∀ ws H', flat ws = enc (.tup ds) → ws.length ≤ (enc (.tup ds)).length → But p H H' → H' p = some (.lst ((zs ++ ws).map V.str)) → Q (.int (r - (enc (.tup ds)).length)) H') ∧ (r < ((enc (.tup ds)).length : Int) → ∀ H', But p H H' → E (.ref CT) none H')
theorem But.tupK {p : Addr} {H H' : Hp} {ys : List V} (b : But p H H') (hp : H p = some (.lst ys)) : ∀ a xs, H a = some (HO.tup xs) → H' a = some (.tup xs) := fun a xs h => b _ _ h (ne_of h hp (by intro z; cases z))
abbrev s__write : Stmt := top 15
abbrev N__write : List Str := ["value", "depth", "room", "parts"]
abbrev P__write : List Str := ["value", "depth", "room", "parts"]
theorem sc__write : FnScope N__write P__write (defScope s__write) := ⟨rfl, rfl, rfl, by decide +kernel, rfl, by decide +kernel, by decide +kernel⟩
abbrev s__write_tuple : Stmt := top 16
abbrev N__write_tuple : List Str := ["items", "depth", "room", "parts", "item"]
abbrev P__write_tuple : List Str := ["items", "depth", "room", "parts"]
theorem sc__write_tuple : FnScope N__write_tuple P__write_tuple (defScope s__write_tuple) := ⟨rfl, rfl, rfl, by decide +kernel, rfl, by decide +kernel, by decide +kernel⟩
theorem ok__write {f : Addr} {fd : FuncData} {n : Nat} (T : Tt K mg CT) (c__write_tuple : DefOk P w K mg base (L2.CX P w) "_write_tuple" P__write_tuple (3 + 2 * n) (sp__write_tuple CT n)) (c__put : DefOk P w K mg base (L2.CX P w) "_put" P__put 1 (sp__put CT)) (c__string_text : DefOk P w K mg base CX0 "_string_text" P__string_text 3 (sp__string_text)) (c__integer_text : DefOk P w K mg base CX0 "_integer_text" P__integer_text 2 (sp__integer_text)) (F : Fun K "_write" "_write" s__write f fd) : FnOk P w K mg base (L2.CX P w) (3 + 2 * n + 1) f fd P__write (sp__write CT n) := by
  have nd := sc__write.nd
  refine F.okX sc__write (fun vs H Q E h => ?_) (fun cdv A outer s H vs Q E hr h => ?_)
  · obtain ⟨_, _, _, _, _, _, rfl, _⟩ := h
    rfl
  · obtain ⟨v, d, k, r, p, zs, rfl, hv, hd, hsm, hk, hn, hp, hl, hz, q, q2⟩ := h
    have hs := sl
    refine ⟨_, (pss_cons (ps_if (pt_val (pe_callB call_isi (by rfl) T.b_isinstance (by decide +kernel) (pa_cons (pv 0) (pa_cons (pe_ty "tuple" T.b_tuple) pa_nil))))
        (pss_one (ps_ret (pcallE c__write_tuple (takes_of rfl rfl rfl rfl) (fun _ _ _ _ h => h) hr (pa_cons (pv 0) (pa_cons (pv 1) (pa_cons (pv 2) (pa_cons (pv 3) pa_nil)))))))
        pss_nil)
      (pss_cons (ps_if (pt_val (pe_callB call_isi (by rfl) T.b_isinstance (by decide +kernel) (pa_cons (pv 0) (pa_cons (pe_ty "str" T.b_str) pa_nil))))
        (pss_one (ps_ret (pcallE c__put (takes_of rfl rfl rfl rfl) (fun _ _ _ _ h => h) hr (pa_cons (pcall c__string_text hr (pa_cons (pv 0) pa_nil)) (pa_cons (pv 2) (pa_cons (pv 3) pa_nil))))))
        pss_nil)
      (pss_one (ps_ret (pcallE c__put (takes_of rfl rfl rfl rfl) (fun _ _ _ _ h => h) hr (pa_cons (pcall c__integer_text hr (pa_cons (pv 0) pa_nil)) (pa_cons (pv 2) (pa_cons (pv 3) pa_nil)))))))), ?_⟩
    cases hv with
    | @tup a xs ds ht _ hr2 =>
      refine ⟨_, rfl, _, _, _, _, true, rfl, .ty _, .base (.tup ht), kit_ty (by decide +kernel), _, rfl, iteT ?_⟩
      refine ⟨_, rfl, _, rfl, _, rfl, _, rfl, a, xs, ds, k, r, p, zs, rfl, ht, hr2, hd, hsm, hk, hn, hp, hl, hz, q, q2⟩
    | str z =>
      refine ⟨_, rfl, _, _, _, _, false, rfl, .ty _, .base (.str z), kit_ty (by decide +kernel), _, rfl, iteF ?_⟩
      refine ⟨_, rfl, _, _, _, _, true, rfl, .ty _, .base (.str z), kit_ty (by decide +kernel), _, rfl, iteT ?_⟩
      have hl1 : (enc (.str z)).length = (numL (tl z).length).length + ((tl z).length + 1) := by rw [enc, List.length_append, List.length_cons]
      have hsm : z.length ≤ 1000 := hsm
      have hlt := len_tl z
      have hnl := numL_len (n := (tl z).length) (k := 4) (by omega) (by omega)
      have hl2 := enc_len (.str z)
      refine ⟨_, rfl, z, rfl, by omega, hd, fun y hy => ?_⟩
      have hy2 : y.length = (enc (.str z)).length := by rw [len_tl, hy]
      refine ⟨_, rfl, _, rfl, y, r, p, _, rfl, hp, by omega, by omega, by rw [List.length_map]; omega, fun h => ?_, fun h => ?_⟩
      · rw [hy2] at h ⊢
        exact q h [y] _ (by rw [flat_one, hy]) (by simpa using hl2) (but_upd _) (by rw [upd_same, List.map_append]; rfl)
      · rw [hy2] at h
        exact q2 h _ (But.refl _ _)
    | int i =>
      refine ⟨_, rfl, _, _, _, _, false, rfl, .ty _, .base (.int i), kit_ty (by decide +kernel), _, rfl, iteF ?_⟩
      refine ⟨_, rfl, _, _, _, _, false, rfl, .ty _, .base (.int i), kit_ty (by decide +kernel), _, rfl, iteF ?_⟩
      have hl2 := enc_len (.int i)
      have hnl := numI_len (i := i) hd
      have hnl2 : (enc (.int i)).length = (numI i).length := by rw [enc]
      refine ⟨_, rfl, i, rfl, hd, fun y hy => ?_⟩
      have hy2 : y.length = (enc (.int i)).length := by rw [len_tl, hy]; rfl
      refine ⟨_, rfl, _, rfl, y, r, p, _, rfl, hp, by omega, by omega, by rw [List.length_map]; omega, fun h => ?_, fun h => ?_⟩
      · rw [hy2] at h ⊢
        exact q h [y] _ (by rw [flat_one, hy]; rfl) (by simpa using hl2) (but_upd _) (by rw [upd_same, List.map_append]; rfl)
      · rw [hy2] at h
        exact q2 h _ (But.refl _ _)
theorem ok__write_tuple {f : Addr} {fd : FuncData} {n : Nat} (T : Tt K mg CT) (c__write : DefOk P w K mg base (L2.CX P w) "_write" P__write (3 + 2 * n + 1) (sp__write CT n)) (c__put : DefOk P w K mg base (L2.CX P w) "_put" P__put 1 (sp__put CT)) (F : Fun K "_write_tuple" "_write_tuple" s__write_tuple f fd) : FnOk P w K mg base (L2.CX P w) (4 + 2 * n + 1) f fd P__write_tuple (sp__write_tuple CT (n + 1)) := by
  have nd := sc__write_tuple.nd
  refine F.okX sc__write_tuple (fun vs H Q E h => ?_) (fun cdv A outer s H vs Q E hr h => ?_)
  · obtain ⟨_, _, _, _, _, _, _, rfl, _⟩ := h
    rfl
  · obtain ⟨a, xs, ds, k, r, p, zs, rfl, ht, hrs, hd, hsm, hk, hn, hp, hl, hz, q, q2⟩ := h
    have hs := sl
    refine ⟨_, (pss_cons (ps_if (pt_cmpR op_eq (pv 1) pe_int (nomark _))
        (pss_one (ps_raise rfl (takes_of rfl rfl rfl rfl) (pmk_own0 PySem.F.excBase_ValueError T.x_BadText T.g_BadText T.k_BadText (raises_own T.b_BadText T.t_BadText))))
        pss_nil)
      (pss_cons (ps_set (i := 2) nd rfl (Or.inl rfl) (pcallE c__put (takes_of rfl rfl rfl rfl) (fun _ _ _ _ h => h) hr (pa_cons pe_str (pa_cons (pv 2) (pa_cons (pv 3) pa_nil)))))
      (pss_cons (ps_for (passes_of rfl) rfl (pi_tup (pv 0)) (pg_name (i := 4) nd rfl (Or.inl rfl))
        (pss_cons (ps_set (i := 2) nd rfl (Or.inl rfl) (pcallE c__write (takes_of rfl rfl rfl rfl) (fun _ _ _ _ h => h) hr (pa_cons (pv 4) (pa_cons (pe_op op_sub (pv 1) pe_int) (pa_cons (pv 2) (pa_cons (pv 3) pa_nil))))))
        (pss_one (ps_set (i := 2) nd rfl (Or.inl rfl) (pcallE c__put (takes_of rfl rfl rfl rfl) (fun _ _ _ _ h => h) hr (pa_cons pe_str (pa_cons (pv 2) (pa_cons (pv 3) pa_nil))))))))
      (pss_one (ps_ret (pcallE c__put (takes_of rfl rfl rfl rfl) (fun _ _ _ _ h => h) hr (pa_cons pe_str (pa_cons (pv 2) (pa_cons (pv 3) pa_nil))))))))), ?_⟩
    have hlen : (enc (.tup ds)).length = (encs ds).length + 2 := by
      rw [enc, List.length_cons, List.length_append, List.length_singleton]
    refine ⟨_, rfl, rfl, _, rfl, ?_⟩
    rw [decide_eq_false (show ¬ V.int k = V.int 0 by intro z; cases z; omega)]
    refine iteF ?_
    have l1 : (Str.ofString "(").length = 1 := by decide
    have t1 : tl (Str.ofString "(") = [40] := by decide
    refine ⟨_, rfl, _, rfl, _, r, p, _, rfl, hp, by omega, by omega, by rw [List.length_map]; omega, fun hr0 => ?_, fun hr0 => q2 (by omega) _ (But.refl _ _)⟩
    have b0 : But p H (upd H p (.lst (zs.map V.str ++ [.str (Str.ofString "(")]))) := but_upd _
    refine ⟨_, rfl, a, rfl, ⟨xs, SqT.of (b0.tupK hp _ _ ht)⟩, for_tup (K := K) (a := a) (xs := xs) (fun i σ H' => ∃ (ws : List Str) (v : Option V), σ = [some (.ref a), some (.int k), some (.int (r - 1 - (encs (ds.take i)).length)), some (.ref p), v] ∧ But p H H' ∧
      H' p = some (.lst ((zs ++ ws).map V.str)) ∧ flat ws = 40 :: encs (ds.take i) ∧ ws.length ≤ (flat ws).length ∧ (1 + (encs (ds.take i)).length : Int) ≤ r) ?_ ?_ ?_ ?_⟩
    · refine ⟨[Str.ofString "("], none, ?_, b0, ?_, ?_, ?_, ?_⟩
      · have e : (encs (ds.take 0)).length = 0 := rfl
        rw [e, l1]
        show [some (V.ref a), some (V.int k), some (V.int (r - ((1 : Nat) : Int))), some (V.ref p), none] = _
        congr 3
        congr 2
        omega
      · rw [upd_same, List.map_append]; rfl
      · rw [flat_one, t1]; rfl
      · rw [flat_one, t1]; decide
      · have e : (encs (ds.take 0)).length = 0 := rfl
        rw [e]; omega
    · rintro i σ H' hi ⟨ws, v, rfl, b1, h1, _, _⟩
      exact SqT.of (b1.tupK hp _ _ ht)
    · rintro i x σ H' hx ⟨ws, v, rfl, b1, h1, e1, z1, rr⟩
      obtain ⟨d, hdi, rx⟩ := hrs.at hx
      have et := encs_take hdi
      have etl : (encs (ds.take (i + 1))).length = (encs (ds.take i)).length + ((enc d).length + 1) := by rw [et, List.length_append, List.length_append, List.length_singleton]
      have ele := encs_take_le ds (i + 1)
      have l2 : (Str.ofString ";").length = 1 := by decide
      have t2 : tl (Str.ofString ";") = [59] := by decide
      have fl : (flat ws).length = (encs (ds.take i)).length + 1 := by rw [e1, List.length_cons]
      have dd := deps_at hdi
      refine ⟨_, rfl, _, rfl, _, _, rfl, rfl, _, rfl, _, rfl, x, d, k - 1, _, p, zs ++ ws, rfl, rx.mono (b1.tupK hp), oks_at hd hdi, smls_at hsm hdi, by omega, by omega, h1, by omega, by rw [List.length_append]; omega, fun hf ws2 H2 f2 z2 b2 h2 => ?_, fun hf H2 b2 => q2 (by omega) _ (b1.trans b2)⟩
      have z2' : ws2.length ≤ (flat ws2).length := by rw [f2]; exact z2
      have fl2 : (flat ws2).length = (enc d).length := by rw [f2]
      refine ⟨_, rfl, _, rfl, _, _, p, _, rfl, h2, by omega, by omega, by rw [List.length_map, List.length_append, List.length_append]; omega, fun hf2 => ?_, fun hf2 => q2 (by omega) _ (b1.trans b2)⟩
      refine ⟨ws ++ (ws2 ++ [Str.ofString ";"]), some x, ?_, b1.trans (b2.trans (but_upd _)), ?_, ?_, ?_, ?_⟩
      · rw [etl, l2]
        show [some (V.ref a), some (V.int k), some (V.int (r - 1 - ((encs (ds.take i)).length : Int) - ((enc d).length : Int) - ((1 : Nat) : Int))), some (V.ref p), some x] = _
        congr 3
        congr 2
        omega
      · rw [upd_same, ← List.append_assoc, ← List.append_assoc, List.map_append (l₂ := [Str.ofString ";"])]; rfl
      · rw [flat_append, flat_append, flat_one, e1, f2, t2, et]; rfl
      · rw [flat_append, flat_append, flat_one, t2, List.length_append, List.length_append, List.length_append, List.length_append]
        simp only [List.length_singleton]
        omega
      · omega
    · rintro σ H' ⟨ws, v, rfl, b1, h1, e1, z1, rr⟩
      have le : xs.length = ds.length := hrs.length
      rw [le, List.take_length] at e1 rr ⊢
      have l3 : (Str.ofString ")").length = 1 := by decide
      have t3 : tl (Str.ofString ")") = [41] := by decide
      have fl : (flat ws).length = (encs ds).length + 1 := by rw [e1, List.length_cons]
      refine ⟨_, rfl, _, rfl, _, _, p, _, rfl, h1, by omega, by omega, by rw [List.length_map, List.length_append]; omega, fun hf => ?_, fun hf => q2 (by omega) _ b1⟩
      have ee : r - 1 - ((encs ds).length : Int) - (((Str.ofString ")").length : Nat) : Int) = r - ((enc (.tup ds)).length : Int) := by omega
      rw [ee]
      refine q (by omega) (ws ++ [Str.ofString ")"]) _ ?_ ?_ (b1.trans (but_upd _)) ?_
      · rw [flat_append, flat_one, e1, t3]; rfl
      · rw [List.length_append, List.length_singleton]; omega
      · rw [upd_same, ← List.append_assoc, List.map_append (l₂ := [Str.ofString ")"])]; rfl
/-- the two of the writing, for every depth -/
def mk_write (T : Tt K mg CT) (aW : DefAt K mg "_write" P__write s__write) (aT : DefAt K mg "_write_tuple" P__write_tuple s__write_tuple) (c__put : DefOk P w K mg base (L2.CX P w) "_put" P__put 1 (sp__put CT)) (c__string_text : DefOk P w K mg base CX0 "_string_text" P__string_text 3 (sp__string_text)) (c__integer_text : DefOk P w K mg base CX0 "_integer_text" P__integer_text 2 (sp__integer_text)) :
    ∀ n : Nat, DefOk P w K mg base (L2.CX P w) "_write" P__write (3 + 2 * n + 1) (sp__write CT n) × DefOk P w K mg base (L2.CX P w) "_write_tuple" P__write_tuple (3 + 2 * n) (sp__write_tuple CT n)
  | 0 =>
    let t : DefOk P w K mg base (L2.CX P w) "_write_tuple" P__write_tuple (3 + 2 * 0) (sp__write_tuple CT 0) := aT.ok fun _ => no_call (by
      rintro vs H Q E ⟨a, xs, ds, k, r, p, zs, _, _, _, _, _, _, h, _⟩
      omega)
    (aW.ok fun F => ok__write T t c__put c__string_text c__integer_text F, t)
  | n + 1 =>
    let p := mk_write T aW aT c__put c__string_text c__integer_text n
    let t : DefOk P w K mg base (L2.CX P w) "_write_tuple" P__write_tuple (3 + 2 * (n + 1)) (sp__write_tuple CT (n + 1)) := (aT.ok fun F => ok__write_tuple T p.1 c__put F).mono (by omega)
    (aW.ok fun F => ok__write T t c__put c__string_text c__integer_text F, t)
abbrev s_encode : Stmt := top 14
abbrev N_encode : List Str := ["value", "parts"]
abbrev P_encode : List Str := ["value"]
theorem sc_encode : FnScope N_encode P_encode (defScope s_encode) := ⟨rfl, rfl, rfl, by decide +kernel, rfl, by decide +kernel, by decide +kernel⟩
def sp_encode (CT : Addr) : Sp := fun vs H Q E => ∃ (v : V) (d : D), vs = [v] ∧ Rep H v d ∧ Txt4.ok d ∧ sml d ∧ dep d ≤ 8 ∧ ((enc d).length ≤ 100000 → ∀ y H', tl y = enc d → Same H H' → Q (.str y) H') ∧ (100000 < (enc d).length → ∀ H', Same H H' → E (.ref CT) none H')
theorem ok_encode {f : Addr} {fd : FuncData} (T : Tt K mg CT) (c__write : DefOk P w K mg base (L2.CX P w) "_write" P__write 20 (sp__write CT 8)) (F : Fun K "encode" "encode" s_encode f fd) : FnOk P w K mg base (L2.CX P w) 21 f fd P_encode (sp_encode CT) := by
  have nd := sc_encode.nd
  refine F.okX sc_encode (fun vs H Q E h => ?_) (fun cdv A outer s H vs Q E hr h => ?_)
  · obtain ⟨_, _, rfl, _⟩ := h
    rfl
  · obtain ⟨v, d, rfl, hv, hd, hsm, hdep, q, q2⟩ := h
    have hs := sl
    refine ⟨_, (pss_cons (ps_set (i := 1) nd rfl (Or.inl rfl) (pe_lst pa_nil))
      (pss_cons (ps_expr (pcallE c__write (takes_of rfl rfl rfl rfl) (fun _ _ _ _ h => h) hr (pa_cons (pv 0) (pa_cons (pe_const T.c_MOST_DEPTH) (pa_cons (pe_const T.c_MOST_LENGTH) (pa_cons (pv 1) pa_nil))))))
      (pss_one (ps_ret (pe_join pe_str (pv 1)))))), ?_⟩
    refine ⟨by decide, fun p hp => ?_⟩
    have s1 := same_new hp (.lst [])
    refine ⟨_, rfl, _, rfl, v, d, 8, 100000, p, [], rfl, hv.mono (fun a xs h => s1 _ _ h), hd, hsm, by omega, by omega, upd_same, by omega, by decide, fun hf ws H' f1 z1 b1 h1 => ?_, fun hf H' b1 => ?_⟩
    · have s2 : Same H H' := fun b o e => b1 b o (s1 b o e) (ne_of_none e hp)
      have z2 := flat_len ws
      refine ⟨⟨_, rfl⟩, _, rfl, _, p, ws, rfl, rfl, .inl (SqL.of h1), ?_, q (by omega) _ _ ?_ s2⟩
      · rw [z2, f1]
        have : (Str.ofString "").length = 0 := by decide
        rw [this]; omega
      · exact (tl_glue ws).trans f1
    · exact q2 (by omega) _ fun b o e => b1 b o (s1 b o e) (ne_of_none e hp)
end
end Mus

set_option maxRecDepth 100000
set_option maxHeartbeats 4000000
namespace Mus
open PySem L2 TL PySem.NumText Txt4
local macro_rules | `(tactic| walk_at "rd") => `(tactic| first
  | refine ⟨_, rfl, ?_⟩ | refine ⟨(True.intro : True), ?_⟩
  | refine ⟨_, _, rfl, rfl, (⟨by decide, by decide, by decide⟩ : CPow _ _), ?_⟩
  | refine ⟨_, _, rfl, rfl, (⟨by decide, by decide⟩ : CDiv _ _), ?_⟩
  | refine ⟨_, _, rfl, rfl, (by show (0 : Int) < _; decide), ?_⟩
  | refine ⟨_, _, rfl, rfl, ?_⟩ | refine ⟨rfl, ?_⟩ | refine iteT ?_ | refine iteF ?_ | refine ⟨_, _, rfl, ?_⟩ | refine .inl ⟨_, rfl, ?_⟩
  | refine ⟨_, _, _, _, _, rfl, (by assumption), (by assumption), (by assumption), rfl, ?_⟩ | refine ⟨_, _, _, _, rfl, rfl, SqT.of (by assumption), rfl, ?_⟩ | refine ⟨_, _, rfl, SqT.of (by assumption), rfl, ?_⟩
  | refine ⟨_, _, _, _, _, rfl, .ty _, Rp.ty (by assumption), kit_int _, ?_⟩ | refine ⟨_, _, _, _, _, rfl, .ty _, Rp.ty (by assumption), kit_bool _, ?_⟩
  | refine ⟨_, _, _, _, _, rfl, .ty _, Rp.ty (by assumption), kit_str _, ?_⟩ | refine ⟨_, _, _, _, _, rfl, .ty _, Rp.ty (by assumption), kit_tup _, ?_⟩)
local macro_rules | `(tactic| walk_at "cal") => `(tactic| first
  | refine ⟨_, _, _, _, _, rfl, (by assumption), ?_⟩ | refine ⟨_, _, _, _, _, rfl, (by assumption), (by assumption), ?_⟩)
local macro_rules | `(tactic| walk_at "sq") => `(tactic| first
  | refine ⟨_, _, rfl, Or.inr (SqT.of (by assumption)), ?_⟩ | refine ⟨_, _, _, _, rfl, rfl, SqT.of (by assumption), rfl, ?_⟩)
local macro_rules | `(tactic| walk_at "rds") => `(tactic| repeat first | walk_at "rd" | walk_at "cal" | walk_at "sq")
local macro_rules | `(tactic| walk_at "ze") => `(tactic| repeat first
  | exact zes_nil | exact ze_bl | exact ze_str | exact ze_non | apply zes_cons | apply ze_tup | apply ze_lst | apply ze_cat | exact di_c | exact di_v rfl | apply di_opC | apply di_op | apply di_neg | apply ze_i | (refine (⟨?_, ?_, ?_⟩ : CPow _ _) <;> decide) | exact Nat.le_of_ble_eq_true rfl | exact ze_varD rfl (by assumption))
local macro_rules | `(tactic| walk_at "rdz") => `(tactic| repeat (fail_if_success (first | show tLst _ _ _ _ | show tAsg (tLst _) _ _ _ _ | show tSeq (tAsg (tLst _) _) _ _ _ _)); first | walk_at "rd" | walk_at "cal" | walk_at "sq")
section
variable {P : Program} {w : World} {K : PySem.W.Frag} {mg : Str → Option Value} {base : Heap} {CT : Addr}
/-! ### decode -/
theorem cut_mid {z : Str} {pre mid post : List Nat} (e : tl z = pre ++ (mid ++ post)) : tl (cutS z (some (pre.length : Int)) (some ((pre.length : Int) + (mid.length : Int)))) = mid := by
  have hl := len_tl z
  rw [e, List.length_append, List.length_append] at hl
  have e2 : (pre.length : Int) + (mid.length : Int) = ((pre.length + mid.length : Nat) : Int) := by omega
  unfold cutS
  rw [e2, HT.sIx_nat, HT.sIx_nat, Nat.min_eq_left (by omega), Nat.min_eq_left (by omega)]
  show ((tl z).drop pre.length).take (pre.length + mid.length - pre.length) = mid
  rw [e, List.drop_left, Nat.add_sub_cancel_left, List.take_left]
theorem cut_one {z : Str} {pre r : List Nat} (e : tl z = pre ++ r) : tl (cutS z (some (pre.length : Int)) (some ((pre.length : Int) + 1))) = r.take 1 := by
  have hl := len_tl z
  rw [e, List.length_append] at hl
  have e2 : (pre.length : Int) + 1 = ((pre.length + 1 : Nat) : Int) := by omega
  unfold cutS
  rw [e2, HT.sIx_nat, HT.sIx_nat, show min pre.length z.length = pre.length from Nat.min_eq_left (by omega)]
  show ((tl z).drop pre.length).take (min (pre.length + 1) z.length - pre.length) = r.take 1
  rw [e, List.drop_left]
  cases r with
  | nil => simp
  | cons c r =>
    rw [List.length_cons] at hl
    rw [Nat.min_eq_left (by omega), Nat.add_sub_cancel_left]
theorem str_eq {x y : Str} : decide (V.str x = V.str y) = decide (tl x = tl y) := by
  by_cases h : tl x = tl y
  · rw [decide_eq_true h, ext_tl h]; exact decide_eq_true rfl
  · rw [decide_eq_false h]; exact decide_eq_false (by intro z; cases z; exact h rfl)
abbrev s__digits_end : Stmt := top 25
abbrev N__digits_end : List Str := ["text", "start", "end"]
abbrev P__digits_end : List Str := ["text", "start"]
theorem sc__digits_end : FnScope N__digits_end P__digits_end (defScope s__digits_end) := ⟨rfl, rfl, rfl, by decide +kernel, rfl, by decide +kernel, by decide +kernel⟩
def sp__digits_end : Sp := fun vs H Q _ => ∃ (z : Str) (pre ds post : List Nat), vs = [.str z, .int pre.length] ∧ tl z = pre ++ (ds ++ post) ∧ AllDigits ds ∧ nd post ∧ z.length ≤ 100000 ∧ Q (.int ((pre.length : Int) + (ds.length : Int))) H
theorem ok__digits_end {f : Addr} {fd : FuncData} (T : Tx mg) (F : Fun K "_digits_end" "_digits_end" s__digits_end f fd) : FnOk P w K mg base CX0 (1) f fd P__digits_end (sp__digits_end) := by
  have nd := sc__digits_end.nd
  refine F.ok sc__digits_end (fun vs H Q E h => ?_) (fun cdv A outer s H vs Q E hr h => ?_)
  · obtain ⟨_, _, _, _, rfl, _⟩ := h
    rfl
  · obtain ⟨z, pre, ds, post, rfl, e, hd, hn, hz, q⟩ := h
    have hs := sl
    refine ⟨_, (pss_cons (ps_set (i := 2) nd rfl (Or.inl rfl) (pv 1))
      (pss_cons (ps_while PassesOwn.never (PW.pt (pw_and (pt_cmpR op_lt (pv 2) (pe_callB call_len_str (by rfl) T.b_len (by decide +kernel) (pa_cons (pv 0) pa_nil)) (nomark _)) (pw_and1 (pt_chain op_le_str op_le_str pe_str (pe_ix ix_str (pv 0) (pv 2) (fun _ _ => rfl)) pe_str))))
        (pss_one (ps_aug (i := 2) nd rfl (Or.inl rfl) pe_int ip_add)))
      (pss_one (ps_ret (pv 2))))), ?_⟩
    have hl := len_tl z
    rw [e, List.length_append, List.length_append] at hl
    refine ⟨_, rfl, fun m σ H' => H' = H ∧ m ≤ ds.length ∧ σ = [some (.str z), some (.int pre.length), some (.int ((pre.length : Int) + ((ds.length - m : Nat) : Int)))], ⟨ds.length, rfl, Nat.le_refl _, ?_⟩, ?_⟩
    · rw [Nat.sub_self]
      show [some (V.str z), some (V.int pre.length), some (V.int (pre.length : Int))] = _
      congr 3
    · rintro m σ H' ⟨rfl, hm, rfl⟩
      refine ⟨_, rfl, _, rfl, _, rfl, by omega, _, _, rfl, rfl, _, rfl, ?_⟩
      have at1 : ∀ c, (ds ++ post)[ds.length - m]? = some c → atI (tl z) ((pre.length : Int) + ((ds.length - m : Nat) : Int)) = some c := by
        intro c hc
        rw [show (pre.length : Int) + ((ds.length - m : Nat) : Int) = ((pre.length + (ds.length - m) : Nat) : Int) by omega]
        refine atI_nat ?_
        rw [e, List.getElem?_append_right (by omega), Nat.add_sub_cancel_left]
        exact hc
      cases m with
      | zero =>
        rw [Nat.sub_zero] at at1 ⊢
        cases hp : post with
        | nil =>
          rw [hp, List.length_nil] at hl
          rw [decide_eq_false (by omega)]
          exact iteF ⟨_, rfl, q⟩
        | cons c r =>
          rw [hp, List.length_cons] at hl
          rw [decide_eq_true (by omega)]
          refine iteT ?_
          have hc := at1 c (by rw [hp, List.getElem?_append_right (by omega), Nat.sub_self]; rfl)
          refine ⟨_, rfl, _, rfl, z, _, c, rfl, rfl, by omega, hc, _, _, rfl, rfl, _, rfl, ?_⟩
          have e1 := one_ge (y := Str.ofString "0") (b := 48) c (by decide)
          have e2 := one_le (y := Str.ofString "9") (b := 57) c (by decide)
          have hc2 := hn c r hp
          rw [e1]
          by_cases h1 : 48 ≤ c
          · rw [decide_eq_true h1]
            refine iteT ⟨_, _, rfl, rfl, _, rfl, ?_⟩
            rw [e2, decide_eq_false (by omega)]
            exact iteF ⟨_, rfl, q⟩
          · rw [decide_eq_false h1]
            exact iteF ⟨_, rfl, iteF ⟨_, rfl, q⟩⟩
      | succ m =>
        have hj : ds.length - (m + 1) < ds.length := by omega
        rw [decide_eq_true (by omega)]
        refine iteT ?_
        have hc := at1 ds[ds.length - (m + 1)] (by rw [List.getElem?_append_left hj]; exact List.getElem?_eq_getElem hj)
        have hdc := hd _ (List.getElem_mem hj)
        refine ⟨_, rfl, _, rfl, z, _, _, rfl, rfl, by omega, hc, _, _, rfl, rfl, _, rfl, ?_⟩
        rw [one_ge (y := Str.ofString "0") (b := 48) _ (by decide), decide_eq_true hdc.1]
        refine iteT ⟨_, _, rfl, rfl, _, rfl, ?_⟩
        rw [one_le (y := Str.ofString "9") (b := 57) _ (by decide), decide_eq_true hdc.2]
        refine iteT ⟨_, fun σ' H' h => ⟨m, Nat.lt_succ_self m, h⟩, ?_⟩
        refine ⟨_, rfl, _, _, rfl, rfl, rfl, by omega, ?_⟩
        show [some (V.str z), some (V.int pre.length), some (V.int ((pre.length : Int) + ((ds.length - (m + 1) : Nat) : Int) + 1))] = _
        congr 3
        congr 2
        omega
abbrev s__read_integer : Stmt := top 24
abbrev N__read_integer : List Str := ["text", "start", "first_digit", "end", "number"]
abbrev P__read_integer : List Str := ["text", "start"]
theorem sc__read_integer : FnScope N__read_integer P__read_integer (defScope s__read_integer) := ⟨rfl, rfl, rfl, by decide +kernel, rfl, by decide +kernel, by decide +kernel⟩
def sp__read_integer : Sp := fun vs H Q _ => ∃ (z : Str) (pre post : List Nat) (i : Int), vs = [.str z, .int pre.length] ∧ tl z = pre ++ (numI i ++ post) ∧ nd post ∧ i.natAbs < 10 ^ 24 ∧ z.length ≤ 100000 ∧
  ∀ p, H p = none → Q (.ref p) (upd H p (.tup [.int i, .int ((pre.length : Int) + ((numI i).length : Int))]))
theorem take1 {c : Nat} {l : List Nat} : (c :: l).take 1 = [c] := by simp
theorem ok__read_integer {f : Addr} {fd : FuncData} (T : Tx mg) (c__digits_end : DefOk P w K mg base CX0 "_digits_end" P__digits_end 1 (sp__digits_end))(F : Fun K "_read_integer" "_read_integer" s__read_integer f fd) : FnOk P w K mg base CX0 (2) f fd P__read_integer (sp__read_integer) := by
  have nd := sc__read_integer.nd
  refine F.ok sc__read_integer (fun vs H Q E h => ?_) (fun cdv A outer s H vs Q E hr h => ?_)
  · obtain ⟨_, _, _, _, rfl, _⟩ := h
    rfl
  · obtain ⟨z, pre, post, i, rfl, e, hn, hi, hz, q⟩ := h
    have hs := sl
    have h25 := numI_len hi
    have hdl := numL_len (n := i.natAbs) (k := 24) (by omega) hi
    have hdp : 1 ≤ (numL i.natAbs).length := by
      obtain ⟨c, r, e0, _⟩ := numL_head i.natAbs
      rw [e0]; simp
    refine ⟨_, (pss_cons (ps_set (i := 2) nd rfl (Or.inl rfl) (pv 1))
      (pss_cons (ps_if (pt_cmpR op_eq (pe_slice sl_str (pv 0) (po_some (pv 1)) (po_some (pe_op op_add (pv 1) pe_int))) pe_str (nomark _))
        (pss_one (ps_set (i := 2) nd rfl (Or.inl rfl) (pe_op op_add (pv 1) pe_int)))
        pss_nil)
      (pss_cons (ps_set (i := 3) nd rfl (Or.inl rfl) (pcall c__digits_end hr (pa_cons (pv 0) (pa_cons (pv 2) pa_nil))))
      (pss_cons (ps_if (pt_not (pt_chain op_le op_le pe_int (pe_op op_sub (pv 3) (pv 2)) (pe_const T.c_MOST_DIGITS)))
        (pss_one ps_never)
        pss_nil)
      (pss_cons (ps_set (i := 4) nd rfl (Or.inl rfl) (pe_callTy call_int_str (by rfl) T.b_int (by decide +kernel) (pa_cons (pe_slice sl_str (pv 0) (po_some (pv 1)) (po_some (pv 3))) pa_nil)))
      (pss_cons (ps_if (pt_cmpR op_ne (pe_callTy call_str_int (by rfl) T.b_str (by decide +kernel) (pa_cons (pv 4) pa_nil)) (pe_slice sl_str (pv 0) (po_some (pv 1)) (po_some (pv 3))) (nomark _))
        (pss_one ps_never)
        pss_nil)
      (pss_one (ps_ret (pe_tup (pa_cons (pv 4) (pa_cons (pv 3) pa_nil))))))))))), ?_⟩
    refine ⟨_, rfl, _, rfl, _, rfl, _, rfl, _, rfl, _, _, rfl, rfl, _, rfl, z, rfl, by omega, rfl, _, rfl, ?_⟩
    rw [str_eq, cut_one e, show tl (Str.ofString "-") = [45] by decide]
    have mid := cut_mid e
    have it := intText_numI mid hi
    have ml : (cutS z (some (pre.length : Int)) (some ((pre.length : Int) + ((numI i).length : Int)))).length ≤ 640 := by rw [len_tl, mid]; omega
    have key : ∃ pre2 : List Nat, tl z = pre2 ++ (numL i.natAbs ++ post) ∧ (pre2.length : Int) + ((numL i.natAbs).length : Int) = (pre.length : Int) + ((numI i).length : Int) ∧
        ((decide ((numI i ++ post).take 1 = [45]) = true ∧ (pre.length : Int) + 1 = (pre2.length : Int)) ∨ (decide ((numI i ++ post).take 1 = [45]) = false ∧ (pre.length : Int) = (pre2.length : Int))) := by
      by_cases h0 : i < 0
      · have en : numI i = 45 :: numL i.natAbs := by unfold numI; rw [if_pos h0]
        have ln : ((numI i).length : Int) = ((numL i.natAbs).length : Int) + 1 := by rw [en, List.length_cons]; omega
        have lp : ((pre ++ [45]).length : Int) = (pre.length : Int) + 1 := by rw [List.length_append, List.length_singleton]; omega
        refine ⟨pre ++ [45], by rw [e, en, List.append_assoc]; rfl, by omega, .inl ⟨?_, by omega⟩⟩
        rw [en, List.cons_append, take1]; decide
      · have en : numI i = numL i.natAbs := by unfold numI; rw [if_neg h0]
        refine ⟨pre, by rw [e, en], by rw [en], .inr ⟨?_, rfl⟩⟩
        obtain ⟨c, r, e0, hc⟩ := numL_head i.natAbs
        rw [en, e0, List.cons_append, take1]
        exact decide_eq_false (by intro z; have := (List.cons.inj z).1; omega)
    obtain ⟨pre2, e2, hf, hcase⟩ := key
    have e9 : tl (Str.ofString (toString i)) = numI i := tl_int i
    rcases hcase with ⟨hb, hl⟩ | ⟨hb, hl⟩ <;> rw [hb]
    · refine iteT ⟨_, rfl, _, _, rfl, rfl, ?_⟩
      refine ⟨_, rfl, _, rfl, z, pre2, numL i.natAbs, post, congrArg (fun t => [V.str z, V.int t]) hl, e2, numL_digits _, hn, hz, ?_⟩
      rw [hf]
      refine ⟨_, rfl, _, rfl, _, _, rfl, rfl, _, _, rfl, rfl, _, rfl, dT (by omega) ⟨_, _, rfl, rfl, _, rfl, nF (by omega) ?_⟩⟩
      refine ⟨_, rfl, _, rfl, _, rfl, _, rfl, _, rfl, z, rfl, by omega, _, i, rfl, it, ml, ?_⟩
      refine ⟨_, rfl, i, rfl, log_small (by omega), _, rfl, _, rfl, _, rfl, _, rfl, _, rfl, z, rfl, by omega, rfl, _, rfl, ?_⟩
      rw [str_eq, e9, mid]
      refine nF rfl ⟨_, rfl, _, rfl, by show 2 ≤ sizeLine; omega, fun p hp => q p hp⟩
    · refine iteF ?_
      refine ⟨_, rfl, _, rfl, z, pre2, numL i.natAbs, post, congrArg (fun t => [V.str z, V.int t]) hl, e2, numL_digits _, hn, hz, ?_⟩
      rw [hf]
      refine ⟨_, rfl, _, rfl, _, _, rfl, rfl, _, _, rfl, rfl, _, rfl, dT (by omega) ⟨_, _, rfl, rfl, _, rfl, nF (by omega) ?_⟩⟩
      refine ⟨_, rfl, _, rfl, _, rfl, _, rfl, _, rfl, z, rfl, by omega, _, i, rfl, it, ml, ?_⟩
      refine ⟨_, rfl, i, rfl, log_small (by omega), _, rfl, _, rfl, _, rfl, _, rfl, _, rfl, z, rfl, by omega, rfl, _, rfl, ?_⟩
      rw [str_eq, e9, mid]
      refine nF rfl ⟨_, rfl, _, rfl, by show 2 ≤ sizeLine; omega, fun p hp => q p hp⟩
abbrev s__read_characters : Stmt := top 23
abbrev N__read_characters : List Str := ["text", "start", "length", "end"]
abbrev P__read_characters : List Str := ["text", "start", "length"]
theorem sc__read_characters : FnScope N__read_characters P__read_characters (defScope s__read_characters) := ⟨rfl, rfl, rfl, by decide +kernel, rfl, by decide +kernel, by decide +kernel⟩
def sp__read_characters : Sp := fun vs H Q _ => ∃ (z : Str) (pre mid post : List Nat), vs = [.str z, .int pre.length, .int mid.length] ∧ tl z = pre ++ (mid ++ post) ∧ z.length ≤ 100000 ∧
  ∀ p (y : Str), tl y = mid → H p = none → Q (.ref p) (upd H p (.tup [.str y, .int ((pre.length : Int) + (mid.length : Int))]))
theorem ok__read_characters {f : Addr} {fd : FuncData} (T : Tx mg) (F : Fun K "_read_characters" "_read_characters" s__read_characters f fd) : FnOk P w K mg base CX0 (1) f fd P__read_characters (sp__read_characters) := by
  have nd := sc__read_characters.nd
  refine F.ok sc__read_characters (fun vs H Q E h => ?_) (fun cdv A outer s H vs Q E hr h => ?_)
  · obtain ⟨_, _, _, _, rfl, _⟩ := h
    rfl
  · obtain ⟨z, pre, mid, post, rfl, e, hz, q⟩ := h
    have hs := sl
    have hl := len_tl z
    rw [e, List.length_append, List.length_append] at hl
    refine ⟨_, (pss_cons (ps_set (i := 3) nd rfl (Or.inl rfl) (pe_op op_add (pv 1) (pv 2)))
      (pss_cons (ps_if (pt_cmpR op_gt (pv 3) (pe_callB call_len_str (by rfl) T.b_len (by decide +kernel) (pa_cons (pv 0) pa_nil)) (nomark _))
        (pss_one ps_never)
        pss_nil)
      (pss_one (ps_ret (pe_tup (pa_cons (pe_slice sl_str (pv 0) (po_some (pv 1)) (po_some (pv 3))) (pa_cons (pv 3) pa_nil))))))), ?_⟩
    refine ⟨_, rfl, _, rfl, _, _, rfl, rfl, _, rfl, _, rfl, _, rfl, by omega, _, _, rfl, rfl, _, rfl, dF (by omega) ?_⟩
    refine ⟨_, rfl, _, rfl, _, rfl, _, rfl, _, rfl, z, rfl, by omega, _, rfl, by show 2 ≤ sizeLine; omega, fun p hp => ?_⟩
    exact q p _ (cut_mid e) hp
theorem tup2 {H : Hp} {a : Addr} {v : V} {i j : Int} (h : H a = some (.tup [v, .int i])) (e : i = j) : H a = some (.tup [v, .int j]) := e ▸ h
theorem take1_eq {l : List Nat} {c : Nat} (h : l.take 1 = [c]) : ∃ q, l = c :: q := by
  cases l with
  | nil => simp at h
  | cons x r =>
    rw [take1] at h
    exact ⟨r, by rw [(List.cons.inj h).1]⟩
def sp__read (n : Nat) : Sp := fun vs H Q _ => ∃ (z : Str) (pre post : List Nat) (d : D) (k : Int), vs = [.str z, .int pre.length, .int k] ∧ tl z = pre ++ (enc d ++ post) ∧ tailOk post ∧ Txt4.ok d ∧ (dep d : Int) ≤ k ∧ dep d ≤ n ∧ z.length ≤ 100000 ∧
  ∀ v p H', Same H H' → Rep H' v d → H' p = some (.tup [v, .int ((pre.length : Int) + ((enc d).length : Int))]) → Q (.ref p) H'
def sp__read_tuple (n : Nat) : Sp := fun vs H Q _ => ∃ (z : Str) (pre post : List Nat) (ds : List D) (k : Int), vs = [.str z, .int pre.length, .int k] ∧ tl z = pre ++ (encs ds ++ 41 :: post) ∧ oks ds ∧ (deps ds : Int) + 1 ≤ k ∧ deps ds + 1 ≤ n ∧ z.length ≤ 100000 ∧
  ∀ v p H', Same H H' → Rep H' v (.tup ds) → H' p = some (.tup [v, .int ((pre.length : Int) + ((encs ds).length : Int) + 1)]) → Q (.ref p) H'
abbrev s__read : Stmt := top 21
abbrev N__read : List Str := ["text", "start", "depth", "number", "end"]
abbrev P__read : List Str := ["text", "start", "depth"]
theorem sc__read : FnScope N__read P__read (defScope s__read) := ⟨rfl, rfl, rfl, by decide +kernel, rfl, by decide +kernel, by decide +kernel⟩
abbrev s__read_tuple : Stmt := top 22
abbrev N__read_tuple : List Str := ["text", "start", "depth", "items", "place", "item"]
abbrev P__read_tuple : List Str := ["text", "start", "depth"]
theorem sc__read_tuple : FnScope N__read_tuple P__read_tuple (defScope s__read_tuple) := ⟨rfl, rfl, rfl, by decide +kernel, rfl, by decide +kernel, by decide +kernel⟩
theorem ok__read {f : Addr} {fd : FuncData} (T : Tx mg) {n : Nat} (c__read_tuple : DefOk P w K mg base CX0 "_read_tuple" P__read_tuple (3 + 2 * n) (sp__read_tuple n)) (c__read_integer : DefOk P w K mg base CX0 "_read_integer" P__read_integer 2 (sp__read_integer)) (c__read_characters : DefOk P w K mg base CX0 "_read_characters" P__read_characters 1 (sp__read_characters))(F : Fun K "_read" "_read" s__read f fd) : FnOk P w K mg base CX0 (3 + 2 * n + 1) f fd P__read (sp__read n) := by
  have nd := sc__read.nd
  refine F.ok sc__read (fun vs H Q E h => ?_) (fun cdv A outer s H vs Q E hr h => ?_)
  · obtain ⟨_, _, _, _, _, rfl, _⟩ := h
    rfl
  · obtain ⟨z, pre, post, d, k, rfl, e, hp, hd, hk, hn, hz, q⟩ := h
    have hs := sl
    have hl := len_tl z
    have hl2 := hl
    rw [e, List.length_append, List.length_append] at hl2
    refine ⟨_, (pss_cons (ps_if (pt_cmpR op_eq (pe_slice sl_str (pv 0) (po_some (pv 1)) (po_some (pe_op op_add (pv 1) pe_int))) pe_str (nomark _))
        (pss_one (ps_ret (pcall c__read_tuple hr (pa_cons (pv 0) (pa_cons (pe_op op_add (pv 1) pe_int) (pa_cons (pv 2) pa_nil))))))
        pss_nil)
      (pss_cons (ps_asg (pcall c__read_integer hr (pa_cons (pv 0) (pa_cons (pv 1) pa_nil))) (pg_tup (by rfl) (pgs_cons (pg_name (i := 3) nd rfl (Or.inl rfl)) (pgs_cons (pg_name (i := 4) nd rfl (Or.inl rfl)) pgs_nil))))
      (pss_cons (ps_if (PW.pt (pw_or (pt_cmpR op_lt (pv 3) pe_int (nomark _)) (pw_or1 (pt_cmpR op_ne (pe_slice sl_str (pv 0) (po_some (pv 4)) (po_some (pe_op op_add (pv 4) pe_int))) pe_str (nomark _)))))
        (pss_one (ps_ret (pe_tup (pa_cons (pv 3) (pa_cons (pv 4) pa_nil)))))
        pss_nil)
      (pss_one (ps_ret (pcall c__read_characters hr (pa_cons (pv 0) (pa_cons (pe_op op_add (pv 4) pe_int) (pa_cons (pv 3) pa_nil))))))))), ?_⟩
    refine ⟨_, rfl, _, rfl, _, rfl, _, rfl, _, _, rfl, rfl, _, rfl, z, rfl, by omega, rfl, _, rfl, ?_⟩
    rw [str_eq, cut_one e, show tl (Str.ofString "(") = [40] by decide]
    cases d with
    | tup ds =>
      have en : enc (.tup ds) = 40 :: (encs ds ++ [41]) := by rw [enc]
      have e2 : tl z = (pre ++ [40]) ++ (encs ds ++ 41 :: post) := by
        rw [e, en, List.append_assoc, List.cons_append, List.append_assoc]; rfl
      have lp : ((pre ++ [40]).length : Int) = (pre.length : Int) + 1 := by rw [List.length_append, List.length_singleton]; omega
      have le : (enc (.tup ds)).length = (encs ds).length + 2 := by rw [en, List.length_cons, List.length_append, List.length_singleton]
      refine dT (by rw [en]; rfl) ?_
      refine ⟨_, rfl, _, rfl, _, _, rfl, rfl, _, rfl, z, pre ++ [40], post, ds, k, by rw [lp]; rfl, e2, hd, hk, hn, hz, fun v p H' s1 r1 h1 => q v p H' s1 r1 (tup2 h1 (by omega))⟩
    | int i =>
      have en : enc (.int i) = numI i := by rw [enc]
      refine dF (fun h => ?_) ?_
      · obtain ⟨r, h1⟩ := take1_eq h
        exact numI_not40 h1
      refine ⟨_, rfl, _, rfl, z, pre, post, i, rfl, e, hp.nd, hd, hz, fun p np => ?_⟩
      refine ⟨p, _, rfl, SqT.of upd_same, rfl, _, _, rfl, _, _, rfl, rfl, ?_⟩
      refine ⟨_, rfl, _, _, rfl, rfl, _, rfl, ?_⟩
      have s1 := same_new np (.tup [.int i, .int ((pre.length : Int) + ((numI i).length : Int))])
      by_cases h0 : i < 0
      · refine dT h0 (iteT ⟨_, rfl, _, rfl, by show 2 ≤ sizeLine; omega, fun p2 np2 => ?_⟩)
        exact q _ p2 _ (s1.trans (same_new np2 _)) (.int i) (by rw [upd_same]; rfl)
      · refine dF h0 ?_
        have e2 : tl z = (pre ++ numI i) ++ post := by rw [e, en, List.append_assoc]
        have lp : ((pre ++ numI i).length : Int) = (pre.length : Int) + ((numI i).length : Int) := by rw [List.length_append]; omega
        refine ⟨_, rfl, _, rfl, _, rfl, _, rfl, _, _, rfl, rfl, _, rfl, z, rfl, by omega, rfl, _, rfl, ?_⟩
        rw [← lp, str_eq, cut_one e2, show tl (Str.ofString ":") = [58] by decide]
        have hc : ¬ post.take 1 = [58] := by
          intro h
          obtain ⟨r, h1⟩ := take1_eq h
          rcases hp with hp | ⟨s, hp⟩
          · rw [hp] at h1; cases h1
          · rw [hp] at h1; have := (List.cons.inj h1).1; omega
        rw [decide_eq_false hc, lp]
        refine iteT ⟨_, rfl, _, rfl, by show 2 ≤ sizeLine; omega, fun p2 np2 => ?_⟩
        exact q _ p2 _ (s1.trans (same_new np2 _)) (.int i) (by rw [upd_same]; rfl)
    | str y =>
      have en : enc (.str y) = numL (tl y).length ++ 58 :: tl y := by rw [enc]
      have ei : numI ((tl y).length : Int) = numL (tl y).length := by unfold numI; rw [if_neg (by omega)]; rfl
      have le : (enc (.str y)).length = (numL (tl y).length).length + ((tl y).length + 1) := by rw [en, List.length_append, List.length_cons]
      refine dF (fun h => ?_) ?_
      · obtain ⟨r, h1⟩ := take1_eq h
        rw [en, List.append_assoc] at h1
        exact numL_not40 h1
      have e1 : tl z = pre ++ (numI ((tl y).length : Int) ++ (58 :: (tl y ++ post))) := by rw [e, en, ei, List.append_assoc]; rfl
      refine ⟨_, rfl, _, rfl, z, pre, 58 :: (tl y ++ post), ((tl y).length : Int), rfl, e1, nd_cons (by omega), by omega, hz, fun p np => ?_⟩
      refine ⟨p, _, rfl, SqT.of upd_same, rfl, _, _, rfl, _, _, rfl, rfl, ?_⟩
      refine ⟨_, rfl, _, _, rfl, rfl, _, rfl, dF (by omega) ?_⟩
      have e2 : tl z = (pre ++ numI ((tl y).length : Int)) ++ (58 :: (tl y ++ post)) := by rw [e1, List.append_assoc]
      have lp : ((pre ++ numI ((tl y).length : Int)).length : Int) = (pre.length : Int) + ((numI ((tl y).length : Int)).length : Int) := by rw [List.length_append]; omega
      have e3 : tl z = ((pre ++ numI ((tl y).length : Int)) ++ [58]) ++ (tl y ++ post) := by rw [e2, List.append_assoc _ [58]]; rfl
      have lp2 : ((((pre ++ numI ((tl y).length : Int)) ++ [58]).length : Nat) : Int) = ((pre ++ numI ((tl y).length : Int)).length : Int) + 1 := by rw [List.length_append, List.length_singleton]; omega
      rw [← lp]
      have s1 := same_new np (.tup [.int ((tl y).length : Int), .int ((pre ++ numI ((tl y).length : Int)).length : Int)])
      refine ⟨_, rfl, _, rfl, _, rfl, _, rfl, _, _, rfl, rfl, _, rfl, z, rfl, by omega, rfl, _, rfl, ?_⟩
      rw [str_eq, cut_one e2, show tl (Str.ofString ":") = [58] by decide, take1, decide_eq_true rfl]
      refine iteF ⟨_, rfl, _, rfl, _, _, rfl, rfl, _, rfl, z, (pre ++ numI ((tl y).length : Int)) ++ [58], tl y, post, by rw [lp2]; rfl, e3, hz, fun p2 y2 hy np2 => ?_⟩
      have ey : y2 = y := ext_tl hy
      rw [ey]
      have lei : ((numI ((tl y).length : Int)).length : Int) = ((numL (tl y).length).length : Int) := by rw [ei]
      exact q _ p2 _ (s1.trans (same_new np2 _)) (.str y) (tup2 upd_same (by omega))
theorem ok__read_tuple {f : Addr} {fd : FuncData} (T : Tx mg) {n : Nat} (c__read : DefOk P w K mg base CX0 "_read" P__read (3 + 2 * n + 1) (sp__read n))(F : Fun K "_read_tuple" "_read_tuple" s__read_tuple f fd) : FnOk P w K mg base CX0 (4 + 2 * n + 1) f fd P__read_tuple (sp__read_tuple (n + 1)) := by
  have nd := sc__read_tuple.nd
  refine F.ok sc__read_tuple (fun vs H Q E h => ?_) (fun cdv A outer s H vs Q E hr h => ?_)
  · obtain ⟨_, _, _, _, _, rfl, _⟩ := h
    rfl
  · obtain ⟨z, pre, post, ds, k, rfl, e, hd, hk, hn, hz, q⟩ := h
    have hs := sl
    have hl := len_tl z
    have hl2 := hl
    rw [e, List.length_append, List.length_append] at hl2
    refine ⟨_, (pss_cons (ps_if (pt_cmpR op_eq (pv 2) pe_int (nomark _))
        (pss_one ps_never)
        pss_nil)
      (pss_cons (ps_set (i := 3) nd rfl (Or.inl rfl) (pe_lst pa_nil))
      (pss_cons (ps_set (i := 4) nd rfl (Or.inl rfl) (pv 1))
      (pss_cons (ps_while PassesOwn.never (pt_cmpR op_ne (pe_slice sl_str (pv 0) (po_some (pv 4)) (po_some (pe_op op_add (pv 4) pe_int))) pe_str (nomark _))
        (pss_cons (ps_asg (pcall c__read hr (pa_cons (pv 0) (pa_cons (pv 4) (pa_cons (pe_op op_sub (pv 2) pe_int) pa_nil)))) (pg_tup (by rfl) (pgs_cons (pg_name (i := 5) nd rfl (Or.inl rfl)) (pgs_cons (pg_name (i := 4) nd rfl (Or.inl rfl)) pgs_nil))))
        (pss_cons (ps_if (pt_cmpR op_ne (pe_slice sl_str (pv 0) (po_some (pv 4)) (po_some (pe_op op_add (pv 4) pe_int))) pe_str (nomark _))
          (pss_one ps_never)
          pss_nil)
        (pss_cons (ps_expr (pe_bm PySem.F.plainAttrs_list PySem.F.slot_list_append PySem.F.type_list_append mt_append (pv 3) (pa_cons (pv 5) pa_nil)))
        (pss_one (ps_aug (i := 4) nd rfl (Or.inl rfl) pe_int ip_add))))))
      (pss_one (ps_ret (pe_tup (pa_cons (pe_callTy call_tuple_of (by rfl) T.b_tuple (by decide +kernel) (pa_cons (pv 3) pa_nil)) (pa_cons (pe_op op_add (pv 4) pe_int) pa_nil))))))))), ?_⟩
    refine ⟨_, rfl, rfl, _, rfl, dF (by intro z; cases z; omega) ?_⟩
    refine ⟨by decide, fun p np => ⟨_, rfl, ?_⟩⟩
    refine ⟨fun m σ H' => ∃ (xs : List V) (v : Option V), m ≤ ds.length ∧ σ = [some (.str z), some (.int pre.length), some (.int k), some (.ref p), some (.int ((pre.length : Int) + ((encs (ds.take (ds.length - m))).length : Int))), v] ∧ Same H H' ∧
      H' p = some (.lst xs) ∧ Reps H' xs (ds.take (ds.length - m)), ⟨ds.length, [], none, Nat.le_refl _, ?_, same_new np _, upd_same, ?_⟩, ?_⟩
    · rw [Nat.sub_self]
      show [some (V.str z), some (V.int pre.length), some (V.int k), some (V.ref p), some (V.int (pre.length : Int)), none] = _
      congr 5
    · rw [Nat.sub_self]
      exact .nil
    · rintro m σ H' ⟨xs, v, hm, rfl, s1, hp, hr2⟩
      have ej : encs ds = encs (ds.take (ds.length - m)) ++ encs (ds.drop (ds.length - m)) := by rw [← encs_append, List.take_append_drop]
      have e2 : tl z = (pre ++ encs (ds.take (ds.length - m))) ++ (encs (ds.drop (ds.length - m)) ++ 41 :: post) := by rw [e, ej, List.append_assoc, List.append_assoc]
      have lp : ((pre ++ encs (ds.take (ds.length - m))).length : Int) = (pre.length : Int) + ((encs (ds.take (ds.length - m))).length : Int) := by rw [List.length_append]; omega
      rw [← lp]
      refine ⟨_, rfl, _, rfl, _, rfl, _, rfl, _, _, rfl, rfl, _, rfl, z, rfl, by omega, rfl, _, rfl, ?_⟩
      rw [str_eq, cut_one e2, show tl (Str.ofString ")") = [41] by decide]
      cases m with
      | zero =>
        rw [Nat.sub_zero, List.take_length] at hr2 lp ⊢
        rw [List.drop_length]
        refine nF take1 ?_
        refine ⟨_, rfl, p, xs, rfl, .inl ⟨SqL.of hp, fun a na => ?_⟩⟩
        refine ⟨_, rfl, _, _, rfl, rfl, by show 2 ≤ sizeLine; omega, fun p2 np2 => ?_⟩
        have s2 := same_new na (.tup xs)
        have s3 := same_new np2 (.tup [.ref a, .int (((pre ++ encs ds).length : Int) + 1)])
        refine q (.ref a) p2 _ (s1.trans (s2.trans s3)) (.tup (s3 _ _ upd_same) (by have h5 := hr2.length; have h6 := encs_len ds; rw [List.length_append] at lp; omega) (hr2.mono fun b ys h => s3 _ _ (s2 _ _ h))) (tup2 upd_same (by omega))
      | succ m =>
        have hj : ds.length - (m + 1) < ds.length := by omega
        have hat : ds[ds.length - (m + 1)]? = some ds[ds.length - (m + 1)] := List.getElem?_eq_getElem hj
        have ed : ds.drop (ds.length - (m + 1)) = ds[ds.length - (m + 1)] :: ds.drop (ds.length - (m + 1) + 1) := List.drop_eq_getElem_cons hj
        generalize ds[ds.length - (m + 1)] = d at hat ed
        have ee : encs (ds.drop (ds.length - (m + 1))) = enc d ++ 59 :: encs (ds.drop (ds.length - (m + 1) + 1)) := by rw [ed]; rfl
        have e3 : tl z = (pre ++ encs (ds.take (ds.length - (m + 1)))) ++ (enc d ++ (59 :: (encs (ds.drop (ds.length - (m + 1) + 1)) ++ 41 :: post))) := by rw [e2, ee, List.append_assoc (enc d)]; rfl
        have dd := deps_at hat
        refine nT (fun h => ?_) ?_
        · obtain ⟨r, h1⟩ := take1_eq h
          rw [ee, List.append_assoc] at h1
          exact enc_not41 d h1
        refine ⟨_, fun σ' H' h => ⟨m, Nat.lt_succ_self m, h⟩, ?_⟩
        refine ⟨_, rfl, _, rfl, _, rfl, _, _, rfl, rfl, z, _, _, d, k - 1, rfl, e3, .inr ⟨_, rfl⟩, oks_at hd hat, by omega, by omega, hz, fun u p2 H2 s2 ru h2 => ?_⟩
        refine ⟨p2, _, rfl, SqT.of h2, rfl, _, _, rfl, _, _, rfl, rfl, ?_⟩
        have e4 : tl z = ((pre ++ encs (ds.take (ds.length - (m + 1)))) ++ enc d) ++ (59 :: (encs (ds.drop (ds.length - (m + 1) + 1)) ++ 41 :: post)) := by rw [e3, ← List.append_assoc]
        have lp4 : (((pre ++ encs (ds.take (ds.length - (m + 1)))) ++ enc d).length : Int) = ((pre ++ encs (ds.take (ds.length - (m + 1)))).length : Int) + ((enc d).length : Int) := by rw [List.length_append]; omega
        rw [← lp4]
        refine ⟨_, rfl, _, rfl, _, rfl, _, rfl, _, _, rfl, rfl, _, rfl, z, rfl, by omega, rfl, _, rfl, ?_⟩
        rw [str_eq, cut_one e4, show tl (Str.ofString ";") = [59] by decide]
        refine nF take1 ?_
        have hp2 := s2 _ _ hp
        have hln := hr2.length
        rw [List.length_take] at hln
        have hz3 := encs_len ds
        refine ⟨_, rfl, .inl ⟨rfl, _, SqL.of hp2⟩, _, rfl, p, xs, _, rfl, rfl, hp2, by omega, ?_⟩
        refine ⟨_, rfl, _, _, rfl, rfl, ?_⟩
        have b3 : But p H2 (upd H2 p (.lst (xs ++ [u]))) := but_upd _
        have ej : ds.length - m = ds.length - (m + 1) + 1 := by omega
        have et := take_more hat
        have etl : (encs (ds.take (ds.length - (m + 1) + 1))).length = (encs (ds.take (ds.length - (m + 1)))).length + ((enc d).length + 1) := by rw [encs_take hat, List.length_append, List.length_append, List.length_singleton]
        refine ⟨xs ++ [u], some u, by omega, ?_, fun b o h => b3 b o (s2 b o (s1 b o h)) (ne_of_none h np), upd_same, ?_⟩
        · rw [ej]
          show [some (V.str z), some (V.int pre.length), some (V.int k), some (V.ref p), some (V.int (((pre ++ encs (ds.take (ds.length - (m + 1)))) ++ enc d).length + 1)), some u] = _
          congr 5
          congr 2
          omega
        · rw [ej, et]
          exact (hr2.mono fun b ys h => b3.tupK hp2 _ _ (s2 _ _ h)).snoc (ru.mono (b3.tupK hp2))
/-- the two of the reading, for every depth -/
def mk_read (T : Tx mg) (aR : DefAt K mg "_read" P__read s__read) (aT : DefAt K mg "_read_tuple" P__read_tuple s__read_tuple) (c__read_integer : DefOk P w K mg base CX0 "_read_integer" P__read_integer 2 (sp__read_integer)) (c__read_characters : DefOk P w K mg base CX0 "_read_characters" P__read_characters 1 (sp__read_characters)) :
    ∀ n : Nat, DefOk P w K mg base CX0 "_read" P__read (3 + 2 * n + 1) (sp__read n) × DefOk P w K mg base CX0 "_read_tuple" P__read_tuple (3 + 2 * n) (sp__read_tuple n)
  | 0 =>
    let t : DefOk P w K mg base CX0 "_read_tuple" P__read_tuple (3 + 2 * 0) (sp__read_tuple 0) := aT.ok fun _ => no_call (by
      rintro vs H Q E ⟨z, pre, post, ds, k, _, _, _, _, h, _⟩
      omega)
    (aR.ok fun F => ok__read T t c__read_integer c__read_characters F, t)
  | n + 1 =>
    let p := mk_read T aR aT c__read_integer c__read_characters n
    let t : DefOk P w K mg base CX0 "_read_tuple" P__read_tuple (3 + 2 * (n + 1)) (sp__read_tuple (n + 1)) := (aT.ok fun F => ok__read_tuple T p.1 F).mono (by omega)
    (aR.ok fun F => ok__read T t c__read_integer c__read_characters F, t)
abbrev s_decode : Stmt := top 20
abbrev N_decode : List Str := ["text", "value", "end"]
abbrev P_decode : List Str := ["text"]
theorem sc_decode : FnScope N_decode P_decode (defScope s_decode) := ⟨rfl, rfl, rfl, by decide +kernel, rfl, by decide +kernel, by decide +kernel⟩
def sp_decode : Sp := fun vs H Q _ => ∃ (z : Str) (d : D), vs = [.str z] ∧ tl z = enc d ∧ Txt4.ok d ∧ dep d ≤ 8 ∧ (enc d).length ≤ 100000 ∧ ∀ v H', Same H H' → Rep H' v d → Q v H'
theorem ok_decode {f : Addr} {fd : FuncData} (T : Tx mg) (c_is_printable : DefOk P w K mg base CX0 "is_printable" P_is_printable 2 (sp_is_printable)) (c__read : DefOk P w K mg base CX0 "_read" P__read 20 (sp__read 8))(F : Fun K "decode" "decode" s_decode f fd) : FnOk P w K mg base CX0 (21) f fd P_decode (sp_decode) := by
  have nd := sc_decode.nd
  refine F.ok sc_decode (fun vs H Q E h => ?_) (fun cdv A outer s H vs Q E hr h => ?_)
  · obtain ⟨_, _, rfl, _⟩ := h
    rfl
  · obtain ⟨z, d, rfl, e, hd, hdep, hz, q⟩ := h
    have hs := sl
    have hl := len_tl z
    rw [e] at hl
    refine ⟨_, (pss_cons (ps_if (PW.pt (pw_or (pt_not (pt_val (pe_callB call_isi (by rfl) T.b_isinstance (by decide +kernel) (pa_cons (pv 0) (pa_cons (pe_ty "str" T.b_str) pa_nil))))) (pw_or (pt_cmpR op_gt (pe_callB call_len_str (by rfl) T.b_len (by decide +kernel) (pa_cons (pv 0) pa_nil)) (pe_const T.c_MOST_LENGTH) (nomark _)) (pw_or1 (pt_not (pt_val (pcall c_is_printable hr (pa_cons (pv 0) pa_nil))))))))
        (pss_one ps_never)
        pss_nil)
      (pss_cons (ps_asg (pcall c__read hr (pa_cons (pv 0) (pa_cons pe_int (pa_cons (pe_const T.c_MOST_DEPTH) pa_nil)))) (pg_tup (by rfl) (pgs_cons (pg_name (i := 1) nd rfl (Or.inl rfl)) (pgs_cons (pg_name (i := 2) nd rfl (Or.inl rfl)) pgs_nil))))
      (pss_cons (ps_if (pt_cmpR op_ne (pv 2) (pe_callB call_len_str (by rfl) T.b_len (by decide +kernel) (pa_cons (pv 0) pa_nil)) (nomark _))
        (pss_one ps_never)
        pss_nil)
      (pss_one (ps_ret (pv 1)))))), ?_⟩
    refine ⟨_, rfl, _, _, _, _, true, rfl, .ty _, .base (.str z), kit_ty (by decide +kernel), _, rfl, iteF ?_⟩
    refine ⟨_, rfl, _, rfl, by omega, _, _, rfl, rfl, _, rfl, dF (by omega) ?_⟩
    refine ⟨_, rfl, z, rfl, ?_⟩
    rw [all_pr (by rw [e]; exact enc_pr d hd)]
    refine ⟨_, rfl, iteF ?_⟩
    refine ⟨_, rfl, z, [], [], d, 8, rfl, by rw [e, List.append_nil]; rfl, .inl rfl, hd, by omega, hdep, by omega, fun v p H' s1 r1 h1 => ?_⟩
    refine ⟨p, _, rfl, SqT.of h1, rfl, _, _, rfl, _, _, rfl, rfl, ?_⟩
    refine ⟨_, rfl, _, rfl, _, rfl, by omega, rfl, _, rfl, nF ?_ ⟨_, rfl, q v H' s1 r1⟩⟩
    rw [hl]
    congr 1
    show (0 : Int) + _ = _
    omega
end
end Mus

set_option maxRecDepth 100000
set_option maxHeartbeats 4000000
namespace Mus
open PySem L2 TL PySem.NumText Txt4
local macro_rules | `(tactic| walk_at "rd") => `(tactic| first
  | refine ⟨_, rfl, ?_⟩ | refine ⟨(True.intro : True), ?_⟩
  | refine ⟨_, _, rfl, rfl, (⟨by decide, by decide, by decide⟩ : CPow _ _), ?_⟩
  | refine ⟨_, _, rfl, rfl, (⟨by decide, by decide⟩ : CDiv _ _), ?_⟩
  | refine ⟨_, _, rfl, rfl, (by show (0 : Int) < _; decide), ?_⟩
  | refine ⟨_, _, rfl, rfl, ?_⟩ | refine ⟨rfl, ?_⟩ | refine iteT ?_ | refine iteF ?_ | refine ⟨_, _, rfl, ?_⟩ | refine .inl ⟨_, rfl, ?_⟩
  | refine ⟨_, _, _, _, _, rfl, (by assumption), (by assumption), (by assumption), rfl, ?_⟩ | refine ⟨_, _, _, _, rfl, rfl, SqT.of (by assumption), rfl, ?_⟩ | refine ⟨_, _, rfl, SqT.of (by assumption), rfl, ?_⟩
  | refine ⟨_, _, _, _, _, rfl, .ty _, Rp.ty (by assumption), kit_int _, ?_⟩ | refine ⟨_, _, _, _, _, rfl, .ty _, Rp.ty (by assumption), kit_bool _, ?_⟩
  | refine ⟨_, _, _, _, _, rfl, .ty _, Rp.ty (by assumption), kit_str _, ?_⟩ | refine ⟨_, _, _, _, _, rfl, .ty _, Rp.ty (by assumption), kit_tup _, ?_⟩)
local macro_rules | `(tactic| walk_at "cal") => `(tactic| first
  | refine ⟨_, _, _, _, _, rfl, (by assumption), ?_⟩ | refine ⟨_, _, _, _, _, rfl, (by assumption), (by assumption), ?_⟩)
local macro_rules | `(tactic| walk_at "sq") => `(tactic| first
  | refine ⟨_, _, rfl, Or.inr (SqT.of (by assumption)), ?_⟩ | refine ⟨_, _, _, _, rfl, rfl, SqT.of (by assumption), rfl, ?_⟩)
local macro_rules | `(tactic| walk_at "rds") => `(tactic| repeat first | walk_at "rd" | walk_at "cal" | walk_at "sq")
local macro_rules | `(tactic| walk_at "ze") => `(tactic| repeat first
  | exact zes_nil | exact ze_bl | exact ze_str | exact ze_non | apply zes_cons | apply ze_tup | apply ze_lst | apply ze_cat | exact di_c | exact di_v rfl | apply di_opC | apply di_op | apply di_neg | apply ze_i | (refine (⟨?_, ?_, ?_⟩ : CPow _ _) <;> decide) | exact Nat.le_of_ble_eq_true rfl | exact ze_varD rfl (by assumption))
local macro_rules | `(tactic| walk_at "rdz") => `(tactic| repeat (fail_if_success (first | show tLst _ _ _ _ | show tAsg (tLst _) _ _ _ _ | show tSeq (tAsg (tLst _) _) _ _ _ _)); first | walk_at "rd" | walk_at "cal" | walk_at "sq")
section
variable {P : Program} {w : World} {K : PySem.W.Frag} {mg : Str → Option Value} {base : Heap} {CT : Addr}
abbrev s__law_same : Stmt := top 65
abbrev N__law_same : List Str := ["one", "other", "k"]
abbrev P__law_same : List Str := ["one", "other"]
theorem sc__law_same : FnScope N__law_same P__law_same (defScope s__law_same) := ⟨rfl, rfl, rfl, by decide +kernel, rfl, by decide +kernel, by decide +kernel⟩
def sp__law_same (n : Nat) : Sp := fun vs H Q _ => ∃ (v u : V) (d e : D), vs = [v, u] ∧ Rep H v d ∧ Rep H u e ∧ dep d ≤ n ∧ (enc d).length ≤ 100000 ∧ ∀ b : Bool, (b = true ↔ d = e) → Q (.bl b) H
theorem rep_ty {K : PySem.W.Frag} {H : Hp} {v : V} {d : D} (h : Rep H v d) : (∃ ds, d = .tup ds ∧ TyX K H v (.type "tuple")) ∨ (∃ z, d = .str z ∧ v = .str z) ∨ (∃ i, d = .int i ∧ v = .int i) := by
  cases h with
  | int i => exact .inr (.inr ⟨i, rfl, rfl⟩)
  | str z => exact .inr (.inl ⟨z, rfl, rfl⟩)
  | tup h _ _ => exact .inl ⟨_, rfl, .base (.tup h)⟩
theorem ok__law_same {f : Addr} {fd : FuncData} (T : Tx mg) {n : Nat} (c__law_same : DefOk P w K mg base CX0 "_law_same" P__law_same (1 + n) (spv sp__law_same n))(F : Fun K "_law_same" "_law_same" s__law_same f fd) : FnOk P w K mg base CX0 (1 + n + 1) f fd P__law_same (sp__law_same n) := by
  have nd := sc__law_same.nd
  refine F.ok sc__law_same (fun vs H Q E h => ?_) (fun cdv A outer s H vs Q E hr h => ?_)
  · obtain ⟨_, _, _, _, rfl, _⟩ := h
    rfl
  · obtain ⟨v, u, d, e, rfl, rv, ru, hn, hl, q⟩ := h
    have hs := sl
    refine ⟨_, (pss_cons (ps_if (pt_val (pe_callB call_isi (by rfl) T.b_isinstance (by decide +kernel) (pa_cons (pv 0) (pa_cons (pe_ty "tuple" T.b_tuple) pa_nil))))
        (pss_cons (ps_if (PW.pt (pw_or (pt_not (pt_val (pe_callB call_isi (by rfl) T.b_isinstance (by decide +kernel) (pa_cons (pv 1) (pa_cons (pe_ty "tuple" T.b_tuple) pa_nil))))) (pw_or1 (pt_cmpR op_ne (pe_callB call_len_seq (by rfl) T.b_len (by decide +kernel) (pa_cons (pv 0) pa_nil)) (pe_callB call_len_seq (by rfl) T.b_len (by decide +kernel) (pa_cons (pv 1) pa_nil)) (nomark _)))))
          (pss_one (ps_ret pe_bl))
          pss_nil)
        (pss_cons (ps_for PassesOwn.never rfl (pi_range1 (by rfl) T.b_range (pa_cons (pe_callB call_len_seq (by rfl) T.b_len (by decide +kernel) (pa_cons (pv 0) pa_nil)) pa_nil)) (pg_name (i := 2) nd rfl (Or.inl rfl))
          (pss_one (ps_if (pt_not (pt_val (pcall c__law_same hr (pa_cons (pe_ix ix_tup (pv 0) (pv 2) (fun _ _ => rfl)) (pa_cons (pe_ix ix_tup (pv 1) (pv 2) (fun _ _ => rfl)) pa_nil)))))
            (pss_one (ps_ret pe_bl))
            pss_nil)))
        (pss_one (ps_ret pe_bl))))
        pss_nil)
      (pss_cons (ps_if (pt_val (pe_callB call_isi (by rfl) T.b_isinstance (by decide +kernel) (pa_cons (pv 0) (pa_cons (pe_ty "str" T.b_str) pa_nil))))
        (pss_one (ps_ret (pe_and (pe_callB call_isi (by rfl) T.b_isinstance (by decide +kernel) (pa_cons (pv 1) (pa_cons (pe_ty "str" T.b_str) pa_nil))) (pe_one (pe_cmpR op_eq (pv 0) (pv 1) (nomark _))))))
        pss_nil)
      (pss_one (ps_ret (pe_and (pe_callB call_isi (by rfl) T.b_isinstance (by decide +kernel) (pa_cons (pv 1) (pa_cons (pe_ty "int" T.b_int) pa_nil))) (pe_and (pe_not (pe_callB call_isi (by rfl) T.b_isinstance (by decide +kernel) (pa_cons (pv 1) (pa_cons (pe_ty "bool" T.b_bool) pa_nil)))) (pe_one (pe_cmpR op_eq (pv 0) (pv 1) (nomark _))))))))), ?_⟩
    cases rv with
    | @tup a xs ds ht _ hr1 =>
      refine ⟨_, rfl, _, _, _, _, true, rfl, .ty _, .base (.tup ht), kit_ty (by decide +kernel), _, rfl, iteT ?_⟩
      cases ru with
      | int i =>
        refine ⟨_, rfl, _, _, _, _, false, rfl, .ty _, .base (.int i), kit_ty (by decide +kernel), _, rfl, iteT (iteT ?_)⟩
        exact q false ⟨fun h => (by cases h), fun h => (by cases h)⟩
      | str z =>
        refine ⟨_, rfl, _, _, _, _, false, rfl, .ty _, .base (.str z), kit_ty (by decide +kernel), _, rfl, iteT (iteT ?_)⟩
        exact q false ⟨fun h => (by cases h), fun h => (by cases h)⟩
      | @tup b ys es ht2 _ hr2 =>
        refine ⟨_, rfl, _, _, _, _, true, rfl, .ty _, .base (.tup ht2), kit_ty (by decide +kernel), _, rfl, iteF ?_⟩
        have l1 := hr1.length
        have l2 := hr2.length
        refine ⟨_, rfl, a, xs, rfl, .inr (SqT.of ht), _, rfl, b, ys, rfl, .inr (SqT.of ht2), rfl, _, rfl, ?_⟩
        have hlen : (enc (.tup ds)).length = (encs ds).length + 2 := by rw [enc, List.length_cons, List.length_append, List.length_singleton]
        have hz3 := encs_len ds
        by_cases hle : xs.length = ys.length
        · refine nF (by rw [hle]) ?_
          refine ⟨_, rfl, a, xs, rfl, .inr (SqT.of ht), (xs.length : Int), rfl, by omega, by omega, for_range (lo := 0) (n := ((xs.length : Nat) : Int).toNat) (fun i σ H' => H' = H ∧ ∃ x, σ = [some (.ref a), some (.ref b), x] ∧ ds.take i = es.take i) ⟨rfl, none, rfl, rfl⟩ ?_ ?_⟩
          · rintro i σ H' hi ⟨rfl, x, rfl, et⟩
            have hi1 : i < xs.length := by omega
            have hx : xs[i]? = some xs[i] := List.getElem?_eq_getElem hi1
            have hy : ys[i]? = some ys[i] := List.getElem?_eq_getElem (by omega)
            obtain ⟨d1, hd1, r1⟩ := hr1.at hx
            obtain ⟨e1, he1, r2⟩ := hr2.at hy
            have dd := deps_at hd1
            have hk : dep (.tup ds) = deps ds + 1 := by rw [dep]
            have ed := encs_take hd1
            have ele := encs_take_le ds (i + 1)
            have etl : (encs (ds.take (i + 1))).length = (encs (ds.take i)).length + ((enc d1).length + 1) := by rw [ed, List.length_append, List.length_append, List.length_singleton]
            refine ⟨_, rfl, _, rfl, a, xs, _, xs[i], rfl, rfl, SqT.of ht, (by rw [Int.zero_add]; exact atI_nat hx), _, rfl, _, rfl, b, ys, _, ys[i], rfl, rfl, SqT.of ht2, (by rw [Int.zero_add]; exact atI_nat hy), n - 1, by omega, xs[i], ys[i], d1, e1, rfl, r1, r2, by omega, by omega, fun t ht3 => ⟨_, rfl, ?_⟩⟩
            cases t with
            | true =>
              refine iteF ⟨rfl, _, rfl, ?_⟩
              rw [take_more hd1, take_more he1, et, ht3.mp rfl]
            | false =>
              refine iteT (q false ⟨fun h => (by cases h), fun h => ?_⟩)
              have h2 : ds = es := D.tup.inj h
              rw [h2, he1] at hd1
              have := ht3.mpr (Option.some.inj hd1).symm
              cases this
          · rintro σ H' ⟨rfl, x, rfl, et⟩
            refine q true ⟨fun _ => ?_, fun _ => rfl⟩
            have z1 : ((xs.length : Nat) : Int).toNat = ds.length := by omega
            rw [z1, List.take_length, show ds.length = es.length by omega, List.take_length] at et
            rw [et]
        · refine nT (by intro z; have := V.int.inj z; omega) ?_
          refine q false ⟨fun h => (by cases h), fun h => ?_⟩
          have h2 : ds = es := D.tup.inj h
          rw [h2] at l1
          omega
    | str z =>
      refine ⟨_, rfl, _, _, _, _, false, rfl, .ty _, .base (.str z), kit_ty (by decide +kernel), _, rfl, iteF ?_⟩
      refine ⟨_, rfl, _, _, _, _, true, rfl, .ty _, .base (.str z), kit_ty (by decide +kernel), _, rfl, iteT ?_⟩
      cases ru with
      | int i =>
        refine ⟨_, rfl, _, _, _, _, false, rfl, .ty _, .base (.int i), kit_ty (by decide +kernel), _, rfl, iteF ?_⟩
        exact q false ⟨fun h => (by cases h), fun h => (by cases h)⟩
      | @tup b ys es ht2 _ hr2 =>
        refine ⟨_, rfl, _, _, _, _, false, rfl, .ty _, .base (.tup ht2), kit_ty (by decide +kernel), _, rfl, iteF ?_⟩
        exact q false ⟨fun h => (by cases h), fun h => (by cases h)⟩
      | str y =>
        refine ⟨_, rfl, _, _, _, _, true, rfl, .ty _, .base (.str y), kit_ty (by decide +kernel), _, rfl, iteT ?_⟩
        refine ⟨_, rfl, _, rfl, rfl, q _ ⟨fun h => ?_, fun h => ?_⟩⟩
        · have h2 := of_decide_eq_true h
          rw [V.str.inj h2]
        · rw [D.str.inj h]; exact decide_eq_true rfl
    | int i =>
      refine ⟨_, rfl, _, _, _, _, false, rfl, .ty _, .base (.int i), kit_ty (by decide +kernel), _, rfl, iteF ?_⟩
      refine ⟨_, rfl, _, _, _, _, false, rfl, .ty _, .base (.int i), kit_ty (by decide +kernel), _, rfl, iteF ?_⟩
      cases ru with
      | str z =>
        refine ⟨_, rfl, _, _, _, _, false, rfl, .ty _, .base (.str z), kit_ty (by decide +kernel), _, rfl, iteF ?_⟩
        exact q false ⟨fun h => (by cases h), fun h => (by cases h)⟩
      | @tup b ys es ht2 _ hr2 =>
        refine ⟨_, rfl, _, _, _, _, false, rfl, .ty _, .base (.tup ht2), kit_ty (by decide +kernel), _, rfl, iteF ?_⟩
        exact q false ⟨fun h => (by cases h), fun h => (by cases h)⟩
      | int j =>
        refine ⟨_, rfl, _, _, _, _, true, rfl, .ty _, .base (.int j), kit_ty (by decide +kernel), _, rfl, iteT ?_⟩
        refine ⟨_, rfl, _, _, _, _, false, rfl, .ty _, .base (.int j), kit_ty (by decide +kernel), _, rfl, _, rfl, iteT ?_⟩
        refine ⟨_, rfl, _, rfl, rfl, q _ ⟨fun h => ?_, fun h => ?_⟩⟩
        · have h2 := of_decide_eq_true h
          rw [V.int.inj h2]
        · rw [D.int.inj h]; exact decide_eq_true rfl
def mk_same (T : Tx mg) (aS : DefAt K mg "_law_same" P__law_same s__law_same) : ∀ n : Nat, DefOk P w K mg base CX0 "_law_same" P__law_same (1 + n + 1) (sp__law_same n)
  | 0 =>
    let t : DefOk P w K mg base CX0 "_law_same" P__law_same (1 + 0) (spv sp__law_same 0) := aS.ok fun _ => no_call (by
      rintro vs H Q E ⟨m, h, _⟩
      omega)
    aS.ok fun F => ok__law_same T t F
  | n + 1 =>
    let r := mk_same T aS n
    let t : DefOk P w K mg base CX0 "_law_same" P__law_same (1 + (n + 1)) (spv sp__law_same (n + 1)) := ⟨r.f, r.fd, r.G.imp (by
      rintro vs H Q E ⟨m, h, q⟩
      have e : n = m := by omega
      subst e
      exact q), r.m, r.kp, r.b⟩
    aS.ok fun F => ok__law_same T t F

abbrev s__law_text : Stmt := top 63
abbrev N__law_text : List Str := ["value", "item"]
abbrev P__law_text : List Str := ["value"]
theorem sc__law_text : FnScope N__law_text P__law_text (defScope s__law_text) := ⟨rfl, rfl, rfl, by decide +kernel, rfl, by decide +kernel, by decide +kernel⟩
def sp_ltext (n : Nat) : Sp := fun vs H Q _ => ∃ (v : V) (d : D), vs = [v] ∧ Rep H v d ∧ Txt4.ok d ∧ sml d ∧ dep d ≤ n ∧ (enc d).length ≤ 1000000 ∧ ∀ y H', tl y = enc d → Same H H' → Q (.str y) H'
theorem ok__law_text {f : Addr} {fd : FuncData} (T : Tx mg) {n : Nat} (c__law_text : DefOk P w K mg base CX0 "_law_text" P__law_text (1 + n) (spv sp_ltext n))(F : Fun K "_law_text" "_law_text" s__law_text f fd) : FnOk P w K mg base CX0 (1 + n + 1) f fd P__law_text (sp_ltext n) := by
  have nd := sc__law_text.nd
  refine F.ok sc__law_text (fun vs H Q E h => ?_) (fun cdv A outer s H vs Q E hr h => ?_)
  · obtain ⟨_, _, rfl, _⟩ := h
    rfl
  · obtain ⟨v, d, rfl, hv, hd, hsm, hn, hl, q⟩ := h
    have hs := sl
    refine ⟨_, (pss_cons (ps_if (pt_val (pe_callB call_isi (by rfl) T.b_isinstance (by decide +kernel) (pa_cons (pv 0) (pa_cons (pe_ty "str" T.b_str) pa_nil))))
        (pss_one (ps_ret (pe_op op_add_str (pe_op op_add_str (pe_callTy call_str_int (by rfl) T.b_str (by decide +kernel) (pa_cons (pe_callB call_len_str (by rfl) T.b_len (by decide +kernel) (pa_cons (pv 0) pa_nil)) pa_nil)) pe_str) (pv 0))))
        pss_nil)
      (pss_cons (ps_if (pt_val (pe_callB call_isi (by rfl) T.b_isinstance (by decide +kernel) (pa_cons (pv 0) (pa_cons (pe_ty "tuple" T.b_tuple) pa_nil))))
        (pss_one (ps_ret (pe_op op_add_str (pe_op op_add_str pe_str (pe_join pe_str (pe_lcX (own := [("item", 1)]) rfl nd (pi_tup (pv 0)) (blkOk_by (own := [("item", 1)]) (N := N__law_text) (sc := defScope s__law_text) (by decide +kernel)) (fun _ _ _ _ _ => (pg_name (i := 1) nd rfl (Or.inl rfl))) (fun _ _ _ _ _ => pts_nil) (fun _ _ _ _ _ => (pe_op op_add_str (pcall c__law_text hr (pa_cons (pv 1) pa_nil)) pe_str))))) pe_str)))
        pss_nil)
      (pss_one (ps_ret (pe_callTy call_str_int (by rfl) T.b_str (by decide +kernel) (pa_cons (pv 0) pa_nil)))))), ?_⟩
    cases hv with
    | str z =>
      have hsm : z.length ≤ 1000 := hsm
      have hlt := len_tl z
      refine ⟨_, rfl, _, _, _, _, true, rfl, .ty _, .base (.str z), kit_ty (by decide +kernel), _, rfl, iteT ?_⟩
      refine ⟨_, rfl, ?_⟩
      refine ⟨_, rfl, ?_⟩
      have e1 : tl (Str.ofString (toString (z.length : Int))) = numL (tl z).length := by rw [hlt]; exact tl_num _
      have hnl := numL_len (n := (tl z).length) (k := 4) (by omega) (by omega)
      have l0 : (Str.ofString (toString (z.length : Int))).length ≤ 4 := by rw [len_tl, e1]; exact hnl
      have l1 : (Str.ofString ":").length = 1 := by decide
      refine ⟨by omega, (z.length : Int), rfl, log_small (by omega), _, _, rfl, rfl, by omega, ?_⟩
      refine ⟨_, rfl, _, _, rfl, rfl, ?_, q _ _ ?_ (Same.rfl' H)⟩
      · have : (Str.ofString (toString (z.length : Int)) ++ Str.ofString ":").length ≤ 5 := by
          rw [len_tl, tl_append, List.length_append, ← len_tl, ← len_tl]; omega
        omega
      · rw [tl_append, tl_append, e1, List.append_assoc]; rfl
    | int i =>
      refine ⟨_, rfl, _, _, _, _, false, rfl, .ty _, .base (.int i), kit_ty (by decide +kernel), _, rfl, iteF ?_⟩
      refine ⟨_, rfl, _, _, _, _, false, rfl, .ty _, .base (.int i), kit_ty (by decide +kernel), _, rfl, iteF ?_⟩
      have hd : i.natAbs < 10 ^ 24 := hd
      refine ⟨_, rfl, ?_⟩
      refine ⟨_, rfl, ?_⟩
      exact ⟨log_small (by omega), q _ _ (tl_int i) (Same.rfl' H)⟩
    | @tup a xs ds ht hx hr2 => 
      refine ⟨_, rfl, _, _, _, _, false, rfl, .ty _, .base (.tup ht), kit_ty (by decide +kernel), _, rfl, iteF ?_⟩
      refine ⟨_, rfl, _, _, _, _, true, rfl, .ty _, .base (.tup ht), kit_ty (by decide +kernel), _, rfl, iteT ?_⟩
      have hlen : (enc (.tup ds)).length = (encs ds).length + 2 := by
        rw [enc, List.length_cons, List.length_append, List.length_singleton]
      have lx := hr2.length
      have t2 : tl (Str.ofString ";") = [59] := by decide
      have l2 : (Str.ofString ";").length = 1 := by decide
      walk_at "rds"
      refine ⟨⟨_, rfl⟩, _, rfl, a, rfl, ⟨_, SqT.of ht⟩, fun D nD => ?_⟩
      refine lc_tup (K := K) (a := a) (xs := xs) (fun i H' => ∃ ws : List Str, H' D = some (.lst (ws.map V.str)) ∧ flat ws = encs (ds.take i) ∧ ws.length = i ∧ Same H H') ?_ ?_ ?_ ?_
      · exact ⟨[], upd_same, rfl, rfl, same_new nD _⟩
      · rintro i H' _ ⟨_, _, _, _, s1⟩
        exact SqT.of (s1 _ _ ht)
      · rintro i x H' hi ⟨ws, hD, f1, lw, s1⟩
        obtain ⟨d, hdi, rx⟩ := hr2.at hi
        have hi2 := (List.getElem?_eq_some_iff.mp hi).1
        have dd := deps_at hdi
        have et := encs_take hdi
        have ele := encs_take_le ds (i + 1)
        have etl : (encs (ds.take (i + 1))).length = (encs (ds.take i)).length + ((enc d).length + 1) := by rw [et, List.length_append, List.length_append, List.length_singleton]
        have hk : dep (.tup ds) = deps ds + 1 := by rw [dep]
        refine ⟨rfl, ?_⟩
        refine ⟨_, rfl, ?_⟩
        refine ⟨n - 1, by omega, x, d, rfl, rx.mono (fun b ys h => s1 _ _ h), oks_at hd hdi, smls_at hsm hdi, by omega, by omega, fun y H2 ey s2 => ?_⟩
        have ly : y.length = (enc d).length := by rw [len_tl, ey]
        refine ⟨_, _, rfl, rfl, ?_⟩
        refine ⟨by omega, ?_⟩
        refine ⟨_, s2 _ _ hD, by rw [List.length_map]; omega, ws ++ [y ++ Str.ofString ";"], ?_, ?_, by rw [List.length_append, lw]; rfl, fun b o h => by rw [upd_ne (ne_of_none h nD)]; exact s2 _ _ (s1 _ _ h)⟩
        · rw [upd_same, List.map_append]; rfl
        · rw [flat_append, f1, flat_one, tl_append, ey, t2, et]
      · rintro H' ⟨ws, hD, f1, lw, s1⟩
        rw [lx, List.take_length] at f1
        have z2 := flat_len ws
        have l0 : (Str.ofString "").length = 0 := by decide
        have lj : (Txt.join (Str.ofString "") ws).length = (encs ds).length := by rw [len_tl]; exact congrArg List.length ((tl_glue ws).trans f1)
        have lp : (Str.ofString "(").length = 1 := by decide
        have lq : (Str.ofString ")").length = 1 := by decide
        refine ⟨_, D, ws, rfl, rfl, .inl (SqL.of hD), ?_, ?_⟩
        · rw [z2, f1, l0]; omega
        refine ⟨_, _, rfl, rfl, by omega, ?_⟩
        have lpj : (Str.ofString "(" ++ Txt.join (Str.ofString "") ws).length = 1 + (encs ds).length := by rw [len_tl, tl_append, List.length_append, ← len_tl, ← len_tl]; omega
        refine ⟨_, _, rfl, rfl, by omega, q _ _ ?_ s1⟩
        rw [tl_append, tl_append, show tl (Txt.join (Str.ofString "") ws) = encs ds from (tl_glue ws).trans f1]
        rfl
def mk_text (T : Tx mg) (aS : DefAt K mg "_law_text" P__law_text s__law_text) : ∀ n : Nat, DefOk P w K mg base CX0 "_law_text" P__law_text (1 + n + 1) (sp_ltext n)
  | 0 =>
    let t : DefOk P w K mg base CX0 "_law_text" P__law_text (1 + 0) (spv sp_ltext 0) := aS.ok fun _ => no_call (by
      rintro vs H Q E ⟨m, h, _⟩
      omega)
    aS.ok fun F => ok__law_text T t F
  | n + 1 =>
    let r := mk_text T aS n
    let t : DefOk P w K mg base CX0 "_law_text" P__law_text (1 + (n + 1)) (spv sp_ltext (n + 1)) := ⟨r.f, r.fd, r.G.imp (by
      rintro vs H Q E ⟨m, h, q⟩
      have e : n = m := by omega
      subst e
      exact q), r.m, r.kp, r.b⟩
    aS.ok fun F => ok__law_text T t F
theorem deps_max {ds : List D} {m : Int} (hm : m ∈ 0 :: ds.map fun d => ((dep d : Nat) : Int)) (hle : ∀ y, y ∈ (0 :: ds.map fun d => ((dep d : Nat) : Int)) → y ≤ m) : m = ((deps ds : Nat) : Int) := by
  have up : ∀ {ds : List D}, (∀ d ∈ ds, ((dep d : Nat) : Int) ≤ m) → 0 ≤ m → ((deps ds : Nat) : Int) ≤ m := by
    intro ds
    induction ds with
    | nil => intro _ h; exact h
    | cons d ds ih =>
      intro h h0
      have h1 := h d List.mem_cons_self
      have h2 := ih (fun e he => h e (List.mem_cons_of_mem _ he)) h0
      show ((max (dep d) (deps ds) : Nat) : Int) ≤ m
      omega
  have h1 := up (ds := ds) (fun d hd => hle _ (List.mem_cons_of_mem _ (List.mem_map.mpr ⟨d, hd, rfl⟩))) (hle 0 List.mem_cons_self)
  have h2 : m ≤ ((deps ds : Nat) : Int) := by
    rcases List.mem_cons.mp hm with h | h
    · omega
    · obtain ⟨d, hd, rfl⟩ := List.mem_map.mp h
      obtain ⟨i, hi⟩ := List.getElem?_of_mem hd
      have := deps_at hi
      show ((dep d : Nat) : Int) ≤ _
      omega
  omega
abbrev s__law_depth : Stmt := top 64
abbrev N__law_depth : List Str := ["value", "item"]
abbrev P__law_depth : List Str := ["value"]
theorem sc__law_depth : FnScope N__law_depth P__law_depth (defScope s__law_depth) := ⟨rfl, rfl, rfl, by decide +kernel, rfl, by decide +kernel, by decide +kernel⟩
def sp_ldep (n : Nat) : Sp := fun vs H Q _ => ∃ (v : V) (d : D), vs = [v] ∧ Rep H v d ∧ dep d ≤ n ∧ ∀ H', Same H H' → Q (.int (dep d : Nat)) H'
theorem ok__law_depth {f : Addr} {fd : FuncData} (T : Tx mg) {n : Nat} (c__law_depth : DefOk P w K mg base CX0 "_law_depth" P__law_depth (1 + n) (spv sp_ldep n))(F : Fun K "_law_depth" "_law_depth" s__law_depth f fd) : FnOk P w K mg base CX0 (1 + n + 1) f fd P__law_depth (sp_ldep n) := by
  have nd := sc__law_depth.nd
  refine F.ok sc__law_depth (fun vs H Q E h => ?_) (fun cdv A outer s H vs Q E hr h => ?_)
  · obtain ⟨_, _, rfl, _⟩ := h
    rfl
  · obtain ⟨v, d, rfl, hv, hn, q⟩ := h
    have hs := sl
    refine ⟨_, (pss_cons (ps_if (pt_not (pt_val (pe_callB call_isi (by rfl) T.b_isinstance (by decide +kernel) (pa_cons (pv 0) (pa_cons (pe_ty "tuple" T.b_tuple) pa_nil)))))
        (pss_one (ps_ret pe_int))
        pss_nil)
      (pss_one (ps_ret (pe_op op_add pe_int (pe_callB (cr_max rfl) (by rfl) T.b_max (by decide +kernel) (pa_cons (pe_op op_cat (pe_lst (pa_cons pe_int pa_nil)) (pe_lcX (own := [("item", 1)]) rfl nd (pi_tup (pv 0)) (blkOk_by (own := [("item", 1)]) (N := N__law_depth) (sc := defScope s__law_depth) (by decide +kernel)) (fun _ _ _ _ _ => (pg_name (i := 1) nd rfl (Or.inl rfl))) (fun _ _ _ _ _ => pts_nil) (fun _ _ _ _ _ => (pcall c__law_depth hr (pa_cons (pv 1) pa_nil))))) pa_nil)))))), ?_⟩
    cases hv with
    | str z =>
      refine ⟨_, rfl, _, _, _, _, false, rfl, .ty _, .base (.str z), kit_ty (by decide +kernel), _, rfl, iteT ?_⟩
      exact q H (Same.rfl' H)
    | int i =>
      refine ⟨_, rfl, _, _, _, _, false, rfl, .ty _, .base (.int i), kit_ty (by decide +kernel), _, rfl, iteT ?_⟩
      exact q H (Same.rfl' H)
    | @tup a xs ds ht hx hr2 =>
      refine ⟨_, rfl, _, _, _, _, true, rfl, .ty _, .base (.tup ht), kit_ty (by decide +kernel), _, rfl, iteF ?_⟩
      have lx := hr2.length
      have hk : dep (.tup ds) = deps ds + 1 := by rw [dep]
      refine ⟨by show 1 ≤ sizeLine; omega, fun t nt => ?_⟩
      have st := same_new nt (.lst [V.int 0])
      refine ⟨_, rfl, a, rfl, ⟨_, SqT.of (st _ _ ht)⟩, fun D nD => ?_⟩
      have htl : (upd H t (.lst [V.int 0])) t = some (.lst [V.int 0]) := upd_same
      generalize upd H t (.lst [V.int 0]) = H1 at *
      refine lc_tup (K := K) (a := a) (xs := xs) (fun i H' => H' D = some (.lst ((ds.take i).map fun d => V.int (dep d : Nat))) ∧ Same H1 H') ?_ ?_ ?_ ?_
      · exact ⟨upd_same, same_new nD _⟩
      · rintro i H' _ ⟨_, s1⟩
        exact SqT.of (s1 _ _ (st _ _ ht))
      · rintro i x H' hi ⟨hD, s1⟩
        obtain ⟨d, hdi, rx⟩ := hr2.at hi
        have hi2 := (List.getElem?_eq_some_iff.mp hi).1
        have dd := deps_at hdi
        refine ⟨rfl, ?_⟩
        refine ⟨_, rfl, ?_⟩
        refine ⟨n - 1, by omega, x, d, rfl, rx.mono (fun b ys h => s1 _ _ (st _ _ h)), by omega, fun H2 s2 => ?_⟩
        refine ⟨_, s2 _ _ hD, by rw [List.length_map, List.length_take]; omega, ?_, fun b o h => by rw [upd_ne (ne_of_none h nD)]; exact s2 _ _ (s1 _ _ h)⟩
        rw [upd_same, List.take_succ, hdi, List.map_append]; rfl
      · rintro H' ⟨hD, s1⟩
        rw [lx, List.take_length] at hD
        refine ⟨t, D, _, _, rfl, rfl, s1 _ _ htl, hD, by rw [List.length_map]; show 1 + ds.length ≤ _; omega, fun t2 nt2 => ?_⟩
        have e0 : (upd H' t2 (.lst ([V.int 0] ++ ds.map fun d => V.int (dep d : Nat)))) t2 = some (.lst ((0 :: ds.map fun d => ((dep d : Nat) : Int)).map V.int)) := by
          rw [upd_same, List.map_cons, List.map_map]; rfl
        have s2 := same_new nt2 (.lst ([V.int 0] ++ ds.map fun d => V.int (dep d : Nat)))
        refine ⟨t2, _, rfl, SqL.of e0, by simp, fun m hm hle => ?_⟩
        have e1 : (1 : Int) + m = ((dep (.tup ds) : Nat) : Int) := by
          rw [hk]
          have := deps_max hm hle
          omega
        refine ⟨_, _, rfl, rfl, ?_⟩
        show Q (.int (1 + m)) _
        rw [e1]
        exact q _ (st.trans (s1.trans s2))
def mk_depth (T : Tx mg) (aS : DefAt K mg "_law_depth" P__law_depth s__law_depth) : ∀ n : Nat, DefOk P w K mg base CX0 "_law_depth" P__law_depth (1 + n + 1) (sp_ldep n)
  | 0 =>
    let t : DefOk P w K mg base CX0 "_law_depth" P__law_depth (1 + 0) (spv sp_ldep 0) := aS.ok fun _ => no_call (by
      rintro vs H Q E ⟨m, h, _⟩
      omega)
    aS.ok fun F => ok__law_depth T t F
  | n + 1 =>
    let r := mk_depth T aS n
    let t : DefOk P w K mg base CX0 "_law_depth" P__law_depth (1 + (n + 1)) (spv sp_ldep (n + 1)) := ⟨r.f, r.fd, r.G.imp (by
      rintro vs H Q E ⟨m, h, q⟩
      have e : n = m := by omega
      subst e
      exact q), r.m, r.kp, r.b⟩
    aS.ok fun F => ok__law_depth T t F
end
end Mus

set_option maxRecDepth 100000
set_option maxHeartbeats 4000000
namespace Mus
open PySem L2 TL PySem.NumText Txt4
local macro_rules | `(tactic| walk_at "rd") => `(tactic| first
  | refine ⟨_, rfl, ?_⟩ | refine ⟨(True.intro : True), ?_⟩
  | refine ⟨_, _, rfl, rfl, (⟨by decide, by decide, by decide⟩ : CPow _ _), ?_⟩
  | refine ⟨_, _, rfl, rfl, (⟨by decide, by decide⟩ : CDiv _ _), ?_⟩
  | refine ⟨_, _, rfl, rfl, (by show (0 : Int) < _; decide), ?_⟩
  | refine ⟨_, _, rfl, rfl, ?_⟩ | refine ⟨rfl, ?_⟩ | refine iteT ?_ | refine iteF ?_ | refine ⟨_, _, rfl, ?_⟩ | refine .inl ⟨_, rfl, ?_⟩
  | refine ⟨_, _, _, _, _, rfl, (by assumption), (by assumption), (by assumption), rfl, ?_⟩ | refine ⟨_, _, _, _, rfl, rfl, SqT.of (by assumption), rfl, ?_⟩ | refine ⟨_, _, rfl, SqT.of (by assumption), rfl, ?_⟩
  | refine ⟨_, _, _, _, _, rfl, .ty _, Rp.ty (by assumption), kit_int _, ?_⟩ | refine ⟨_, _, _, _, _, rfl, .ty _, Rp.ty (by assumption), kit_bool _, ?_⟩
  | refine ⟨_, _, _, _, _, rfl, .ty _, Rp.ty (by assumption), kit_str _, ?_⟩ | refine ⟨_, _, _, _, _, rfl, .ty _, Rp.ty (by assumption), kit_tup _, ?_⟩)
local macro_rules | `(tactic| walk_at "cal") => `(tactic| first
  | refine ⟨_, _, _, _, _, rfl, (by assumption), ?_⟩ | refine ⟨_, _, _, _, _, rfl, (by assumption), (by assumption), ?_⟩)
local macro_rules | `(tactic| walk_at "sq") => `(tactic| first
  | refine ⟨_, _, rfl, Or.inr (SqT.of (by assumption)), ?_⟩ | refine ⟨_, _, _, _, rfl, rfl, SqT.of (by assumption), rfl, ?_⟩)
local macro_rules | `(tactic| walk_at "rds") => `(tactic| repeat first | walk_at "rd" | walk_at "cal" | walk_at "sq")
local macro_rules | `(tactic| walk_at "ze") => `(tactic| repeat first
  | exact zes_nil | exact ze_bl | exact ze_str | exact ze_non | apply zes_cons | apply ze_tup | apply ze_lst | apply ze_cat | exact di_c | exact di_v rfl | apply di_opC | apply di_op | apply di_neg | apply ze_i | (refine (⟨?_, ?_, ?_⟩ : CPow _ _) <;> decide) | exact Nat.le_of_ble_eq_true rfl | exact ze_varD rfl (by assumption))
local macro_rules | `(tactic| walk_at "rdz") => `(tactic| repeat (fail_if_success (first | show tLst _ _ _ _ | show tAsg (tLst _) _ _ _ _ | show tSeq (tAsg (tLst _) _) _ _ _ _)); first | walk_at "rd" | walk_at "cal" | walk_at "sq")
section
variable {P : Program} {w : World} {K : PySem.W.Frag} {mg : Str → Option Value} {base : Heap} {CT : Addr}
abbrev s__law_refused : Stmt := top 66
abbrev N__law_refused : List Str := ["letter"]
abbrev P__law_refused : List Str := ["letter"]
theorem sc__law_refused : FnScope N__law_refused P__law_refused (defScope s__law_refused) := ⟨rfl, rfl, rfl, by decide +kernel, rfl, by decide +kernel, by decide +kernel⟩
def sp_lref : Sp := fun vs H Q _ => ∃ (v : V) (d : D), vs = [v] ∧ Rep H v d ∧ Txt4.ok d ∧ sml d ∧ dep d ≤ 8 ∧ 100000 < (enc d).length ∧ ∀ H', Same H H' → Q (.bl true) H'
theorem ok__law_refused {f : Addr} {fd : FuncData} (T : Tt K mg CT) (c_encode : DefOk P w K mg base (L2.CX P w) "encode" P_encode 21 (sp_encode CT)) (F : Fun K "_law_refused" "_law_refused" s__law_refused f fd) : FnOk P w K mg base CX0 22 f fd P__law_refused sp_lref := by
  have nd := sc__law_refused.nd
  refine F.ok sc__law_refused (fun vs H Q E h => ?_) (fun cdv A outer s H vs Q E hr h => ?_)
  · obtain ⟨_, _, rfl, _⟩ := h
    rfl
  · obtain ⟨v, d, rfl, hv, hd, hsm, hdep, hl, q⟩ := h
    have hs := sl
    refine ⟨_, (pss_cons (ps_tryX rfl rfl takes0 (fun W pn xe tk _ => (pss_one (ps_expr (pcallA c_encode tk hr (pa_cons (pv 0) pa_nil)))))
        (hd_one ⟨rfl, by decide, .inl T.g_BadText⟩ (fun a oe cls d pn hz hf => (pss_one (ps_ret pe_bl))) .nil))
      (pss_one (ps_ret pe_bl))), ?_⟩
    refine ⟨_, rfl, ?_⟩
    refine ⟨v, d, rfl, hv, hd, hsm, hdep, fun h => by omega, fun _ H' s1 => ?_⟩
    refine ⟨true, T.m_TT, fun _ a na => ?_, fun h => by cases h⟩
    exact q _ s1
abbrev s__law_right : Stmt := top 67
abbrev N__law_right : List Str := ["count", "letter", "text", "back"]
abbrev P__law_right : List Str := ["count", "letter"]
theorem sc__law_right : FnScope N__law_right P__law_right (defScope s__law_right) := ⟨rfl, rfl, rfl, by decide +kernel, rfl, by decide +kernel, by decide +kernel⟩
def sp_lright : Sp := fun vs H Q _ => ∃ (p : Addr) (n : Int) (v : V) (d : PyData), vs = [.int n, v] ∧ Rp p H v d ∧ isLet (.int n) d = true ∧ Her Ok d ∧ szD d ≤ 1000000 ∧ (∃ o, H p = some o ∧ ∀ xs, o ≠ .tup xs) ∧ ∀ H', Same H H' → Q (.bl true) H'
theorem ok__law_right {f : Addr} {fd : FuncData} (T : Tt K mg CT) (c_is_letter : DefOk P w K mg base CX0 "is_letter" P_is_letter 9 (spHS2 isLet)) (c__law_depth : DefOk P w K mg base CX0 "_law_depth" P__law_depth 8 (sp_ldep 6)) (c__law_text : DefOk P w K mg base CX0 "_law_text" P__law_text 8 (sp_ltext 6)) (c__law_refused : DefOk P w K mg base CX0 "_law_refused" P__law_refused 22 (sp_lref)) (c_encode : DefOk P w K mg base (L2.CX P w) "encode" P_encode 21 (sp_encode CT)) (c_decode : DefOk P w K mg base CX0 "decode" P_decode 21 (sp_decode)) (c__law_same : DefOk P w K mg base CX0 "_law_same" P__law_same 8 (sp__law_same 6))
    (F : Fun K "_law_right" "_law_right" s__law_right f fd) : FnOk P w K mg base CX0 23 f fd P__law_right sp_lright := by
  have nd := sc__law_right.nd
  refine F.ok sc__law_right (fun vs H Q E h => ?_) (fun cdv A outer s H vs Q E hr h => ?_)
  · obtain ⟨_, _, _, _, rfl, _⟩ := h
    rfl
  · obtain ⟨p, n, v, d, rfl, hv, hL, hh, hz, ⟨o, ho, no⟩, q⟩ := h
    have hs := sl
    obtain ⟨e, rfl, hd, hsm, hdep⟩ := let_shp hL
    have hen := enc_sz hd hsm
    have rv := rp_rep hv
    refine ⟨_, (pss_cons (ps_if (PW.pt (pw_or (pt_cmpR op_isnot_bl (pcall c_is_letter hr (pa_cons (pv 0) (pa_cons (pv 1) pa_nil))) pe_bl (nomark _)) (pw_or1 (pt_cmpR op_gt (pcall c__law_depth hr (pa_cons (pv 1) pa_nil)) pe_int (nomark _)))))
        (pss_one (ps_ret pe_bl))
        pss_nil)
      (pss_cons (ps_set (i := 2) nd rfl (Or.inl rfl) (pcall c__law_text hr (pa_cons (pv 1) pa_nil)))
      (pss_cons (ps_if (pt_cmpR op_gt (pe_callB call_len_str (by rfl) T.b_len (by decide +kernel) (pa_cons (pv 2) pa_nil)) pe_int (nomark _))
        (pss_one (ps_ret (pcall c__law_refused hr (pa_cons (pv 1) pa_nil))))
        pss_nil)
      (pss_cons (ps_if (pt_cmpR op_ne (pcallE c_encode takes0 (fun _ _ _ _ h => h) hr (pa_cons (pv 1) pa_nil)) (pv 2) (nomark _))
        (pss_one (ps_ret pe_bl))
        pss_nil)
      (pss_cons (ps_set (i := 3) nd rfl (Or.inl rfl) (pcall c_decode hr (pa_cons (pv 2) pa_nil)))
      (pss_one (ps_ret (pe_and (pcall c__law_same hr (pa_cons (pv 1) (pa_cons (pv 3) pa_nil))) (pe_one (pe_cmpR op_is_bl (pcall c_is_letter hr (pa_cons (pv 0) (pa_cons (pv 3) pa_nil))) pe_bl (nomark _))))))))))), ?_⟩
    refine ⟨_, rfl, ?_⟩
    refine ⟨_, rfl, ?_⟩
    refine ⟨p, .int n, v, .int n, pyD e, rfl, .int n, hv, hh, fun H1 s1 => ?_⟩
    rw [hL]
    refine ⟨_, _, rfl, rfl, ?_⟩
    refine ⟨_, rfl, ?_⟩
    refine ⟨_, rfl, ?_⟩
    have rv1 := rv.mono (fun b xs h => s1 _ _ h)
    refine ⟨v, e, rfl, rv1, hdep, fun H2 s2 => ?_⟩
    refine ⟨_, _, rfl, rfl, ?_⟩
    refine ⟨_, rfl, ?_⟩
    refine dF (by omega) ?_
    refine ⟨_, rfl, ?_⟩
    have s12 := s1.trans s2
    refine ⟨v, e, rfl, rv.mono (fun b xs h => s12 _ _ h), hd, hsm, hdep, by omega, fun y H3 ey s3 => ?_⟩
    have ly : y.length = (enc e).length := by rw [len_tl, ey]
    have s13 := s12.trans s3
    have rv3 := rv.mono (fun b xs h => s13 _ _ h)
    refine ⟨_, rfl, ?_⟩
    refine ⟨_, rfl, ?_⟩
    refine ⟨by omega, ?_⟩
    refine ⟨_, _, rfl, rfl, ?_⟩
    refine ⟨_, rfl, ?_⟩
    by_cases hc : 100000 < (enc e).length
    · refine dT (by omega) ?_
      refine ⟨_, rfl, ?_⟩
      exact ⟨v, e, rfl, rv3, hd, hsm, by omega, hc, fun H4 s4 => q _ (s13.trans s4)⟩
    · refine dF (by omega) ?_
      refine ⟨_, rfl, ?_⟩
      refine ⟨v, e, rfl, rv3, hd, hsm, by omega, fun _ y2 H4 ey2 s4 => ?_, fun h => by omega⟩
      have e2 : y2 = y := ext_tl (ey2.trans ey.symm)
      subst e2
      refine ⟨_, rfl, ?_⟩
      refine ⟨rfl, ?_⟩
      refine ⟨_, rfl, ?_⟩
      refine nF rfl ?_
      refine ⟨_, rfl, ?_⟩
      refine ⟨y2, e, rfl, ey, hd, by omega, by omega, fun v5 H5 s5 r5 => ?_⟩
      have s15 := s13.trans (s4.trans s5)
      refine ⟨_, rfl, ?_⟩
      refine ⟨_, rfl, ?_⟩
      refine ⟨v, v5, e, e, rfl, rv.mono (fun b xs h => s15 _ _ h), r5, hdep, by omega, fun b hb => ?_⟩
      obtain rfl : b = true := hb.mpr rfl
      refine ⟨_, rfl, ?_⟩
      refine ⟨_, rfl, ?_⟩
      refine ⟨_, rfl, ?_⟩
      refine ⟨p, .int n, v5, .int n, pyD e, rfl, .int n, r5.rp (fun xs z => ?_), hh, fun H6 s6 => ?_⟩
      · rw [s15 _ _ ho] at z
        exact no _ (Option.some.inj z)
      · rw [hL]
        exact ⟨_, _, rfl, rfl, q _ (s15.trans s6)⟩
end
end Mus

set_option maxRecDepth 100000
set_option maxHeartbeats 4000000
namespace Mus
open PySem L2 TL PySem.NumText Txt4
local macro_rules | `(tactic| walk_at "rd") => `(tactic| first
  | refine ⟨_, rfl, ?_⟩ | refine ⟨(True.intro : True), ?_⟩
  | refine ⟨_, _, rfl, rfl, (⟨by decide, by decide, by decide⟩ : CPow _ _), ?_⟩
  | refine ⟨_, _, rfl, rfl, (⟨by decide, by decide⟩ : CDiv _ _), ?_⟩
  | refine ⟨_, _, rfl, rfl, (by show (0 : Int) < _; decide), ?_⟩
  | refine ⟨_, _, rfl, rfl, ?_⟩ | refine ⟨rfl, ?_⟩ | refine iteT ?_ | refine iteF ?_ | refine ⟨_, _, rfl, ?_⟩ | refine .inl ⟨_, rfl, ?_⟩
  | refine ⟨_, _, _, _, _, rfl, (by assumption), (by assumption), (by assumption), rfl, ?_⟩ | refine ⟨_, _, _, _, rfl, rfl, SqT.of (by assumption), rfl, ?_⟩ | refine ⟨_, _, rfl, SqT.of (by assumption), rfl, ?_⟩
  | refine ⟨_, _, _, _, _, rfl, .ty _, Rp.ty (by assumption), kit_int _, ?_⟩ | refine ⟨_, _, _, _, _, rfl, .ty _, Rp.ty (by assumption), kit_bool _, ?_⟩
  | refine ⟨_, _, _, _, _, rfl, .ty _, Rp.ty (by assumption), kit_str _, ?_⟩ | refine ⟨_, _, _, _, _, rfl, .ty _, Rp.ty (by assumption), kit_tup _, ?_⟩)
local macro_rules | `(tactic| walk_at "cal") => `(tactic| first
  | refine ⟨_, _, _, _, _, rfl, (by assumption), ?_⟩ | refine ⟨_, _, _, _, _, rfl, (by assumption), (by assumption), ?_⟩)
local macro_rules | `(tactic| walk_at "sq") => `(tactic| first
  | refine ⟨_, _, rfl, Or.inr (SqT.of (by assumption)), ?_⟩ | refine ⟨_, _, _, _, rfl, rfl, SqT.of (by assumption), rfl, ?_⟩)
local macro_rules | `(tactic| walk_at "rds") => `(tactic| repeat first | walk_at "rd" | walk_at "cal" | walk_at "sq")
local macro_rules | `(tactic| walk_at "ze") => `(tactic| repeat first
  | exact zes_nil | exact ze_bl | exact ze_str | exact ze_non | apply zes_cons | apply ze_tup | apply ze_lst | apply ze_cat | exact di_c | exact di_v rfl | apply di_opC | apply di_op | apply di_neg | apply ze_i | (refine (⟨?_, ?_, ?_⟩ : CPow _ _) <;> decide) | exact Nat.le_of_ble_eq_true rfl | exact ze_varD rfl (by assumption))
local macro_rules | `(tactic| walk_at "rdz") => `(tactic| repeat (fail_if_success (first | show tLst _ _ _ _ | show tAsg (tLst _) _ _ _ _ | show tSeq (tAsg (tLst _) _) _ _ _ _)); first | walk_at "rd" | walk_at "cal" | walk_at "sq")
/-! ### a long letter -/
def meD : PyData := .tuple [.int 0, .int 1]
def logD (s : Nat) (z : Str) : List PyData := (List.range s).map fun (i : Nat) => .tuple [meD, .int ((i : Int) + 1), .str z]
theorem logD_snoc (s : Nat) (z : Str) : logD (s + 1) z = logD s z ++ [.tuple [meD, .int ((s : Int) + 1), .str z]] := by
  unfold logD
  rw [List.range_succ, List.map_append]; rfl
theorem logD_len (s : Nat) (z : Str) : (logD s z).length = s := by unfold logD; rw [List.length_map, List.length_range]
theorem logD_cnt (z : Str) : ∀ s : Nat, cnt (logD s z) (0, 1) = s
  | 0 => rfl
  | s + 1 => by
    rw [logD_snoc, cnt_snoc, logD_cnt z s]
    show s + (if ((0 : Int), (1 : Int)) = (0, 1) then 1 else 0) = s + 1
    rw [if_pos rfl]
theorem logD_log {n : Int} (n1 : 1 ≤ n) (n2 : n ≤ 12) {z : Str} (hz : PayOk z) : ∀ s : Nat, s ≤ 100000 → logFrom (.int n) [] (logD s z) = true
  | 0, _ => rfl
  | s + 1, h => by
    rw [logD_snoc, logFrom_snoc, logD_log n1 n2 hz s (by omega), List.nil_append]
    have e1 : isMem (.int n) meD = true := by simp only [meD, isMem, isProc, isInt, Bool.and_eq_true, decide_eq_true_eq]; omega
    have e2 : isInt (.int ((s : Int) + 1)) 1 1000000000000 = true := by simp only [isInt, Bool.and_eq_true, decide_eq_true_eq]; omega
    have e3 : isMsg (.int n) (.tuple [meD, .int ((s : Int) + 1), .str z]) = true := by
      show (isMem _ _ && isInt _ _ _ && isPay _) = true
      rw [e1, e2, hz.pay]; rfl
    rw [e3]
    show (true && (true && decide ((s : Int) + 1 = (cnt (logD s z) (0, 1) : Nat) + 1))) = true
    rw [logD_cnt, decide_eq_true rfl]; rfl
def longD (s : Nat) (z : Str) : PyData := .tuple [.str "state", meD, vD 2 0 1, vD 1 0 1, .tuple (logD s z), .tuple (pendD ((s : Int) + 1) [z])]
theorem long_let {n : Int} (n1 : 1 ≤ n) (n2 : n ≤ 12) {z : Str} (hz : PayOk z) {s : Nat} (hs : s ≤ 100000) : isLet (.int n) (longD s z) = true := by
  have e1 : isMem (.int n) meD = true := by simp only [meD, isMem, isProc, isInt, Bool.and_eq_true, decide_eq_true_eq]; omega
  obtain ⟨pk1, pk2⟩ := pend_is (n := (s : Int) + 1) (zs := [z]) (by omega) (by simp only [List.length_singleton]; omega) (fun y hy => by rw [List.mem_singleton.mp hy]; exact hz)
  show (sevens.contains "state" && isMem (.int n) meD && isVid (.int n) (vD 2 0 1) && (isVid (.int n) (vD 1 0 1) && isLog (.int n) (.tuple (logD s z)) && isPend (.tuple (pendD ((s : Int) + 1) [z])) && firstIs ((cnt (logD s z) (0, 1) : Nat) + 1) (pendD ((s : Int) + 1) [z]))) = true
  rw [logD_cnt, e1, vid_ok n1 n2 (by omega) (by omega) (by omega) (by omega) (by omega) (by omega), vid_ok n1 n2 (by omega) (by omega) (by omega) (by omega) (by omega) (by omega), log_is (logD_log n1 n2 hz s hs), pk1, pk2]
  rfl
theorem me_her : Her Ok meD := two_her (.int _) (.int _)
theorem log_her {z : Str} (hz : PayOk z) (s : Nat) : Her Ok (.tuple (logD s z)) := .tup fun d hd => by
  obtain ⟨i, _, rfl⟩ := List.mem_map.mp hd
  exact three_her me_her (.int _) (.str hz.ok)
theorem long_her {z : Str} (hz : PayOk z) (s : Nat) : Her Ok (longD s z) := .tup (mem_cs (.str ⟨by decide +kernel, by decide +kernel⟩) (mem_cs me_her (mem_cs (two_her (.int _) me_her) (mem_cs (two_her (.int _) me_her) (mem_cs (log_her hz s) (mem_cs (pendD_her fun y hy => by rw [List.mem_singleton.mp hy]; exact hz) mem_nil))))))
theorem long_sz {z : Str} (hz : PayOk z) {s : Nat} (hs : s ≤ 2500) : szD (longD s z) ≤ 1000000 := by
  have h1 : szD (.tuple (logD s z)) ≤ 2500 * (121 + 1) + 2 := szD_le (fun d hd => by
    obtain ⟨i, _, rfl⟩ := List.mem_map.mp hd
    have := hz.1
    simp only [szD, szDs, meD]; omega) (by rw [logD_len]; exact hs)
  have := hz.1
  have e : szD (longD s z) = szD (.str "state") + 1 + (szD meD + 1 + (szD (vD 2 0 1) + 1 + (szD (vD 1 0 1) + 1 + (szD (.tuple (logD s z)) + 1 + (szD (.tuple (pendD ((s : Int) + 1) [z])) + 1 + 0))))) + 2 := rfl
  have e2 : szD (.str "state") = 12 := by decide +kernel
  have e3 : szD (.tuple (pendD ((s : Int) + 1) [z])) = (25 + 1 + (z.length + 7 + 1 + 0) + 2) + 1 + 0 + 2 := rfl
  have e4 : szD meD = 54 := rfl
  have e5 : szD (vD 2 0 1) = 83 := rfl
  have e6 : szD (vD 1 0 1) = 83 := rfl
  omega
def sp_llong : Sp := fun vs H Q _ => ∃ (p : Addr) (c : Int), vs = [.ref p] ∧ Bag p c H ∧ ∀ v s z H', PayOk z → s ≤ 2500 → Rp p H' v (longD s z) → But p H H' → Bag p c H' → Q v H'
section
variable {P : Program} {w : World} {K : PySem.W.Frag} {mg : Str → Option Value} {base : Heap} {CT : Addr}
abbrev s__law_long : Stmt := top 68
abbrev N__law_long : List Str := ["bag", "me", "size", "payload", "log", "k"]
abbrev P__law_long : List Str := ["bag"]
theorem sc__law_long : FnScope N__law_long P__law_long (defScope s__law_long) := ⟨rfl, rfl, rfl, by decide +kernel, rfl, by decide +kernel, by decide +kernel⟩
theorem ok__law_long {f : Addr} {fd : FuncData} (T : Tx mg) (c__law_draw : DefOk P w K mg base CX0 "_law_draw" P__law_draw 1 (sp_draw))(F : Fun K "_law_long" "_law_long" s__law_long f fd) : FnOk P w K mg base CX0 (2) f fd P__law_long (sp_llong) := by
  have nd := sc__law_long.nd
  refine F.ok sc__law_long (fun vs H Q E h => ?_) (fun cdv A outer s H vs Q E hr h => ?_)
  · obtain ⟨_, _, rfl, _⟩ := h
    rfl
  · obtain ⟨p, c, rfl, g, q⟩ := h
    have hs := sl
    refine ⟨_, (pss_cons (ps_set (i := 1) nd rfl (Or.inr rfl) (pe_tup (pa_cons pe_int (pa_cons pe_int pa_nil))))
      (pss_cons (ps_set (i := 2) nd rfl (Or.inl rfl) (pe_op op_add pe_int (pcall c__law_draw hr (pa_cons (pv 0) (pa_cons pe_int pa_nil)))))
      (pss_cons (ps_set (i := 3) nd rfl (Or.inr rfl) (pe_op op_mul_strN pe_str (pcall c__law_draw hr (pa_cons (pv 0) (pa_cons pe_int pa_nil)))))
      (pss_cons (ps_set (i := 4) nd rfl (Or.inl rfl) (pe_callTy call_tuple_of (by rfl) T.b_tuple (by decide +kernel) (pa_cons (pe_lcX (own := [("k", 5)]) rfl nd (pi_range1 (by rfl) T.b_range (pa_cons (pv 2) pa_nil)) (blkOk_by (own := [("k", 5)]) (N := N__law_long) (sc := defScope s__law_long) (by decide +kernel)) (fun _ _ _ _ _ => (pg_name (i := 5) nd rfl (Or.inl rfl))) (fun _ _ _ _ _ => pts_nil) (fun _ _ _ _ _ => (pe_tup (pa_cons (pv 1) (pa_cons (pe_op op_add (pv 5) pe_int) (pa_cons (pv 3) pa_nil)))))) pa_nil)))
      (pss_one (ps_ret (pe_tup (pa_cons pe_str (pa_cons (pv 1) (pa_cons (pe_tup (pa_cons pe_int (pa_cons (pv 1) pa_nil))) (pa_cons (pe_tup (pa_cons pe_int (pa_cons (pv 1) pa_nil))) (pa_cons (pv 4) (pa_cons (pe_tup (pa_cons (pe_tup (pa_cons (pe_op op_add (pv 2) pe_int) (pa_cons (pv 3) pa_nil))) pa_nil)) pa_nil))))))))))))), ?_⟩
    refine ⟨by show 2 ≤ sizeLine; omega, fun me nme => ?_⟩
    have rme := rp_tup (ds := [.int 0, .int 1]) g nme (.cons (.int 0) (.cons (.int 1) .nil))
    have b0 : But p H (upd H me (.tup [V.int 0, .int 1])) := (But.refl _ _).new nme
    have g0 := g.new (o := .tup [V.int 0, .int 1]) nme
    generalize upd H me (.tup [V.int 0, .int 1]) = H0 at *
    refine ⟨_, rfl, ?_⟩
    refine ⟨p, c, _, rfl, g0, by decide, by decide, fun r H1 r0 r1 b1 g1 => ?_⟩
    refine ⟨_, _, rfl, rfl, ?_⟩
    refine ⟨_, rfl, ?_⟩
    refine ⟨p, c, _, rfl, g1, by decide, by decide, fun r2 H2 r20 r21 b2 g2 => ?_⟩
    refine ⟨Str.ofString "x", r2, rfl, rfl, by omega, by omega, by decide, by decide, fun z hz => ?_⟩
    have hzz : tl z = List.replicate r2.toNat 120 := by
      rw [hz, show tl (Str.ofString "x") = [120] by decide, List.flatten_replicate_singleton]
    have hzp : PayOk z := by
      refine ⟨by rw [len_tl, hzz, List.length_replicate]; omega, ?_⟩
      rw [hzz, List.all_eq_true]
      intro x hx
      rw [(List.mem_replicate.mp hx).2]
      decide
    have rm2 := rme.mono (b1.trans b2)
    refine ⟨_, rfl, ?_⟩
    refine ⟨_, rfl, ?_⟩
    refine ⟨by omega, by omega, fun D nD => ?_⟩
    have pD := g2.ne nD
    refine lc_range (lo := 0) (n := (1500 + r).toNat) (fun i H' => ∃ (ws : List V), H' D = some (.lst ws) ∧ Rps p H' ws (logD i z) ∧ Rp p H' (.ref me) meD ∧ But p H H' ∧ Bag p c H') ?_ ?_ ?_
    · exact ⟨[], upd_same, .nil, rm2.same (same_new nD _), (b0.trans (b1.trans b2)).new nD, g2.new nD⟩
    · rintro i H' hi ⟨ws, h1, h4, rm, b3, g3⟩
      refine ⟨rfl, ?_⟩
      refine ⟨_, rfl, ?_⟩
      refine ⟨_, rfl, ?_⟩
      refine ⟨_, _, rfl, rfl, ?_⟩
      refine ⟨_, rfl, ?_⟩
      refine ⟨by show 3 ≤ sizeLine; omega, fun t nt => ?_⟩
      have st := same_new nt (.tup [V.ref me, V.int (0 + (i : Int) + 1), V.str z])
      have h1' := st _ _ h1
      have lw := h4.length
      rw [logD_len] at lw
      have nl : ∀ d ∈ logD (i + 1) z, NoL d := fun d hd => by
        obtain ⟨j, _, rfl⟩ := List.mem_map.mp hd
        exact .three (.two (.int _) (.int _)) (.int _) (.str _)
      have r1 : Rps p (upd H' t (.tup [V.ref me, V.int (0 + (i : Int) + 1), V.str z])) (ws ++ [.ref t]) (logD (i + 1) z) := by
        rw [logD_snoc]
        exact (h4.same st).append (.cons (rp_tup g3 nt (.cons rm (.cons (by rw [Int.zero_add]; exact .int _) (.cons (.str _) .nil)))) .nil)
      refine ⟨ws, h1', by omega, ws ++ [.ref t], upd_same, r1.updL h1' nl, Rp.updL h1' (rm.same st) (.two (.int _) (.int _)), (b3.new nt).later ((b0.trans (b1.trans b2)).free nD pD.symm), (g3.new nt).upd pD⟩
    · rintro H' ⟨ws, h1, h4, rm, b3, g3⟩
      have lw := h4.length
      rw [logD_len] at lw
      walk_at "rds"
      refine ⟨D, ws, rfl, .inl ⟨SqL.of h1, fun a na => ?_⟩⟩
      have ra := rp_tup g3 na h4 (by omega)
      have ba := b3.new (o := .tup ws) na
      have ga := g3.new (o := .tup ws) na
      have rma := rm.same (same_new na (.tup ws))
      generalize upd H' a (.tup ws) = Ha at *
      refine ⟨_, rfl, ?_⟩
      refine ⟨_, rfl, ?_⟩
      refine ⟨by show 2 ≤ sizeLine; omega, fun t1 nt1 => ?_⟩
      have s1 := same_new nt1 (.tup [V.int 2, V.ref me])
      have x1 := rp_tup ga nt1 (.cons (.int 2) (.cons rma .nil))
      have bb1 := ba.new (o := .tup [V.int 2, V.ref me]) nt1
      have gg1 := ga.new (o := .tup [V.int 2, V.ref me]) nt1
      have ra1 := ra.same s1
      have rm1 := rma.same s1
      generalize upd Ha t1 (.tup [V.int 2, V.ref me]) = Hb at *
      refine ⟨_, rfl, ?_⟩
      refine ⟨by show 2 ≤ sizeLine; omega, fun t2 nt2 => ?_⟩
      have s2 := same_new nt2 (.tup [V.int 1, V.ref me])
      have x2 := rp_tup gg1 nt2 (.cons (.int 1) (.cons rm1 .nil))
      have bb2 := bb1.new (o := .tup [V.int 1, V.ref me]) nt2
      have gg2 := gg1.new (o := .tup [V.int 1, V.ref me]) nt2
      have ra2 := ra1.same s2
      have rm3 := rm1.same s2
      have x1' := x1.same s2
      generalize upd Hb t2 (.tup [V.int 1, V.ref me]) = Hc at *
      refine ⟨_, rfl, ?_⟩
      refine ⟨_, rfl, ?_⟩
      refine ⟨_, _, rfl, rfl, ?_⟩
      refine ⟨_, rfl, ?_⟩
      refine ⟨by show 2 ≤ sizeLine; omega, fun t3 nt3 => ?_⟩
      have s3 := same_new nt3 (.tup [V.int (1500 + r + 1), V.str z])
      have x3 := rp_tup gg2 nt3 (.cons (.int (1500 + r + 1)) (.cons (.str z) .nil))
      have bb3 := bb2.new (o := .tup [V.int (1500 + r + 1), V.str z]) nt3
      have gg3 := gg2.new (o := .tup [V.int (1500 + r + 1), V.str z]) nt3
      have ra3 := ra2.same s3
      have rm4 := rm3.same s3
      have x1'' := x1'.same s3
      have x2' := x2.same s3
      generalize upd Hc t3 (.tup [V.int (1500 + r + 1), V.str z]) = Hd at *
      walk_at "rds"
      refine ⟨by show 1 ≤ sizeLine; omega, fun t4 nt4 => ?_⟩
      have s4 := same_new nt4 (.tup [V.ref t3])
      have x4 := rp_tup gg3 nt4 (.cons x3 .nil)
      have bb4 := bb3.new (o := .tup [V.ref t3]) nt4
      have gg4 := gg3.new (o := .tup [V.ref t3]) nt4
      refine ⟨by show 6 ≤ sizeLine; omega, fun t5 nt5 => ?_⟩
      refine q _ (1500 + r).toNat z _ hzp (by omega) ?_ (bb4.new nt5) (gg4.new nt5)
      have e1 : pendD (((1500 + r).toNat : Int) + 1) [z] = [.tuple [.int (1500 + r + 1), .str z]] := by
        show [PyData.tuple [.int (((1500 + r).toNat : Int) + 1), .str z]] = _
        rw [show (((1500 + r).toNat : Nat) : Int) = 1500 + r by omega]
      unfold longD
      rw [e1]
      exact rp_tup gg4 nt5 (.cons (.str _) (.cons (rm4.same s4) (.cons (x1''.same s4) (.cons (x2'.same s4) (.cons (ra3.same s4) (.cons x4 .nil))))))
end
end Mus

set_option maxRecDepth 100000
set_option maxHeartbeats 4000000
namespace Mus
open PySem L2 TL PySem.NumText Txt4
local macro_rules | `(tactic| walk_at "rd") => `(tactic| first
  | refine ⟨_, rfl, ?_⟩ | refine ⟨(True.intro : True), ?_⟩
  | refine ⟨_, _, rfl, rfl, (⟨by decide, by decide, by decide⟩ : CPow _ _), ?_⟩
  | refine ⟨_, _, rfl, rfl, (⟨by decide, by decide⟩ : CDiv _ _), ?_⟩
  | refine ⟨_, _, rfl, rfl, (by show (0 : Int) < _; decide), ?_⟩
  | refine ⟨_, _, rfl, rfl, ?_⟩ | refine ⟨rfl, ?_⟩ | refine iteT ?_ | refine iteF ?_ | refine ⟨_, _, rfl, ?_⟩ | refine .inl ⟨_, rfl, ?_⟩
  | refine ⟨_, _, _, _, _, rfl, (by assumption), (by assumption), (by assumption), rfl, ?_⟩ | refine ⟨_, _, _, _, rfl, rfl, SqT.of (by assumption), rfl, ?_⟩ | refine ⟨_, _, rfl, SqT.of (by assumption), rfl, ?_⟩
  | refine ⟨_, _, _, _, _, rfl, .ty _, Rp.ty (by assumption), kit_int _, ?_⟩ | refine ⟨_, _, _, _, _, rfl, .ty _, Rp.ty (by assumption), kit_bool _, ?_⟩
  | refine ⟨_, _, _, _, _, rfl, .ty _, Rp.ty (by assumption), kit_str _, ?_⟩ | refine ⟨_, _, _, _, _, rfl, .ty _, Rp.ty (by assumption), kit_tup _, ?_⟩)
local macro_rules | `(tactic| walk_at "cal") => `(tactic| first
  | refine ⟨_, _, _, _, _, rfl, (by assumption), ?_⟩ | refine ⟨_, _, _, _, _, rfl, (by assumption), (by assumption), ?_⟩)
local macro_rules | `(tactic| walk_at "sq") => `(tactic| first
  | refine ⟨_, _, rfl, Or.inr (SqT.of (by assumption)), ?_⟩ | refine ⟨_, _, _, _, rfl, rfl, SqT.of (by assumption), rfl, ?_⟩)
local macro_rules | `(tactic| walk_at "rds") => `(tactic| repeat first | walk_at "rd" | walk_at "cal" | walk_at "sq")
local macro_rules | `(tactic| walk_at "ze") => `(tactic| repeat first
  | exact zes_nil | exact ze_bl | exact ze_str | exact ze_non | apply zes_cons | apply ze_tup | apply ze_lst | apply ze_cat | exact di_c | exact di_v rfl | apply di_opC | apply di_op | apply di_neg | apply ze_i | (refine (⟨?_, ?_, ?_⟩ : CPow _ _) <;> decide) | exact Nat.le_of_ble_eq_true rfl | exact ze_varD rfl (by assumption))
local macro_rules | `(tactic| walk_at "rdz") => `(tactic| repeat (fail_if_success (first | show tLst _ _ _ _ | show tAsg (tLst _) _ _ _ _ | show tSeq (tAsg (tLst _) _) _ _ _ _)); first | walk_at "rd" | walk_at "cal" | walk_at "sq")
mutual
theorem pyD_inj : ∀ {d e : D}, pyD d = pyD e → d = e
  | .int i, .int j, h => by injection h with h; rw [h]
  | .str i, .str j, h => by injection h with h; rw [h]
  | .tup ds, .tup es, h => by injection h with h; rw [pyDs_inj h]
  | .int i, .str j, h => by cases h
  | .int i, .tup j, h => by cases h
  | .str i, .int j, h => by cases h
  | .str i, .tup j, h => by cases h
  | .tup i, .int j, h => by cases h
  | .tup i, .str j, h => by cases h
theorem pyDs_inj : ∀ {ds es : List D}, pyDs ds = pyDs es → ds = es
  | [], [], _ => rfl
  | [], e :: es, h => by cases h
  | d :: ds, [], h => by cases h
  | d :: ds, e :: es, h => by
    injection h with h1 h2
    rw [pyD_inj h1, pyDs_inj h2]
end
theorem let_formD {c : PyData} {e : D} (h : isLet c (pyD e) = true) : ∃ z i l e3 es, e = .tup (.str z :: .tup [.int i, .int l] :: e3 :: es) := by
  have key : ∃ z i l x r, pyD e = .tuple (.str z :: .tuple [.int i, .int l] :: x :: r) := by
    unfold isLet at h
    split at h
    · rename_i z m i r hd
      rw [Bool.and_eq_true, Bool.and_eq_true, Bool.and_eq_true] at h
      obtain ⟨_, i0, l0, _, rfl, _⟩ := isMem_int h.1.1.2
      exact ⟨z, i0, l0, _, _, hd⟩
    · cases h
  obtain ⟨z, i, l, x, r, he⟩ := key
  cases e with
  | int => cases he
  | str => cases he
  | tup ds =>
    have he : PyData.tuple (pyDs ds) = .tuple (.str z :: .tuple [.int i, .int l] :: x :: r) := he
    injection he with he
    match ds, he with
    | [], he => cases he
    | [d1], he => injection he with a b; cases b
    | [d1, d2], he => injection he with a b; injection b with b c; cases c
    | d1 :: d2 :: d3 :: es, he =>
      injection he with a b
      injection b with b c
      have a : pyD d1 = pyD (.str z) := a
      have b : pyD d2 = pyD (.tup [.int i, .int l]) := b
      rw [pyD_inj a, pyD_inj b]
      exact ⟨z, i, l, d3, es, rfl⟩
theorem sIx1 (n d : Nat) : HT.sIx (n + 3) d (some 1) = 1 := by
  rw [show (1 : Int) = ((1 : Nat) : Int) from rfl, HT.sIx_nat]; omega
theorem sIx2 (n d : Nat) : HT.sIx (n + 3) d (some 2) = 2 := by
  rw [show (2 : Int) = ((2 : Nat) : Int) from rfl, HT.sIx_nat]; omega
theorem cut1 (x y z : V) (r : List V) : cutV (x :: y :: z :: r) none (some 1) = [x] := by
  unfold cutV
  rw [show (x :: y :: z :: r).length = r.length + 3 from rfl, sIx1]; rfl
theorem cut2 (x y z : V) (r : List V) : cutV (x :: y :: z :: r) (some 2) none = z :: r := by
  unfold cutV
  rw [show (x :: y :: z :: r).length = r.length + 3 from rfl, sIx2]
  show (z :: r).take (r.length + 3 - 2) = z :: r
  exact List.take_of_length_le (by simp)
/-- a row of the law: a letter and its text -/
inductive Row (H : Hp) : V → D → Prop
  | mk {b : Addr} {v : V} {y : Str} {d : D} : H b = some (.tup [v, .str y]) → Rep H v d → Txt4.ok d → tl y = enc d → dep d ≤ 6 → (enc d).length ≤ 100000 → Row H (.ref b) d
theorem Row.mono {H H' : Hp} {v : V} {d : D} (h : Row H v d) (k : ∀ a xs, H a = some (.tup xs) → H' a = some (.tup xs)) : Row H' v d := by
  cases h with
  | mk h1 h2 h3 h4 h5 h6 => exact .mk (k _ _ h1) (h2.mono k) h3 h4 h5 h6
def Rows (H : Hp) (l : Addr) (n : Nat) : Prop := ∃ ts : List V, H l = some (.lst ts) ∧ (∀ t ∈ ts, ∃ d, Row H t d) ∧ ts.length ≤ n
theorem Rows.mono {H H' : Hp} {l : Addr} {n : Nat} (r : Rows H l n) (e : ∀ o, H l = some o → H' l = some o) (k : ∀ a xs, H a = some (.tup xs) → H' a = some (.tup xs)) : Rows H' l n := by
  obtain ⟨ts, h1, h2, h3⟩ := r
  exact ⟨ts, e _ h1, fun t ht => by
    obtain ⟨d, hd⟩ := h2 t ht
    exact ⟨d, hd.mono k⟩, h3⟩
theorem Rows.push {H : Hp} {l : Addr} {n : Nat} {ts : List V} (h1 : H l = some (.lst ts)) (h2 : ∀ t ∈ ts, ∃ d, Row H t d) (h3 : ts.length ≤ n) {v : V} {d : D} (r : Row H v d) : Rows (upd H l (.lst (ts ++ [v]))) l (n + 1) ∧ (∀ a xs, H a = some (HO.tup xs) → (upd H l (.lst (ts ++ [v]))) a = some (.tup xs)) := by
  have k : ∀ a xs, H a = some (HO.tup xs) → (upd H l (.lst (ts ++ [v]))) a = some (.tup xs) := fun a xs h => by rw [upd_ne (ne_of h h1 (by intro z; cases z))]; exact h
  refine ⟨⟨_, upd_same, fun t ht => ?_, by rw [List.length_append]; show _ + 1 ≤ _; omega⟩, k⟩
  rcases List.mem_append.mp ht with ht | ht
  · obtain ⟨d, hd⟩ := h2 t ht
    exact ⟨d, hd.mono k⟩
  · rw [List.mem_singleton.mp ht]; exact ⟨d, r.mono k⟩
theorem Rows.le {H : Hp} {l : Addr} {n m : Nat} (r : Rows H l n) (h : n ≤ m) : Rows H l m := by
  obtain ⟨ts, h1, h2, h3⟩ := r
  exact ⟨ts, h1, h2, by omega⟩
def sp_law (K : PySem.W.Frag) : Sp := fun vs H Q _ => ∃ (a : Addr) (ns : List Int), vs = [.ref a] ∧ SqL K H a (ns.map V.int) ∧ ns.length ≤ 63 ∧ ∀ H', Q (.bl true) H'
section
variable {P : Program} {w : World} {K : PySem.W.Frag} {mg : Str → Option Value} {base : Heap} {CT : Addr}
abbrev s_law : Stmt := top 69
abbrev N_law : List Str := ["script", "rows", "k", "bag", "count", "letter", "near", "one", "other"]
abbrev P_law : List Str := ["script"]
theorem sc_law : FnScope N_law P_law (defScope s_law) := ⟨rfl, rfl, rfl, by decide +kernel, rfl, by decide +kernel, by decide +kernel⟩
theorem ok_law {f : Addr} {fd : FuncData} (T : Tt K mg CT) (c__law_bag : DefOk P w K mg base CX0 "_law_bag" P__law_bag 1 (sp_bag K)) (c__law_draw : DefOk P w K mg base CX0 "_law_draw" P__law_draw 1 (sp_draw)) (c__law_letter : DefOk P w K mg base CX0 "_law_letter" P__law_letter 6 (sp_letter)) (c_is_letter : DefOk P w K mg base CX0 "is_letter" P_is_letter 9 (spHS2 isLet)) (c__law_right : DefOk P w K mg base CX0 "_law_right" P__law_right 23 (sp_lright)) (c_encode : DefOk P w K mg base (L2.CX P w) "encode" P_encode 21 (sp_encode CT)) (c__law_same : DefOk P w K mg base CX0 "_law_same" P__law_same 8 (sp__law_same 6)) (c__law_long : DefOk P w K mg base CX0 "_law_long" P__law_long 2 (sp_llong))
    (F : Fun K "law" "law" s_law f fd) : FnOk P w K mg base CX0 24 f fd P_law (sp_law K) := by
  have nd := sc_law.nd
  refine F.ok sc_law (fun vs H Q E h => ?_) (fun cdv A outer s H vs Q E hr h => ?_)
  · obtain ⟨_, _, rfl, _⟩ := h
    rfl
  · obtain ⟨a, ns, rfl, hS, h63, q⟩ := h
    have hs := sl
    refine ⟨_, (pss_cons (ps_set (i := 1) nd rfl (Or.inl rfl) (pe_lst pa_nil))
      (pss_cons (ps_for PassesOwn.never rfl (pi_range1 (by rfl) T.b_range (pa_cons (pe_callB (call_max2 rfl) (by rfl) T.b_max (by decide +kernel) (pa_cons pe_int (pa_cons (pe_callB (call_min2 rfl) (by rfl) T.b_min (by decide +kernel) (pa_cons pe_int (pa_cons (pe_callB call_len_seq (by rfl) T.b_len (by decide +kernel) (pa_cons (pv 0) pa_nil)) pa_nil))) pa_nil))) pa_nil)) (pg_name (i := 2) nd rfl (Or.inl rfl))
        (pss_cons (ps_set (i := 3) nd rfl (Or.inl rfl) (pcall c__law_bag hr (pa_cons (pv 0) (pa_cons (pv 2) pa_nil))))
        (pss_cons (ps_set (i := 4) nd rfl (Or.inl rfl) (pe_op op_add pe_int (pcall c__law_draw hr (pa_cons (pv 3) (pa_cons pe_int pa_nil)))))
        (pss_cons (ps_set (i := 5) nd rfl (Or.inl rfl) (pcall c__law_letter hr (pa_cons (pv 3) (pa_cons (pv 4) pa_nil))))
        (pss_cons (ps_if (pt_not (pt_val (pcall c__law_right hr (pa_cons (pv 4) (pa_cons (pv 5) pa_nil)))))
          (pss_one (ps_ret pe_bl))
          pss_nil)
        (pss_cons (ps_expr (pe_bm PySem.F.plainAttrs_list PySem.F.slot_list_append PySem.F.type_list_append mt_append (pv 1) (pa_cons (pe_tup (pa_cons (pv 5) (pa_cons (pcallE c_encode takes0 (fun _ _ _ _ h => h) hr (pa_cons (pv 5) pa_nil)) pa_nil))) pa_nil)))
        (pss_cons (ps_set (i := 6) nd rfl (Or.inl rfl) (pe_op op_catA (pe_op op_catA (pe_slice sl_tupA (pv 5) po_none (po_some pe_int)) (pe_tup (pa_cons (pe_tup (pa_cons (pe_ix ix_tup (pe_ix ix_tup (pv 5) pe_int (fun _ _ => rfl)) pe_int (fun _ _ => rfl)) (pa_cons (pe_op op_add (pe_op op_mod (pe_ix ix_tup (pe_ix ix_tup (pv 5) pe_int (fun _ _ => rfl)) pe_int (fun _ _ => rfl)) (pe_op op_pow pe_int pe_int)) pe_int) pa_nil))) pa_nil))) (pe_slice sl_tupA (pv 5) (po_some pe_int) po_none)))
        (pss_one (ps_if (pt_cmpR op_is_bl (pcall c_is_letter hr (pa_cons (pv 4) (pa_cons (pv 6) pa_nil))) pe_bl (nomark _))
          (pss_one (ps_expr (pe_bm PySem.F.plainAttrs_list PySem.F.slot_list_append PySem.F.type_list_append mt_append (pv 1) (pa_cons (pe_tup (pa_cons (pv 6) (pa_cons (pcallE c_encode takes0 (fun _ _ _ _ h => h) hr (pa_cons (pv 6) pa_nil)) pa_nil))) pa_nil))))
          pss_nil)))))))))
      (pss_cons (ps_for PassesOwn.never rfl (pi_list (pv 1)) (pg_name (i := 7) nd rfl (Or.inl rfl))
        (pss_one (ps_for PassesOwn.never rfl (pi_list (pv 1)) (pg_name (i := 8) nd rfl (Or.inl rfl))
          (pss_one (ps_if (pt_cmpR op_ne (pe_cmpR op_eq (pe_ix ix_tup (pv 7) pe_int (fun _ _ => rfl)) (pe_ix ix_tup (pv 8) pe_int (fun _ _ => rfl)) (nomark _)) (pcall c__law_same hr (pa_cons (pe_ix ix_tup (pv 7) pe_int (fun _ _ => rfl)) (pa_cons (pe_ix ix_tup (pv 8) pe_int (fun _ _ => rfl)) pa_nil))) (nomark _))
            (pss_one (ps_ret pe_bl))
            pss_nil)))))
      (pss_cons (ps_set (i := 3) nd rfl (Or.inl rfl) (pcall c__law_bag hr (pa_cons (pv 0) (pa_cons pe_int pa_nil))))
      (pss_one (ps_ret (pe_or (pe_cmpR op_gt (pcall c__law_draw hr (pa_cons (pv 3) (pa_cons pe_int pa_nil))) pe_int (nomark _)) (pe_one (pcall c__law_right hr (pa_cons (pe_op op_add pe_int (pcall c__law_draw hr (pa_cons (pv 3) (pa_cons pe_int pa_nil)))) (pa_cons (pcall c__law_long hr (pa_cons (pv 3) pa_nil)) pa_nil))))))))))), ?_⟩
    have hl : (ns.map V.int).length = ns.length := List.length_map _
    have hj : ∀ L : Int, 0 ≤ L → 0 ≤ (if (if L < 10 then L else 10) > 1 then (if L < 10 then L else 10) else 1) ∧ (if (if L < 10 then L else 10) > 1 then (if L < 10 then L else 10) else 1) ≤ 10 := by
      intro L h
      split <;> split <;> omega
    have hj' := hj (((ns.map V.int).length : Nat) : Int) (by omega)
    refine ⟨by show 0 ≤ sizeLine; omega, fun l nl => ?_⟩
    have s0 := same_new nl (.lst [])
    have hl0 : (upd H l (.lst [])) l = some (.lst []) := upd_same
    generalize upd H l (.lst []) = H0 at *
    refine ⟨_, rfl, ?_⟩
    refine ⟨a, _, rfl, .inl (s0.seq hS), ?_⟩
    refine ⟨_, _, rfl, ?_⟩
    refine ⟨_, _, rfl, ?_⟩
    refine ⟨_, rfl, by omega, by omega, for_range (lo := 0) (fun i σ H' => ∃ (x2 x3 x4 x5 x6 : Option V), σ = [some (.ref a), some (.ref l), x2, x3, x4, x5, x6, none, none] ∧ Same H H' ∧ Rows H' l (2 * i)) ?_ ?_ ?_⟩
    · exact ⟨_, _, _, _, _, rfl, s0, ⟨[], hl0, by simp, Nat.le_refl _⟩⟩
    · rintro i σ H1 hi ⟨x2, x3, x4, x5, x6, rfl, sH, R1⟩
      have hi10 : i < 10 := by omega
      refine ⟨_, rfl, _, rfl, a, ns, i, (by show [V.ref a, V.int (0 + (i : Int))] = _; rw [Int.zero_add]), sH.seq hS, fun p H2 np s2 g2 => ?_⟩
      have pl : p ≠ l := by
        obtain ⟨ts, hts, _⟩ := R1
        exact (ne_of_none hts np).symm
      refine ⟨_, rfl, ?_⟩
      refine ⟨p, _, 12, rfl, g2, by decide, by decide, fun r3 H3 r30 r31 b3 g3 => ?_⟩
      refine ⟨_, _, rfl, rfl, ?_⟩
      refine ⟨_, rfl, ?_⟩
      refine ⟨_, rfl, ?_⟩
      refine ⟨p, _, 1 + r3, rfl, g3, by omega, by omega, fun al dl H4 made r4 b4 g4 => ?_⟩
      have b24 := b3.trans b4
      have sH4 : Same H H4 := fun c o h => b24 c o (s2 c o (sH c o h)) (ne_of_none (sH c o h) np)
      have R4 : Rows H4 l (2 * i) := R1.mono (fun o h => b24 _ _ (s2 _ _ h) pl.symm) (fun c xs h => b24 _ _ (s2 _ _ h) (ne_of_none h np))
      have hLd := made.let_
      obtain ⟨e, rfl, hd, hsm, hdep⟩ := let_shp made.let_
      have hen := enc_sz hd hsm
      have hsz := made.sz
      have hh := made.her
      have rv := rp_rep r4
      obtain ⟨bx, by_, hbg⟩ := id g4
      clear made s2 b3 b4 b24 g2 g3 R1
      refine ⟨_, rfl, ?_⟩
      refine ⟨_, rfl, ?_⟩
      refine ⟨p, _, .ref al, pyD e, rfl, r4, hLd, hh, by omega, ⟨_, hbg, by intro xs z; cases z⟩, fun H5 s5 => ?_⟩
      have sH5 := sH4.trans s5
      have R5 := R4.mono (fun o h => s5 _ _ h) (fun c xs h => s5 _ _ h)
      have rv5 := rv.mono (fun c xs h => s5 _ _ h)
      have hbg5 := s5 _ _ hbg
      clear s5 R4 rv r4 sH4 g4 hbg
      refine ⟨_, rfl, ?_⟩
      refine ⟨_, rfl, ?_⟩
      obtain ⟨ts, hts, hrow, hlen⟩ := R5
      refine ⟨.inl ⟨rfl, _, SqL.of hts⟩, ?_⟩
      refine ⟨_, rfl, ?_⟩
      refine ⟨_, rfl, ?_⟩
      refine ⟨.ref al, e, rfl, rv5, hd, hsm, by omega, fun _ y H6 ey s6 => ?_, fun h => by omega⟩
      refine ⟨by show 2 ≤ sizeLine; omega, fun t nt => ?_⟩
      have st := same_new nt (.tup [V.ref al, V.str y])
      have s7 := s6.trans st
      refine ⟨l, _, _, rfl, rfl, s7 _ _ hts, by omega, ?_⟩
      have rowt : Row (upd H6 t (.tup [V.ref al, V.str y])) (.ref t) e := .mk upd_same (rv5.mono fun c xs h => s7 _ _ h) hd ey hdep (by omega)
      obtain ⟨R8, k8⟩ := Rows.push (s7 _ _ hts) (fun t ht => by
        obtain ⟨d, hd⟩ := hrow t ht
        exact ⟨d, hd.mono fun c xs h => s7 _ _ h⟩) hlen rowt
      have rv8 := rv5.mono (fun c xs h => k8 _ _ (s7 _ _ h))
      have nl0 : ∀ c o, H c = some o → c ≠ l := fun c o h => ne_of_none h nl
      have sH8 : Same H (upd (upd H6 t (.tup [V.ref al, V.str y])) l (.lst (ts ++ [V.ref t]))) := fun c o h => by rw [upd_ne (nl0 c o h)]; exact s7 _ _ (sH5 _ _ h)
      have hbg8 : (upd (upd H6 t (.tup [V.ref al, V.str y])) l (.lst (ts ++ [V.ref t]))) p = some (.lst [V.int bx, V.int by_, V.int i]) := by rw [upd_ne pl]; exact s7 _ _ hbg5
      clear k8 rowt st s6 s7 hts hrow hlen rv5 sH5 hbg5
      generalize upd (upd H6 t (.tup [V.ref al, V.str y])) l (.lst (ts ++ [V.ref t])) = H8 at *
      obtain ⟨z, i0, l0, e3, es, rfl⟩ := let_formD hLd
      obtain _ | _ | @⟨_, xs, _, hal, hxl, hr1⟩ := id rv8
      obtain _ | @⟨v0, _, _, _, h1, _ | @⟨v2, _, _, _, h2, _ | @⟨v3, _, vs, _, h3, hrs⟩⟩⟩ := hr1
      cases h1
      have h2c := h2
      obtain _ | _ | @⟨am, xs2, _, ham, _, hr2⟩ := h2c
      obtain _ | ⟨hx1, _ | ⟨hx2, hn⟩⟩ := hr2
      cases hn
      cases hx1
      cases hx2
      have hvl : vs.length + 3 ≤ 100000 := hxl
      refine ⟨_, rfl, ?_⟩
      refine ⟨_, rfl, ?_⟩
      refine ⟨al, _, rfl, SqT.of hal, fun h => absurd h.2 (by show ¬ (HT.sIx (vs.length + 3) (vs.length + 3) (some 1) = vs.length + 3); rw [sIx1]; omega), fun _ t1 nt1 => ?_⟩
      rw [cut1]
      have s1 := same_new nt1 (.tup [V.str z])
      have ht1 : (upd H8 t1 (.tup [V.str z])) t1 = some (.tup [V.str z]) := upd_same
      generalize upd H8 t1 (.tup [V.str z]) = Ha at *
      have hala := s1 _ _ hal
      have hama := s1 _ _ ham
      have a0 : ∀ (x : V) (r : List V), atI (x :: r) 0 = some x := fun x r => at_int (by decide) rfl
      have a1 : ∀ (x y : V) (r : List V), atI (x :: y :: r) 1 = some y := fun x y r => at_int (by decide) rfl
      refine ⟨_, rfl, ?_⟩
      refine ⟨al, _, _, _, rfl, rfl, SqT.of hala, a1 _ _ _, ?_⟩
      refine ⟨am, _, _, _, rfl, rfl, SqT.of hama, a0 _ _, ?_⟩
      refine ⟨_, rfl, ?_⟩
      refine ⟨al, _, _, _, rfl, rfl, SqT.of hala, a1 _ _ _, ?_⟩
      refine ⟨am, _, _, _, rfl, rfl, SqT.of hama, a1 _ _ _, ?_⟩
      refine ⟨_, _, rfl, rfl, (⟨by decide, by decide, by decide⟩ : CPow _ _), ?_⟩
      refine ⟨_, _, rfl, rfl, (by show (0 : Int) < _; decide), ?_⟩
      refine ⟨_, _, rfl, rfl, ?_⟩
      have hc : (10 : Int) ^ Int.toNat 12 = 1000000000000 := by decide
      obtain ⟨l1, el1, hl1, hl2⟩ : ∃ l1 : Int, l1 = l0 % (10 : Int) ^ Int.toNat 12 + 1 ∧ 1 ≤ l1 ∧ l1 ≤ 1000000000000 := ⟨_, rfl, by rw [hc]; omega, by rw [hc]; omega⟩
      refine ⟨by show 2 ≤ sizeLine; omega, fun t2 nt2 => ?_⟩
      generalize hhb : upd Ha t2 _ = Hb
      have s2 : Same Ha Hb := by subst hhb; exact same_new nt2 _
      have x2 : Rep Hb (.ref t2) (.tup [.int i0, .int l1]) := by subst hhb; exact .tup (by rw [upd_same, el1]) (by show 2 ≤ 100000; decide) (.cons (.int _) (.cons (.int _) .nil))
      clear hhb
      refine ⟨by show 1 ≤ sizeLine; omega, fun t3 nt3 => ?_⟩
      have s3 := same_new nt3 (.tup [V.ref t2])
      have ht3 : (upd Hb t3 (.tup [V.ref t2])) t3 = some (.tup [V.ref t2]) := upd_same
      generalize upd Hb t3 (.tup [V.ref t2]) = Hc at *
      refine ⟨t1, t3, _, _, rfl, rfl, SqT.of (s3 _ _ (s2 _ _ ht1)), SqT.of ht3, by show 1 + 1 ≤ sizeLine; omega, (fun h => by cases h), (fun _ h => by cases h), fun _ _ t4 nt4 => ?_⟩
      have s4 := same_new nt4 (.tup ([V.str z] ++ [V.ref t2]))
      have ht4 : (upd Hc t4 (.tup ([V.str z] ++ [V.ref t2]))) t4 = some (.tup ([V.str z] ++ [V.ref t2])) := upd_same
      generalize upd Hc t4 (.tup ([V.str z] ++ [V.ref t2])) = Hd at *
      refine ⟨_, rfl, ?_⟩
      refine ⟨_, rfl, ?_⟩
      have s14 := s1.trans (s2.trans (s3.trans s4))
      refine ⟨al, _, rfl, SqT.of (s14 _ _ hal), fun h => absurd h.1 (by show ¬ (HT.sIx (vs.length + 3) 0 (some 2) = 0); rw [sIx2]; omega), fun _ t5 nt5 => ?_⟩
      rw [cut2]
      have s5 := same_new nt5 (.tup (v3 :: vs))
      have ht5 : (upd Hd t5 (.tup (v3 :: vs))) t5 = some (.tup (v3 :: vs)) := upd_same
      generalize upd Hd t5 (.tup (v3 :: vs)) = He at *
      refine ⟨t4, t5, _, _, rfl, rfl, SqT.of (s5 _ _ ht4), SqT.of ht5, by show 2 + (vs.length + 1) ≤ sizeLine; omega, (fun h => by cases h), (fun _ h => by cases h), fun _ _ t6 nt6 => ?_⟩
      have s6 := same_new nt6 (.tup (([V.str z] ++ [V.ref t2]) ++ (v3 :: vs)))
      have ht6 : (upd He t6 (.tup (([V.str z] ++ [V.ref t2]) ++ (v3 :: vs)))) t6 = some (.tup (.str z :: .ref t2 :: v3 :: vs)) := upd_same
      generalize upd He t6 (.tup (([V.str z] ++ [V.ref t2]) ++ (v3 :: vs))) = Hf at *
      have s16 := s14.trans (s5.trans s6)
      have s26 := s3.trans (s4.trans (s5.trans s6))
      have rn : Rep Hf (.ref t6) (.tup (.str z :: .tup [.int i0, .int l1] :: e3 :: es)) := .tup ht6 hvl (.cons (.str z) (.cons (x2.mono fun c xs h => s26 _ _ h) (.cons (h3.mono fun c xs h => s16 _ _ h) (hrs.mono fun c xs h => s16 _ _ h))))
      have R16 := R8.mono (fun o h => s16 _ _ h) (fun c xs h => s16 _ _ h)
      have sH16 := sH8.trans s16
      have hbg16 := s16 _ _ hbg8
      have hh' : Her Ok (pyD (.tup (.str z :: .tup [.int i0, .int l1] :: e3 :: es))) := .tup fun d m => by
        rcases List.mem_cons.mp m with rfl | m
        · exact hh.mem _ List.mem_cons_self
        · rcases List.mem_cons.mp m with rfl | m
          · exact two_her (.int _) (.int _)
          · exact hh.mem _ (List.mem_cons_of_mem _ (List.mem_cons_of_mem _ m))
      have hd0 : Txt4.ok (.str z) ∧ Txt4.ok (.tup [.int i0, .int l0]) ∧ Txt4.oks (e3 :: es) := hd
      have hi0 : Txt4.ok (.int i0) ∧ _ := hd0.2.1
      have hd' : Txt4.ok (.tup (.str z :: .tup [.int i0, .int l1] :: e3 :: es)) := ⟨hd0.1, ⟨hi0.1, (by show l1.natAbs < 10 ^ 24; omega), trivial⟩, hd0.2.2⟩
      have hsm' : sml (.tup (.str z :: .tup [.int i0, .int l1] :: e3 :: es)) := hsm
      have hdep' : dep (.tup (.str z :: .tup [.int i0, .int l1] :: e3 :: es)) ≤ 6 := hdep
      have hsz' : szD (pyD (.tup (.str z :: .tup [.int i0, .int l1] :: e3 :: es))) ≤ 70000 := hsz
      have hen' := enc_sz hd' hsm'
      clear s14 s5 s6 s1 s2 s3 s4 s16 s26 ht1 ht3 ht4 ht5 ht6 x2 hala hama hal ham h2 h3 hrs rv8 R8 sH8 hbg8 hd0 hi0 hd hsm hdep hsz hen hh hLd nt1 nt2 nt3 nt4 nt5 nt6
      generalize (D.tup (.str z :: .tup [.int i0, .int l1] :: e3 :: es)) = e' at *
      refine ⟨_, rfl, ?_⟩
      refine ⟨_, rfl, ?_⟩
      refine ⟨p, .int (1 + r3), .ref t6, .int (1 + r3), pyD e', rfl, .int _, rn.rp (fun xs z => by rw [hbg16] at z; cases z), hh', fun H13 s13 => ?_⟩
      have R13 := R16.mono (fun o h => s13 _ _ h) (fun c xs h => s13 _ _ h)
      have sH13 := sH16.trans s13
      have rn13 := rn.mono (fun c xs h => s13 _ _ h)
      clear R16 sH16 rn hbg16 s13
      refine ⟨_, _, rfl, rfl, ?_⟩
      refine ⟨_, rfl, ?_⟩
      refine iB (fun hb => ?_) (fun hb => ?_)
      · walk_at "rds"
        obtain ⟨ts, hts, hrow, hlen⟩ := R13
        refine ⟨.inl ⟨rfl, _, SqL.of hts⟩, ?_⟩
        refine ⟨_, rfl, ?_⟩
        refine ⟨_, rfl, ?_⟩
        refine ⟨.ref t6, e', rfl, rn13, hd', hsm', by omega, fun _ y2 H14 ey2 s14 => ?_, fun h => by omega⟩
        refine ⟨by show 2 ≤ sizeLine; omega, fun t7 nt7 => ?_⟩
        have st := same_new nt7 (.tup [V.ref t6, V.str y2])
        have s7 := s14.trans st
        refine ⟨l, _, _, rfl, rfl, s7 _ _ hts, by omega, ?_⟩
        have rowt : Row (upd H14 t7 (.tup [V.ref t6, V.str y2])) (.ref t7) e' := .mk upd_same (rn13.mono fun c xs h => s7 _ _ h) hd' ey2 hdep' (by omega)
        obtain ⟨R15, _⟩ := Rows.push (s7 _ _ hts) (fun t ht => by
          obtain ⟨d, hd⟩ := hrow t ht
          exact ⟨d, hd.mono fun c xs h => s7 _ _ h⟩) hlen rowt
        exact ⟨_, _, _, _, _, rfl, fun c o h => by rw [upd_ne (nl0 c o h)]; exact s7 _ _ (sH13 _ _ h), R15⟩
      · exact ⟨_, _, _, _, _, rfl, sH13, R13.le (by omega)⟩
    · rintro σ Hs ⟨x2, x3, x4, x5, x6, rfl, sH, ⟨ts, hts, hrow, hlen⟩⟩
      refine ⟨_, rfl, ?_⟩
      refine ⟨_, rfl, ?_⟩
      refine ⟨⟨ts, SqL.of hts⟩, for_list (K := K) (a := l) (xs := ts) (fun i σ H' => H' = Hs ∧ ∃ x7 x8 : Option V, σ = [some (.ref a), some (.ref l), x2, x3, x4, x5, x6, x7, x8]) ⟨rfl, _, _, rfl⟩ ?_ ?_ ?_⟩
      · rintro i σ H' _ ⟨rfl, _⟩
        exact SqL.of hts
      · rintro i t1 σ H' ht1 ⟨rfl, x7, x8, rfl⟩
        obtain ⟨d1, hr1⟩ := hrow t1 (List.mem_of_getElem? ht1)
        cases hr1 with
        | @mk b1 v1 y1 _ h1 r1 o1 e1 p1 l1 =>
        refine ⟨_, rfl, ?_⟩
        refine ⟨_, rfl, ?_⟩
        refine ⟨⟨ts, SqL.of hts⟩, for_list (K := K) (a := l) (xs := ts) (fun j σ H2 => H2 = H' ∧ ∃ x8 : Option V, σ = [some (.ref a), some (.ref l), x2, x3, x4, x5, x6, some (.ref b1), x8]) ⟨rfl, _, rfl⟩ ?_ ?_ ?_⟩
        · rintro j σ H2 _ ⟨rfl, _⟩
          exact SqL.of hts
        · rintro j t2 σ H2 ht2 ⟨rfl, x8, rfl⟩
          obtain ⟨d2, hr2⟩ := hrow t2 (List.mem_of_getElem? ht2)
          cases hr2 with
          | @mk b2 v2 y2 _ h2 r2 o2 e2 p2 l2 =>
          refine ⟨_, rfl, ?_⟩
          refine ⟨_, _, _, _, rfl, rfl, SqT.of (by assumption), rfl, ?_⟩
          refine ⟨_, rfl, ?_⟩
          refine ⟨_, _, _, _, rfl, rfl, SqT.of (by assumption), rfl, ?_⟩
          refine ⟨rfl, ?_⟩
          refine ⟨_, rfl, ?_⟩
          refine ⟨_, _, _, _, rfl, rfl, SqT.of (by assumption), rfl, ?_⟩
          refine ⟨_, rfl, ?_⟩
          refine ⟨_, _, _, _, rfl, rfl, SqT.of (by assumption), rfl, ?_⟩
          refine ⟨v1, v2, d1, d2, rfl, r1, r2, p1, l1, fun t ht => ?_⟩
          refine ⟨rfl, ?_⟩
          refine ⟨_, rfl, ?_⟩
          refine nF ?_ ⟨rfl, _, rfl⟩
          rw [str_eq, e1, e2]
          congr 1
          rw [Bool.eq_iff_iff, decide_eq_true_eq, ht]
          exact ⟨enc_inj, fun h => by rw [h]⟩
        · rintro σ H2 ⟨rfl, x8, rfl⟩
          exact ⟨rfl, _, _, rfl⟩
      · rintro σ H' ⟨rfl, x7, x8, rfl⟩
        refine ⟨_, rfl, ?_⟩
        refine ⟨a, ns, 0, rfl, sH.seq hS, fun p H2 np s2 g2 => ?_⟩
        refine ⟨_, rfl, ?_⟩
        refine ⟨p, _, 16, rfl, g2, by decide, by decide, fun r3 H3 _ _ b3 g3 => ?_⟩
        refine ⟨_, _, rfl, rfl, ?_⟩
        refine ⟨_, rfl, ?_⟩
        refine iB (fun hb => ?_) (fun hb => ?_)
        · exact q _
        · walk_at "rds"
          refine ⟨p, _, 12, rfl, g3, by decide, by decide, fun r4 H4 r40 r41 b4 g4 => ?_⟩
          refine ⟨_, _, rfl, rfl, ?_⟩
          refine ⟨_, rfl, ?_⟩
          refine ⟨p, _, rfl, g4, fun v s z H5 hz hs' rv b5 g5 => ?_⟩
          obtain ⟨bx, by_, hbg⟩ := id g5
          have hLd := long_let (n := 1 + r4) (by omega) (by omega) hz (s := s) (by omega)
          exact ⟨p, 1 + r4, v, _, rfl, rv, hLd, long_her hz s, long_sz hz hs', ⟨_, hbg, by intro xs z; cases z⟩, fun H6 _ => q _⟩
end
end Mus

set_option maxRecDepth 100000
set_option maxHeartbeats 4000000
namespace Mus
open PySem L2
def at_mk {K : PySem.W.Frag} {h : Heap} {mg : Str → Option Value} {x : Str} {ps : List Str} {st : Stmt} {f : Addr} {oc : Value} {od an : Option Addr} {osl : Array (Option Value)} {kV dc pm cd ct : Value} (X : K.In h) (G : h.Ns mainGlobals mg) (a : PySem.W.nsIn K mainGlobals x = some (some (.ref f)))
    (l : K.lookup f = some ⟨oc, od, .func (PySem.W.fnOf x x (defArgs st) (defBody st) (defScope st) .none kV dc pm an cd ct), osl⟩) (c : PySem.W.codeIn K cd x = true) (k : PySem.W.keepIn K (.ref f) = true)
    (hb : ∀ (kV doc pm : Value) (an : Option Addr) (cdv ct : Value) (us : List Value), us.length = ps.length → bindArgs (PySem.W.fnOf x x (defArgs st) (defBody st) (defScope st) .none kV doc pm an cdv ct) ⟨us, []⟩ = pure (ps.zip us)) : DefAt K mg x ps st :=
  ⟨f, _, fun_mk (st := st) l c k, PySem.W.mg_of X G a, (fun_mk (st := st) l c k).binds hb⟩
theorem walk_ofX {l : PySem.W.OpenLaw} {n k : Nat} {q : Program} {loose : List Str} {XP : (Str → Option Value) → Heap → Prop} {YP : World → Heap → Prop} {d : DefRec} {K : Params → PySem.W.Frag} {sp : World → Sp} {x : Str}
    (most : l.most = some n) (few : n ≤ sizeLine) (nod : d.params.defaults = []) (room : Room k callerA) (kin : ∀ (w : World) (h : Heap), YP w h → (K w.params).In h)
    (F : ∀ (w : World) (mg : Str → Option Value) (at1 : Addr) (h : Heap), (K w.params).In h → h.Ns mainGlobals mg → XP mg h → mg d.name = some (.ref at1) →
      ∃ fd : FuncData, (∀ (s : Shared) (u : Value), BindsTo s fd ⟨[u], []⟩ [(x, u)]) ∧ ∀ base : Heap, (K w.params).In base → base.Ns mainGlobals mg → FnOk l.prog w (K w.params) mg base CX0 k at1 fd [x] (sp w))
    (hsp : ∀ (w : World) (H : Hp) (a : Addr) (ns : List Int), ns.length ≤ n → Only H → SqL (K w.params) H a (ns.map V.int) → sp w [.ref a] H (fun v _ => v = .bl true) fun _ _ _ => False) :
    PySem.W.WalkO q loose XP YP l.row.toRowW d [] (fun f vs => PySem.call f vs) := by
  refine Att.attach_call most nod fun w sb sc mg mB at1 o pm1 cd1 doc1 a vs ns G Y ho1 hd1 hc1 hm1 ob1 in1 ln1 hg1 => ?_
  have inK := kin w _ Y
  obtain ⟨fd, bnd, pr⟩ := F w mg at1 _ inK G.T.g G.X hm1
  exact law_call inK G.T.g G.T.b G.T.builtins G.T.nolimit hg1 ob1 in1 (Nat.le_trans ln1 few) room pr bnd (fun H hO hS => hsp w H a ns ln1 hO hS) fun H e s' z => z
theorem loose_int {n : Str} {i : Int} {mg : Str → Option Value} {h : Heap} (x : PySem.W.LooseAre [(n, PySem.W.WData.int i)] mg h) : ∃ t, mg n = some (.int i t) := by
  obtain ⟨v, h1, h2⟩ := x.val _ (List.mem_singleton.mpr rfl)
  cases h2
  exact ⟨_, h1⟩
theorem all_mk {l : PySem.W.OpenLaw} {w : World} {K : PySem.W.Frag} {h : Heap} {mg : Str → Option Value} {fa : Addr} (X : K.In h) (G : h.Ns mainGlobals mg) (hfa : mg "law" = some (.ref fa)) (hL0 : ∃ t, mg "MOST_NUMBER" = some (.int 1000000000000 t))
    {C_BadText : Addr}
    {D__CHECKS : Addr} {es__CHECKS : Array DictEntry} {nE__CHECKS : Nat}
    {odx_is_printable anx_is_printable : Option Addr} {slx_is_printable : Array (Option Value)} {ocx_is_printable kVx_is_printable dcx_is_printable pmx_is_printable cdx_is_printable ctx_is_printable : Value} {fx_is_printable : Addr}
    {odx__is_printable_character anx__is_printable_character : Option Addr} {slx__is_printable_character : Array (Option Value)} {ocx__is_printable_character kVx__is_printable_character dcx__is_printable_character pmx__is_printable_character cdx__is_printable_character ctx__is_printable_character : Value} {fx__is_printable_character : Addr}
    {odx_is_integer anx_is_integer : Option Addr} {slx_is_integer : Array (Option Value)} {ocx_is_integer kVx_is_integer dcx_is_integer pmx_is_integer cdx_is_integer ctx_is_integer : Value} {fx_is_integer : Addr}
    {odx_encode anx_encode : Option Addr} {slx_encode : Array (Option Value)} {ocx_encode kVx_encode dcx_encode pmx_encode cdx_encode ctx_encode : Value} {fx_encode : Addr}
    {odx__write anx__write : Option Addr} {slx__write : Array (Option Value)} {ocx__write kVx__write dcx__write pmx__write cdx__write ctx__write : Value} {fx__write : Addr}
    {odx__write_tuple anx__write_tuple : Option Addr} {slx__write_tuple : Array (Option Value)} {ocx__write_tuple kVx__write_tuple dcx__write_tuple pmx__write_tuple cdx__write_tuple ctx__write_tuple : Value} {fx__write_tuple : Addr}
    {odx__put anx__put : Option Addr} {slx__put : Array (Option Value)} {ocx__put kVx__put dcx__put pmx__put cdx__put ctx__put : Value} {fx__put : Addr}
    {odx__string_text anx__string_text : Option Addr} {slx__string_text : Array (Option Value)} {ocx__string_text kVx__string_text dcx__string_text pmx__string_text cdx__string_text ctx__string_text : Value} {fx__string_text : Addr}
    {odx__integer_text anx__integer_text : Option Addr} {slx__integer_text : Array (Option Value)} {ocx__integer_text kVx__integer_text dcx__integer_text pmx__integer_text cdx__integer_text ctx__integer_text : Value} {fx__integer_text : Addr}
    {odx_decode anx_decode : Option Addr} {slx_decode : Array (Option Value)} {ocx_decode kVx_decode dcx_decode pmx_decode cdx_decode ctx_decode : Value} {fx_decode : Addr}
    {odx__read anx__read : Option Addr} {slx__read : Array (Option Value)} {ocx__read kVx__read dcx__read pmx__read cdx__read ctx__read : Value} {fx__read : Addr}
    {odx__read_tuple anx__read_tuple : Option Addr} {slx__read_tuple : Array (Option Value)} {ocx__read_tuple kVx__read_tuple dcx__read_tuple pmx__read_tuple cdx__read_tuple ctx__read_tuple : Value} {fx__read_tuple : Addr}
    {odx__read_characters anx__read_characters : Option Addr} {slx__read_characters : Array (Option Value)} {ocx__read_characters kVx__read_characters dcx__read_characters pmx__read_characters cdx__read_characters ctx__read_characters : Value} {fx__read_characters : Addr}
    {odx__read_integer anx__read_integer : Option Addr} {slx__read_integer : Array (Option Value)} {ocx__read_integer kVx__read_integer dcx__read_integer pmx__read_integer cdx__read_integer ctx__read_integer : Value} {fx__read_integer : Addr}
    {odx__digits_end anx__digits_end : Option Addr} {slx__digits_end : Array (Option Value)} {ocx__digits_end kVx__digits_end dcx__digits_end pmx__digits_end cdx__digits_end ctx__digits_end : Value} {fx__digits_end : Addr}
    {odx_is_process anx_is_process : Option Addr} {slx_is_process : Array (Option Value)} {ocx_is_process kVx_is_process dcx_is_process pmx_is_process cdx_is_process ctx_is_process : Value} {fx_is_process : Addr}
    {odx_is_member anx_is_member : Option Addr} {slx_is_member : Array (Option Value)} {ocx_is_member kVx_is_member dcx_is_member pmx_is_member cdx_is_member ctx_is_member : Value} {fx_is_member : Addr}
    {odx_is_members anx_is_members : Option Addr} {slx_is_members : Array (Option Value)} {ocx_is_members kVx_is_members dcx_is_members pmx_is_members cdx_is_members ctx_is_members : Value} {fx_is_members : Addr}
    {odx_is_view_id anx_is_view_id : Option Addr} {slx_is_view_id : Array (Option Value)} {ocx_is_view_id kVx_is_view_id dcx_is_view_id pmx_is_view_id cdx_is_view_id ctx_is_view_id : Value} {fx_is_view_id : Addr}
    {odx_is_payload anx_is_payload : Option Addr} {slx_is_payload : Array (Option Value)} {ocx_is_payload kVx_is_payload dcx_is_payload pmx_is_payload cdx_is_payload ctx_is_payload : Value} {fx_is_payload : Addr}
    {odx_is_message anx_is_message : Option Addr} {slx_is_message : Array (Option Value)} {ocx_is_message kVx_is_message dcx_is_message pmx_is_message cdx_is_message ctx_is_message : Value} {fx_is_message : Addr}
    {odx_is_log anx_is_log : Option Addr} {slx_is_log : Array (Option Value)} {ocx_is_log kVx_is_log dcx_is_log pmx_is_log cdx_is_log ctx_is_log : Value} {fx_is_log : Addr}
    {odx_last_index anx_last_index : Option Addr} {slx_last_index : Array (Option Value)} {ocx_last_index kVx_last_index dcx_last_index pmx_last_index cdx_last_index ctx_last_index : Value} {fx_last_index : Addr}
    {odx_is_pending anx_is_pending : Option Addr} {slx_is_pending : Array (Option Value)} {ocx_is_pending kVx_is_pending dcx_is_pending pmx_is_pending cdx_is_pending ctx_is_pending : Value} {fx_is_pending : Addr}
    {odx__is_pending_cast anx__is_pending_cast : Option Addr} {slx__is_pending_cast : Array (Option Value)} {ocx__is_pending_cast kVx__is_pending_cast dcx__is_pending_cast pmx__is_pending_cast cdx__is_pending_cast ctx__is_pending_cast : Value} {fx__is_pending_cast : Addr}
    {odx__is_here anx__is_here : Option Addr} {slx__is_here : Array (Option Value)} {ocx__is_here kVx__is_here dcx__is_here pmx__is_here cdx__is_here ctx__is_here : Value} {fx__is_here : Addr}
    {odx__is_cast anx__is_cast : Option Addr} {slx__is_cast : Array (Option Value)} {ocx__is_cast kVx__is_cast dcx__is_cast pmx__is_cast cdx__is_cast ctx__is_cast : Value} {fx__is_cast : Addr}
    {odx__is_order anx__is_order : Option Addr} {slx__is_order : Array (Option Value)} {ocx__is_order kVx__is_order dcx__is_order pmx__is_order cdx__is_order ctx__is_order : Value} {fx__is_order : Addr}
    {odx__is_propose anx__is_propose : Option Addr} {slx__is_propose : Array (Option Value)} {ocx__is_propose kVx__is_propose dcx__is_propose pmx__is_propose cdx__is_propose ctx__is_propose : Value} {fx__is_propose : Addr}
    {odx__is_state anx__is_state : Option Addr} {slx__is_state : Array (Option Value)} {ocx__is_state kVx__is_state dcx__is_state pmx__is_state cdx__is_state ctx__is_state : Value} {fx__is_state : Addr}
    {odx__is_install anx__is_install : Option Addr} {slx__is_install : Array (Option Value)} {ocx__is_install kVx__is_install dcx__is_install pmx__is_install cdx__is_install ctx__is_install : Value} {fx__is_install : Addr}
    {odx__is_higher anx__is_higher : Option Addr} {slx__is_higher : Array (Option Value)} {ocx__is_higher kVx__is_higher dcx__is_higher pmx__is_higher cdx__is_higher ctx__is_higher : Value} {fx__is_higher : Addr}
    {odx__is_place anx__is_place : Option Addr} {slx__is_place : Array (Option Value)} {ocx__is_place kVx__is_place dcx__is_place pmx__is_place cdx__is_place ctx__is_place : Value} {fx__is_place : Addr}
    {odx__is_finals anx__is_finals : Option Addr} {slx__is_finals : Array (Option Value)} {ocx__is_finals kVx__is_finals dcx__is_finals pmx__is_finals cdx__is_finals ctx__is_finals : Value} {fx__is_finals : Addr}
    {odx__is_final anx__is_final : Option Addr} {slx__is_final : Array (Option Value)} {ocx__is_final kVx__is_final dcx__is_final pmx__is_final cdx__is_final ctx__is_final : Value} {fx__is_final : Addr}
    {odx_is_letter anx_is_letter : Option Addr} {slx_is_letter : Array (Option Value)} {ocx_is_letter kVx_is_letter dcx_is_letter pmx_is_letter cdx_is_letter ctx_is_letter : Value} {fx_is_letter : Addr}
    {odx__law_bag anx__law_bag : Option Addr} {slx__law_bag : Array (Option Value)} {ocx__law_bag kVx__law_bag dcx__law_bag pmx__law_bag cdx__law_bag ctx__law_bag : Value} {fx__law_bag : Addr}
    {odx__law_draw anx__law_draw : Option Addr} {slx__law_draw : Array (Option Value)} {ocx__law_draw kVx__law_draw dcx__law_draw pmx__law_draw cdx__law_draw ctx__law_draw : Value} {fx__law_draw : Addr}
    {odx__law_positive anx__law_positive : Option Addr} {slx__law_positive : Array (Option Value)} {ocx__law_positive kVx__law_positive dcx__law_positive pmx__law_positive cdx__law_positive ctx__law_positive : Value} {fx__law_positive : Addr}
    {odx__law_member anx__law_member : Option Addr} {slx__law_member : Array (Option Value)} {ocx__law_member kVx__law_member dcx__law_member pmx__law_member cdx__law_member ctx__law_member : Value} {fx__law_member : Addr}
    {odx__law_members anx__law_members : Option Addr} {slx__law_members : Array (Option Value)} {ocx__law_members kVx__law_members dcx__law_members pmx__law_members cdx__law_members ctx__law_members : Value} {fx__law_members : Addr}
    {odx__law_id anx__law_id : Option Addr} {slx__law_id : Array (Option Value)} {ocx__law_id kVx__law_id dcx__law_id pmx__law_id cdx__law_id ctx__law_id : Value} {fx__law_id : Addr}
    {odx__law_payload anx__law_payload : Option Addr} {slx__law_payload : Array (Option Value)} {ocx__law_payload kVx__law_payload dcx__law_payload pmx__law_payload cdx__law_payload ctx__law_payload : Value} {fx__law_payload : Addr}
    {odx__law_log anx__law_log : Option Addr} {slx__law_log : Array (Option Value)} {ocx__law_log kVx__law_log dcx__law_log pmx__law_log cdx__law_log ctx__law_log : Value} {fx__law_log : Addr}
    {odx__law_pending anx__law_pending : Option Addr} {slx__law_pending : Array (Option Value)} {ocx__law_pending kVx__law_pending dcx__law_pending pmx__law_pending cdx__law_pending ctx__law_pending : Value} {fx__law_pending : Addr}
    {odx__law_count anx__law_count : Option Addr} {slx__law_count : Array (Option Value)} {ocx__law_count kVx__law_count dcx__law_count pmx__law_count cdx__law_count ctx__law_count : Value} {fx__law_count : Addr}
    {odx__law_finals anx__law_finals : Option Addr} {slx__law_finals : Array (Option Value)} {ocx__law_finals kVx__law_finals dcx__law_finals pmx__law_finals cdx__law_finals ctx__law_finals : Value} {fx__law_finals : Addr}
    {odx__law_letter anx__law_letter : Option Addr} {slx__law_letter : Array (Option Value)} {ocx__law_letter kVx__law_letter dcx__law_letter pmx__law_letter cdx__law_letter ctx__law_letter : Value} {fx__law_letter : Addr}
    {odx__law_text anx__law_text : Option Addr} {slx__law_text : Array (Option Value)} {ocx__law_text kVx__law_text dcx__law_text pmx__law_text cdx__law_text ctx__law_text : Value} {fx__law_text : Addr}
    {odx__law_depth anx__law_depth : Option Addr} {slx__law_depth : Array (Option Value)} {ocx__law_depth kVx__law_depth dcx__law_depth pmx__law_depth cdx__law_depth ctx__law_depth : Value} {fx__law_depth : Addr}
    {odx__law_same anx__law_same : Option Addr} {slx__law_same : Array (Option Value)} {ocx__law_same kVx__law_same dcx__law_same pmx__law_same cdx__law_same ctx__law_same : Value} {fx__law_same : Addr}
    {odx__law_refused anx__law_refused : Option Addr} {slx__law_refused : Array (Option Value)} {ocx__law_refused kVx__law_refused dcx__law_refused pmx__law_refused cdx__law_refused ctx__law_refused : Value} {fx__law_refused : Addr}
    {odx__law_right anx__law_right : Option Addr} {slx__law_right : Array (Option Value)} {ocx__law_right kVx__law_right dcx__law_right pmx__law_right cdx__law_right ctx__law_right : Value} {fx__law_right : Addr}
    {odx__law_long anx__law_long : Option Addr} {slx__law_long : Array (Option Value)} {ocx__law_long kVx__law_long dcx__law_long pmx__law_long cdx__law_long ctx__law_long : Value} {fx__law_long : Addr}
    {odx_law anx_law : Option Addr} {slx_law : Array (Option Value)} {ocx_law kVx_law dcx_law pmx_law cdx_law ctx_law : Value} {fx_law : Addr}
    {t_REFUSED_CODE : Tok}
    {tMOST_PROCESSES : Tok}
    {tMOST_PAYLOAD : Tok}
    {tMOST_DIGITS : Tok}
    {tMOST_DEPTH : Tok}
    {tMOST_LENGTH : Tok}
    (aC_BadText : PySem.W.nsIn K mainGlobals "BadText" = some (some (.ref C_BadText)))
    (x_BadText : PySem.W.excIn K C_BadText [.type "ValueError", .type "Exception", .type "BaseException", .type "object"] "ValueError.__new__" = true)
    (k_BadText : PySem.W.keepIn K (.ref C_BadText) = true)
    (b_BadText : PySem.W.subIn K (.ref C_BadText) (.type "BaseException") = some true)
    (t_BadText : PySem.W.typeIn K (.ref C_BadText) = some (.type "type"))
    (aD__CHECKS : PySem.W.nsIn K mainGlobals "_CHECKS" = some (some (.ref D__CHECKS)))
    (lD__CHECKS : K.lookup D__CHECKS = some ⟨.type "dict", none, .dict es__CHECKS nE__CHECKS, #[]⟩)
    (kD__CHECKS : PySem.W.KeysLit w.params es__CHECKS.toList)
    (zD__CHECKS : (D__CHECKS == sysModules) = false)
    (e0__CHECKS : PySem.W.nsIn K D__CHECKS "here" = some (some (.ref fx__is_here)))
    (e1__CHECKS : PySem.W.nsIn K D__CHECKS "cast" = some (some (.ref fx__is_cast)))
    (e2__CHECKS : PySem.W.nsIn K D__CHECKS "order" = some (some (.ref fx__is_order)))
    (e3__CHECKS : PySem.W.nsIn K D__CHECKS "propose" = some (some (.ref fx__is_propose)))
    (e4__CHECKS : PySem.W.nsIn K D__CHECKS "state" = some (some (.ref fx__is_state)))
    (e5__CHECKS : PySem.W.nsIn K D__CHECKS "install" = some (some (.ref fx__is_install)))
    (e6__CHECKS : PySem.W.nsIn K D__CHECKS "higher" = some (some (.ref fx__is_higher)))
    (kt : es__CHECKS.toList.map keyT = sevens.map some)
    (m_TT : PySem.W.exmOne K (.ref C_BadText) (.ref C_BadText) = some true)
    (ax_is_printable : PySem.W.nsIn K mainGlobals "is_printable" = some (some (.ref fx_is_printable)))
    (lx_is_printable : K.lookup fx_is_printable = some ⟨ocx_is_printable, odx_is_printable, .func (PySem.W.fnOf "is_printable" "is_printable" (defArgs s_is_printable) (defBody s_is_printable) (defScope s_is_printable) .none kVx_is_printable dcx_is_printable pmx_is_printable anx_is_printable cdx_is_printable ctx_is_printable), slx_is_printable⟩)
    (cx_is_printable : PySem.W.codeIn K cdx_is_printable "is_printable" = true)
    (kx_is_printable : PySem.W.keepIn K (.ref fx_is_printable) = true)
    (ax__is_printable_character : PySem.W.nsIn K mainGlobals "_is_printable_character" = some (some (.ref fx__is_printable_character)))
    (lx__is_printable_character : K.lookup fx__is_printable_character = some ⟨ocx__is_printable_character, odx__is_printable_character, .func (PySem.W.fnOf "_is_printable_character" "_is_printable_character" (defArgs s__is_printable_character) (defBody s__is_printable_character) (defScope s__is_printable_character) .none kVx__is_printable_character dcx__is_printable_character pmx__is_printable_character anx__is_printable_character cdx__is_printable_character ctx__is_printable_character), slx__is_printable_character⟩)
    (cx__is_printable_character : PySem.W.codeIn K cdx__is_printable_character "_is_printable_character" = true)
    (kx__is_printable_character : PySem.W.keepIn K (.ref fx__is_printable_character) = true)
    (ax_is_integer : PySem.W.nsIn K mainGlobals "is_integer" = some (some (.ref fx_is_integer)))
    (lx_is_integer : K.lookup fx_is_integer = some ⟨ocx_is_integer, odx_is_integer, .func (PySem.W.fnOf "is_integer" "is_integer" (defArgs s_is_integer) (defBody s_is_integer) (defScope s_is_integer) .none kVx_is_integer dcx_is_integer pmx_is_integer anx_is_integer cdx_is_integer ctx_is_integer), slx_is_integer⟩)
    (cx_is_integer : PySem.W.codeIn K cdx_is_integer "is_integer" = true)
    (kx_is_integer : PySem.W.keepIn K (.ref fx_is_integer) = true)
    (ax_encode : PySem.W.nsIn K mainGlobals "encode" = some (some (.ref fx_encode)))
    (lx_encode : K.lookup fx_encode = some ⟨ocx_encode, odx_encode, .func (PySem.W.fnOf "encode" "encode" (defArgs s_encode) (defBody s_encode) (defScope s_encode) .none kVx_encode dcx_encode pmx_encode anx_encode cdx_encode ctx_encode), slx_encode⟩)
    (cx_encode : PySem.W.codeIn K cdx_encode "encode" = true)
    (kx_encode : PySem.W.keepIn K (.ref fx_encode) = true)
    (ax__write : PySem.W.nsIn K mainGlobals "_write" = some (some (.ref fx__write)))
    (lx__write : K.lookup fx__write = some ⟨ocx__write, odx__write, .func (PySem.W.fnOf "_write" "_write" (defArgs s__write) (defBody s__write) (defScope s__write) .none kVx__write dcx__write pmx__write anx__write cdx__write ctx__write), slx__write⟩)
    (cx__write : PySem.W.codeIn K cdx__write "_write" = true)
    (kx__write : PySem.W.keepIn K (.ref fx__write) = true)
    (ax__write_tuple : PySem.W.nsIn K mainGlobals "_write_tuple" = some (some (.ref fx__write_tuple)))
    (lx__write_tuple : K.lookup fx__write_tuple = some ⟨ocx__write_tuple, odx__write_tuple, .func (PySem.W.fnOf "_write_tuple" "_write_tuple" (defArgs s__write_tuple) (defBody s__write_tuple) (defScope s__write_tuple) .none kVx__write_tuple dcx__write_tuple pmx__write_tuple anx__write_tuple cdx__write_tuple ctx__write_tuple), slx__write_tuple⟩)
    (cx__write_tuple : PySem.W.codeIn K cdx__write_tuple "_write_tuple" = true)
    (kx__write_tuple : PySem.W.keepIn K (.ref fx__write_tuple) = true)
    (ax__put : PySem.W.nsIn K mainGlobals "_put" = some (some (.ref fx__put)))
    (lx__put : K.lookup fx__put = some ⟨ocx__put, odx__put, .func (PySem.W.fnOf "_put" "_put" (defArgs s__put) (defBody s__put) (defScope s__put) .none kVx__put dcx__put pmx__put anx__put cdx__put ctx__put), slx__put⟩)
    (cx__put : PySem.W.codeIn K cdx__put "_put" = true)
    (kx__put : PySem.W.keepIn K (.ref fx__put) = true)
    (ax__string_text : PySem.W.nsIn K mainGlobals "_string_text" = some (some (.ref fx__string_text)))
    (lx__string_text : K.lookup fx__string_text = some ⟨ocx__string_text, odx__string_text, .func (PySem.W.fnOf "_string_text" "_string_text" (defArgs s__string_text) (defBody s__string_text) (defScope s__string_text) .none kVx__string_text dcx__string_text pmx__string_text anx__string_text cdx__string_text ctx__string_text), slx__string_text⟩)
    (cx__string_text : PySem.W.codeIn K cdx__string_text "_string_text" = true)
    (kx__string_text : PySem.W.keepIn K (.ref fx__string_text) = true)
    (ax__integer_text : PySem.W.nsIn K mainGlobals "_integer_text" = some (some (.ref fx__integer_text)))
    (lx__integer_text : K.lookup fx__integer_text = some ⟨ocx__integer_text, odx__integer_text, .func (PySem.W.fnOf "_integer_text" "_integer_text" (defArgs s__integer_text) (defBody s__integer_text) (defScope s__integer_text) .none kVx__integer_text dcx__integer_text pmx__integer_text anx__integer_text cdx__integer_text ctx__integer_text), slx__integer_text⟩)
    (cx__integer_text : PySem.W.codeIn K cdx__integer_text "_integer_text" = true)
    (kx__integer_text : PySem.W.keepIn K (.ref fx__integer_text) = true)
    (ax_decode : PySem.W.nsIn K mainGlobals "decode" = some (some (.ref fx_decode)))
    (lx_decode : K.lookup fx_decode = some ⟨ocx_decode, odx_decode, .func (PySem.W.fnOf "decode" "decode" (defArgs s_decode) (defBody s_decode) (defScope s_decode) .none kVx_decode dcx_decode pmx_decode anx_decode cdx_decode ctx_decode), slx_decode⟩)
    (cx_decode : PySem.W.codeIn K cdx_decode "decode" = true)
    (kx_decode : PySem.W.keepIn K (.ref fx_decode) = true)
    (ax__read : PySem.W.nsIn K mainGlobals "_read" = some (some (.ref fx__read)))
    (lx__read : K.lookup fx__read = some ⟨ocx__read, odx__read, .func (PySem.W.fnOf "_read" "_read" (defArgs s__read) (defBody s__read) (defScope s__read) .none kVx__read dcx__read pmx__read anx__read cdx__read ctx__read), slx__read⟩)
    (cx__read : PySem.W.codeIn K cdx__read "_read" = true)
    (kx__read : PySem.W.keepIn K (.ref fx__read) = true)
    (ax__read_tuple : PySem.W.nsIn K mainGlobals "_read_tuple" = some (some (.ref fx__read_tuple)))
    (lx__read_tuple : K.lookup fx__read_tuple = some ⟨ocx__read_tuple, odx__read_tuple, .func (PySem.W.fnOf "_read_tuple" "_read_tuple" (defArgs s__read_tuple) (defBody s__read_tuple) (defScope s__read_tuple) .none kVx__read_tuple dcx__read_tuple pmx__read_tuple anx__read_tuple cdx__read_tuple ctx__read_tuple), slx__read_tuple⟩)
    (cx__read_tuple : PySem.W.codeIn K cdx__read_tuple "_read_tuple" = true)
    (kx__read_tuple : PySem.W.keepIn K (.ref fx__read_tuple) = true)
    (ax__read_characters : PySem.W.nsIn K mainGlobals "_read_characters" = some (some (.ref fx__read_characters)))
    (lx__read_characters : K.lookup fx__read_characters = some ⟨ocx__read_characters, odx__read_characters, .func (PySem.W.fnOf "_read_characters" "_read_characters" (defArgs s__read_characters) (defBody s__read_characters) (defScope s__read_characters) .none kVx__read_characters dcx__read_characters pmx__read_characters anx__read_characters cdx__read_characters ctx__read_characters), slx__read_characters⟩)
    (cx__read_characters : PySem.W.codeIn K cdx__read_characters "_read_characters" = true)
    (kx__read_characters : PySem.W.keepIn K (.ref fx__read_characters) = true)
    (ax__read_integer : PySem.W.nsIn K mainGlobals "_read_integer" = some (some (.ref fx__read_integer)))
    (lx__read_integer : K.lookup fx__read_integer = some ⟨ocx__read_integer, odx__read_integer, .func (PySem.W.fnOf "_read_integer" "_read_integer" (defArgs s__read_integer) (defBody s__read_integer) (defScope s__read_integer) .none kVx__read_integer dcx__read_integer pmx__read_integer anx__read_integer cdx__read_integer ctx__read_integer), slx__read_integer⟩)
    (cx__read_integer : PySem.W.codeIn K cdx__read_integer "_read_integer" = true)
    (kx__read_integer : PySem.W.keepIn K (.ref fx__read_integer) = true)
    (ax__digits_end : PySem.W.nsIn K mainGlobals "_digits_end" = some (some (.ref fx__digits_end)))
    (lx__digits_end : K.lookup fx__digits_end = some ⟨ocx__digits_end, odx__digits_end, .func (PySem.W.fnOf "_digits_end" "_digits_end" (defArgs s__digits_end) (defBody s__digits_end) (defScope s__digits_end) .none kVx__digits_end dcx__digits_end pmx__digits_end anx__digits_end cdx__digits_end ctx__digits_end), slx__digits_end⟩)
    (cx__digits_end : PySem.W.codeIn K cdx__digits_end "_digits_end" = true)
    (kx__digits_end : PySem.W.keepIn K (.ref fx__digits_end) = true)
    (ax_is_process : PySem.W.nsIn K mainGlobals "is_process" = some (some (.ref fx_is_process)))
    (lx_is_process : K.lookup fx_is_process = some ⟨ocx_is_process, odx_is_process, .func (PySem.W.fnOf "is_process" "is_process" (defArgs s_is_process) (defBody s_is_process) (defScope s_is_process) .none kVx_is_process dcx_is_process pmx_is_process anx_is_process cdx_is_process ctx_is_process), slx_is_process⟩)
    (cx_is_process : PySem.W.codeIn K cdx_is_process "is_process" = true)
    (kx_is_process : PySem.W.keepIn K (.ref fx_is_process) = true)
    (ax_is_member : PySem.W.nsIn K mainGlobals "is_member" = some (some (.ref fx_is_member)))
    (lx_is_member : K.lookup fx_is_member = some ⟨ocx_is_member, odx_is_member, .func (PySem.W.fnOf "is_member" "is_member" (defArgs s_is_member) (defBody s_is_member) (defScope s_is_member) .none kVx_is_member dcx_is_member pmx_is_member anx_is_member cdx_is_member ctx_is_member), slx_is_member⟩)
    (cx_is_member : PySem.W.codeIn K cdx_is_member "is_member" = true)
    (kx_is_member : PySem.W.keepIn K (.ref fx_is_member) = true)
    (ax_is_members : PySem.W.nsIn K mainGlobals "is_members" = some (some (.ref fx_is_members)))
    (lx_is_members : K.lookup fx_is_members = some ⟨ocx_is_members, odx_is_members, .func (PySem.W.fnOf "is_members" "is_members" (defArgs s_is_members) (defBody s_is_members) (defScope s_is_members) .none kVx_is_members dcx_is_members pmx_is_members anx_is_members cdx_is_members ctx_is_members), slx_is_members⟩)
    (cx_is_members : PySem.W.codeIn K cdx_is_members "is_members" = true)
    (kx_is_members : PySem.W.keepIn K (.ref fx_is_members) = true)
    (ax_is_view_id : PySem.W.nsIn K mainGlobals "is_view_id" = some (some (.ref fx_is_view_id)))
    (lx_is_view_id : K.lookup fx_is_view_id = some ⟨ocx_is_view_id, odx_is_view_id, .func (PySem.W.fnOf "is_view_id" "is_view_id" (defArgs s_is_view_id) (defBody s_is_view_id) (defScope s_is_view_id) .none kVx_is_view_id dcx_is_view_id pmx_is_view_id anx_is_view_id cdx_is_view_id ctx_is_view_id), slx_is_view_id⟩)
    (cx_is_view_id : PySem.W.codeIn K cdx_is_view_id "is_view_id" = true)
    (kx_is_view_id : PySem.W.keepIn K (.ref fx_is_view_id) = true)
    (ax_is_payload : PySem.W.nsIn K mainGlobals "is_payload" = some (some (.ref fx_is_payload)))
    (lx_is_payload : K.lookup fx_is_payload = some ⟨ocx_is_payload, odx_is_payload, .func (PySem.W.fnOf "is_payload" "is_payload" (defArgs s_is_payload) (defBody s_is_payload) (defScope s_is_payload) .none kVx_is_payload dcx_is_payload pmx_is_payload anx_is_payload cdx_is_payload ctx_is_payload), slx_is_payload⟩)
    (cx_is_payload : PySem.W.codeIn K cdx_is_payload "is_payload" = true)
    (kx_is_payload : PySem.W.keepIn K (.ref fx_is_payload) = true)
    (ax_is_message : PySem.W.nsIn K mainGlobals "is_message" = some (some (.ref fx_is_message)))
    (lx_is_message : K.lookup fx_is_message = some ⟨ocx_is_message, odx_is_message, .func (PySem.W.fnOf "is_message" "is_message" (defArgs s_is_message) (defBody s_is_message) (defScope s_is_message) .none kVx_is_message dcx_is_message pmx_is_message anx_is_message cdx_is_message ctx_is_message), slx_is_message⟩)
    (cx_is_message : PySem.W.codeIn K cdx_is_message "is_message" = true)
    (kx_is_message : PySem.W.keepIn K (.ref fx_is_message) = true)
    (ax_is_log : PySem.W.nsIn K mainGlobals "is_log" = some (some (.ref fx_is_log)))
    (lx_is_log : K.lookup fx_is_log = some ⟨ocx_is_log, odx_is_log, .func (PySem.W.fnOf "is_log" "is_log" (defArgs s_is_log) (defBody s_is_log) (defScope s_is_log) .none kVx_is_log dcx_is_log pmx_is_log anx_is_log cdx_is_log ctx_is_log), slx_is_log⟩)
    (cx_is_log : PySem.W.codeIn K cdx_is_log "is_log" = true)
    (kx_is_log : PySem.W.keepIn K (.ref fx_is_log) = true)
    (ax_last_index : PySem.W.nsIn K mainGlobals "last_index" = some (some (.ref fx_last_index)))
    (lx_last_index : K.lookup fx_last_index = some ⟨ocx_last_index, odx_last_index, .func (PySem.W.fnOf "last_index" "last_index" (defArgs s_last_index) (defBody s_last_index) (defScope s_last_index) .none kVx_last_index dcx_last_index pmx_last_index anx_last_index cdx_last_index ctx_last_index), slx_last_index⟩)
    (cx_last_index : PySem.W.codeIn K cdx_last_index "last_index" = true)
    (kx_last_index : PySem.W.keepIn K (.ref fx_last_index) = true)
    (ax_is_pending : PySem.W.nsIn K mainGlobals "is_pending" = some (some (.ref fx_is_pending)))
    (lx_is_pending : K.lookup fx_is_pending = some ⟨ocx_is_pending, odx_is_pending, .func (PySem.W.fnOf "is_pending" "is_pending" (defArgs s_is_pending) (defBody s_is_pending) (defScope s_is_pending) .none kVx_is_pending dcx_is_pending pmx_is_pending anx_is_pending cdx_is_pending ctx_is_pending), slx_is_pending⟩)
    (cx_is_pending : PySem.W.codeIn K cdx_is_pending "is_pending" = true)
    (kx_is_pending : PySem.W.keepIn K (.ref fx_is_pending) = true)
    (ax__is_pending_cast : PySem.W.nsIn K mainGlobals "_is_pending_cast" = some (some (.ref fx__is_pending_cast)))
    (lx__is_pending_cast : K.lookup fx__is_pending_cast = some ⟨ocx__is_pending_cast, odx__is_pending_cast, .func (PySem.W.fnOf "_is_pending_cast" "_is_pending_cast" (defArgs s__is_pending_cast) (defBody s__is_pending_cast) (defScope s__is_pending_cast) .none kVx__is_pending_cast dcx__is_pending_cast pmx__is_pending_cast anx__is_pending_cast cdx__is_pending_cast ctx__is_pending_cast), slx__is_pending_cast⟩)
    (cx__is_pending_cast : PySem.W.codeIn K cdx__is_pending_cast "_is_pending_cast" = true)
    (kx__is_pending_cast : PySem.W.keepIn K (.ref fx__is_pending_cast) = true)
    (ax__is_here : PySem.W.nsIn K mainGlobals "_is_here" = some (some (.ref fx__is_here)))
    (lx__is_here : K.lookup fx__is_here = some ⟨ocx__is_here, odx__is_here, .func (PySem.W.fnOf "_is_here" "_is_here" (defArgs s__is_here) (defBody s__is_here) (defScope s__is_here) .none kVx__is_here dcx__is_here pmx__is_here anx__is_here cdx__is_here ctx__is_here), slx__is_here⟩)
    (cx__is_here : PySem.W.codeIn K cdx__is_here "_is_here" = true)
    (kx__is_here : PySem.W.keepIn K (.ref fx__is_here) = true)
    (ax__is_cast : PySem.W.nsIn K mainGlobals "_is_cast" = some (some (.ref fx__is_cast)))
    (lx__is_cast : K.lookup fx__is_cast = some ⟨ocx__is_cast, odx__is_cast, .func (PySem.W.fnOf "_is_cast" "_is_cast" (defArgs s__is_cast) (defBody s__is_cast) (defScope s__is_cast) .none kVx__is_cast dcx__is_cast pmx__is_cast anx__is_cast cdx__is_cast ctx__is_cast), slx__is_cast⟩)
    (cx__is_cast : PySem.W.codeIn K cdx__is_cast "_is_cast" = true)
    (kx__is_cast : PySem.W.keepIn K (.ref fx__is_cast) = true)
    (ax__is_order : PySem.W.nsIn K mainGlobals "_is_order" = some (some (.ref fx__is_order)))
    (lx__is_order : K.lookup fx__is_order = some ⟨ocx__is_order, odx__is_order, .func (PySem.W.fnOf "_is_order" "_is_order" (defArgs s__is_order) (defBody s__is_order) (defScope s__is_order) .none kVx__is_order dcx__is_order pmx__is_order anx__is_order cdx__is_order ctx__is_order), slx__is_order⟩)
    (cx__is_order : PySem.W.codeIn K cdx__is_order "_is_order" = true)
    (kx__is_order : PySem.W.keepIn K (.ref fx__is_order) = true)
    (ax__is_propose : PySem.W.nsIn K mainGlobals "_is_propose" = some (some (.ref fx__is_propose)))
    (lx__is_propose : K.lookup fx__is_propose = some ⟨ocx__is_propose, odx__is_propose, .func (PySem.W.fnOf "_is_propose" "_is_propose" (defArgs s__is_propose) (defBody s__is_propose) (defScope s__is_propose) .none kVx__is_propose dcx__is_propose pmx__is_propose anx__is_propose cdx__is_propose ctx__is_propose), slx__is_propose⟩)
    (cx__is_propose : PySem.W.codeIn K cdx__is_propose "_is_propose" = true)
    (kx__is_propose : PySem.W.keepIn K (.ref fx__is_propose) = true)
    (ax__is_state : PySem.W.nsIn K mainGlobals "_is_state" = some (some (.ref fx__is_state)))
    (lx__is_state : K.lookup fx__is_state = some ⟨ocx__is_state, odx__is_state, .func (PySem.W.fnOf "_is_state" "_is_state" (defArgs s__is_state) (defBody s__is_state) (defScope s__is_state) .none kVx__is_state dcx__is_state pmx__is_state anx__is_state cdx__is_state ctx__is_state), slx__is_state⟩)
    (cx__is_state : PySem.W.codeIn K cdx__is_state "_is_state" = true)
    (kx__is_state : PySem.W.keepIn K (.ref fx__is_state) = true)
    (ax__is_install : PySem.W.nsIn K mainGlobals "_is_install" = some (some (.ref fx__is_install)))
    (lx__is_install : K.lookup fx__is_install = some ⟨ocx__is_install, odx__is_install, .func (PySem.W.fnOf "_is_install" "_is_install" (defArgs s__is_install) (defBody s__is_install) (defScope s__is_install) .none kVx__is_install dcx__is_install pmx__is_install anx__is_install cdx__is_install ctx__is_install), slx__is_install⟩)
    (cx__is_install : PySem.W.codeIn K cdx__is_install "_is_install" = true)
    (kx__is_install : PySem.W.keepIn K (.ref fx__is_install) = true)
    (ax__is_higher : PySem.W.nsIn K mainGlobals "_is_higher" = some (some (.ref fx__is_higher)))
    (lx__is_higher : K.lookup fx__is_higher = some ⟨ocx__is_higher, odx__is_higher, .func (PySem.W.fnOf "_is_higher" "_is_higher" (defArgs s__is_higher) (defBody s__is_higher) (defScope s__is_higher) .none kVx__is_higher dcx__is_higher pmx__is_higher anx__is_higher cdx__is_higher ctx__is_higher), slx__is_higher⟩)
    (cx__is_higher : PySem.W.codeIn K cdx__is_higher "_is_higher" = true)
    (kx__is_higher : PySem.W.keepIn K (.ref fx__is_higher) = true)
    (ax__is_place : PySem.W.nsIn K mainGlobals "_is_place" = some (some (.ref fx__is_place)))
    (lx__is_place : K.lookup fx__is_place = some ⟨ocx__is_place, odx__is_place, .func (PySem.W.fnOf "_is_place" "_is_place" (defArgs s__is_place) (defBody s__is_place) (defScope s__is_place) .none kVx__is_place dcx__is_place pmx__is_place anx__is_place cdx__is_place ctx__is_place), slx__is_place⟩)
    (cx__is_place : PySem.W.codeIn K cdx__is_place "_is_place" = true)
    (kx__is_place : PySem.W.keepIn K (.ref fx__is_place) = true)
    (ax__is_finals : PySem.W.nsIn K mainGlobals "_is_finals" = some (some (.ref fx__is_finals)))
    (lx__is_finals : K.lookup fx__is_finals = some ⟨ocx__is_finals, odx__is_finals, .func (PySem.W.fnOf "_is_finals" "_is_finals" (defArgs s__is_finals) (defBody s__is_finals) (defScope s__is_finals) .none kVx__is_finals dcx__is_finals pmx__is_finals anx__is_finals cdx__is_finals ctx__is_finals), slx__is_finals⟩)
    (cx__is_finals : PySem.W.codeIn K cdx__is_finals "_is_finals" = true)
    (kx__is_finals : PySem.W.keepIn K (.ref fx__is_finals) = true)
    (ax__is_final : PySem.W.nsIn K mainGlobals "_is_final" = some (some (.ref fx__is_final)))
    (lx__is_final : K.lookup fx__is_final = some ⟨ocx__is_final, odx__is_final, .func (PySem.W.fnOf "_is_final" "_is_final" (defArgs s__is_final) (defBody s__is_final) (defScope s__is_final) .none kVx__is_final dcx__is_final pmx__is_final anx__is_final cdx__is_final ctx__is_final), slx__is_final⟩)
    (cx__is_final : PySem.W.codeIn K cdx__is_final "_is_final" = true)
    (kx__is_final : PySem.W.keepIn K (.ref fx__is_final) = true)
    (ax_is_letter : PySem.W.nsIn K mainGlobals "is_letter" = some (some (.ref fx_is_letter)))
    (lx_is_letter : K.lookup fx_is_letter = some ⟨ocx_is_letter, odx_is_letter, .func (PySem.W.fnOf "is_letter" "is_letter" (defArgs s_is_letter) (defBody s_is_letter) (defScope s_is_letter) .none kVx_is_letter dcx_is_letter pmx_is_letter anx_is_letter cdx_is_letter ctx_is_letter), slx_is_letter⟩)
    (cx_is_letter : PySem.W.codeIn K cdx_is_letter "is_letter" = true)
    (kx_is_letter : PySem.W.keepIn K (.ref fx_is_letter) = true)
    (ax__law_bag : PySem.W.nsIn K mainGlobals "_law_bag" = some (some (.ref fx__law_bag)))
    (lx__law_bag : K.lookup fx__law_bag = some ⟨ocx__law_bag, odx__law_bag, .func (PySem.W.fnOf "_law_bag" "_law_bag" (defArgs s__law_bag) (defBody s__law_bag) (defScope s__law_bag) .none kVx__law_bag dcx__law_bag pmx__law_bag anx__law_bag cdx__law_bag ctx__law_bag), slx__law_bag⟩)
    (cx__law_bag : PySem.W.codeIn K cdx__law_bag "_law_bag" = true)
    (kx__law_bag : PySem.W.keepIn K (.ref fx__law_bag) = true)
    (ax__law_draw : PySem.W.nsIn K mainGlobals "_law_draw" = some (some (.ref fx__law_draw)))
    (lx__law_draw : K.lookup fx__law_draw = some ⟨ocx__law_draw, odx__law_draw, .func (PySem.W.fnOf "_law_draw" "_law_draw" (defArgs s__law_draw) (defBody s__law_draw) (defScope s__law_draw) .none kVx__law_draw dcx__law_draw pmx__law_draw anx__law_draw cdx__law_draw ctx__law_draw), slx__law_draw⟩)
    (cx__law_draw : PySem.W.codeIn K cdx__law_draw "_law_draw" = true)
    (kx__law_draw : PySem.W.keepIn K (.ref fx__law_draw) = true)
    (ax__law_positive : PySem.W.nsIn K mainGlobals "_law_positive" = some (some (.ref fx__law_positive)))
    (lx__law_positive : K.lookup fx__law_positive = some ⟨ocx__law_positive, odx__law_positive, .func (PySem.W.fnOf "_law_positive" "_law_positive" (defArgs s__law_positive) (defBody s__law_positive) (defScope s__law_positive) .none kVx__law_positive dcx__law_positive pmx__law_positive anx__law_positive cdx__law_positive ctx__law_positive), slx__law_positive⟩)
    (cx__law_positive : PySem.W.codeIn K cdx__law_positive "_law_positive" = true)
    (kx__law_positive : PySem.W.keepIn K (.ref fx__law_positive) = true)
    (ax__law_member : PySem.W.nsIn K mainGlobals "_law_member" = some (some (.ref fx__law_member)))
    (lx__law_member : K.lookup fx__law_member = some ⟨ocx__law_member, odx__law_member, .func (PySem.W.fnOf "_law_member" "_law_member" (defArgs s__law_member) (defBody s__law_member) (defScope s__law_member) .none kVx__law_member dcx__law_member pmx__law_member anx__law_member cdx__law_member ctx__law_member), slx__law_member⟩)
    (cx__law_member : PySem.W.codeIn K cdx__law_member "_law_member" = true)
    (kx__law_member : PySem.W.keepIn K (.ref fx__law_member) = true)
    (ax__law_members : PySem.W.nsIn K mainGlobals "_law_members" = some (some (.ref fx__law_members)))
    (lx__law_members : K.lookup fx__law_members = some ⟨ocx__law_members, odx__law_members, .func (PySem.W.fnOf "_law_members" "_law_members" (defArgs s__law_members) (defBody s__law_members) (defScope s__law_members) .none kVx__law_members dcx__law_members pmx__law_members anx__law_members cdx__law_members ctx__law_members), slx__law_members⟩)
    (cx__law_members : PySem.W.codeIn K cdx__law_members "_law_members" = true)
    (kx__law_members : PySem.W.keepIn K (.ref fx__law_members) = true)
    (ax__law_id : PySem.W.nsIn K mainGlobals "_law_id" = some (some (.ref fx__law_id)))
    (lx__law_id : K.lookup fx__law_id = some ⟨ocx__law_id, odx__law_id, .func (PySem.W.fnOf "_law_id" "_law_id" (defArgs s__law_id) (defBody s__law_id) (defScope s__law_id) .none kVx__law_id dcx__law_id pmx__law_id anx__law_id cdx__law_id ctx__law_id), slx__law_id⟩)
    (cx__law_id : PySem.W.codeIn K cdx__law_id "_law_id" = true)
    (kx__law_id : PySem.W.keepIn K (.ref fx__law_id) = true)
    (ax__law_payload : PySem.W.nsIn K mainGlobals "_law_payload" = some (some (.ref fx__law_payload)))
    (lx__law_payload : K.lookup fx__law_payload = some ⟨ocx__law_payload, odx__law_payload, .func (PySem.W.fnOf "_law_payload" "_law_payload" (defArgs s__law_payload) (defBody s__law_payload) (defScope s__law_payload) .none kVx__law_payload dcx__law_payload pmx__law_payload anx__law_payload cdx__law_payload ctx__law_payload), slx__law_payload⟩)
    (cx__law_payload : PySem.W.codeIn K cdx__law_payload "_law_payload" = true)
    (kx__law_payload : PySem.W.keepIn K (.ref fx__law_payload) = true)
    (ax__law_log : PySem.W.nsIn K mainGlobals "_law_log" = some (some (.ref fx__law_log)))
    (lx__law_log : K.lookup fx__law_log = some ⟨ocx__law_log, odx__law_log, .func (PySem.W.fnOf "_law_log" "_law_log" (defArgs s__law_log) (defBody s__law_log) (defScope s__law_log) .none kVx__law_log dcx__law_log pmx__law_log anx__law_log cdx__law_log ctx__law_log), slx__law_log⟩)
    (cx__law_log : PySem.W.codeIn K cdx__law_log "_law_log" = true)
    (kx__law_log : PySem.W.keepIn K (.ref fx__law_log) = true)
    (ax__law_pending : PySem.W.nsIn K mainGlobals "_law_pending" = some (some (.ref fx__law_pending)))
    (lx__law_pending : K.lookup fx__law_pending = some ⟨ocx__law_pending, odx__law_pending, .func (PySem.W.fnOf "_law_pending" "_law_pending" (defArgs s__law_pending) (defBody s__law_pending) (defScope s__law_pending) .none kVx__law_pending dcx__law_pending pmx__law_pending anx__law_pending cdx__law_pending ctx__law_pending), slx__law_pending⟩)
    (cx__law_pending : PySem.W.codeIn K cdx__law_pending "_law_pending" = true)
    (kx__law_pending : PySem.W.keepIn K (.ref fx__law_pending) = true)
    (ax__law_count : PySem.W.nsIn K mainGlobals "_law_count" = some (some (.ref fx__law_count)))
    (lx__law_count : K.lookup fx__law_count = some ⟨ocx__law_count, odx__law_count, .func (PySem.W.fnOf "_law_count" "_law_count" (defArgs s__law_count) (defBody s__law_count) (defScope s__law_count) .none kVx__law_count dcx__law_count pmx__law_count anx__law_count cdx__law_count ctx__law_count), slx__law_count⟩)
    (cx__law_count : PySem.W.codeIn K cdx__law_count "_law_count" = true)
    (kx__law_count : PySem.W.keepIn K (.ref fx__law_count) = true)
    (ax__law_finals : PySem.W.nsIn K mainGlobals "_law_finals" = some (some (.ref fx__law_finals)))
    (lx__law_finals : K.lookup fx__law_finals = some ⟨ocx__law_finals, odx__law_finals, .func (PySem.W.fnOf "_law_finals" "_law_finals" (defArgs s__law_finals) (defBody s__law_finals) (defScope s__law_finals) .none kVx__law_finals dcx__law_finals pmx__law_finals anx__law_finals cdx__law_finals ctx__law_finals), slx__law_finals⟩)
    (cx__law_finals : PySem.W.codeIn K cdx__law_finals "_law_finals" = true)
    (kx__law_finals : PySem.W.keepIn K (.ref fx__law_finals) = true)
    (ax__law_letter : PySem.W.nsIn K mainGlobals "_law_letter" = some (some (.ref fx__law_letter)))
    (lx__law_letter : K.lookup fx__law_letter = some ⟨ocx__law_letter, odx__law_letter, .func (PySem.W.fnOf "_law_letter" "_law_letter" (defArgs s__law_letter) (defBody s__law_letter) (defScope s__law_letter) .none kVx__law_letter dcx__law_letter pmx__law_letter anx__law_letter cdx__law_letter ctx__law_letter), slx__law_letter⟩)
    (cx__law_letter : PySem.W.codeIn K cdx__law_letter "_law_letter" = true)
    (kx__law_letter : PySem.W.keepIn K (.ref fx__law_letter) = true)
    (ax__law_text : PySem.W.nsIn K mainGlobals "_law_text" = some (some (.ref fx__law_text)))
    (lx__law_text : K.lookup fx__law_text = some ⟨ocx__law_text, odx__law_text, .func (PySem.W.fnOf "_law_text" "_law_text" (defArgs s__law_text) (defBody s__law_text) (defScope s__law_text) .none kVx__law_text dcx__law_text pmx__law_text anx__law_text cdx__law_text ctx__law_text), slx__law_text⟩)
    (cx__law_text : PySem.W.codeIn K cdx__law_text "_law_text" = true)
    (kx__law_text : PySem.W.keepIn K (.ref fx__law_text) = true)
    (ax__law_depth : PySem.W.nsIn K mainGlobals "_law_depth" = some (some (.ref fx__law_depth)))
    (lx__law_depth : K.lookup fx__law_depth = some ⟨ocx__law_depth, odx__law_depth, .func (PySem.W.fnOf "_law_depth" "_law_depth" (defArgs s__law_depth) (defBody s__law_depth) (defScope s__law_depth) .none kVx__law_depth dcx__law_depth pmx__law_depth anx__law_depth cdx__law_depth ctx__law_depth), slx__law_depth⟩)
    (cx__law_depth : PySem.W.codeIn K cdx__law_depth "_law_depth" = true)
    (kx__law_depth : PySem.W.keepIn K (.ref fx__law_depth) = true)
    (ax__law_same : PySem.W.nsIn K mainGlobals "_law_same" = some (some (.ref fx__law_same)))
    (lx__law_same : K.lookup fx__law_same = some ⟨ocx__law_same, odx__law_same, .func (PySem.W.fnOf "_law_same" "_law_same" (defArgs s__law_same) (defBody s__law_same) (defScope s__law_same) .none kVx__law_same dcx__law_same pmx__law_same anx__law_same cdx__law_same ctx__law_same), slx__law_same⟩)
    (cx__law_same : PySem.W.codeIn K cdx__law_same "_law_same" = true)
    (kx__law_same : PySem.W.keepIn K (.ref fx__law_same) = true)
    (ax__law_refused : PySem.W.nsIn K mainGlobals "_law_refused" = some (some (.ref fx__law_refused)))
    (lx__law_refused : K.lookup fx__law_refused = some ⟨ocx__law_refused, odx__law_refused, .func (PySem.W.fnOf "_law_refused" "_law_refused" (defArgs s__law_refused) (defBody s__law_refused) (defScope s__law_refused) .none kVx__law_refused dcx__law_refused pmx__law_refused anx__law_refused cdx__law_refused ctx__law_refused), slx__law_refused⟩)
    (cx__law_refused : PySem.W.codeIn K cdx__law_refused "_law_refused" = true)
    (kx__law_refused : PySem.W.keepIn K (.ref fx__law_refused) = true)
    (ax__law_right : PySem.W.nsIn K mainGlobals "_law_right" = some (some (.ref fx__law_right)))
    (lx__law_right : K.lookup fx__law_right = some ⟨ocx__law_right, odx__law_right, .func (PySem.W.fnOf "_law_right" "_law_right" (defArgs s__law_right) (defBody s__law_right) (defScope s__law_right) .none kVx__law_right dcx__law_right pmx__law_right anx__law_right cdx__law_right ctx__law_right), slx__law_right⟩)
    (cx__law_right : PySem.W.codeIn K cdx__law_right "_law_right" = true)
    (kx__law_right : PySem.W.keepIn K (.ref fx__law_right) = true)
    (ax__law_long : PySem.W.nsIn K mainGlobals "_law_long" = some (some (.ref fx__law_long)))
    (lx__law_long : K.lookup fx__law_long = some ⟨ocx__law_long, odx__law_long, .func (PySem.W.fnOf "_law_long" "_law_long" (defArgs s__law_long) (defBody s__law_long) (defScope s__law_long) .none kVx__law_long dcx__law_long pmx__law_long anx__law_long cdx__law_long ctx__law_long), slx__law_long⟩)
    (cx__law_long : PySem.W.codeIn K cdx__law_long "_law_long" = true)
    (kx__law_long : PySem.W.keepIn K (.ref fx__law_long) = true)
    (ax_law : PySem.W.nsIn K mainGlobals "law" = some (some (.ref fx_law)))
    (lx_law : K.lookup fx_law = some ⟨ocx_law, odx_law, .func (PySem.W.fnOf "law" "law" (defArgs s_law) (defBody s_law) (defScope s_law) .none kVx_law dcx_law pmx_law anx_law cdx_law ctx_law), slx_law⟩)
    (cx_law : PySem.W.codeIn K cdx_law "law" = true)
    (kx_law : PySem.W.keepIn K (.ref fx_law) = true)
    (v_REFUSED_CODE : PySem.W.nsIn K mainGlobals "_REFUSED_CODE" = some (some (.int 37 t_REFUSED_CODE)))
    (vMOST_PROCESSES : PySem.W.nsIn K mainGlobals "MOST_PROCESSES" = some (some (.int 12 tMOST_PROCESSES)))
    (vMOST_PAYLOAD : PySem.W.nsIn K mainGlobals "MOST_PAYLOAD" = some (some (.int 30 tMOST_PAYLOAD)))
    (vMOST_DIGITS : PySem.W.nsIn K mainGlobals "MOST_DIGITS" = some (some (.int 24 tMOST_DIGITS)))
    (vMOST_DEPTH : PySem.W.nsIn K mainGlobals "MOST_DEPTH" = some (some (.int 8 tMOST_DEPTH)))
    (vMOST_LENGTH : PySem.W.nsIn K mainGlobals "MOST_LENGTH" = some (some (.int 100000 tMOST_LENGTH)))
    (zlen : PySem.W.nsIn K mainGlobals "len" = some none)
    (zisinstance : PySem.W.nsIn K mainGlobals "isinstance" = some none)
    (zint : PySem.W.nsIn K mainGlobals "int" = some none)
    (zbool : PySem.W.nsIn K mainGlobals "bool" = some none)
    (zstr : PySem.W.nsIn K mainGlobals "str" = some none)
    (ztuple : PySem.W.nsIn K mainGlobals "tuple" = some none)
    (zrange : PySem.W.nsIn K mainGlobals "range" = some none)
    (zmin : PySem.W.nsIn K mainGlobals "min" = some none)
    (zmax : PySem.W.nsIn K mainGlobals "max" = some none)
    (zsorted : PySem.W.nsIn K mainGlobals "sorted" = some none)
    (zord : PySem.W.nsIn K mainGlobals "ord" = some none)
    (zenumerate : PySem.W.nsIn K mainGlobals "enumerate" = some none) :
    ∃ fd : FuncData, (∀ (s : Shared) (v : Value), BindsTo s fd ⟨[v], []⟩ [("script", v)]) ∧ ∀ base : Heap, K.In base → base.Ns mainGlobals mg → FnOk l.prog w K mg base CX0 24 fa fd ["script"] (sp_law K) := by
  have e := hfa.symm.trans (PySem.W.mg_of X G ax_law)
  cases e
  have T : Tt K mg C_BadText := {
    b_len := PySem.W.mg_none_of X G zlen
    b_isinstance := PySem.W.mg_none_of X G zisinstance
    b_int := PySem.W.mg_none_of X G zint
    b_bool := PySem.W.mg_none_of X G zbool
    b_str := PySem.W.mg_none_of X G zstr
    b_tuple := PySem.W.mg_none_of X G ztuple
    b_range := PySem.W.mg_none_of X G zrange
    b_min := PySem.W.mg_none_of X G zmin
    b_max := PySem.W.mg_none_of X G zmax
    b_sorted := PySem.W.mg_none_of X G zsorted
    b_ord := PySem.W.mg_none_of X G zord
    b_enumerate := PySem.W.mg_none_of X G zenumerate
    c__REFUSED_CODE := ⟨_, PySem.W.mg_of X G v_REFUSED_CODE⟩
    c_MOST_PROCESSES := ⟨_, PySem.W.mg_of X G vMOST_PROCESSES⟩
    c_MOST_PAYLOAD := ⟨_, PySem.W.mg_of X G vMOST_PAYLOAD⟩
    c_MOST_DIGITS := ⟨_, PySem.W.mg_of X G vMOST_DIGITS⟩
    c_MOST_DEPTH := ⟨_, PySem.W.mg_of X G vMOST_DEPTH⟩
    c_MOST_LENGTH := ⟨_, PySem.W.mg_of X G vMOST_LENGTH⟩
    c_MOST_NUMBER := hL0
    g_BadText := PySem.W.mg_of X G aC_BadText
    x_BadText := x_BadText
    k_BadText := k_BadText
    b_BadText := b_BadText
    t_BadText := t_BadText
    m_TT := m_TT }
  let a_is_printable : DefAt K mg "is_printable" P_is_printable s_is_printable := at_mk X G ax_is_printable lx_is_printable cx_is_printable kx_is_printable fun _ _ _ _ _ _ us hl => match us, hl with | [_], _ => rfl
  let a__is_printable_character : DefAt K mg "_is_printable_character" P__is_printable_character s__is_printable_character := at_mk X G ax__is_printable_character lx__is_printable_character cx__is_printable_character kx__is_printable_character fun _ _ _ _ _ _ us hl => match us, hl with | [_], _ => rfl
  let a_is_integer : DefAt K mg "is_integer" P_is_integer s_is_integer := at_mk X G ax_is_integer lx_is_integer cx_is_integer kx_is_integer fun _ _ _ _ _ _ us hl => match us, hl with | [_, _, _], _ => rfl
  let a_encode : DefAt K mg "encode" P_encode s_encode := at_mk X G ax_encode lx_encode cx_encode kx_encode fun _ _ _ _ _ _ us hl => match us, hl with | [_], _ => rfl
  let a__write : DefAt K mg "_write" P__write s__write := at_mk X G ax__write lx__write cx__write kx__write fun _ _ _ _ _ _ us hl => match us, hl with | [_, _, _, _], _ => rfl
  let a__write_tuple : DefAt K mg "_write_tuple" P__write_tuple s__write_tuple := at_mk X G ax__write_tuple lx__write_tuple cx__write_tuple kx__write_tuple fun _ _ _ _ _ _ us hl => match us, hl with | [_, _, _, _], _ => rfl
  let a__put : DefAt K mg "_put" P__put s__put := at_mk X G ax__put lx__put cx__put kx__put fun _ _ _ _ _ _ us hl => match us, hl with | [_, _, _], _ => rfl
  let a__string_text : DefAt K mg "_string_text" P__string_text s__string_text := at_mk X G ax__string_text lx__string_text cx__string_text kx__string_text fun _ _ _ _ _ _ us hl => match us, hl with | [_], _ => rfl
  let a__integer_text : DefAt K mg "_integer_text" P__integer_text s__integer_text := at_mk X G ax__integer_text lx__integer_text cx__integer_text kx__integer_text fun _ _ _ _ _ _ us hl => match us, hl with | [_], _ => rfl
  let a_decode : DefAt K mg "decode" P_decode s_decode := at_mk X G ax_decode lx_decode cx_decode kx_decode fun _ _ _ _ _ _ us hl => match us, hl with | [_], _ => rfl
  let a__read : DefAt K mg "_read" P__read s__read := at_mk X G ax__read lx__read cx__read kx__read fun _ _ _ _ _ _ us hl => match us, hl with | [_, _, _], _ => rfl
  let a__read_tuple : DefAt K mg "_read_tuple" P__read_tuple s__read_tuple := at_mk X G ax__read_tuple lx__read_tuple cx__read_tuple kx__read_tuple fun _ _ _ _ _ _ us hl => match us, hl with | [_, _, _], _ => rfl
  let a__read_characters : DefAt K mg "_read_characters" P__read_characters s__read_characters := at_mk X G ax__read_characters lx__read_characters cx__read_characters kx__read_characters fun _ _ _ _ _ _ us hl => match us, hl with | [_, _, _], _ => rfl
  let a__read_integer : DefAt K mg "_read_integer" P__read_integer s__read_integer := at_mk X G ax__read_integer lx__read_integer cx__read_integer kx__read_integer fun _ _ _ _ _ _ us hl => match us, hl with | [_, _], _ => rfl
  let a__digits_end : DefAt K mg "_digits_end" P__digits_end s__digits_end := at_mk X G ax__digits_end lx__digits_end cx__digits_end kx__digits_end fun _ _ _ _ _ _ us hl => match us, hl with | [_, _], _ => rfl
  let a_is_process : DefAt K mg "is_process" P_is_process s_is_process := at_mk X G ax_is_process lx_is_process cx_is_process kx_is_process fun _ _ _ _ _ _ us hl => match us, hl with | [_, _], _ => rfl
  let a_is_member : DefAt K mg "is_member" P_is_member s_is_member := at_mk X G ax_is_member lx_is_member cx_is_member kx_is_member fun _ _ _ _ _ _ us hl => match us, hl with | [_, _], _ => rfl
  let a_is_members : DefAt K mg "is_members" P_is_members s_is_members := at_mk X G ax_is_members lx_is_members cx_is_members kx_is_members fun _ _ _ _ _ _ us hl => match us, hl with | [_, _], _ => rfl
  let a_is_view_id : DefAt K mg "is_view_id" P_is_view_id s_is_view_id := at_mk X G ax_is_view_id lx_is_view_id cx_is_view_id kx_is_view_id fun _ _ _ _ _ _ us hl => match us, hl with | [_, _], _ => rfl
  let a_is_payload : DefAt K mg "is_payload" P_is_payload s_is_payload := at_mk X G ax_is_payload lx_is_payload cx_is_payload kx_is_payload fun _ _ _ _ _ _ us hl => match us, hl with | [_], _ => rfl
  let a_is_message : DefAt K mg "is_message" P_is_message s_is_message := at_mk X G ax_is_message lx_is_message cx_is_message kx_is_message fun _ _ _ _ _ _ us hl => match us, hl with | [_, _], _ => rfl
  let a_is_log : DefAt K mg "is_log" P_is_log s_is_log := at_mk X G ax_is_log lx_is_log cx_is_log kx_is_log fun _ _ _ _ _ _ us hl => match us, hl with | [_, _], _ => rfl
  let a_last_index : DefAt K mg "last_index" P_last_index s_last_index := at_mk X G ax_last_index lx_last_index cx_last_index kx_last_index fun _ _ _ _ _ _ us hl => match us, hl with | [_, _], _ => rfl
  let a_is_pending : DefAt K mg "is_pending" P_is_pending s_is_pending := at_mk X G ax_is_pending lx_is_pending cx_is_pending kx_is_pending fun _ _ _ _ _ _ us hl => match us, hl with | [_], _ => rfl
  let a__is_pending_cast : DefAt K mg "_is_pending_cast" P__is_pending_cast s__is_pending_cast := at_mk X G ax__is_pending_cast lx__is_pending_cast cx__is_pending_cast kx__is_pending_cast fun _ _ _ _ _ _ us hl => match us, hl with | [_], _ => rfl
  let a__is_here : DefAt K mg "_is_here" P__is_here s__is_here := at_mk X G ax__is_here lx__is_here cx__is_here kx__is_here fun _ _ _ _ _ _ us hl => match us, hl with | [_, _], _ => rfl
  let a__is_cast : DefAt K mg "_is_cast" P__is_cast s__is_cast := at_mk X G ax__is_cast lx__is_cast cx__is_cast kx__is_cast fun _ _ _ _ _ _ us hl => match us, hl with | [_, _], _ => rfl
  let a__is_order : DefAt K mg "_is_order" P__is_order s__is_order := at_mk X G ax__is_order lx__is_order cx__is_order kx__is_order fun _ _ _ _ _ _ us hl => match us, hl with | [_, _], _ => rfl
  let a__is_propose : DefAt K mg "_is_propose" P__is_propose s__is_propose := at_mk X G ax__is_propose lx__is_propose cx__is_propose kx__is_propose fun _ _ _ _ _ _ us hl => match us, hl with | [_, _], _ => rfl
  let a__is_state : DefAt K mg "_is_state" P__is_state s__is_state := at_mk X G ax__is_state lx__is_state cx__is_state kx__is_state fun _ _ _ _ _ _ us hl => match us, hl with | [_, _], _ => rfl
  let a__is_install : DefAt K mg "_is_install" P__is_install s__is_install := at_mk X G ax__is_install lx__is_install cx__is_install kx__is_install fun _ _ _ _ _ _ us hl => match us, hl with | [_, _], _ => rfl
  let a__is_higher : DefAt K mg "_is_higher" P__is_higher s__is_higher := at_mk X G ax__is_higher lx__is_higher cx__is_higher kx__is_higher fun _ _ _ _ _ _ us hl => match us, hl with | [_, _], _ => rfl
  let a__is_place : DefAt K mg "_is_place" P__is_place s__is_place := at_mk X G ax__is_place lx__is_place cx__is_place kx__is_place fun _ _ _ _ _ _ us hl => match us, hl with | [_], _ => rfl
  let a__is_finals : DefAt K mg "_is_finals" P__is_finals s__is_finals := at_mk X G ax__is_finals lx__is_finals cx__is_finals kx__is_finals fun _ _ _ _ _ _ us hl => match us, hl with | [_, _], _ => rfl
  let a__is_final : DefAt K mg "_is_final" P__is_final s__is_final := at_mk X G ax__is_final lx__is_final cx__is_final kx__is_final fun _ _ _ _ _ _ us hl => match us, hl with | [_, _], _ => rfl
  let a_is_letter : DefAt K mg "is_letter" P_is_letter s_is_letter := at_mk X G ax_is_letter lx_is_letter cx_is_letter kx_is_letter fun _ _ _ _ _ _ us hl => match us, hl with | [_, _], _ => rfl
  let a__law_bag : DefAt K mg "_law_bag" P__law_bag s__law_bag := at_mk X G ax__law_bag lx__law_bag cx__law_bag kx__law_bag fun _ _ _ _ _ _ us hl => match us, hl with | [_, _], _ => rfl
  let a__law_draw : DefAt K mg "_law_draw" P__law_draw s__law_draw := at_mk X G ax__law_draw lx__law_draw cx__law_draw kx__law_draw fun _ _ _ _ _ _ us hl => match us, hl with | [_, _], _ => rfl
  let a__law_positive : DefAt K mg "_law_positive" P__law_positive s__law_positive := at_mk X G ax__law_positive lx__law_positive cx__law_positive kx__law_positive fun _ _ _ _ _ _ us hl => match us, hl with | [_], _ => rfl
  let a__law_member : DefAt K mg "_law_member" P__law_member s__law_member := at_mk X G ax__law_member lx__law_member cx__law_member kx__law_member fun _ _ _ _ _ _ us hl => match us, hl with | [_, _], _ => rfl
  let a__law_members : DefAt K mg "_law_members" P__law_members s__law_members := at_mk X G ax__law_members lx__law_members cx__law_members kx__law_members fun _ _ _ _ _ _ us hl => match us, hl with | [_, _], _ => rfl
  let a__law_id : DefAt K mg "_law_id" P__law_id s__law_id := at_mk X G ax__law_id lx__law_id cx__law_id kx__law_id fun _ _ _ _ _ _ us hl => match us, hl with | [_, _], _ => rfl
  let a__law_payload : DefAt K mg "_law_payload" P__law_payload s__law_payload := at_mk X G ax__law_payload lx__law_payload cx__law_payload kx__law_payload fun _ _ _ _ _ _ us hl => match us, hl with | [_], _ => rfl
  let a__law_log : DefAt K mg "_law_log" P__law_log s__law_log := at_mk X G ax__law_log lx__law_log cx__law_log kx__law_log fun _ _ _ _ _ _ us hl => match us, hl with | [_, _], _ => rfl
  let a__law_pending : DefAt K mg "_law_pending" P__law_pending s__law_pending := at_mk X G ax__law_pending lx__law_pending cx__law_pending kx__law_pending fun _ _ _ _ _ _ us hl => match us, hl with | [_, _], _ => rfl
  let a__law_count : DefAt K mg "_law_count" P__law_count s__law_count := at_mk X G ax__law_count lx__law_count cx__law_count kx__law_count fun _ _ _ _ _ _ us hl => match us, hl with | [_, _], _ => rfl
  let a__law_finals : DefAt K mg "_law_finals" P__law_finals s__law_finals := at_mk X G ax__law_finals lx__law_finals cx__law_finals kx__law_finals fun _ _ _ _ _ _ us hl => match us, hl with | [_, _, _], _ => rfl
  let a__law_letter : DefAt K mg "_law_letter" P__law_letter s__law_letter := at_mk X G ax__law_letter lx__law_letter cx__law_letter kx__law_letter fun _ _ _ _ _ _ us hl => match us, hl with | [_, _], _ => rfl
  let a__law_text : DefAt K mg "_law_text" P__law_text s__law_text := at_mk X G ax__law_text lx__law_text cx__law_text kx__law_text fun _ _ _ _ _ _ us hl => match us, hl with | [_], _ => rfl
  let a__law_depth : DefAt K mg "_law_depth" P__law_depth s__law_depth := at_mk X G ax__law_depth lx__law_depth cx__law_depth kx__law_depth fun _ _ _ _ _ _ us hl => match us, hl with | [_], _ => rfl
  let a__law_same : DefAt K mg "_law_same" P__law_same s__law_same := at_mk X G ax__law_same lx__law_same cx__law_same kx__law_same fun _ _ _ _ _ _ us hl => match us, hl with | [_, _], _ => rfl
  let a__law_refused : DefAt K mg "_law_refused" P__law_refused s__law_refused := at_mk X G ax__law_refused lx__law_refused cx__law_refused kx__law_refused fun _ _ _ _ _ _ us hl => match us, hl with | [_], _ => rfl
  let a__law_right : DefAt K mg "_law_right" P__law_right s__law_right := at_mk X G ax__law_right lx__law_right cx__law_right kx__law_right fun _ _ _ _ _ _ us hl => match us, hl with | [_, _], _ => rfl
  let a__law_long : DefAt K mg "_law_long" P__law_long s__law_long := at_mk X G ax__law_long lx__law_long cx__law_long kx__law_long fun _ _ _ _ _ _ us hl => match us, hl with | [_], _ => rfl
  have F_law := fun_mk (st := s_law) lx_law cx_law kx_law
  refine ⟨PySem.W.fnOf "law" "law" (defArgs s_law) (defBody s_law) (defScope s_law) .none kVx_law dcx_law pmx_law anx_law cdx_law ctx_law, fun s v => .of_eq rfl, fun base _ _ => ?_⟩
  have CH : Ch w K mg D__CHECKS fx__is_here fx__is_cast fx__is_order fx__is_propose fx__is_state fx__is_install fx__is_higher := { g__CHECKS := PySem.W.mg_of X G aD__CHECKS, D := ⟨_, _, lD__CHECKS, kD__CHECKS, zD__CHECKS⟩, no := fun z hz => kd_none lD__CHECKS kt hz, eh := e0__CHECKS, ec := e1__CHECKS, eo := e2__CHECKS, ep := e3__CHECKS, es := e4__CHECKS, ei := e5__CHECKS, eg := e6__CHECKS }
  let c_is_integer : DefOk l.prog w K mg base CX0 "is_integer" P_is_integer (1) ((spI)) := a_is_integer.ok fun F => ok_is_integer T.toTx F
  let c_is_process : DefOk l.prog w K mg base CX0 "is_process" P_is_process (2) ((spB2 isProc)) := a_is_process.ok fun F => ok_is_process T.toTx c_is_integer F
  let c_is_member : DefOk l.prog w K mg base CX0 "is_member" P_is_member (3) ((spB2 isMem)) := a_is_member.ok fun F => ok_is_member T.toTx c_is_integer c_is_process F
  let c_is_view_id : DefOk l.prog w K mg base CX0 "is_view_id" P_is_view_id (4) ((spB2 isVid)) := a_is_view_id.ok fun F => ok_is_view_id T.toTx c_is_integer c_is_member F
  have Hh : Held l.prog w K mg base 8 fx__is_here (spRest rHere) := ⟨⟨a__is_here.fd, P__is_here, ok__is_here T.toTx c_is_integer c_is_view_id a__is_here.F, kx__is_here, a__is_here.b⟩⟩
  let c__is_place : DefOk l.prog w K mg base CX0 "_is_place" P__is_place (2) ((spB1 isPlc)) := a__is_place.ok fun F => ok__is_place T.toTx c_is_integer F
  let c__is_printable_character : DefOk l.prog w K mg base CX0 "_is_printable_character" P__is_printable_character (1) ((sp__is_printable_character)) := a__is_printable_character.ok fun F => ok__is_printable_character T.toTx F
  let c_is_printable : DefOk l.prog w K mg base CX0 "is_printable" P_is_printable (2) ((sp_is_printable)) := a_is_printable.ok fun F => ok_is_printable T.toTx c__is_printable_character F
  let c_is_payload : DefOk l.prog w K mg base CX0 "is_payload" P_is_payload (3) ((spH1 isPay)) := a_is_payload.ok fun F => ok_is_payload T.toTx c_is_printable F
  have Hc : Held l.prog w K mg base 8 fx__is_cast (spRest (fun _ => rCast)) := ⟨⟨a__is_cast.fd, P__is_cast, ok__is_cast T.toTx c__is_place c_is_payload a__is_cast.F, kx__is_cast, a__is_cast.b⟩⟩
  let c_is_message : DefOk l.prog w K mg base CX0 "is_message" P_is_message (4) ((spH2 isMsg)) := a_is_message.ok fun F => ok_is_message T.toTx c_is_integer c_is_member c_is_payload F
  have Ho : Held l.prog w K mg base 8 fx__is_order (spRest rOrder) := ⟨⟨a__is_order.fd, P__is_order, ok__is_order T.toTx c__is_place c_is_message a__is_order.F, kx__is_order, a__is_order.b⟩⟩
  let c_is_members : DefOk l.prog w K mg base CX0 "is_members" P_is_members (4) ((spB2 isMems)) := a_is_members.ok fun F => ok_is_members T.toTx c_is_member F
  have Hp : Held l.prog w K mg base 8 fx__is_propose (spRest rPropose) := ⟨⟨a__is_propose.fd, P__is_propose, ok__is_propose T.toTx c_is_members a__is_propose.F, kx__is_propose, a__is_propose.b⟩⟩
  let c_is_log : DefOk l.prog w K mg base CX0 "is_log" P_is_log (5) ((spHS2 isLog)) := a_is_log.ok fun F => ok_is_log T.toTx c_is_message F
  let c__is_pending_cast : DefOk l.prog w K mg base CX0 "_is_pending_cast" P__is_pending_cast (4) ((spH1 isCast)) := a__is_pending_cast.ok fun F => ok__is_pending_cast T.toTx c_is_integer c_is_payload F
  let c_is_pending : DefOk l.prog w K mg base CX0 "is_pending" P_is_pending (5) ((spHS1 isPend)) := a_is_pending.ok fun F => ok_is_pending T.toTx c__is_pending_cast F
  let c_last_index : DefOk l.prog w K mg base CX0 "last_index" P_last_index (1) ((sp_last)) := a_last_index.ok fun F => ok_last_index T.toTx F
  have Hs : Held l.prog w K mg base 8 fx__is_state (spRest rState) := ⟨⟨a__is_state.fd, P__is_state, ok__is_state T.toTx c_is_view_id c_is_log c_is_pending c_last_index a__is_state.F, kx__is_state, a__is_state.b⟩⟩
  let c__is_final : DefOk l.prog w K mg base CX0 "_is_final" P__is_final (6) ((spHS2 isFin)) := a__is_final.ok fun F => ok__is_final T.toTx c_is_view_id c_is_log F
  let c__is_finals : DefOk l.prog w K mg base CX0 "_is_finals" P__is_finals (7) ((spHS2 isFins)) := a__is_finals.ok fun F => ok__is_finals T.toTx c__is_final F
  have Hi : Held l.prog w K mg base 8 fx__is_install (spRest rInstall) := ⟨⟨a__is_install.fd, P__is_install, ok__is_install T.toTx c_is_members c__is_finals a__is_install.F, kx__is_install, a__is_install.b⟩⟩
  have Hg : Held l.prog w K mg base 8 fx__is_higher (spRest rHigher) := ⟨⟨a__is_higher.fd, P__is_higher, ok__is_higher T.toTx c_is_view_id a__is_higher.F, kx__is_higher, a__is_higher.b⟩⟩
  let c__law_draw : DefOk l.prog w K mg base CX0 "_law_draw" P__law_draw (1) ((sp_draw)) := a__law_draw.ok fun F => ok__law_draw T.toTx F
  let c__put : DefOk l.prog w K mg base (L2.CX l.prog w) "_put" P__put 1 ((sp__put C_BadText)) := a__put.ok fun F => ok__put T F
  let c__string_text : DefOk l.prog w K mg base CX0 "_string_text" P__string_text (3) ((sp__string_text)) := a__string_text.ok fun F => ok__string_text T.toTx c_is_printable F
  let c__integer_text : DefOk l.prog w K mg base CX0 "_integer_text" P__integer_text (2) ((sp__integer_text)) := a__integer_text.ok fun F => ok__integer_text T.toTx c_is_integer F
  let c__digits_end : DefOk l.prog w K mg base CX0 "_digits_end" P__digits_end (1) ((sp__digits_end)) := a__digits_end.ok fun F => ok__digits_end T.toTx F
  let c__read_integer : DefOk l.prog w K mg base CX0 "_read_integer" P__read_integer (2) ((sp__read_integer)) := a__read_integer.ok fun F => ok__read_integer T.toTx c__digits_end F
  let c__read_characters : DefOk l.prog w K mg base CX0 "_read_characters" P__read_characters (1) ((sp__read_characters)) := a__read_characters.ok fun F => ok__read_characters T.toTx F
  let c__write : DefOk l.prog w K mg base (L2.CX l.prog w) "_write" P__write 20 (sp__write C_BadText 8) := (mk_write T a__write a__write_tuple c__put c__string_text c__integer_text 8).1
  let c__read : DefOk l.prog w K mg base CX0 "_read" P__read 20 (sp__read 8) := (mk_read T.toTx a__read a__read_tuple c__read_integer c__read_characters 8).1
  let c__law_text : DefOk l.prog w K mg base CX0 "_law_text" P__law_text 8 (sp_ltext 6) := mk_text T.toTx a__law_text 6
  let c__law_depth : DefOk l.prog w K mg base CX0 "_law_depth" P__law_depth 8 (sp_ldep 6) := mk_depth T.toTx a__law_depth 6
  let c__law_same : DefOk l.prog w K mg base CX0 "_law_same" P__law_same 8 (sp__law_same 6) := mk_same T.toTx a__law_same 6
  let c__law_bag : DefOk l.prog w K mg base CX0 "_law_bag" P__law_bag (1) ((sp_bag K)) := a__law_bag.ok fun F => ok__law_bag T.toTx F
  let c__law_positive : DefOk l.prog w K mg base CX0 "_law_positive" P__law_positive (2) ((sp_pos)) := a__law_positive.ok fun F => ok__law_positive T.toTx c__law_draw F
  let c__law_member : DefOk l.prog w K mg base CX0 "_law_member" P__law_member (3) ((sp_mem1)) := a__law_member.ok fun F => ok__law_member T.toTx c__law_draw c__law_positive F
  let c__law_members : DefOk l.prog w K mg base CX0 "_law_members" P__law_members 3 ((sp_memsS)) := a__law_members.ok fun F => ok__law_membersS T.toTx c__law_draw c__law_positive F
  let c__law_id : DefOk l.prog w K mg base CX0 "_law_id" P__law_id (4) ((sp_vid1)) := a__law_id.ok fun F => ok__law_id T.toTx c__law_positive c__law_member F
  let c__law_payload : DefOk l.prog w K mg base CX0 "_law_payload" P__law_payload (2) ((sp_pay)) := a__law_payload.ok fun F => ok__law_payload T.toTx c__law_draw F
  let c__law_log : DefOk l.prog w K mg base CX0 "_law_log" P__law_log (3) ((sp_log)) := a__law_log.ok fun F => ok__law_log T.toTx c__law_draw c__law_payload F
  let c__law_pending : DefOk l.prog w K mg base CX0 "_law_pending" P__law_pending (3) ((sp_pend)) := a__law_pending.ok fun F => ok__law_pending T.toTx c__law_draw c__law_payload F
  let c__law_count : DefOk l.prog w K mg base CX0 "_law_count" P__law_count (1) ((sp_count)) := a__law_count.ok fun F => ok__law_count T.toTx F
  let c__law_finals : DefOk l.prog w K mg base CX0 "_law_finals" P__law_finals (5) ((sp_fins)) := a__law_finals.ok fun F => ok__law_finals T.toTx c__law_draw c__law_id c__law_log F
  let c__law_letter : DefOk l.prog w K mg base CX0 "_law_letter" P__law_letter (6) ((sp_letter)) := a__law_letter.ok fun F => ok__law_letter T.toTx c__law_draw c__law_positive c__law_member c__law_members c__law_id c__law_payload c__law_log c__law_pending c__law_count c__law_finals F
  let c_is_letter : DefOk l.prog w K mg base CX0 "is_letter" P_is_letter 9 ((spHS2 isLet)) := a_is_letter.ok fun F => ok_is_letter T.toTx CH c_is_member c_is_view_id Hh Hc Ho Hp Hs Hi Hg F
  let c_encode : DefOk l.prog w K mg base (L2.CX l.prog w) "encode" P_encode 21 ((sp_encode C_BadText)) := a_encode.ok fun F => ok_encode T c__write F
  let c__law_refused : DefOk l.prog w K mg base CX0 "_law_refused" P__law_refused 22 (sp_lref) := a__law_refused.ok fun F => ok__law_refused T c_encode F
  let c_decode : DefOk l.prog w K mg base CX0 "decode" P_decode (21) ((sp_decode)) := a_decode.ok fun F => ok_decode T.toTx c_is_printable c__read F
  let c__law_right : DefOk l.prog w K mg base CX0 "_law_right" P__law_right 23 (sp_lright) := a__law_right.ok fun F => ok__law_right T c_is_letter c__law_depth c__law_text c__law_refused c_encode c_decode c__law_same F
  let c__law_long : DefOk l.prog w K mg base CX0 "_law_long" P__law_long (2) ((sp_llong)) := a__law_long.ok fun F => ok__law_long T.toTx c__law_draw F
  exact ok_law T c__law_bag c__law_draw c__law_letter c_is_letter c__law_right c_encode c__law_same c__law_long F_law
end Mus
open PySem PySem.W PyProof.Rows
set_option maxRecDepth 100000 in
set_option maxHeartbeats 0 in
theorem PySem.Challenge.cw_mustercall_k09_whole_letters_have_texts_holds : PySem.Challenge.rw_mustercall_k09_whole_letters_have_texts.Holds := by
  w_on; o_law; k_head; (case hw => w_witness2)
  k_fill
  refine Mus.walk_ofX (l := PySem.Challenge.rw_mustercall_k09_whole_letters_have_texts) (n := 63) (k := 24) (x := "script") (sp := fun w => Mus.sp_law (_ : PySem.W.Frag)) rfl (by decide) rfl ⟨rfl, by decide, by decide⟩ (fun w h Y => PySem.W.kIn_of Y) ?F (fun _ _ a ns hl _ hS => ⟨a, ns, rfl, hS, hl, fun _ => rfl⟩)
  case F =>
    intro w mg fa h KX G XX hmg
    refine' Mus.all_mk KX G hmg (Mus.loose_int XX.2) ?aC_BadText ?x_BadText ?k_BadText ?b_BadText ?t_BadText ?aD__CHECKS ?lD__CHECKS ?kD__CHECKS ?zD__CHECKS ?e0__CHECKS ?e1__CHECKS ?e2__CHECKS ?e3__CHECKS ?e4__CHECKS ?e5__CHECKS ?e6__CHECKS ?kt ?m_TT ?ax_is_printable ?lx_is_printable ?cx_is_printable ?kx_is_printable ?ax__is_printable_character ?lx__is_printable_character ?cx__is_printable_character ?kx__is_printable_character ?ax_is_integer ?lx_is_integer ?cx_is_integer ?kx_is_integer ?ax_encode ?lx_encode ?cx_encode ?kx_encode ?ax__write ?lx__write ?cx__write ?kx__write ?ax__write_tuple ?lx__write_tuple ?cx__write_tuple ?kx__write_tuple ?ax__put ?lx__put ?cx__put ?kx__put ?ax__string_text ?lx__string_text ?cx__string_text ?kx__string_text ?ax__integer_text ?lx__integer_text ?cx__integer_text ?kx__integer_text ?ax_decode ?lx_decode ?cx_decode ?kx_decode ?ax__read ?lx__read ?cx__read ?kx__read ?ax__read_tuple ?lx__read_tuple ?cx__read_tuple ?kx__read_tuple ?ax__read_characters ?lx__read_characters ?cx__read_characters ?kx__read_characters ?ax__read_integer ?lx__read_integer ?cx__read_integer ?kx__read_integer ?ax__digits_end ?lx__digits_end ?cx__digits_end ?kx__digits_end ?ax_is_process ?lx_is_process ?cx_is_process ?kx_is_process ?ax_is_member ?lx_is_member ?cx_is_member ?kx_is_member ?ax_is_members ?lx_is_members ?cx_is_members ?kx_is_members ?ax_is_view_id ?lx_is_view_id ?cx_is_view_id ?kx_is_view_id ?ax_is_payload ?lx_is_payload ?cx_is_payload ?kx_is_payload ?ax_is_message ?lx_is_message ?cx_is_message ?kx_is_message ?ax_is_log ?lx_is_log ?cx_is_log ?kx_is_log ?ax_last_index ?lx_last_index ?cx_last_index ?kx_last_index ?ax_is_pending ?lx_is_pending ?cx_is_pending ?kx_is_pending ?ax__is_pending_cast ?lx__is_pending_cast ?cx__is_pending_cast ?kx__is_pending_cast ?ax__is_here ?lx__is_here ?cx__is_here ?kx__is_here ?ax__is_cast ?lx__is_cast ?cx__is_cast ?kx__is_cast ?ax__is_order ?lx__is_order ?cx__is_order ?kx__is_order ?ax__is_propose ?lx__is_propose ?cx__is_propose ?kx__is_propose ?ax__is_state ?lx__is_state ?cx__is_state ?kx__is_state ?ax__is_install ?lx__is_install ?cx__is_install ?kx__is_install ?ax__is_higher ?lx__is_higher ?cx__is_higher ?kx__is_higher ?ax__is_place ?lx__is_place ?cx__is_place ?kx__is_place ?ax__is_finals ?lx__is_finals ?cx__is_finals ?kx__is_finals ?ax__is_final ?lx__is_final ?cx__is_final ?kx__is_final ?ax_is_letter ?lx_is_letter ?cx_is_letter ?kx_is_letter ?ax__law_bag ?lx__law_bag ?cx__law_bag ?kx__law_bag ?ax__law_draw ?lx__law_draw ?cx__law_draw ?kx__law_draw ?ax__law_positive ?lx__law_positive ?cx__law_positive ?kx__law_positive ?ax__law_member ?lx__law_member ?cx__law_member ?kx__law_member ?ax__law_members ?lx__law_members ?cx__law_members ?kx__law_members ?ax__law_id ?lx__law_id ?cx__law_id ?kx__law_id ?ax__law_payload ?lx__law_payload ?cx__law_payload ?kx__law_payload ?ax__law_log ?lx__law_log ?cx__law_log ?kx__law_log ?ax__law_pending ?lx__law_pending ?cx__law_pending ?kx__law_pending ?ax__law_count ?lx__law_count ?cx__law_count ?kx__law_count ?ax__law_finals ?lx__law_finals ?cx__law_finals ?kx__law_finals ?ax__law_letter ?lx__law_letter ?cx__law_letter ?kx__law_letter ?ax__law_text ?lx__law_text ?cx__law_text ?kx__law_text ?ax__law_depth ?lx__law_depth ?cx__law_depth ?kx__law_depth ?ax__law_same ?lx__law_same ?cx__law_same ?kx__law_same ?ax__law_refused ?lx__law_refused ?cx__law_refused ?kx__law_refused ?ax__law_right ?lx__law_right ?cx__law_right ?kx__law_right ?ax__law_long ?lx__law_long ?cx__law_long ?kx__law_long ?ax_law ?lx_law ?cx_law ?kx_law ?v_REFUSED_CODE ?vMOST_PROCESSES ?vMOST_PAYLOAD ?vMOST_DIGITS ?vMOST_DEPTH ?vMOST_LENGTH ?zlen ?zisinstance ?zint ?zbool ?zstr ?ztuple ?zrange ?zmin ?zmax ?zsorted ?zord ?zenumerate
    (case aC_BadText => first | k_is | rfl)
    (case x_BadText => k_exc)
    (case k_BadText => first | k_is | rfl)
    (case b_BadText => first | k_is | rfl)
    (case t_BadText => first | k_is | rfl)
    (case aD__CHECKS => first | k_is | rfl)
    (case lD__CHECKS => first | k_is | rfl)
    (case kD__CHECKS => exact ⟨⟨_, _, rfl, rfl⟩, ⟨_, _, rfl, rfl⟩, ⟨_, _, rfl, rfl⟩, ⟨_, _, rfl, rfl⟩, ⟨_, _, rfl, rfl⟩, ⟨_, _, rfl, rfl⟩, ⟨_, _, rfl, rfl⟩, trivial⟩)
    (case zD__CHECKS => first | k_is | rfl)
    (case e0__CHECKS => first | k_is | rfl)
    (case e1__CHECKS => first | k_is | rfl)
    (case e2__CHECKS => first | k_is | rfl)
    (case e3__CHECKS => first | k_is | rfl)
    (case e4__CHECKS => first | k_is | rfl)
    (case e5__CHECKS => first | k_is | rfl)
    (case e6__CHECKS => first | k_is | rfl)
    (case kt => rfl)
    (case m_TT => first | k_is | rfl)
    (case ax_is_printable => first | k_is | rfl)
    (case lx_is_printable => first | k_is | rfl)
    (case cx_is_printable => first | k_is | rfl)
    (case kx_is_printable => first | k_is | rfl)
    (case ax__is_printable_character => first | k_is | rfl)
    (case lx__is_printable_character => first | k_is | rfl)
    (case cx__is_printable_character => first | k_is | rfl)
    (case kx__is_printable_character => first | k_is | rfl)
    (case ax_is_integer => first | k_is | rfl)
    (case lx_is_integer => first | k_is | rfl)
    (case cx_is_integer => first | k_is | rfl)
    (case kx_is_integer => first | k_is | rfl)
    (case ax_encode => first | k_is | rfl)
    (case lx_encode => first | k_is | rfl)
    (case cx_encode => first | k_is | rfl)
    (case kx_encode => first | k_is | rfl)
    (case ax__write => first | k_is | rfl)
    (case lx__write => first | k_is | rfl)
    (case cx__write => first | k_is | rfl)
    (case kx__write => first | k_is | rfl)
    (case ax__write_tuple => first | k_is | rfl)
    (case lx__write_tuple => first | k_is | rfl)
    (case cx__write_tuple => first | k_is | rfl)
    (case kx__write_tuple => first | k_is | rfl)
    (case ax__put => first | k_is | rfl)
    (case lx__put => first | k_is | rfl)
    (case cx__put => first | k_is | rfl)
    (case kx__put => first | k_is | rfl)
    (case ax__string_text => first | k_is | rfl)
    (case lx__string_text => first | k_is | rfl)
    (case cx__string_text => first | k_is | rfl)
    (case kx__string_text => first | k_is | rfl)
    (case ax__integer_text => first | k_is | rfl)
    (case lx__integer_text => first | k_is | rfl)
    (case cx__integer_text => first | k_is | rfl)
    (case kx__integer_text => first | k_is | rfl)
    (case ax_decode => first | k_is | rfl)
    (case lx_decode => first | k_is | rfl)
    (case cx_decode => first | k_is | rfl)
    (case kx_decode => first | k_is | rfl)
    (case ax__read => first | k_is | rfl)
    (case lx__read => first | k_is | rfl)
    (case cx__read => first | k_is | rfl)
    (case kx__read => first | k_is | rfl)
    (case ax__read_tuple => first | k_is | rfl)
    (case lx__read_tuple => first | k_is | rfl)
    (case cx__read_tuple => first | k_is | rfl)
    (case kx__read_tuple => first | k_is | rfl)
    (case ax__read_characters => first | k_is | rfl)
    (case lx__read_characters => first | k_is | rfl)
    (case cx__read_characters => first | k_is | rfl)
    (case kx__read_characters => first | k_is | rfl)
    (case ax__read_integer => first | k_is | rfl)
    (case lx__read_integer => first | k_is | rfl)
    (case cx__read_integer => first | k_is | rfl)
    (case kx__read_integer => first | k_is | rfl)
    (case ax__digits_end => first | k_is | rfl)
    (case lx__digits_end => first | k_is | rfl)
    (case cx__digits_end => first | k_is | rfl)
    (case kx__digits_end => first | k_is | rfl)
    (case ax_is_process => first | k_is | rfl)
    (case lx_is_process => first | k_is | rfl)
    (case cx_is_process => first | k_is | rfl)
    (case kx_is_process => first | k_is | rfl)
    (case ax_is_member => first | k_is | rfl)
    (case lx_is_member => first | k_is | rfl)
    (case cx_is_member => first | k_is | rfl)
    (case kx_is_member => first | k_is | rfl)
    (case ax_is_members => first | k_is | rfl)
    (case lx_is_members => first | k_is | rfl)
    (case cx_is_members => first | k_is | rfl)
    (case kx_is_members => first | k_is | rfl)
    (case ax_is_view_id => first | k_is | rfl)
    (case lx_is_view_id => first | k_is | rfl)
    (case cx_is_view_id => first | k_is | rfl)
    (case kx_is_view_id => first | k_is | rfl)
    (case ax_is_payload => first | k_is | rfl)
    (case lx_is_payload => first | k_is | rfl)
    (case cx_is_payload => first | k_is | rfl)
    (case kx_is_payload => first | k_is | rfl)
    (case ax_is_message => first | k_is | rfl)
    (case lx_is_message => first | k_is | rfl)
    (case cx_is_message => first | k_is | rfl)
    (case kx_is_message => first | k_is | rfl)
    (case ax_is_log => first | k_is | rfl)
    (case lx_is_log => first | k_is | rfl)
    (case cx_is_log => first | k_is | rfl)
    (case kx_is_log => first | k_is | rfl)
    (case ax_last_index => first | k_is | rfl)
    (case lx_last_index => first | k_is | rfl)
    (case cx_last_index => first | k_is | rfl)
    (case kx_last_index => first | k_is | rfl)
    (case ax_is_pending => first | k_is | rfl)
    (case lx_is_pending => first | k_is | rfl)
    (case cx_is_pending => first | k_is | rfl)
    (case kx_is_pending => first | k_is | rfl)
    (case ax__is_pending_cast => first | k_is | rfl)
    (case lx__is_pending_cast => first | k_is | rfl)
    (case cx__is_pending_cast => first | k_is | rfl)
    (case kx__is_pending_cast => first | k_is | rfl)
    (case ax__is_here => first | k_is | rfl)
    (case lx__is_here => first | k_is | rfl)
    (case cx__is_here => first | k_is | rfl)
    (case kx__is_here => first | k_is | rfl)
    (case ax__is_cast => first | k_is | rfl)
    (case lx__is_cast => first | k_is | rfl)
    (case cx__is_cast => first | k_is | rfl)
    (case kx__is_cast => first | k_is | rfl)
    (case ax__is_order => first | k_is | rfl)
    (case lx__is_order => first | k_is | rfl)
    (case cx__is_order => first | k_is | rfl)
    (case kx__is_order => first | k_is | rfl)
    (case ax__is_propose => first | k_is | rfl)
    (case lx__is_propose => first | k_is | rfl)
    (case cx__is_propose => first | k_is | rfl)
    (case kx__is_propose => first | k_is | rfl)
    (case ax__is_state => first | k_is | rfl)
    (case lx__is_state => first | k_is | rfl)
    (case cx__is_state => first | k_is | rfl)
    (case kx__is_state => first | k_is | rfl)
    (case ax__is_install => first | k_is | rfl)
    (case lx__is_install => first | k_is | rfl)
    (case cx__is_install => first | k_is | rfl)
    (case kx__is_install => first | k_is | rfl)
    (case ax__is_higher => first | k_is | rfl)
    (case lx__is_higher => first | k_is | rfl)
    (case cx__is_higher => first | k_is | rfl)
    (case kx__is_higher => first | k_is | rfl)
    (case ax__is_place => first | k_is | rfl)
    (case lx__is_place => first | k_is | rfl)
    (case cx__is_place => first | k_is | rfl)
    (case kx__is_place => first | k_is | rfl)
    (case ax__is_finals => first | k_is | rfl)
    (case lx__is_finals => first | k_is | rfl)
    (case cx__is_finals => first | k_is | rfl)
    (case kx__is_finals => first | k_is | rfl)
    (case ax__is_final => first | k_is | rfl)
    (case lx__is_final => first | k_is | rfl)
    (case cx__is_final => first | k_is | rfl)
    (case kx__is_final => first | k_is | rfl)
    (case ax_is_letter => first | k_is | rfl)
    (case lx_is_letter => first | k_is | rfl)
    (case cx_is_letter => first | k_is | rfl)
    (case kx_is_letter => first | k_is | rfl)
    (case ax__law_bag => first | k_is | rfl)
    (case lx__law_bag => first | k_is | rfl)
    (case cx__law_bag => first | k_is | rfl)
    (case kx__law_bag => first | k_is | rfl)
    (case ax__law_draw => first | k_is | rfl)
    (case lx__law_draw => first | k_is | rfl)
    (case cx__law_draw => first | k_is | rfl)
    (case kx__law_draw => first | k_is | rfl)
    (case ax__law_positive => first | k_is | rfl)
    (case lx__law_positive => first | k_is | rfl)
    (case cx__law_positive => first | k_is | rfl)
    (case kx__law_positive => first | k_is | rfl)
    (case ax__law_member => first | k_is | rfl)
    (case lx__law_member => first | k_is | rfl)
    (case cx__law_member => first | k_is | rfl)
    (case kx__law_member => first | k_is | rfl)
    (case ax__law_members => first | k_is | rfl)
    (case lx__law_members => first | k_is | rfl)
    (case cx__law_members => first | k_is | rfl)
    (case kx__law_members => first | k_is | rfl)
    (case ax__law_id => first | k_is | rfl)
    (case lx__law_id => first | k_is | rfl)
    (case cx__law_id => first | k_is | rfl)
    (case kx__law_id => first | k_is | rfl)
    (case ax__law_payload => first | k_is | rfl)
    (case lx__law_payload => first | k_is | rfl)
    (case cx__law_payload => first | k_is | rfl)
    (case kx__law_payload => first | k_is | rfl)
    (case ax__law_log => first | k_is | rfl)
    (case lx__law_log => first | k_is | rfl)
    (case cx__law_log => first | k_is | rfl)
    (case kx__law_log => first | k_is | rfl)
    (case ax__law_pending => first | k_is | rfl)
    (case lx__law_pending => first | k_is | rfl)
    (case cx__law_pending => first | k_is | rfl)
    (case kx__law_pending => first | k_is | rfl)
    (case ax__law_count => first | k_is | rfl)
    (case lx__law_count => first | k_is | rfl)
    (case cx__law_count => first | k_is | rfl)
    (case kx__law_count => first | k_is | rfl)
    (case ax__law_finals => first | k_is | rfl)
    (case lx__law_finals => first | k_is | rfl)
    (case cx__law_finals => first | k_is | rfl)
    (case kx__law_finals => first | k_is | rfl)
    (case ax__law_letter => first | k_is | rfl)
    (case lx__law_letter => first | k_is | rfl)
    (case cx__law_letter => first | k_is | rfl)
    (case kx__law_letter => first | k_is | rfl)
    (case ax__law_text => first | k_is | rfl)
    (case lx__law_text => first | k_is | rfl)
    (case cx__law_text => first | k_is | rfl)
    (case kx__law_text => first | k_is | rfl)
    (case ax__law_depth => first | k_is | rfl)
    (case lx__law_depth => first | k_is | rfl)
    (case cx__law_depth => first | k_is | rfl)
    (case kx__law_depth => first | k_is | rfl)
    (case ax__law_same => first | k_is | rfl)
    (case lx__law_same => first | k_is | rfl)
    (case cx__law_same => first | k_is | rfl)
    (case kx__law_same => first | k_is | rfl)
    (case ax__law_refused => first | k_is | rfl)
    (case lx__law_refused => first | k_is | rfl)
    (case cx__law_refused => first | k_is | rfl)
    (case kx__law_refused => first | k_is | rfl)
    (case ax__law_right => first | k_is | rfl)
    (case lx__law_right => first | k_is | rfl)
    (case cx__law_right => first | k_is | rfl)
    (case kx__law_right => first | k_is | rfl)
    (case ax__law_long => first | k_is | rfl)
    (case lx__law_long => first | k_is | rfl)
    (case cx__law_long => first | k_is | rfl)
    (case kx__law_long => first | k_is | rfl)
    (case ax_law => first | k_is | rfl)
    (case lx_law => first | k_is | rfl)
    (case cx_law => first | k_is | rfl)
    (case kx_law => first | k_is | rfl)
    (case v_REFUSED_CODE => first | k_is | rfl)
    (case vMOST_PROCESSES => first | k_is | rfl)
    (case vMOST_PAYLOAD => first | k_is | rfl)
    (case vMOST_DIGITS => first | k_is | rfl)
    (case vMOST_DEPTH => first | k_is | rfl)
    (case vMOST_LENGTH => first | k_is | rfl)
    (case zlen => first | k_is | rfl)
    (case zisinstance => first | k_is | rfl)
    (case zint => first | k_is | rfl)
    (case zbool => first | k_is | rfl)
    (case zstr => first | k_is | rfl)
    (case ztuple => first | k_is | rfl)
    (case zrange => first | k_is | rfl)
    (case zmin => first | k_is | rfl)
    (case zmax => first | k_is | rfl)
    (case zsorted => first | k_is | rfl)
    (case zord => first | k_is | rfl)
    (case zenumerate => first | k_is | rfl)

