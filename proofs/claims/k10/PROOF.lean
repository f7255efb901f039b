import PyProof.Rows.All
import Wide.All
import OpenK.AllK
import Wide.FinOn
import HandS.Base
import HandS.Call
import HandS.List
import HandS.Comp
import HandS.Ends
import HandS.Iter
import HandS.Text
import HandS.Words
import HandS.WordsList
import HandS.Wide
import HandS.IsInst
import HandS.TupAny
import HandS.Dict
import HandS.WordsDict
import HandS.Conv
import HandS.More
import HandS.Codes
import HandS.SortRule
import HandS.Walk
import HandS.FStr
import HandS.StrMore
import HandS.Exc
import HandS.ExcOwn
import HandS.TryOnly
import HandS.WordsExc
import HandS.TryMany
import HandS.ExcIs
import PySem.Challenge.RW_mustercall_k10_two_cells
set_option Elab.async false
set_option linter.all false
set_option maxRecDepth 100000
set_option maxHeartbeats 4000000
/-! What my proofs share: a def with its promise as one thing, small rules, heaps. -/
namespace Mus
open PySem L2
/-- a def of the text that keeps a promise, and all that a call of it asks -/
structure DefOk (P : Program) (w : World) (K : PySem.W.Frag) (mg : Str → Option Value) (base : Heap) (CX : CXT) (x : Str) (ps : List Str) (k : Nat) (sp : Sp) where
  f : Addr
  fd : FuncData
  G : FnOk P w K mg base CX k f fd ps sp
  m : mg x = some (.ref f)
  kp : PySem.W.keepIn K (.ref f) = true
  b : Binds K fd ps []
def DefOk.mono {P : Program} {w : World} {K : PySem.W.Frag} {mg : Str → Option Value} {base : Heap} {CX : CXT} {x : Str} {ps : List Str} {j k : Nat} {sp : Sp} (c : DefOk P w K mg base CX x ps j sp) (h : j ≤ k) : DefOk P w K mg base CX x ps k sp :=
  ⟨c.f, c.fd, c.G.mono h, c.m, c.kp, c.b⟩
/-- a def of the text as the top left it: no promise yet -/
structure DefAt (K : PySem.W.Frag) (mg : Str → Option Value) (x : Str) (ps : List Str) (st : Stmt) where
  f : Addr
  fd : FuncData
  F : Fun K x x st f fd
  m : mg x = some (.ref f)
  b : Binds K fd ps []
def DefAt.ok {P : Program} {w : World} {K : PySem.W.Frag} {mg : Str → Option Value} {base : Heap} {CX : CXT} {x : Str} {ps : List Str} {st : Stmt} {k : Nat} {sp : Sp} (d : DefAt K mg x ps st) (h : ∀ {f : Addr} {fd : FuncData}, Fun K x x st f fd → FnOk P w K mg base CX k f fd ps sp) : DefOk P w K mg base CX x ps k sp :=
  ⟨d.f, d.fd, h d.F, d.m, d.F.kp, d.b⟩
section
variable {X : Cx}
theorem pcall {x : Str} {ps : List Str} {j k : Nat} {sp : Sp} {e : Expr} {es : List Expr} {t : TA} {p pos : Pos} (c : DefOk X.prog X.w X.K X.mg X.base CX0 x ps j sp) (hr : Room k X.A) (ha : PA X (e :: es) t) (hj : j ≤ k := by first | decide | omega) (hg : Gl X x := by rfl)
    (db0 : (x == ("__debug__" : Str)) = false := by decide) (st0 : starEach (e :: es) X.env = (false, eval e X.env) :: starEach es X.env := by rfl) (pl0 : (backTo pos (starEach es X.env)).any (·.1) = false := by rfl) :
    PE X (.Call (.Name x p) (e :: es) [] pos) (tCall sp [] E0 t) := pe_call c.G (hr.mono hj) hg c.m c.kp c.b .nil pass0 ha db0 st0 pl0
/-- a text n times -/
theorem op_mul_str : OpR X (binaryOp .Mult) (fun x y H Q => ∃ (z : Str) (n : Int), x = .str z ∧ y = .int n ∧ 2 ≤ n ∧ n ≤ 1000 ∧ 1 ≤ z.length ∧ z.length ≤ 1000 ∧ ∀ r : Str, TL.tl r = (List.replicate n.toNat (TL.tl z)).flatten → Q (.str r) H) := by
  intro pins s σ H x y v u Q I rx ry h
  obtain ⟨z, n, rfl, rfl, h2, h3, h4, h5, q⟩ := h
  obtain ⟨t, rfl⟩ := rx
  obtain ⟨t', rfl⟩ := ry
  have n1 : ¬ n < 1 := by omega
  have n2 : ¬ (n == 1 || z.length == 0) = true := by
    rw [Bool.or_eq_true, beq_iff_eq, beq_iff_eq]; omega
  have hr : (decide (n < -(2 ^ 63 : Int)) || decide (n ≥ 2 ^ 63)) = false := by
    rw [decide_eq_false (by omega), decide_eq_false (by omega)]; rfl
  have hm : z.length * n.toNat ≤ 1000 * 1000 := Nat.mul_le_mul h5 (by omega)
  have hl : Builtin.Str.tooLong (z.length * n.toNat) = false := by
    unfold Builtin.Str.tooLong
    have e : sizeLine = 16777216 := sizeLine_eq
    rw [decide_eq_false (by omega)]
  have hb : ¬ ((z.length : Int) > (2 ^ 63 - 1) / n) := by
    have : (1000 : Int) ≤ (2 ^ 63 - 1) / n := by
      rw [Int.le_ediv_iff_mul_le (by omega)]
      omega
    omega
  refine PySem.P.mul_str hr (fun _ _ => hb) (fun _ _ => hl) ?_
  rw [if_neg n1, if_neg n2]
  have hf : ∀ (k : Nat) (acc : Array Nat), ((List.replicate k z.cps).foldl (· ++ ·) acc).toList = acc.toList ++ (List.replicate k z.cps.toList).flatten := by
    intro k
    induction k with
    | zero => intro acc; simp
    | succ k ih =>
      intro acc
      rw [List.replicate_succ, List.foldl_cons, ih, List.replicate_succ, List.flatten_cons, Array.toList_append, List.append_assoc]
  have hr : TL.tl (⟨(List.replicate n.toNat z.cps).foldl (· ++ ·) #[]⟩ : Str) = (List.replicate n.toNat (TL.tl z)).flatten := by
    show ((List.replicate n.toNat z.cps).foldl (· ++ ·) #[]).toList = _
    rw [hf]; rfl
  have hlen : (⟨(List.replicate n.toNat z.cps).foldl (· ++ ·) #[]⟩ : Str).length ≤ sizeLine := by
    rw [TL.len_tl, hr]
    have e : sizeLine = 16777216 := sizeLine_eq
    have z2 : ((List.replicate n.toNat (TL.tl z)).flatten).length = z.length * n.toNat := by
      rw [TL.len_tl]
      generalize n.toNat = k
      induction k with
      | zero => rfl
      | succ k ih => rw [List.replicate_succ, List.flatten_cons, List.length_append, ih, Nat.mul_succ, Nat.add_comm]
    omega
  exact ⟨hlen, .str _, H, I.tok _, ⟨_, rfl⟩, q _ hr⟩
/-- for c in a text -/
theorem for_str {z : Str} {g : TG} {tb : TS} {D : Ends} {σ : St} {H : Hp} (Pv : Nat → St → Hp → Prop) (h0 : Pv 0 σ H)
    (hs : ∀ i c σ H, (TL.tl z)[i]? = some c → Pv i σ H → g (.str ⟨#[c]⟩) σ H fun σ2 H2 => tb { D with nx := Pv (i + 1), ct := Pv (i + 1), bk := D.nx } σ2 H2) (hd : ∀ σ H, Pv (TL.tl z).length σ H → D.nx σ H) :
    ∃ W : Nat → Nat → St → Hp → Prop, (∃ m, W 0 m σ H) ∧ ∀ i m σ H, W i m σ H →
      ((Its z).stop i H ∧ D.nx σ H) ∨ ((Its z).go i H ∧ ∃ N : St → Hp → Prop, (∀ σ' H', N σ' H' → ∃ m', m' < m ∧ W (i + 1) m' σ' H') ∧ ∀ x H', (Its z).yld i H x H' → g x σ H' fun σ2 H2 => tb { D with nx := N, ct := N, bk := D.nx } σ2 H2) := by
  have hl : (TL.tl z).length = z.cps.size := Array.length_toList
  refine ⟨fun i m σ H => m = (TL.tl z).length - i ∧ i ≤ (TL.tl z).length ∧ Pv i σ H, ⟨(TL.tl z).length, rfl, Nat.zero_le _, h0⟩, ?_⟩
  rintro i m σ H ⟨rfl, le1, pv1⟩
  by_cases lt1 : i < (TL.tl z).length
  · refine .inr ⟨(by show i < z.cps.size; omega), Pv (i + 1), fun σ' H' p' => ⟨(TL.tl z).length - (i + 1), by omega, rfl, lt1, p'⟩, fun x H' y => ?_⟩
    obtain ⟨e, c, hc, ex⟩ := y
    subst e
    subst ex
    exact hs i c σ H' (by rw [Array.getElem?_toList]; exact hc) pv1
  · have e : i = (TL.tl z).length := by omega
    subst e
    exact .inl ⟨(by show z.cps.size ≤ _; omega), hd σ H pv1⟩
end
/-! ### heaps -/
/-- all but what stands at p is as it was -/
def But (p : Addr) (H H' : Hp) : Prop := ∀ b o, H b = some o → b ≠ p → H' b = some o
theorem But.refl (p : Addr) (H : Hp) : But p H H := fun _ _ h _ => h
theorem But.trans {p : Addr} {H H1 H2 : Hp} (a : But p H H1) (b : But p H1 H2) : But p H H2 := fun c o h n => b c o (a c o h n) n
theorem But.of {p : Addr} {H H' : Hp} (a : Same H H') : But p H H' := fun c o h _ => a c o h
theorem same_new {H : Hp} {p : Addr} (h : H p = none) (o : HO) : Same H (upd H p o) := fun b u q => by rw [upd_ne (ne_of_none q h)]; exact q
theorem but_upd {H : Hp} {p : Addr} (o : HO) : But p H (upd H p o) := fun b u q n => by rw [upd_ne n]; exact q
theorem same_seqT {K : PySem.W.Frag} {H H' : Hp} {a : Addr} {xs : List V} (e : Same H H') (h : SqT K H a xs) : SqT K H' a xs := by
  rcases h with (h | ⟨o, h⟩) | h
  · exact .inl (.inl (e _ _ h))
  · exact .inl (.inr ⟨o, e _ _ h⟩)
  · exact .inr h
/-- tuples stay where only a list may change -/
theorem But.seqT {K : PySem.W.Frag} {H H' : Hp} {p a : Addr} {xs ys : List V} (e : But p H H') (hp : H p = some (.lst ys)) (h : SqT K H a xs) : SqT K H' a xs := by
  rcases h with (h | ⟨o, h⟩) | h
  · exact .inl (.inl (e _ _ h (ne_of h hp (by intro z; cases z))))
  · exact .inl (.inr ⟨o, e _ _ h (ne_of h hp (by intro z; cases z))⟩)
  · exact .inr h
theorem But.seqL {K : PySem.W.Frag} {H H' : Hp} {p a : Addr} {xs : List V} (e : But p H H') (hp : a ≠ p) (h : SqL K H a xs) : SqL K H' a xs := by
  rcases h with (h | ⟨o, h⟩) | h
  · exact .inl (.inl (e _ _ h hp))
  · exact .inl (.inr ⟨o, e _ _ h hp⟩)
  · exact .inr h
end Mus

set_option maxRecDepth 100000
set_option maxHeartbeats 4000000
/-! Plain data of any kind in the heap, beside one list (the bag, at p) that changes. -/
namespace Mus
open PySem L2
theorem sl : sizeLine = 16777216 := sizeLine_eq
theorem dT {p : Prop} [Decidable p] {A B : Prop} (h : p) (a : A) : if decide p = true then A else B := by
  rw [decide_eq_true h]; exact iteT a
theorem dF {p : Prop} [Decidable p] {A B : Prop} (h : ¬ p) (b : B) : if decide p = true then A else B := by
  rw [decide_eq_false h]; exact iteF b
theorem nT {p : Prop} [Decidable p] {A B : Prop} (h : ¬ p) (a : A) : if (!decide p) = true then A else B := by
  rw [decide_eq_false h]; exact iteT a
theorem nF {p : Prop} [Decidable p] {A B : Prop} (h : p) (b : B) : if (!decide p) = true then A else B := by
  rw [decide_eq_true h]; exact iteF b
theorem at_int {α : Type} {xs : List α} {i : Int} {v : α} (h0 : 0 ≤ i) (h : xs[i.toNat]? = some v) : atI xs i = some v := by
  have e : i = ((i.toNat : Nat) : Int) := by omega
  rw [e]
  exact atI_nat h
theorem pe_const {X : Cx} {x : Str} {i : Int} {pos : Pos} (hm : ∃ t, X.mg x = some (.int i t)) (hg : Gl X x := by rfl) (hd : (x == ("__debug__" : Str)) = false := by decide) : PE X (.Name x pos) (tC (.int i)) := by
  obtain ⟨t, h⟩ := hm
  exact pe_glob hg h ⟨t, rfl⟩ hd
theorem pe_ty {X : Cx} {x : Str} {pos : Pos} (n : String) (hm : X.mg x = none) (hv : bootBuiltins x = some (.type n) := by decide +kernel) (hg : Gl X x := by rfl) (hn : x ≠ "__name__" := by decide) (hd : (x == ("__debug__" : Str)) = false := by decide) : PE X (.Name x pos) (tC (.ty n)) := pe_bltn hg hm hv rfl hn hd
theorem pe_cls {X : Cx} {x : Str} {C : Addr} {pos : Pos} (hm : X.mg x = some (.ref C)) (hg : Gl X x := by rfl) (hd : (x == ("__debug__" : Str)) = false := by decide) : PE X (.Name x pos) (tC (.ref C)) := pe_glob (v := .ref C) hg hm rfl hd
mutual
/-- the value v stands for the data d, all of it tracked and none of it at p -/
inductive Rp (p : Addr) (H : Hp) : V → PyData → Prop
  | non : Rp p H .non .none
  | bl (b : Bool) : Rp p H (.bl b) (.bool b)
  | int (i : Int) : Rp p H (.int i) (.int i)
  | str (x : Str) : Rp p H (.str x) (.str x)
  | lst {a : Addr} {xs : List V} {ds : List PyData} : H a = some (.lst xs) → a ≠ p → Rps p H xs ds → Rp p H (.ref a) (.list ds)
  | tup {a : Addr} {xs : List V} {ds : List PyData} : H a = some (.tup xs) → a ≠ p → xs.length ≤ 100000 → Rps p H xs ds → Rp p H (.ref a) (.tuple ds)
inductive Rps (p : Addr) (H : Hp) : List V → List PyData → Prop
  | nil : Rps p H [] []
  | cons {v : V} {vs : List V} {d : PyData} {ds : List PyData} : Rp p H v d → Rps p H vs ds → Rps p H (v :: vs) (d :: ds)
end
mutual
theorem Rp.mono {p : Addr} {H H' : Hp} (k : But p H H') : ∀ {v : V} {d : PyData}, Rp p H v d → Rp p H' v d
  | _, _, .non => .non
  | _, _, .bl b => .bl b
  | _, _, .int i => .int i
  | _, _, .str x => .str x
  | _, _, .lst h n r => .lst (k _ _ h n) n (Rps.mono k r)
  | _, _, .tup h n l r => .tup (k _ _ h n) n l (Rps.mono k r)
theorem Rps.mono {p : Addr} {H H' : Hp} (k : But p H H') : ∀ {vs : List V} {ds : List PyData}, Rps p H vs ds → Rps p H' vs ds
  | _, _, .nil => .nil
  | _, _, .cons a b => .cons (Rp.mono k a) (Rps.mono k b)
end
mutual
theorem Rp.dp {p : Addr} {K : PySem.W.Frag} {H : Hp} : ∀ {v : V} {d : PyData}, Rp p H v d → Dp K H v d
  | _, _, .non => .non
  | _, _, .bl b => .bl b
  | _, _, .int i => .int i
  | _, _, .str x => .str x
  | _, _, .lst h n r => .lst (SqL.of h) (Rps.dp r)
  | _, _, .tup h n _ r => .tup (SqT.of h) (Rps.dp r)
theorem Rps.dp {p : Addr} {K : PySem.W.Frag} {H : Hp} : ∀ {vs : List V} {ds : List PyData}, Rps p H vs ds → DpAll K H vs ds
  | _, _, .nil => .nil
  | _, _, .cons a b => .cons (Rp.dp a) (Rps.dp b)
end
theorem Rp.same {p : Addr} {H H' : Hp} {v : V} {d : PyData} (k : Same H H') (h : Rp p H v d) : Rp p H' v d := h.mono (But.of k)
theorem Rps.same {p : Addr} {H H' : Hp} {vs : List V} {ds : List PyData} (k : Same H H') (h : Rps p H vs ds) : Rps p H' vs ds := h.mono (But.of k)
theorem Rps.length {p : Addr} {H : Hp} : ∀ {vs : List V} {ds : List PyData}, Rps p H vs ds → vs.length = ds.length
  | _, _, .nil => rfl
  | _, _, .cons _ r => by rw [List.length_cons, List.length_cons, Rps.length r]
theorem Rps.at {p : Addr} {H : Hp} : ∀ {vs : List V} {ds : List PyData} {i : Nat} {v : V}, Rps p H vs ds → vs[i]? = some v → ∃ d, ds[i]? = some d ∧ Rp p H v d
  | _, _, i, v, .nil, h => by simp at h
  | _, _, 0, v, .cons a _, h => by cases h; exact ⟨_, rfl, a⟩
  | _, _, i + 1, v, .cons _ r, h => Rps.at (i := i) r (by simpa using h)
theorem Rps.get {p : Addr} {H : Hp} : ∀ {vs : List V} {ds : List PyData} {i : Nat} {d : PyData}, Rps p H vs ds → ds[i]? = some d → ∃ v, vs[i]? = some v ∧ Rp p H v d
  | _, _, i, v, .nil, h => by simp at h
  | _, _, 0, v, .cons a _, h => by cases h; exact ⟨_, rfl, a⟩
  | _, _, i + 1, v, .cons _ r, h => Rps.get (i := i) r (by simpa using h)
theorem Rps.append {p : Addr} {H : Hp} : ∀ {vs ws : List V} {ds es : List PyData}, Rps p H vs ds → Rps p H ws es → Rps p H (vs ++ ws) (ds ++ es)
  | _, _, _, _, .nil, r => r
  | _, _, _, _, .cons a q, r => .cons a (Rps.append q r)
theorem Rps.take {p : Addr} {H : Hp} : ∀ {vs : List V} {ds : List PyData} (n : Nat), Rps p H vs ds → Rps p H (vs.take n) (ds.take n)
  | _, _, 0, _ => .nil
  | _, _, n + 1, .nil => .nil
  | _, _, n + 1, .cons a q => .cons a (Rps.take n q)
theorem Rps.drop {p : Addr} {H : Hp} : ∀ {vs : List V} {ds : List PyData} (n : Nat), Rps p H vs ds → Rps p H (vs.drop n) (ds.drop n)
  | _, _, 0, r => r
  | _, _, n + 1, .nil => .nil
  | _, _, n + 1, .cons a q => Rps.drop n q
/-! ### classes of data -/
def tyD : PyData → Value
  | .none => .type "NoneType" | .bool _ => .type "bool" | .int _ => .type "int" | .str _ => .type "str" | .list _ => .type "list" | .tuple _ => .type "tuple" | .dict _ => .type "dict"
theorem Rp.ty {p : Addr} {K : PySem.W.Frag} {H : Hp} {v : V} {d : PyData} (h : Rp p H v d) : TyX K H v (tyD d) := by
  cases h with
  | non => exact .base .non
  | bl b => exact .base (.bl b)
  | int i => exact .base (.int i)
  | str x => exact .base (.str x)
  | lst h _ _ => exact .base (.lst h)
  | tup h _ _ _ => exact .base (.tup h)
def dInt : PyData → Bool
  | .int _ => true | .bool _ => true | _ => false
def dBool : PyData → Bool
  | .bool _ => true | _ => false
def dStr : PyData → Bool
  | .str _ => true | _ => false
def dTup : PyData → Bool
  | .tuple _ => true | _ => false
theorem kit_int {K : PySem.W.Frag} : ∀ d : PyData, PySem.W.kitOne K (tyD d) (.type "int") = some (dInt d)
  | .none => kit_ty (r := false) (by decide +kernel)
  | .bool _ => kit_ty (r := true) (by decide +kernel)
  | .int _ => kit_ty (r := true) (by decide +kernel)
  | .str _ => kit_ty (r := false) (by decide +kernel)
  | .list _ => kit_ty (r := false) (by decide +kernel)
  | .tuple _ => kit_ty (r := false) (by decide +kernel)
  | .dict _ => kit_ty (r := false) (by decide +kernel)
theorem kit_bool {K : PySem.W.Frag} : ∀ d : PyData, PySem.W.kitOne K (tyD d) (.type "bool") = some (dBool d)
  | .none => kit_ty (r := false) (by decide +kernel)
  | .bool _ => kit_ty (r := true) (by decide +kernel)
  | .int _ => kit_ty (r := false) (by decide +kernel)
  | .str _ => kit_ty (r := false) (by decide +kernel)
  | .list _ => kit_ty (r := false) (by decide +kernel)
  | .tuple _ => kit_ty (r := false) (by decide +kernel)
  | .dict _ => kit_ty (r := false) (by decide +kernel)
theorem kit_str {K : PySem.W.Frag} : ∀ d : PyData, PySem.W.kitOne K (tyD d) (.type "str") = some (dStr d)
  | .none => kit_ty (r := false) (by decide +kernel)
  | .bool _ => kit_ty (r := false) (by decide +kernel)
  | .int _ => kit_ty (r := false) (by decide +kernel)
  | .str _ => kit_ty (r := true) (by decide +kernel)
  | .list _ => kit_ty (r := false) (by decide +kernel)
  | .tuple _ => kit_ty (r := false) (by decide +kernel)
  | .dict _ => kit_ty (r := false) (by decide +kernel)
theorem kit_tup {K : PySem.W.Frag} : ∀ d : PyData, PySem.W.kitOne K (tyD d) (.type "tuple") = some (dTup d)
  | .none => kit_ty (r := false) (by decide +kernel)
  | .bool _ => kit_ty (r := false) (by decide +kernel)
  | .int _ => kit_ty (r := false) (by decide +kernel)
  | .str _ => kit_ty (r := false) (by decide +kernel)
  | .list _ => kit_ty (r := false) (by decide +kernel)
  | .tuple _ => kit_ty (r := true) (by decide +kernel)
  | .dict _ => kit_ty (r := false) (by decide +kernel)
end Mus
namespace Mus
open PySem L2
/-! ### members and view ids, as functions of data -/
def isInt (d : PyData) (a b : Int) : Bool := match d with | .int i => decide (a ≤ i) && decide (i ≤ b) | _ => false
def isProc (c d : PyData) : Bool := match c with | .int n => (decide (1 ≤ n) && decide (n ≤ 12)) && isInt d 0 (n - 1) | _ => false
def isMem (c : PyData) : PyData → Bool
  | .tuple [x, y] => isProc c x && isInt y 1 1000000000000
  | _ => false
def isVid (c : PyData) : PyData → Bool
  | .tuple [x, y] => isInt x 0 1000000000000 && isMem c y
  | _ => false
def procOf : PyData → Int
  | .tuple (.int i :: _) => i
  | _ => 0
def memsFrom (c : PyData) : Int → List PyData → Bool
  | _, [] => true
  | l, d :: ds => isMem c d && decide (l < procOf d) && memsFrom c (procOf d) ds
def isMems (c : PyData) : PyData → Bool
  | .tuple ds => !ds.isEmpty && memsFrom c (-1) ds
  | _ => false
theorem isProc_int {c d : PyData} (h : isProc c d = true) : ∃ n i, c = .int n ∧ d = .int i ∧ 1 ≤ n ∧ n ≤ 12 ∧ 0 ≤ i ∧ i < n := by
  cases c <;> try (simp [isProc] at h; done)
  rename_i n
  cases d <;> try (simp [isProc, isInt] at h; done)
  rename_i i
  simp [isProc, isInt] at h
  exact ⟨n, i, rfl, rfl, by omega, by omega, by omega, by omega⟩
theorem isInt_int {d : PyData} {a b : Int} (h : isInt d a b = true) : ∃ i, d = .int i ∧ a ≤ i ∧ i ≤ b := by
  cases d <;> try (simp [isInt] at h; done)
  rename_i i
  simp [isInt] at h
  exact ⟨i, rfl, h.1, h.2⟩
theorem isMem_int {c d : PyData} (h : isMem c d = true) : ∃ n i l, c = .int n ∧ d = .tuple [.int i, .int l] ∧ 1 ≤ n ∧ n ≤ 12 ∧ 0 ≤ i ∧ i < n ∧ 1 ≤ l ∧ l ≤ 1000000000000 := by
  unfold isMem at h
  split at h
  · rename_i x y
    rw [Bool.and_eq_true] at h
    obtain ⟨n, i, rfl, rfl, h1, h2, h3, h4⟩ := isProc_int h.1
    obtain ⟨l, rfl, h5, h6⟩ := isInt_int h.2
    exact ⟨n, i, l, rfl, rfl, h1, h2, h3, h4, h5, h6⟩
  · cases h
/-! ### promises: a truth told of data, nothing changed -/
def spI : Sp := fun vs H Q _ => ∃ (p : Addr) (v : V) (d : PyData) (a b : Int), vs = [v, .int a, .int b] ∧ Rp p H v d ∧ Q (.bl (isInt d a b)) H
def spB1 (f : PyData → Bool) : Sp := fun vs H Q _ => ∃ (p : Addr) (v : V) (d : PyData), vs = [v] ∧ Rp p H v d ∧ Q (.bl (f d)) H
def spB2 (f : PyData → PyData → Bool) : Sp := fun vs H Q _ => ∃ (p : Addr) (u v : V) (c d : PyData), vs = [u, v] ∧ Rp p H u c ∧ Rp p H v d ∧ Q (.bl (f c d)) H
/-- the same where new things may have come -/
def spS1 (f : PyData → Bool) : Sp := fun vs H Q _ => ∃ (p : Addr) (v : V) (d : PyData), vs = [v] ∧ Rp p H v d ∧ ∀ H', Same H H' → Q (.bl (f d)) H'
def spS2 (f : PyData → PyData → Bool) : Sp := fun vs H Q _ => ∃ (p : Addr) (u v : V) (c d : PyData), vs = [u, v] ∧ Rp p H u c ∧ Rp p H v d ∧ ∀ H', Same H H' → Q (.bl (f c d)) H'
theorem ansB {Q : VK} {H : Hp} {b c : Bool} (q : Q (.bl b) H) (e : b = c) : Q (.bl c) H := e ▸ q
theorem iB {A B : Prop} {b : Bool} (h1 : b = true → A) (h2 : b = false → B) : if b = true then A else B := by
  cases b
  · exact iteF (h2 rfl)
  · exact iteT (h1 rfl)
theorem vint_ne {a b : Int} (h : a ≠ b) : ¬ V.int a = V.int b := fun e => h (V.int.inj e)
theorem drop_cons {α : Type} {xs : List α} {i : Nat} {x : α} (h : xs[i]? = some x) : xs.drop i = x :: xs.drop (i + 1) := by
  obtain ⟨hi, e⟩ := List.getElem?_eq_some_iff.mp h
  rw [List.drop_eq_getElem_cons hi, e]
section
variable {P : Program} {w : World} {K : PySem.W.Frag} {mg : Str → Option Value} {base : Heap}
theorem no_call {CX : CXT} {k : Nat} {f : Addr} {fd : FuncData} {ps : List Str} {sp : Sp} (no : ∀ vs H Q E, ¬ sp vs H Q E) : FnOk P w K mg base CX k f fd ps sp :=
  ⟨fun vs H Q E h => absurd h (no vs H Q E), fun A outer s H args us vs Q E _ _ _ _ h => absurd h (no vs H Q E)⟩
end
end Mus

set_option maxRecDepth 100000
set_option maxHeartbeats 4000000
/-! The bag of a law's draws, new things beside it, displays of data, tuples cut and joined. -/
namespace Mus
open PySem L2
def Bag (p : Addr) (c : Int) (H : Hp) : Prop := ∃ x y : Int, H p = some (.lst [.int x, .int y, .int c])
theorem Bag.seqT {K : PySem.W.Frag} {p : Addr} {c : Int} {H H' : Hp} (g : Bag p c H) (b : But p H H') {a : Addr} {xs : List V} (h : SqT K H a xs) : SqT K H' a xs := by
  obtain ⟨x, y, hp⟩ := g
  exact b.seqT hp h
theorem Bag.ne {p D : Addr} {c : Int} {H : Hp} (g : Bag p c H) (h : H D = none) : p ≠ D := by
  obtain ⟨x, y, hp⟩ := g
  exact ne_of_none hp h
theorem Bag.upd {p D : Addr} {c : Int} {H : Hp} {o : HO} (g : Bag p c H) (h : p ≠ D) : Bag p c (upd H D o) := by
  obtain ⟨x, y, hp⟩ := g
  exact ⟨x, y, by rw [upd_ne h]; exact hp⟩
theorem Bag.new {p D : Addr} {c : Int} {H : Hp} {o : HO} (g : Bag p c H) (h : H D = none) : Bag p c (L2.upd H D o) := g.upd (g.ne h)
theorem Bag.same {p : Addr} {c : Int} {H H' : Hp} (g : Bag p c H) (s : Same H H') : Bag p c H' := by
  obtain ⟨x, y, hp⟩ := g
  exact ⟨x, y, s _ _ hp⟩
/-- a new thing -/
theorem But.new {p D : Addr} {H H' : Hp} {o : HO} (b : But p H H') (h : H' D = none) : But p H (L2.upd H' D o) := fun a u e n => by
  have z := b a u e n
  rw [upd_ne (ne_of_none z h)]; exact z
/-- a change at what was not there at first -/
theorem But.later {p D : Addr} {H H' : Hp} {o : HO} (b : But p H H') (h : H D = none) : But p H (L2.upd H' D o) := fun a u e n => by
  rw [upd_ne (ne_of_none e h)]; exact b a u e n
theorem But.free {p D : Addr} {H H' : Hp} (b : But p H H') (h : H' D = none) (n : D ≠ p) : H D = none := by
  cases e : H D with
  | none => rfl
  | some o =>
    have z := b D o e n
    rw [h] at z; cases z
/-! ### displays -/
/-- the expression gives the int i, and that is all -/
def DI (te : TE) (σ : St) (i : Int) : Prop := ∀ (H : Hp) (Q : VK), Q (.int i) H → te σ H Q
/-- the expression gives the data d, new things beside what was -/
def DE (p : Addr) (te : TE) (σ : St) (d : PyData) : Prop := ∀ (c : Int) (H : Hp) (Q : VK), Bag p c H → (∀ v H', Same H H' → Bag p c H' → Rp p H' v d → Q v H') → te σ H Q
def DEs (p : Addr) (ta : TA) (σ : St) (ds : List PyData) : Prop := ∀ (c : Int) (H : Hp) (Q : List V → Hp → Prop), Bag p c H → (∀ vs H', Same H H' → Bag p c H' → Rps p H' vs ds → Q vs H') → ta σ H Q
section
variable {p : Addr} {σ : St} {te ta1 tb1 : TE} {ta : TA} {i j : Int} {d : PyData} {ds : List PyData}
theorem Same.rfl' (H : Hp) : Same H H := fun _ _ h => h
theorem di_c : DI (tC (.int i)) σ i := fun _ _ q => q
theorem di_v {n : Nat} (h : σ[n]? = some (some (.int i))) : DI (tVar n) σ i := fun _ _ q => ⟨_, h, q⟩
theorem di_op {f : Int → Int → Int} (h1 : DI ta1 σ i) (h2 : DI tb1 σ j) : DI (tOp (rI0 fun i j => .int (f i j)) ta1 tb1) σ (f i j) := fun H Q q => h1 H _ (h2 H _ ⟨i, j, rfl, rfl, q⟩)
theorem di_opC {C : Int → Int → Prop} {f : Int → Int → Int} (h1 : DI ta1 σ i) (h2 : DI tb1 σ j) (hc : C i j) : DI (tOp (rI C fun i j => .int (f i j)) ta1 tb1) σ (f i j) := fun H Q q => h1 H _ (h2 H _ ⟨i, j, rfl, rfl, hc, q⟩)
theorem di_neg (h1 : DI te σ i) : DI (tUn (rU fun i => .int (-i)) te) σ (-i) := fun H Q q => h1 H _ ⟨i, rfl, q⟩
theorem de_i (h : DI te σ i) : DE p te σ (.int i) := fun c H Q g q => h H Q (q _ H (Same.rfl' H) g (.int i))
theorem de_bl {b : Bool} : DE p (tC (.bl b)) σ (.bool b) := fun c H Q g q => q _ H (Same.rfl' H) g (.bl b)
theorem de_str {z : Str} : DE p (tC (.str z)) σ (.str z) := fun c H Q g q => q _ H (Same.rfl' H) g (.str z)
theorem de_non : DE p (tC .non) σ .none := fun c H Q g q => q _ H (Same.rfl' H) g .non
theorem des_nil : DEs p tNil σ [] := fun c H Q g q => q [] H (Same.rfl' H) g .nil
theorem des_cons (h1 : DE p te σ d) (h2 : DEs p ta σ ds) : DEs p (tCons te ta) σ (d :: ds) := fun c H Q g q =>
  h1 c H _ g fun v H1 s1 g1 r1 => h2 c H1 _ g1 fun vs H2 s2 g2 r2 => q _ H2 (s1.trans s2) g2 (.cons (r1.same s2) r2)
theorem de_tup (h : DEs p ta σ ds) (hl : ds.length ≤ 1000) : DE p (tTup ta) σ (.tuple ds) := fun c H Q g q =>
  h c H _ g fun vs H1 s1 g1 r1 => ⟨by have := r1.length; have := sl; omega, fun a na => q _ _ (s1.trans (same_new na _)) (g1.new na) (.tup upd_same (g1.ne na).symm (by have := r1.length; omega) (r1.same (same_new na _)))⟩
theorem de_lst (h : DEs p ta σ ds) (hl : ds.length ≤ 1000) : DE p (tLst ta) σ (.list ds) := fun c H Q g q =>
  h c H _ g fun vs H1 s1 g1 r1 => ⟨by have := r1.length; have := sl; omega, fun a na => q _ _ (s1.trans (same_new na _)) (g1.new na) (.lst upd_same (g1.ne na).symm (r1.same (same_new na _)))⟩
theorem de_lstN (n : Nat) (R : PyData → Prop) {c : Int} {H : Hp} {Q : VK} (h : ∃ ds, DEs p ta σ ds ∧ ds.length = n ∧ ∀ d ∈ ds, R d) (hn : n ≤ 1000) (g : Bag p c H)
    (q : ∀ ds v H', ds.length = n → (∀ d ∈ ds, R d) → Same H H' → Bag p c H' → Rp p H' v (.list ds) → Q v H') : tLst ta σ H Q := by
  obtain ⟨ds, h1, h2, h3⟩ := h
  exact de_lst h1 (by omega) c H Q g fun v H' => q ds v H' h2 h3
theorem de_cat {es : List PyData} (h1 : DE p ta1 σ (.list ds)) (h2 : DE p tb1 σ (.list es)) (hl : ds.length + es.length ≤ 1000) : DE p (tOp rCat ta1 tb1) σ (.list (ds ++ es)) := fun c H Q g q =>
  h1 c H _ g fun v H1 s1 g1 r1 => h2 c H1 _ g1 fun u H2 s2 g2 r2 => by
    obtain _ | _ | _ | _ | @⟨a, xs, _, ha, na, hr⟩ | _ := r1.same s2
    obtain _ | _ | _ | _ | @⟨b, ys, _, hb, nb, hr2⟩ | _ := r2
    refine ⟨a, b, xs, ys, rfl, rfl, ha, hb, ?_, fun t nt => q _ _ (s1.trans (s2.trans (same_new nt _))) (g2.new nt) (.lst upd_same (g2.ne nt).symm ((hr.append hr2).same (same_new nt _)))⟩
    have := hr.length; have := hr2.length; have := sl; omega
theorem de_varD {n : Nat} {v : V} (h : σ[n]? = some (some v)) (hd : ∀ H, Rp p H v d) : DE p (tVar n) σ d := fun c H Q g q => ⟨_, h, q _ H (Same.rfl' H) g (hd H)⟩
end
/-! ### tuples cut and joined -/
def cutD (ds : List PyData) (lo hi : Option Int) : List PyData := (ds.drop (HT.sIx ds.length 0 lo)).take (HT.sIx ds.length ds.length hi - HT.sIx ds.length 0 lo)
theorem Rps.cut {p : Addr} {H : Hp} {vs : List V} {ds : List PyData} (r : Rps p H vs ds) (lo hi : Option Int) : Rps p H (cutV vs lo hi) (cutD ds lo hi) := by
  unfold cutV cutD
  rw [r.length]
  exact (r.drop _).take _
theorem cutD_len (ds : List PyData) (lo hi : Option Int) : (cutD ds lo hi).length ≤ ds.length := by
  unfold cutD
  rw [List.length_take, List.length_drop]; omega
theorem cutD_mem {ds : List PyData} {lo hi : Option Int} {d : PyData} (h : d ∈ cutD ds lo hi) : d ∈ ds := List.mem_of_mem_drop (List.mem_of_mem_take h)
theorem cut_whole {xs : List V} {lo hi : Option Int} (h : HT.sIx xs.length 0 lo = 0 ∧ HT.sIx xs.length xs.length hi = xs.length) : cutV xs lo hi = xs := by
  unfold cutV
  rw [h.1, h.2, List.drop_zero, Nat.sub_zero, List.take_length]
section
variable {K : PySem.W.Frag} {p : Addr} {c : Int} {H : Hp} {Q : VK}
theorem rd_cut {a : Addr} {ds : List PyData} {lo hi : Option Int} (r : Rp p H (.ref a) (.tuple ds)) (g : Bag p c H)
    (q : ∀ b H', Same H H' → Bag p c H' → Rp p H' (.ref b) (.tuple (cutD ds lo hi)) → Q (.ref b) H') : rSlA K (.ref a) lo hi H Q := by
  obtain _ | _ | _ | _ | _ | @⟨_, xs, _, ha, na, hw, hr⟩ := r
  refine ⟨a, xs, rfl, SqT.of ha, fun w => ?_, fun w b nb => ?_⟩
  · refine q _ _ (Same.rfl' H) g (.tup ha na hw ?_)
    have z := hr.cut lo hi
    rw [cut_whole w] at z
    exact z
  · exact q _ _ (same_new nb _) (g.new nb) (.tup upd_same (g.ne nb).symm (Nat.le_trans (cutV_length _ _ _) hw) ((hr.cut lo hi).same (same_new nb _)))
theorem rd_cat {a b : Addr} {ds es : List PyData} (r1 : Rp p H (.ref a) (.tuple ds)) (r2 : Rp p H (.ref b) (.tuple es)) (g : Bag p c H) (hl : ds.length + es.length ≤ 100000)
    (q : ∀ t H', Same H H' → Bag p c H' → Rp p H' (.ref t) (.tuple (ds ++ es)) → Q (.ref t) H') : rCatA K (.ref a) (.ref b) H Q := by
  have k2 := r2
  have k1 := r1
  obtain _ | _ | _ | _ | _ | @⟨_, xs, _, ha, na, hw, hr⟩ := r1
  obtain _ | _ | _ | _ | _ | @⟨_, ys, _, hb, nb, hw2, hr2⟩ := r2
  have l1 := hr.length
  have l2 := hr2.length
  have hs := sl
  refine ⟨a, b, xs, ys, rfl, rfl, SqT.of ha, SqT.of hb, by omega, fun e => ?_, fun _ e => ?_, fun _ _ t nt => ?_⟩
  · subst e
    cases ds with
    | nil => exact q _ _ (Same.rfl' H) g k2
    | cons _ _ => cases l1
  · subst e
    cases es with
    | nil => rw [List.append_nil] at q; exact q _ _ (Same.rfl' H) g k1
    | cons _ _ => cases l2
  · exact q _ _ (same_new nt _) (g.new nt) (.tup upd_same (g.ne nt).symm (by rw [List.length_append]; omega) ((hr.append hr2).same (same_new nt _)))
end
/-! ### how deep and wide, what its texts are -/
def fit : Nat → PyData → Prop
  | 0, .tuple _ => False
  | n + 1, .tuple ds => ds.length ≤ 3000 ∧ ∀ d ∈ ds, fit n d
  | _, _ => True
inductive Her (P : Str → Prop) : PyData → Prop
  | tup {ds : List PyData} : (∀ d ∈ ds, Her P d) → Her P (.tuple ds)
  | str {z : Str} : P z → Her P (.str z)
  | non : Her P .none
  | bl (b : Bool) : Her P (.bool b)
  | int (i : Int) : Her P (.int i)
  | lst (ds : List PyData) : Her P (.list ds)
theorem Her.mem {P : Str → Prop} {ds : List PyData} (h : Her P (.tuple ds)) : ∀ d ∈ ds, Her P d := by
  cases h with
  | tup h => exact h
theorem Her.cut {P : Str → Prop} {ds : List PyData} (h : Her P (.tuple ds)) (lo hi : Option Int) : Her P (.tuple (cutD ds lo hi)) := .tup fun d m => h.mem d (cutD_mem m)
theorem Her.app {P : Str → Prop} {ds es : List PyData} (h : Her P (.tuple ds)) (k : Her P (.tuple es)) : Her P (.tuple (ds ++ es)) := .tup fun d m => by
  rcases List.mem_append.mp m with m | m
  · exact h.mem d m
  · exact k.mem d m
theorem Her.one {P : Str → Prop} {d : PyData} (h : Her P d) : Her P (.tuple [d]) := .tup fun e m => by rw [List.mem_singleton.mp m]; exact h
/-- one level less, if there is one -/
def spv (sp : Nat → Sp) (n : Nat) : Sp := fun vs H Q E => ∃ m, n = m + 1 ∧ sp m vs H Q E
/-- a thing spoilt: some data, its texts from the two -/
def sp_spoilt (n : Nat) : Sp := fun vs H Q _ => ∃ (p : Addr) (c : Int) (v o : V) (d e : PyData), vs = [.ref p, v, o] ∧ Bag p c H ∧ Rp p H v d ∧ Rp p H o e ∧ fit n d ∧
  ∀ v' d' H', Rp p H' v' d' → (∀ P, Her P d → Her P e → Her P d') → But p H H' → Bag p c H' → Q v' H'
def sp_bag (K : PySem.W.Frag) : Sp := fun vs H Q _ => ∃ (a : Addr) (ns : List Int) (k : Nat), vs = [.ref a, .int k] ∧ SqL K H a (ns.map V.int) ∧ ∀ p H', H p = none → Same H H' → Bag p k H' → Q (.ref p) H'
def sp_draw : Sp := fun vs H Q _ => ∃ (p : Addr) (c m : Int), vs = [.ref p, .int m] ∧ Bag p c H ∧ 0 < m ∧ m.natAbs < 2 ^ 100 ∧ ∀ r H', 0 ≤ r → r < m → But p H H' → Bag p c H' → Q (.int r) H'
/-- an int at least 1 and at most 10 ** 12 -/
def sp_pos : Sp := fun vs H Q _ => ∃ (p : Addr) (c : Int), vs = [.ref p] ∧ Bag p c H ∧ ∀ r H', 1 ≤ r → r ≤ 1000000000000 → But p H H' → Bag p c H' → Q (.int r) H'
end Mus
namespace Mus
open PySem L2
/-- no list in it -/
inductive NoL : PyData → Prop
  | tup {ds : List PyData} : (∀ d ∈ ds, NoL d) → NoL (.tuple ds)
  | str (z : Str) : NoL (.str z)
  | non : NoL .none
  | bl (b : Bool) : NoL (.bool b)
  | int (i : Int) : NoL (.int i)
theorem NoL.mem {ds : List PyData} (h : NoL (.tuple ds)) : ∀ d ∈ ds, NoL d := by
  cases h with
  | tup h => exact h
theorem NoL.two {a b : PyData} (h : NoL a) (k : NoL b) : NoL (.tuple [a, b]) := .tup fun d m => by
  rcases List.mem_cons.mp m with rfl | m
  · exact h
  · rw [List.mem_singleton.mp m]; exact k
theorem NoL.three {a b c : PyData} (h : NoL a) (k : NoL b) (l : NoL c) : NoL (.tuple [a, b, c]) := .tup fun d m => by
  rcases List.mem_cons.mp m with rfl | m
  · exact h
  · rcases List.mem_cons.mp m with rfl | m
    · exact k
    · rw [List.mem_singleton.mp m]; exact l
mutual
theorem Rp.upL {p D : Addr} {H H' : Hp} {ys : List V} (hD : H D = some (.lst ys)) (k : ∀ b o, H b = some o → b ≠ p → b ≠ D → H' b = some o) : ∀ {v : V} {d : PyData}, Rp p H v d → NoL d → Rp p H' v d
  | _, _, .non, _ => .non
  | _, _, .bl b, _ => .bl b
  | _, _, .int i, _ => .int i
  | _, _, .str x, _ => .str x
  | _, _, .lst h n r, z => nomatch z
  | _, _, .tup h n l r, z => .tup (k _ _ h n (ne_of h hD (by intro z; cases z))) n l (Rps.upL hD k r z.mem)
theorem Rps.upL {p D : Addr} {H H' : Hp} {ys : List V} (hD : H D = some (.lst ys)) (k : ∀ b o, H b = some o → b ≠ p → b ≠ D → H' b = some o) : ∀ {vs : List V} {ds : List PyData}, Rps p H vs ds → (∀ d ∈ ds, NoL d) → Rps p H' vs ds
  | _, _, .nil, _ => .nil
  | _, _, .cons a b, z => .cons (Rp.upL hD k a (z _ List.mem_cons_self)) (Rps.upL hD k b fun d m => z d (List.mem_cons_of_mem _ m))
end
/-- a change at the list at D -/
theorem Rps.updL {p D : Addr} {H : Hp} {ys : List V} {o : HO} (hD : H D = some (.lst ys)) {vs : List V} {ds : List PyData} (r : Rps p H vs ds) (z : ∀ d ∈ ds, NoL d) : Rps p (upd H D o) vs ds :=
  r.upL hD (fun b o h _ n => by rw [upd_ne n]; exact h) z
theorem Rp.updL {p D : Addr} {H : Hp} {ys : List V} {o : HO} (hD : H D = some (.lst ys)) {v : V} {d : PyData} (r : Rp p H v d) (z : NoL d) : Rp p (upd H D o) v d :=
  r.upL hD (fun b o h _ n => by rw [upd_ne n]; exact h) z
end Mus

set_option maxRecDepth 100000
set_option maxHeartbeats 4000000
/-! Methods and makers of own classes, as DefOk is for defs. -/
namespace Mus
open PySem L2
structure MethOk (P : Program) (w : World) (K : PySem.W.Frag) (mg : Str → Option Value) (base : Heap) (CX : CXT) (C : Addr) (x : Str) (ps : List Str) (k : Nat) (sp : Sp) where
  f : Addr
  fd : FuncData
  G : FnOk P w K mg base CX k f fd ps sp
  m : Meth K C x f
  b : Binds K fd ps []
structure MethAt (K : PySem.W.Frag) (C : Addr) (x qual : Str) (ps : List Str) (st : Stmt) where
  f : Addr
  fd : FuncData
  F : Fun K x qual st f fd
  m : Meth K C x f
  b : Binds K fd ps []
def MethAt.ok {P : Program} {w : World} {K : PySem.W.Frag} {mg : Str → Option Value} {base : Heap} {CX : CXT} {C : Addr} {x qual : Str} {ps : List Str} {st : Stmt} {k : Nat} {sp : Sp} (d : MethAt K C x qual ps st) (h : ∀ {f : Addr} {fd : FuncData}, Fun K x qual st f fd → FnOk P w K mg base CX k f fd ps sp) : MethOk P w K mg base CX C x ps k sp :=
  ⟨d.f, d.fd, h d.F, d.m, d.b⟩
/-- a class whose __init__ keeps the promise -/
structure MkOk (P : Program) (w : World) (K : PySem.W.Frag) (mg : Str → Option Value) (base : Heap) (C : Addr) (x : Str) (ps : List Str) (k : Nat) (sp : Sp) where
  f : Addr
  fd : FuncData
  G : FnOk P w K mg base CX0 k f fd ps sp
  M : Mk K C f
  g : mg x = some (.ref C)
  b : Binds K fd ps []
def MethAt.mk' {P : Program} {w : World} {K : PySem.W.Frag} {mg : Str → Option Value} {base : Heap} {C : Addr} {x : Str} {qual : Str} {ps : List Str} {st : Stmt} {k : Nat} {sp : Sp} (d : MethAt K C "__init__" qual ps st) (hm : PySem.W.makesIn K C = true) (hk : PySem.W.keepIn K (.ref C) = true) (g : mg x = some (.ref C))
    (h : ∀ {f : Addr} {fd : FuncData}, Fun K "__init__" qual st f fd → FnOk P w K mg base CX0 k f fd ps sp) : MkOk P w K mg base C x ps k sp :=
  ⟨d.f, d.fd, h d.F, ⟨hm, d.m.at_, d.m.fn, hk⟩, g, d.b⟩
section
variable {X : Cx} {C : Addr} {x m : Str} {ps : List Str} {j k : Nat} {sp : Sp} {o e : Expr} {es : List Expr} {to : TE} {t : TA} {p pos apos : Pos}
theorem pmeth {pl : Sem Bool} (c : MethOk X.prog X.w X.K X.mg X.base CX0 C m ps j sp) (cl : Cls X.K C) (ho : PE X o to) (hr : Room k X.A) (ha : PA X (e :: es) t) (hj : j ≤ k := by first | decide | omega)
    (st0 : starEach (e :: es) X.env = (false, eval e X.env) :: starEach es X.env := by rfl) (pl0 : (backTo pos (starEach es X.env)).any (·.1) = false := by rfl)
    (ht : eval (.Call (.Attribute o m apos) (e :: es) [] pos) X.env = (do
      let v ← eval o X.env; standAt apos.atName; let (f, one) ← holding [v] (getMethod v m pl)
      callWith pos f one (backTo pos (starEach (e :: es) X.env)) (backToKw pos (keywordEach [] X.env))) := by rfl) :
    PE X (.Call (.Attribute o m apos) (e :: es) [] pos) (tMeth C m sp [] E0 to t) := pe_meth ho cl c.m c.G (hr.mono hj) c.b .nil pass0 ha st0 pl0 ht
theorem pmeth0 {pl : Sem Bool} (c : MethOk X.prog X.w X.K X.mg X.base CX0 C m ps j sp) (cl : Cls X.K C) (ho : PE X o to) (hr : Room k X.A) (hj : j ≤ k := by first | decide | omega)
    (ht : eval (.Call (.Attribute o m apos) [] [] pos) X.env = (do
      let v ← eval o X.env; standAt apos.atName; let (f, one) ← holding [v] (getMethod v m pl)
      callWith pos f one (backTo pos (starEach [] X.env)) (backToKw pos (keywordEach [] X.env))) := by rfl) :
    PE X (.Call (.Attribute o m apos) [] [] pos) (tMeth C m sp [] E0 to tNil) := pe_meth0 ho cl c.m c.G (hr.mono hj) c.b .nil pass0 ht
theorem pmake (c : MkOk X.prog X.w X.K X.mg X.base C x ps j sp) (hr : Room k X.A) (ha : PA X (e :: es) t) (hj : j + 1 ≤ k := by first | decide | omega) (hg : Gl X x := by rfl)
    (d0 : (x == ("__debug__" : Str)) = false := by decide) (st0 : starEach (e :: es) X.env = (false, eval e X.env) :: starEach es X.env := by rfl) (pl0 : (backTo pos (starEach es X.env)).any (·.1) = false := by rfl) :
    PE X (.Call (.Name x p) (e :: es) [] pos) (tMake C sp [] E0 t) := pe_make c.M c.G (hr.mono hj) hg c.g c.b .nil pass0 ha d0 st0 pl0
theorem pmake0 (c : MkOk X.prog X.w X.K X.mg X.base C x ps j sp) (hr : Room k X.A) (hj : j + 1 ≤ k := by first | decide | omega) (hg : Gl X x := by rfl) (d0 : (x == ("__debug__" : Str)) = false := by decide) :
    PE X (.Call (.Name x p) [] [] pos) (tMake C sp [] E0 tNil) := pe_make0 c.M c.G (hr.mono hj) hg c.g c.b .nil pass0 d0
end
end Mus

set_option maxRecDepth 100000
set_option maxHeartbeats 4000000
/-! The texts of lives, as lists of signs. -/
namespace Mus
open PySem L2 TL PySem.NumText
def allD (l : List Nat) : Bool := l.all fun c => decide (48 ≤ c) && decide (c ≤ 57)
theorem allD_iff {l : List Nat} : allD l = true ↔ AllDigits l := by
  unfold allD AllDigits
  rw [List.all_eq_true]
  constructor
  · intro h c hc
    have := h c hc
    rw [Bool.and_eq_true, decide_eq_true_eq, decide_eq_true_eq] at this
    exact this
  · intro h c hc
    rw [Bool.and_eq_true, decide_eq_true_eq, decide_eq_true_eq]
    exact h c hc
/-- the text of a life -/
def lifeT (n : Nat) : List Nat := numL n ++ 61 :: numL n
/-- the life of a text, or 0 -/
def lifeF (l : List Nat) : Nat :=
  if (l.takeWhile fun c => decide (c ≠ 61)).length ≤ 13 ∧ allD (l.takeWhile fun c => decide (c ≠ 61)) = true ∧ (l.takeWhile fun c => decide (c ≠ 61)) ≠ [] then
    (if 1 ≤ digitsVal (l.takeWhile fun c => decide (c ≠ 61)) ∧ digitsVal (l.takeWhile fun c => decide (c ≠ 61)) ≤ 1000000000000 ∧ lifeT (digitsVal (l.takeWhile fun c => decide (c ≠ 61))) = l then digitsVal (l.takeWhile fun c => decide (c ≠ 61)) else 0)
  else 0
theorem lifeF_ne {l : List Nat} (h : lifeF l ≠ 0) : ∃ n, l = lifeT n ∧ 1 ≤ n ∧ n ≤ 1000000000000 ∧ lifeF l = n := by
  unfold lifeF at h ⊢
  by_cases h1 : (l.takeWhile fun c => decide (c ≠ 61)).length ≤ 13 ∧ allD (l.takeWhile fun c => decide (c ≠ 61)) = true ∧ (l.takeWhile fun c => decide (c ≠ 61)) ≠ []
  · rw [if_pos h1] at h ⊢
    by_cases h2 : 1 ≤ digitsVal (l.takeWhile fun c => decide (c ≠ 61)) ∧ digitsVal (l.takeWhile fun c => decide (c ≠ 61)) ≤ 1000000000000 ∧ lifeT (digitsVal (l.takeWhile fun c => decide (c ≠ 61))) = l
    · rw [if_pos h2] at h ⊢
      exact ⟨_, h2.2.2.symm, h2.1, h2.2.1, rfl⟩
    · rw [if_neg h2] at h; exact absurd rfl h
  · rw [if_neg h1] at h; exact absurd rfl h
theorem take_free {d r : List Nat} (h : 61 ∉ d) : (d ++ 61 :: r).takeWhile (fun c => decide (c ≠ 61)) = d := by
  induction d with
  | nil => simp [List.takeWhile]
  | cons c d ih =>
    have hc : c ≠ 61 := fun e => h (by rw [e]; exact List.mem_cons_self)
    rw [List.cons_append, List.takeWhile_cons, decide_eq_true hc, if_pos rfl, ih fun m => h (List.mem_cons_of_mem _ m)]
theorem dig_free {d : List Nat} (h : AllDigits d) : 61 ∉ d := fun m => by have := h 61 m; omega
theorem numL_head0 : ∀ n : Nat, 1 ≤ n → ∃ c r, numL n = c :: r ∧ 49 ≤ c := by
  intro n
  induction n using Nat.strongRecOn with
  | _ n ih =>
    intro h
    by_cases h10 : n < 10
    · exact ⟨48 + n, [], numL_lt h10, by omega⟩
    · obtain ⟨c, r, e, hc⟩ := ih (n / 10) (by omega) (by omega)
      exact ⟨c, r ++ [48 + n % 10], by rw [numL_step (by omega), e, List.cons_append], hc⟩
theorem map_chars : ∀ {l : List Nat}, AllDigits l → (l.map Char.ofNat).map Char.toNat = l
  | [], _ => rfl
  | c :: l, h => by
    have hc := h.head
    have e : (Char.ofNat c).toNat = c := by
      have : c = 48 ∨ c = 49 ∨ c = 50 ∨ c = 51 ∨ c = 52 ∨ c = 53 ∨ c = 54 ∨ c = 55 ∨ c = 56 ∨ c = 57 := by omega
      rcases this with rfl | rfl | rfl | rfl | rfl | rfl | rfl | rfl | rfl | rfl <;> decide
    rw [List.map_cons, List.map_cons, e, map_chars h.tail]
theorem numL_back {d : List Nat} (h : AllDigits d) {c : Nat} {r : List Nat} (e : d = c :: r) (hc : 49 ≤ c) : numL (digitsVal d) = d := by
  unfold numL
  rw [toDigits_digitsVal r.length d (by rw [e]; rfl) h (.inr ⟨c, r, e, hc⟩), map_chars h]
theorem lifeF_T {n : Nat} (h1 : 1 ≤ n) (h2 : n ≤ 1000000000000) : lifeF (lifeT n) = n := by
  unfold lifeF lifeT
  rw [take_free (dig_free (numL_digits n)), numL_val]
  have hl : (numL n).length ≤ 13 := numL_len (k := 13) (by decide) (by omega)
  rw [if_pos ⟨hl, allD_iff.mpr (numL_digits n), numL_ne n⟩, if_pos ⟨h1, h2, rfl⟩]
theorem lifeF_big {n : Nat} (h : n = 0 ∨ 1000000000000 < n) : lifeF (lifeT n) = 0 := by
  cases e : lifeF (lifeT n) with
  | zero => rfl
  | succ k =>
    exfalso
    obtain ⟨m, e1, e2, e3, _⟩ := lifeF_ne (l := lifeT n) (by rw [e]; simp)
    have hl := congrArg List.length e1
    unfold lifeT at e1 hl
    rw [List.length_append, List.length_append, List.length_cons, List.length_cons] at hl
    have := (List.append_inj e1 (by omega)).1
    have := numL_inj this
    omega
/-- the law's way -/
def chk (d : List Nat) : Nat := if allD d = true then (if d.length > 13 ∨ d.head? = some 48 ∨ digitsVal d > 1000000000000 then 0 else digitsVal d) else 0
def Half (l : List Nat) (k : Nat) : Prop := l[k]? = some 61 ∧ l.take k = l.drop (k + 1)
theorem half_eq {l : List Nat} {k : Nat} (h : Half l k) : l = l.take k ++ 61 :: l.take k := by
  obtain ⟨h1, h2⟩ := h
  obtain ⟨hk, e⟩ := List.getElem?_eq_some_iff.mp h1
  have e2 := List.take_append_drop k l
  rw [List.drop_eq_getElem_cons hk, e, ← h2] at e2
  exact e2.symm
theorem halves {d e : List Nat} (h : d ++ 61 :: d = e ++ 61 :: e) : d = e := by
  have hl := congrArg List.length h
  rw [List.length_append, List.length_append, List.length_cons, List.length_cons] at hl
  exact (List.append_inj h (by omega)).1
theorem due_yes {l : List Nat} {k : Nat} (h1 : 1 ≤ k) (hk : k < l.length) (h : Half l k) : chk (l.take k) = lifeF l := by
  have e := half_eq h
  have hlen : (l.take k).length = k := by rw [List.length_take]; omega
  generalize l.take k = d at e hlen
  subst e
  cases hd : allD d with
  | false =>
    have e1 : chk d = 0 := by unfold chk; rw [hd]; rfl
    rw [e1]
    cases e2 : lifeF (d ++ 61 :: d) with
    | zero => rfl
    | succ m =>
      exfalso
      obtain ⟨n, e3, _⟩ := lifeF_ne (l := d ++ 61 :: d) (by rw [e2]; simp)
      have := halves e3
      rw [this, allD_iff.mpr (numL_digits n)] at hd
      cases hd
  | true =>
    have ad := allD_iff.mp hd
    have tw := take_free (r := d) (dig_free ad)
    have dne : d ≠ [] := fun z => by rw [z] at hlen; simp at hlen; omega
    unfold chk lifeF
    rw [tw, hd, if_pos rfl]
    by_cases h13 : d.length ≤ 13
    · rw [if_pos (show d.length ≤ 13 ∧ true = true ∧ d ≠ [] from ⟨h13, rfl, dne⟩)]
      obtain ⟨c, r, ec⟩ : ∃ c r, d = c :: r := by
        cases d with
        | nil => exact absurd rfl dne
        | cons c r => exact ⟨c, r, rfl⟩
      have hc := ad c (by rw [ec]; exact List.mem_cons_self)
      by_cases h48 : c = 48
      · rw [if_pos (.inr (.inl (by rw [ec, h48]; rfl)))]
        rw [if_neg]
        rintro ⟨q1, _, q3⟩
        have e5 := halves q3
        obtain ⟨c', r', e6, e7⟩ := numL_head0 _ q1
        rw [e5, ec] at e6
        cases e6
        omega
      · by_cases hv : digitsVal d > 1000000000000
        · rw [if_pos (.inr (.inr hv)), if_neg (by rintro ⟨_, q2, _⟩; omega)]
        · have e8 := numL_back ad ec (by omega)
          have n1 : ¬ (d.length > 13 ∨ d.head? = some 48 ∨ digitsVal d > 1000000000000) := by
            rintro (q | q | q)
            · omega
            · rw [ec] at q; simp at q; exact h48 q
            · exact hv q
          have n2 : 1 ≤ digitsVal d ∧ digitsVal d ≤ 1000000000000 ∧ lifeT (digitsVal d) = d ++ 61 :: d := by
            refine ⟨?_, by omega, ?_⟩
            · rw [ec]; exact digitsVal_pos (by omega)
            · unfold lifeT; rw [e8]
          rw [if_neg n1, if_pos n2]
    · rw [if_pos (.inl (by omega)), if_neg (by rintro ⟨q, _⟩; exact h13 q)]
theorem due_no {l : List Nat} (h : ∀ k, 1 ≤ k → k < l.length → ¬ Half l k) : lifeF l = 0 := by
  cases e2 : lifeF l with
  | zero => rfl
  | succ m =>
    exfalso
    obtain ⟨n, e3, _⟩ := lifeF_ne (l := l) (by rw [e2]; simp)
    have hp : 1 ≤ (numL n).length := List.length_pos_iff.mpr (numL_ne n)
    refine h (numL n).length hp ?_ ⟨?_, ?_⟩
    · rw [e3]; unfold lifeT; rw [List.length_append, List.length_cons]; omega
    · rw [e3]; unfold lifeT; rw [List.getElem?_append_right (Nat.le_refl _), Nat.sub_self]; rfl
    · rw [e3]; unfold lifeT
      rw [List.take_left, ← List.drop_drop, List.drop_left]; rfl
end Mus

set_option maxRecDepth 100000
set_option maxHeartbeats 4000000
namespace Mus
open PySem L2 TL PySem.NumText
/-- a text n times, n from 0 -/
theorem op_mul_strN {X : Cx} : OpR X (binaryOp .Mult) (fun x y H Q => ∃ (z : Str) (n : Int), x = .str z ∧ y = .int n ∧ 0 ≤ n ∧ n ≤ 1000 ∧ 1 ≤ z.length ∧ z.length ≤ 1000 ∧ ∀ r : Str, TL.tl r = (List.replicate n.toNat (TL.tl z)).flatten → Q (.str r) H) := by
  intro pins s σ H x y v u Q I rx ry h
  obtain ⟨z, n, rfl, rfl, h2, h3, h4, h5, q⟩ := h
  by_cases n2 : 2 ≤ n
  · exact op_mul_str pins s σ H _ _ v u Q I rx ry ⟨z, n, rfl, rfl, n2, h3, h4, h5, q⟩
  obtain ⟨t, rfl⟩ := rx
  obtain ⟨t', rfl⟩ := ry
  have hr : (decide (n < -(2 ^ 63 : Int)) || decide (n ≥ 2 ^ 63)) = false := by
    rw [decide_eq_false (by omega), decide_eq_false (by omega)]; rfl
  have hl : Builtin.Str.tooLong (z.length * n.toNat) = false := by
    unfold Builtin.Str.tooLong
    have e : sizeLine = 16777216 := sizeLine_eq
    have : z.length * n.toNat ≤ 1000 * 1 := Nat.mul_le_mul h5 (by omega)
    rw [decide_eq_false (by omega)]
  have hz : z.length ≤ sizeLine := by rw [sizeLine_eq]; omega
  by_cases n0 : n = 0
  · subst n0
    refine PySem.P.mul_str hr (fun a _ => absurd (by decide) a) (fun a _ => absurd (by decide) a) ?_
    rw [if_pos (by decide)]
    exact ⟨by decide, .str _, H, I.tok _, ⟨_, rfl⟩, q _ (by simp; rfl)⟩
  · have e : n = 1 := by omega
    subst e
    refine PySem.P.mul_str hr (fun _ a => by simp at a) (fun _ a => by simp at a) ?_
    rw [if_neg (by decide), if_pos (by simp)]
    exact ⟨.str _, H, I, ⟨_, rfl⟩, q _ (by simp)⟩
end Mus

set_option maxRecDepth 100000
set_option maxHeartbeats 4000000
/-! Data stand where a thing that is no list and no tuple changes. -/
namespace Mus
open PySem L2
mutual
theorem Rp.upN {p D : Addr} {H : Hp} {o : HO} (h1 : ∀ xs, H D ≠ some (.lst xs)) (h2 : ∀ xs, H D ≠ some (.tup xs)) : ∀ {v : V} {d : PyData}, Rp p H v d → Rp p (upd H D o) v d
  | _, _, .non => .non
  | _, _, .bl b => .bl b
  | _, _, .int i => .int i
  | _, _, .str x => .str x
  | _, _, .lst h n r => .lst (by rw [upd_ne fun z => h1 _ (by rw [← z]; exact h)]; exact h) n (Rps.upN h1 h2 r)
  | _, _, .tup h n l r => .tup (by rw [upd_ne fun z => h2 _ (by rw [← z]; exact h)]; exact h) n l (Rps.upN h1 h2 r)
theorem Rps.upN {p D : Addr} {H : Hp} {o : HO} (h1 : ∀ xs, H D ≠ some (.lst xs)) (h2 : ∀ xs, H D ≠ some (.tup xs)) : ∀ {vs : List V} {ds : List PyData}, Rps p H vs ds → Rps p (upd H D o) vs ds
  | _, _, .nil => .nil
  | _, _, .cons a b => .cons (Rp.upN h1 h2 a) (Rps.upN h1 h2 b)
end
theorem rp_tup {p t : Addr} {c : Int} {H : Hp} {vs : List V} {ds : List PyData} (g : Bag p c H) (nt : H t = none) (r : Rps p H vs ds) (hl : vs.length ≤ 100000 := by exact Nat.le_of_ble_eq_true rfl) : Rp p (upd H t (.tup vs)) (.ref t) (.tuple ds) :=
  .tup upd_same (g.ne nt).symm hl (r.same (same_new nt _))
theorem atI_intsU {ns : List Int} {r : Int} (h0 : 0 ≤ r) (h1 : r < ns.length) : ∃ x, x ∈ ns ∧ atI (ns.map V.int) r = some (.int x) := by
  have hi : r.toNat < ns.length := by omega
  refine ⟨ns[r.toNat], List.getElem_mem _, at_int h0 ?_⟩
  rw [List.getElem?_map, List.getElem?_eq_getElem hi]; rfl
/-- one of the listed values -/
theorem atI_mem {xs : List V} {r : Int} (h0 : 0 ≤ r) (h1 : r < xs.length) : ∃ x, x ∈ xs ∧ atI xs r = some x := by
  have hi : r.toNat < xs.length := by omega
  exact ⟨xs[r.toNat], List.getElem_mem _, at_int h0 (List.getElem?_eq_getElem hi)⟩
end Mus

set_option maxRecDepth 100000
set_option maxHeartbeats 4000000
/-! Errors of the program's own: made without arguments, let out by methods. -/
namespace Mus
open PySem PySem.Spec PyProof.Rows L2
section
variable {X : Cx} {C : Addr} {bmB : List Value} {B newId initId : String}
theorem pmk_own0 {x : Str} {p pos : Pos} (F : ExcBaseFacts B newId initId bmB) (q : PySem.W.excIn X.K C bmB newId = true) (gC : X.mg x = some (.ref C)) (kC : PySem.W.keepIn X.K (.ref C) = true) (r : Raises X (.ref C)) (hg : Gl X x := by rfl)
    (hdb : (x == ("__debug__" : Str)) = false := by decide) : PMk X (.Call (.Name x p) [] [] pos) (fun _ H Q => Q (.ref C) none H) := by
  intro pins s σ H Q I h
  refine wpAny_Call_Name_kw (ld_glob I hg gC ?_ hdb)
  refine PySem.W.callWith_K0 I.kIn kC ?_
  show wpAny _ _ (call (.ref C) []) _ _ _
  obtain ⟨mem, g, dw, tn, io⟩ := s
  obtain ⟨chain, N, nm0, qn, bs, hdct, sn, sub, ab, col, dd, k0, k1, k2, k3, k5, mN, cC, hN, hni, T⟩ := exc_obj I.kIn q
  exact wpAny_call_exc_subT F T cC hN hni (fun h' a hm => mk_of I hm r h (I.hok.gone hm.new)) (by show 0 ≤ sizeLine; rw [sizeLine_eq]; omega)
end
section
variable {X : Cx} {C : Addr} {x m : Str} {ps : List Str} {j k : Nat} {sp : Sp} {o e : Expr} {es : List Expr} {to : TE} {t : TA} {p pos apos : Pos} {W : WX} {E : XK}
/-- o.m(e, ..), what it lets out leaves this def, too -/
theorem pmethE {pl : Sem Bool} (c : MethOk X.prog X.w X.K X.mg X.base (L2.CX X.prog X.w) C m ps j sp) (cl : Cls X.K C) (tk : Takes X W) (hW : ∀ cls d σ H, E cls d H → W cls d σ H) (ho : PE X o to) (hr : Room k X.A) (ha : PA X (e :: es) t) (hj : j ≤ k := by first | decide | omega)
    (st0 : starEach (e :: es) X.env = (false, eval e X.env) :: starEach es X.env := by rfl) (pl0 : (backTo pos (starEach es X.env)).any (·.1) = false := by rfl)
    (ht : eval (.Call (.Attribute o m apos) (e :: es) [] pos) X.env = (do
      let v ← eval o X.env; standAt apos.atName; let (f, one) ← holding [v] (getMethod v m pl)
      callWith pos f one (backTo pos (starEach (e :: es) X.env)) (backToKw pos (keywordEach [] X.env))) := by rfl) :
    PE X (.Call (.Attribute o m apos) (e :: es) [] pos) (tMeth C m sp [] E to t) := pe_meth ho cl c.m c.G (hr.mono hj) c.b .nil (passes_call tk hW) ha st0 pl0 ht
theorem pmethE0 {pl : Sem Bool} (c : MethOk X.prog X.w X.K X.mg X.base (L2.CX X.prog X.w) C m ps j sp) (cl : Cls X.K C) (tk : Takes X W) (hW : ∀ cls d σ H, E cls d H → W cls d σ H) (ho : PE X o to) (hr : Room k X.A) (hj : j ≤ k := by first | decide | omega)
    (ht : eval (.Call (.Attribute o m apos) [] [] pos) X.env = (do
      let v ← eval o X.env; standAt apos.atName; let (f, one) ← holding [v] (getMethod v m pl)
      callWith pos f one (backTo pos (starEach [] X.env)) (backToKw pos (keywordEach [] X.env))) := by rfl) :
    PE X (.Call (.Attribute o m apos) [] [] pos) (tMeth C m sp [] E to tNil) := pe_meth0 ho cl c.m c.G (hr.mono hj) c.b .nil (passes_call tk hW) ht
/-- f(e, ..), the same of a def -/
theorem pcallE (c : DefOk X.prog X.w X.K X.mg X.base (L2.CX X.prog X.w) x ps j sp) (tk : Takes X W) (hW : ∀ cls d σ H, E cls d H → W cls d σ H) (hr : Room k X.A) (ha : PA X (e :: es) t) (hj : j ≤ k := by first | decide | omega) (hg : Gl X x := by rfl)
    (db0 : (x == ("__debug__" : Str)) = false := by decide) (st0 : starEach (e :: es) X.env = (false, eval e X.env) :: starEach es X.env := by rfl) (pl0 : (backTo pos (starEach es X.env)).any (·.1) = false := by rfl) :
    PE X (.Call (.Name x p) (e :: es) [] pos) (tCall sp [] E t) := pe_call c.G (hr.mono hj) hg c.m c.kp c.b .nil (passes_call tk hW) ha db0 st0 pl0
end
end Mus

set_option maxRecDepth 100000
set_option maxHeartbeats 4000000
/-! Calls whose errors are caught where the slots stand. -/
namespace Mus
open PySem PySem.Spec PyProof.Rows L2
/-! ### calls in a try's body -/
def tMethA (C : Addr) (m : Str) (sp : Sp) (E : L2.St → XK) (ta : TE) (t : TA) : TE := fun σ H Q => ta σ H fun x H1 => ∃ a dx fs, x = .ref a ∧ H1 a = some (.ins C dx fs) ∧ fs.lookup m = none ∧ t σ H1 fun vs H2 => sp (x :: vs) H2 Q (E σ)
section
variable {X : Cx} {C : Addr} {x m : Str} {ps : List Str} {j k : Nat} {sp : Sp} {o e : Expr} {es : List Expr} {to : TE} {t : TA} {p pos apos : Pos} {W : WX}
theorem pmethA {pl : Sem Bool} (c : MethOk X.prog X.w X.K X.mg X.base (L2.CX X.prog X.w) C m ps j sp) (cl : Cls X.K C) (tk : Takes X W) (ho : PE X o to) (hr : Room k X.A) (ha : PA X (e :: es) t) (hj : j ≤ k := by first | decide | omega)
    (st0 : starEach (e :: es) X.env = (false, eval e X.env) :: starEach es X.env := by rfl) (pl0 : (backTo pos (starEach es X.env)).any (·.1) = false := by rfl)
    (ht : eval (.Call (.Attribute o m apos) (e :: es) [] pos) X.env = (do
      let v ← eval o X.env; standAt apos.atName; let (f, one) ← holding [v] (getMethod v m pl)
      callWith pos f one (backTo pos (starEach (e :: es) X.env)) (backToKw pos (keywordEach [] X.env))) := by rfl) :
    PE X (.Call (.Attribute o m apos) (e :: es) [] pos) (tMethA C m sp (WE W) to t) := by
  refine ⟨fun pins s σ H Q I h => ?_⟩
  refine PySem.W.methodCall_KW (pl := pl) (thn (ho.run pins s σ H _ I h) fun u s1 ⟨x, H1, I1, rx, a, dx, fs, ex, ea, l, q⟩ => ?_) ht
  subst ex
  obtain rfl : u = Value.ref a := rx
  refine getmeth_ok I1 ea cl c.m l ?_
  refine PySem.W.callWith_K (first := [.ref a]) (h₀ := X.base) I.ok.mod.kin c.m.kp (thn (ha.run pos pins s1 σ H1 _ I1 q) fun us s2 ⟨vs, H2, I2, r, q2⟩ => ⟨I2.kIn, ?_⟩) st0 pl0
  exact run_fnS (us := .ref a :: us) (vs := .ref a :: vs) c.G (hr.mono hj) c.b (passAt tk σ) I2 (.cons rfl r) q2
theorem pmethA0 {pl : Sem Bool} (c : MethOk X.prog X.w X.K X.mg X.base (L2.CX X.prog X.w) C m ps j sp) (cl : Cls X.K C) (tk : Takes X W) (ho : PE X o to) (hr : Room k X.A) (hj : j ≤ k := by first | decide | omega)
    (ht : eval (.Call (.Attribute o m apos) [] [] pos) X.env = (do
      let v ← eval o X.env; standAt apos.atName; let (f, one) ← holding [v] (getMethod v m pl)
      callWith pos f one (backTo pos (starEach [] X.env)) (backToKw pos (keywordEach [] X.env))) := by rfl) :
    PE X (.Call (.Attribute o m apos) [] [] pos) (tMethA C m sp (WE W) to tNil) := by
  refine ⟨fun pins s σ H Q I h => ?_⟩
  refine PySem.W.methodCall_KW (pl := pl) (thn (ho.run pins s σ H _ I h) fun u s1 ⟨x, H1, I1, rx, a, dx, fs, ex, ea, l, q⟩ => ?_) ht
  subst ex
  obtain rfl : u = Value.ref a := rx
  refine getmeth_ok I1 ea cl c.m l ?_
  refine PySem.W.callWith_K0 (first := [.ref a]) I1.kIn c.m.kp ?_
  exact run_fnS (us := [.ref a]) (vs := [.ref a]) c.G (hr.mono hj) c.b (passAt tk σ) I1 (.cons rfl .nil) q
theorem pcallA (c : DefOk X.prog X.w X.K X.mg X.base (L2.CX X.prog X.w) x ps j sp) (tk : Takes X W) (hr : Room k X.A) (ha : PA X (e :: es) t) (hj : j ≤ k := by first | decide | omega) (hg : Gl X x := by rfl)
    (db0 : (x == ("__debug__" : Str)) = false := by decide) (st0 : starEach (e :: es) X.env = (false, eval e X.env) :: starEach es X.env := by rfl) (pl0 : (backTo pos (starEach es X.env)).any (·.1) = false := by rfl) :
    PE X (.Call (.Name x p) (e :: es) [] pos) (tCallS sp (WE W) t) := pe_callS c.G (hr.mono hj) hg c.m c.kp c.b (fun σ => passAt tk σ) ha db0 st0 pl0
end
end Mus

set_option maxRecDepth 100000
set_option maxHeartbeats 4000000
/-! The same rules, so that Lean finds the inner readings: they may name what they don't depend on. -/
namespace Mus
open PySem PySem.Spec PyProof.Rows L2
def s00 : Shared := {}
def h00 : Hp := fun _ => none
def o00 : Obj := default
def x00 : Value → Shared → Prop := fun _ _ => False
section
variable {X : Cx} {x n : Str} {c : Value} {i : Nat} {body suite : List Stmt} {b₀ : Stmt} {np pos pos' : Pos} {tb : WX → List (Addr × Obj) → (Value → Shared → Prop) → TS} {ts : Addr → Obj → Value → Option Addr → List (Addr × Obj) → TS} {Wout : WX}
theorem ps_tryAs (hs : X.stack = X.env :: X.outer) (hf : X.env.frame = some X.env.locals) (hN : X.N.Nodup) (hi : X.N[i]? = some n) (hln : X.env.kindOf n = some .local) (hc : Names X x c) (tk : Takes X Wout)
    (hb : ∀ W pn xe, Takes (X.tr pn xe) W → PassesOwn (model X.prog X.w) X.A X.env xe → PSs (X.tr pn xe) body (tb W pn xe)) (hsu : ∀ a oe cls d pn, Zc cls d oe → (∃ vs, oe.data = .fields vs) → PSs (X.suite a ((a, oe) :: pn)) (b₀ :: suite) (ts a oe cls d pn))
    (i1 : ∀ W pn xe, tb W pn xe = tb W [] x00 := by intros; rfl) (i2 : ∀ a oe cls d pn, ts a oe cls d pn = ts a o00 cls d [] := by intros; rfl) :
    PS X (.Try body [.ExceptHandler (some (.Name x np)) (some n) (b₀ :: suite) pos'] [] [] pos) (fun D σ H => tb (wAs X.K c i (fun a cls d => ts a o00 cls d []) Wout D) [] x00 D σ H) :=
  ps_try_as (tb := fun W => tb W [] x00) hs hf hN hi hln hc tk (fun W pn xe t p => i1 W pn xe ▸ hb W pn xe t p) fun a oe cls d pn z f => i2 a oe cls d pn ▸ hsu a oe cls d pn z f
end
section
variable {X : Cx} {body : List Stmt} {h₀ : ExceptHandler} {hds : List ExceptHandler} {l : List (Value × (Addr → Value → Option Addr → TS))} {pos : Pos} {tb : WX → List (Addr × Obj) → (Value → Shared → Prop) → TS} {Wout : WX}
theorem ps_tryX (hs : X.stack = X.env :: X.outer) (hf : X.env.frame = some X.env.locals) (tk : Takes X Wout)
    (hb : ∀ W pn xe, Takes (X.tr pn xe) W → PassesOwn (model X.prog X.w) X.A X.env xe → PSs (X.tr pn xe) body (tb W pn xe)) (hh : HdsOk X (h₀ :: hds) l) (i1 : ∀ W pn xe, tb W pn xe = tb W [] x00 := by intros; rfl) :
    PS X (.Try body (h₀ :: hds) [] [] pos) (fun D σ H => tb (wMany X.K Wout D l) [] x00 D σ H) :=
  ps_try_many (tb := fun W => tb W [] x00) hs hf tk (fun W pn xe t p => i1 W pn xe ▸ hb W pn xe t p) hh
theorem hd_one {x : Str} {c : Value} {ts : Addr → Obj → Value → Option Addr → List (Addr × Obj) → TS} {b₀ : Stmt} {suite : List Stmt} {np pos' : Pos} (hc : Names X x c)
    (hsu : ∀ a oe cls d pn, Zc cls d oe → (∃ vs, oe.data = .fields vs) → PSs (X.suite a ((a, oe) :: pn)) (b₀ :: suite) (ts a oe cls d pn)) (r : HdsOk X hds l) (i2 : ∀ a oe cls d pn, ts a oe cls d pn = ts a o00 cls d [] := by intros; rfl) :
    HdsOk X (.ExceptHandler (some (.Name x np)) none (b₀ :: suite) pos' :: hds) ((c, fun a cls d => ts a o00 cls d []) :: l) :=
  .cons hc (fun a oe cls d pn z f => i2 a oe cls d pn ▸ hsu a oe cls d pn z f) r
end
section
variable {X : Cx} {elt tg iter : Expr} {ifs : List Expr} {scope : Scope} {own : List (Str × Nat)} {pos : Pos} {wi : TI} {g : Shared → Hp → Addr → List (Str × Addr) → List Addr → TG} {tt : Shared → Hp → Addr → List (Str × Addr) → List Addr → TT} {te : Shared → Hp → Addr → List (Str × Addr) → List Addr → TE}
theorem pe_lcX (hc : X.calm = true) (hN : X.N.Nodup) (hi : PI X tg iter wi) (ok : BlkOk X.N X.env.scope scope own)
    (hg : ∀ (s : Shared) (H : Hp) (C : Addr) (cl : List (Str × Addr)) (fp : List Addr), PG (X.blk s H scope (compEnvC scope cl C X.env) fp) tg (g s H C cl fp)) (ht : ∀ (s : Shared) (H : Hp) (C : Addr) (cl : List (Str × Addr)) (fp : List Addr), PTs (X.blk s H scope (compEnvC scope cl C X.env) fp) ifs (tt s H C cl fp))
    (he : ∀ (s : Shared) (H : Hp) (C : Addr) (cl : List (Str × Addr)) (fp : List Addr), PE (X.blk s H scope (compEnvC scope cl C X.env) fp) elt (te s H C cl fp)) (hs : ∀ x, foldedSetIterable iter X.env x = pure x := by intro _; rfl)
    (i1 : ∀ s H C cl fp, g s H C cl fp = g s00 h00 0 [] [] := by intros; rfl) (i2 : ∀ s H C cl fp, tt s H C cl fp = tt s00 h00 0 [] [] := by intros; rfl) (i3 : ∀ s H C cl fp, te s H C cl fp = te s00 h00 0 [] [] := by intros; rfl) :
    PE X (.ListComp elt [⟨tg, iter, ifs, 0⟩] scope pos) (tLc wi (g s00 h00 0 [] []) (tt s00 h00 0 [] []) (te s00 h00 0 [] []) (own.map (·.2))) :=
  pe_lc hc hN hi ok (fun s H C cl fp => i1 s H C cl fp ▸ hg s H C cl fp) (fun s H C cl fp => i2 s H C cl fp ▸ ht s H C cl fp) (fun s H C cl fp => i3 s H C cl fp ▸ he s H C cl fp) hs
theorem ps_setLcX {i : Nat} {y : Str} {py : Pos} {spos : Pos} (hc : X.calm = true) (hN : X.N.Nodup) (hy : X.N[i]? = some y) (hyl : X.env.scope.names.lookup y = some .local)
    (hsw : swapsWith (.ListComp elt [⟨tg, iter, ifs, 0⟩] scope pos) (some (.Name y py)) spos.line X.env = pure true) (hi : PI X tg iter wi) (ok : BlkOk X.N X.env.scope scope own)
    (hg : ∀ (s : Shared) (H : Hp) (C : Addr) (cl : List (Str × Addr)) (fp : List Addr), PG (X.blk s H scope (compEnvC scope cl C X.env) fp) tg (g s H C cl fp)) (ht : ∀ (s : Shared) (H : Hp) (C : Addr) (cl : List (Str × Addr)) (fp : List Addr), PTs (X.blk s H scope (compEnvC scope cl C X.env) fp) ifs (tt s H C cl fp))
    (he : ∀ (s : Shared) (H : Hp) (C : Addr) (cl : List (Str × Addr)) (fp : List Addr), PE (X.blk s H scope (compEnvC scope cl C X.env) fp) elt (te s H C cl fp)) (hs : ∀ x, foldedSetIterable iter X.env x = pure x := by intro _; rfl)
    (i1 : ∀ s H C cl fp, g s H C cl fp = g s00 h00 0 [] [] := by intros; rfl) (i2 : ∀ s H C cl fp, tt s H C cl fp = tt s00 h00 0 [] [] := by intros; rfl) (i3 : ∀ s H C cl fp, te s H C cl fp = te s00 h00 0 [] [] := by intros; rfl) :
    PS X (.Assign [.Name y py] (.ListComp elt [⟨tg, iter, ifs, 0⟩] scope pos) spos) (tAsg (tLc wi (g s00 h00 0 [] []) (tt s00 h00 0 [] []) (te s00 h00 0 [] []) (own.map (·.2))) (gName i)) :=
  ps_setLc hc hN hy hyl hsw hi ok (fun s H C cl fp => i1 s H C cl fp ▸ hg s H C cl fp) (fun s H C cl fp => i2 s H C cl fp ▸ ht s H C cl fp) (fun s H C cl fp => i3 s H C cl fp ▸ he s H C cl fp) hs
end
end Mus

set_option maxRecDepth 100000
set_option maxHeartbeats 4000000
/-! try whose clauses are of both kinds, named and not: the error on its way from clause to clause as one thing (Fell), and what each kind of clause does with it. -/
namespace Mus
open PySem PySem.Spec PyProof.Rows L2
/-- the error at a has come down in X's frame, nobody has taken it so far -/
structure Fell (X : Cx) (pins : List (Addr × Obj)) (σ : L2.St) (H : Hp) (a : Addr) (cls : Value) (d : Option Addr) (s : Shared) : Prop where
  inv : Inv X pins σ H s
  new : H a = none
  air : ∃ (B : Heap) (sI : Shared), Inv X pins σ H sI ∧ (∀ b o, sI.heap.get? b = some o → b ∉ frs X.stack → B.get? b = some o) ∧ sI.heap.UpToSlots s.heap ∧ HandSPX.FlyingZ B (X.env :: X.outer) a (Zc cls d) s.heap ∧ s.os = sI.os ∧ AllBare s.gens
section
variable {X : Cx} {pins : List (Addr × Obj)} {σ : L2.St} {H : Hp} {a : Addr} {cls : Value} {d : Option Addr} {s : Shared} {D : Ends} {W : WX}
/-- the error as an object, and that it is no frame -/
theorem Fell.obj (f : Fell X pins σ H a cls d s) (hs : X.stack = X.env :: X.outer) (hf : X.env.frame = some X.env.locals) : ∃ oe vs, s.heap.get? a = some oe ∧ Zc cls d oe ∧ oe.data = .fields vs ∧ a ≠ X.env.locals ∧ a ∉ X.fs := by
  obtain ⟨B, sI, _, _, _, fl, _⟩ := f.air
  obtain ⟨oe, vs, e1, e2, e3⟩ := fl.there
  have out : a ∉ frs (X.env :: X.outer) := fun m => by
    obtain ⟨_, o, e, no⟩ := fl.2.2.1.mem m
    exact no _ ((Option.some.inj (e1.symm.trans e)) ▸ e3)
  refine ⟨oe, vs, e1, e2, e3, fun z => out ?_, fun m => out ?_⟩
  · exact List.mem_filterMap.mpr ⟨X.env, .head _, z ▸ hf⟩
  · obtain ⟨e, m, q⟩ := List.mem_filterMap.mp m
    exact List.mem_filterMap.mpr ⟨e, .tail _ m, q⟩
/-- the body has let it go -/
theorem Fell.start {h' : Heap} {sI : Shared} {B : Heap} (J : Inv X pins σ H sI) (nb : ∀ b o, sI.heap.get? b = some o → b ∉ frs X.stack → B.get? b = some o) (up : sI.heap.UpToSlots s.heap) (na : H a = none) (os : s.os = sI.os) (ag : AllBare s.gens)
    (fl : HandSPX.FlyingZ B (X.env :: X.outer) a (Zc cls d) h') (up' : s.heap.UpToSlots h') : Fell X pins σ H a cls d { s with heap := h' } :=
  ⟨J.landed nb fl.1 (up.trans up') os ag, na, B, sI, J, nb, up.trans up', fl, os, ag⟩
theorem Fell.next {h' : Heap} {B : Heap} (f : Fell X pins σ H a cls d s) (g : ∀ B sI, Inv X pins σ H sI → (∀ b o, sI.heap.get? b = some o → b ∉ frs X.stack → B.get? b = some o) → sI.heap.UpToSlots s.heap → HandSPX.FlyingZ B (X.env :: X.outer) a (Zc cls d) s.heap → s.os = sI.os → AllBare s.gens →
    HandSPX.FlyingZ B (X.env :: X.outer) a (Zc cls d) h' ∧ s.heap.UpToSlots h') : Fell X pins σ H a cls d { s with heap := h' } := by
  obtain ⟨B, sI, J, nb, up, fl, os, ag⟩ := f.air
  obtain ⟨fl', up'⟩ := g B sI J nb up fl os ag
  exact .start J nb up f.new os ag fl' up'
/-- no clause is left: it goes on -/
theorem Fell.out {Q : Flow → Shared → Prop} (f : Fell X pins σ H a cls d s) (hs : X.stack = X.env :: X.outer) (hf : X.env.frame = some X.env.locals) (tk : Takes X W) (w : W cls d σ H) : wpAny (model X.prog X.w) X.A (handleBy (.ref a) X.env []) Q X.xe s := by
  obtain ⟨B, sI, J, nb, up, fl, os, ag⟩ := f.air
  refine wpAny_handleBy_nil ?_
  obtain ⟨_, _, _, oe, vs, T, _, _, e1, _, e3, e4, _⟩ := id fl
  unfold PySem.passOn
  refine wpAny_bind (wpAny_field e1 e3 e4 ?_)
  rw [if_neg (by simp : ¬ ((Value.ref T == Value.none) = true))]
  have go : wpAny (model X.prog X.w) X.A (setFlight (.ref a) X.env.frame) (fun _ s4 => wpAny (model X.prog X.w) X.A (throw (.ref a) : Sem Flow) Q X.xe s4) X.xe s := hf ▸
    HandSPX.setFlight_upZ fl fun h4 held up4 => wpAny_throw (tk _ _ ⟨a, B, sI, pins, σ, H, cls, d, rfl, J, nb, up.trans up4, .inr (.inr (hs ▸ held)), f.new, os, ag, w⟩)
  first
    | exact wpAny_bind (wpAny_pure (wpAny_bind go))
    | exact wpAny_bind go
/-- is it the clause's? -/
theorem Fell.asks {x : Str} {np : Pos} {c : Value} {b : Bool} {E : Value → Shared → Prop} {R : Bool → Shared → Prop} {F : Value → Shared → Prop} (f : Fell X pins σ H a cls d s) (hs : X.stack = X.env :: X.outer) (hf : X.env.frame = some X.env.locals) (hc : Names X x c) (hb : PySem.W.exmOne X.K cls c = some b)
    (h : R b s) : wpAny (model X.prog X.w) (X.A.mark (some (.ref a))) (eval (.Name x np) X.env) (fun c s1 => wpAny (model X.prog X.w) (X.A.mark (some (.ref a))) (excMatches (.ref a) c) (fun b s2 => R b s2) F s1) E s := by
  obtain ⟨oe, vs, e1, e2, e3, n1, n2⟩ := f.obj hs hf
  have S := f.inv.suite e1 e3 f.new n1 n2
  have L : PySem.W.Looks (model X.prog X.w) s.heap (typeOf (.ref a)) cls := fun A Q E s k q => wpAny_typeOf_ref (k _ _ e1) (e2.1 ▸ q)
  have M := PySem.W.exm_one (M := model X.prog X.w) f.inv.kIn L hb
  obtain ⟨hg, hd, hm | ⟨hm, hv, hn⟩⟩ := hc
  · exact ld_glob (X := X.suite a ((a, oe) :: (X.pn ++ pins))) S hg hm (M.here h) hd
  · exact ld_blt (X := X.suite a ((a, oe) :: (X.pn ++ pins))) S hg hm hv (M.here h) hn hd
end
/-- one clause: its class, its name's slot if it has one, its suite -/
structure Cl where
  c : Value
  i : Option Nat
  ts : Addr → Value → Option Addr → TS
/-- behind a suite the name's slot is empty -/
def endI (D : Ends) : Option Nat → Ends
  | none => D
  | some i => { nx := fun σ H => D.nx (σ.set i none) H, rt := D.rt, bk := fun σ H => D.bk (σ.set i none) H, ct := fun σ H => D.ct (σ.set i none) H }
def putI (a : Addr) (σ : L2.St) : Option Nat → L2.St
  | none => σ
  | some i => σ.set i (some (.ref a))
def wCl (K : PySem.W.Frag) (Wout : WX) (D : Ends) : List Cl → WX
  | [] => Wout
  | k :: r => fun cls d σ H => ∃ b, PySem.W.exmOne K cls k.c = some b ∧ (b = true → ∀ a, H a = none → k.ts a cls d (endI D k.i) (putI a σ k.i) H) ∧ (b = false → wCl K Wout D r cls d σ H)
/-- the clause's name -/
def Nm (X : Cx) : Option Str → Option Nat → Prop
  | none, none => True
  | some n, some i => X.N.Nodup ∧ X.N[i]? = some n ∧ X.env.kindOf n = some .local
  | _, _ => False
inductive Cls' (X : Cx) : List ExceptHandler → List Cl → Prop
  | nil : Cls' X [] []
  | cons {x : Str} {n : Option Str} {i : Option Nat} {c : Value} {ts : Addr → Value → Option Addr → TS} {b₀ : Stmt} {suite : List Stmt} {np pos' : Pos} {hds : List ExceptHandler} {l : List Cl} (hn : Nm X n i) (hc : Names X x c)
      (hsu : ∀ a oe cls d pn, Zc cls d oe → (∃ vs, oe.data = .fields vs) → PSs (X.suite a ((a, oe) :: pn)) (b₀ :: suite) (ts a cls d)) (r : Cls' X hds l) : Cls' X (.ExceptHandler (some (.Name x np)) n (b₀ :: suite) pos' :: hds) (⟨c, i, ts⟩ :: l)
section
variable {X : Cx} {pins : List (Addr × Obj)} {σ : L2.St} {H : Hp} {a : Addr} {cls : Value} {d : Option Addr} {s : Shared} {D : Ends} {W : WX}
/-- a suite without a name runs to its ends -/
theorem Fell.suite0 {b₀ : Stmt} {suite : List Stmt} {pos' : Pos} {t : TS} {E : Value → Shared → Prop} (f : Fell X pins σ H a cls d s) (hs : X.stack = X.env :: X.outer) (hf : X.env.frame = some X.env.locals)
    (hsu : ∀ oe pn, Zc cls d oe → (∃ vs, oe.data = .fields vs) → PSs (X.suite a ((a, oe) :: pn)) (b₀ :: suite) t) (q : t D σ H) :
    codeAny (model X.prog X.w) (X.A.mark (some (.ref a))) (.handlers (.ref a) [.ExceptHandler none none (b₀ :: suite) pos'] X.env) (fun r s2 => match r with | .ok g => SP X pins D g s2 | .error x => E x s2) s := by
  have ok := f.inv.ok
  refine codeAny_handlers_suite ?_
  obtain ⟨B, sI, J, nb, up, fl, os, ag⟩ := id f.air
  refine HandSPX.lands_againZ fl fun h4 fl4 up4 => ?_
  have f4 : Fell X pins σ H a cls d { s with heap := h4 } := .start J nb up f.new os ag fl4 up4
  obtain ⟨oe, vs, e1, e2, e3, n1, n2⟩ := f4.obj hs hf
  refine wpAny_mono ((hsu oe (X.pn ++ pins) e2 ⟨_, e3⟩).run [] _ σ H D (f4.inv.suite e1 e3 f.new n1 n2) q) (fun g s6 h => ?_) fun _ _ z => z.elim
  cases g with
  | ret u => obtain ⟨v, σ6, H6, S6, r6, q6⟩ := h; exact ⟨v, σ6, H6, S6.unsuite ok, r6, q6⟩
  | _ => obtain ⟨σ6, H6, S6, q6⟩ := h; exact ⟨σ6, H6, S6.unsuite ok, q6⟩
/-- one with a name -/
theorem Fell.suite1 {n : Str} {i : Nat} {b₀ : Stmt} {suite : List Stmt} {pos' : Pos} {t : TS} {E F : Value → Shared → Prop} (f : Fell X pins σ H a cls d s) (hs : X.stack = X.env :: X.outer) (hf : X.env.frame = some X.env.locals) (hN : X.N.Nodup) (hi : X.N[i]? = some n) (hl : X.env.kindOf n = some .local)
    (hsu : ∀ oe pn, Zc cls d oe → (∃ vs, oe.data = .fields vs) → PSs (X.suite a ((a, oe) :: pn)) (b₀ :: suite) t) (q : t (endI D (some i)) (σ.set i (some (.ref a))) H) :
    codeAny (model X.prog X.w) (X.A.mark (some (.ref a))) (.handlers (.ref a) [.ExceptHandler none (some n) (b₀ :: suite) pos'] X.env)
      (fun r s2 => match r with | .ok g => wpAny (model X.prog X.w) X.A (do bindName X.env n .none; unbindBehindTheSuite X.env n pos') (fun _ s3 => SP X pins D g s3) F s2 | .error x => E x s2) s := by
  have ok := f.inv.ok
  refine codeAny_handlers_suite_as ?_
  obtain ⟨B, sI, J, nb, up, fl, os, ag⟩ := id f.air
  refine HandSPX.lands_againZ fl fun h4 fl4 up4 => ?_
  have f4 : Fell X pins σ H a cls d { s with heap := h4 } := .start J nb up f.new os ag fl4 up4
  obtain ⟨oe, vs, e1, e2, e3, n1, n2⟩ := f4.obj hs hf
  refine store_ok (X := X.suite a ((a, oe) :: (X.pn ++ pins))) (v := .ref a) (f4.inv.suite e1 e3 f.new n1 n2) hN hi (.inl hl) rfl (fun s5 S5 => ?_) (.inr hl)
  refine wpAny_mono ((hsu oe (X.pn ++ pins) e2 ⟨_, e3⟩).run [] s5 _ H _ S5 q) (fun g s6 h => ?_) fun _ _ z => z.elim
  cases g with
  | ret u => obtain ⟨v, σ6, H6, S6, r6, q6⟩ := h; exact gone_ok (S6.unsuite ok) hN hi hl fun s7 J7 => ⟨v, _, _, J7, r6, q6⟩
  | _ => obtain ⟨σ6, H6, S6, q6⟩ := h; exact gone_ok (S6.unsuite ok) hN hi hl fun s7 J7 => ⟨_, _, J7, q6⟩
/-- from clause to clause -/
theorem Fell.all {hds : List ExceptHandler} {l : List Cl} (hh : Cls' X hds l) (hs : X.stack = X.env :: X.outer) (hf : X.env.frame = some X.env.locals) (tk : Takes X W) (f : Fell X pins σ H a cls d s) (w : wCl X.K W D l cls d σ H) :
    wpAny (model X.prog X.w) X.A (handleBy (.ref a) X.env hds) (SP X pins D) X.xe s := by
  induction hh with
  | nil => exact f.out hs hf tk w
  | @cons x n i c ts b₀ suite np pos' hds l hn hc hsu r ih =>
    obtain ⟨b, hb, yes, no⟩ := w
    refine wpAny_handleBy_cons (codeAny_handlers_test (f.asks (R := fun b s2 => _) hs hf hc hb ?_)) (by intro q; cases q)
    cases b with
    | false => exact ih (no rfl)
    | true =>
      have q := yes rfl a f.new
      match n, i, hn with
      | none, none, _ => exact f.suite0 hs hf (fun oe pn z k => hsu a oe cls d pn z k) q
      | some n, some i, ⟨h1, h2, h3⟩ => exact f.suite1 hs hf h1 h2 h3 (fun oe pn z k => hsu a oe cls d pn z k) q
end
section
variable {X : Cx} {body : List Stmt} {h₀ : ExceptHandler} {hds : List ExceptHandler} {l : List Cl} {pos : Pos} {tb : WX → List (Addr × Obj) → (Value → Shared → Prop) → TS} {Wout : WX}
theorem ps_tryC (hs : X.stack = X.env :: X.outer) (hf : X.env.frame = some X.env.locals) (tk : Takes X Wout)
    (hb : ∀ W pn xe, Takes (X.tr pn xe) W → PassesOwn (model X.prog X.w) X.A X.env xe → PSs (X.tr pn xe) body (tb W pn xe)) (hh : Cls' X (h₀ :: hds) l) (i1 : ∀ W pn xe, tb W pn xe = tb W [] x00 := by intros; rfl) :
    PS X (.Try body (h₀ :: hds) [] [] pos) (fun D σ H => tb (wCl X.K Wout D l) [] x00 D σ H) := by
  refine ⟨fun pins s σ H D I h => ?_⟩
  have ok := I.ok
  have fr : X.A.frames = some (X.env :: X.outer) := ok.frames.trans (hs ▸ rfl)
  rw [← i1 _ (X.pn ++ pins) (fun e s1 => wpAny (model X.prog X.w) X.A (noteFrame e X.env) (fun _ s2 => wpAny (model X.prog X.w) X.A (setFlight e none) (fun _ s3 => wpAny (model X.prog X.w) X.A (handleBy e X.env (h₀ :: hds)) (SP X pins D) X.xe s3) X.xe s2) X.xe s1)] at h
  refine wpAny_Try_except (wpAny_mono ((hb _ _ _ (fun u s' x => ?_) PassesOwn.looking).run [] s σ H D (I.toTry _) h) (fun f s1 e => ?_) fun _ _ e => e)
  · obtain ⟨a, B, sI, pins', σ', H', cls, d, rfl, J, nb, up, sky, na, os, ag, w⟩ := x
    exact Sky.land Zc.steady fr hf (show Sky B (X.env :: X.outer) a (Zc cls d) X.env.locals s'.heap from hs ▸ sky) fun h3 fl up3 => Fell.all hh hs hf tk (.start (J.ofTry ok) nb up na os ag fl up3) w
  · cases f with
    | next => obtain ⟨σ', H', J, q⟩ := e; exact wpAny_execs_nil ⟨σ', H', J.ofTry ok, q⟩
    | ret u => obtain ⟨v, σ', H', J, r, q⟩ := e; exact ⟨v, σ', H', J.ofTry ok, r, q⟩
    | _ => obtain ⟨σ', H', J, q⟩ := e; exact ⟨σ', H', J.ofTry ok, q⟩
theorem cl_one {x : Str} {c : Value} {ts : Addr → Obj → Value → Option Addr → List (Addr × Obj) → TS} {b₀ : Stmt} {suite : List Stmt} {np pos' : Pos} (hc : Names X x c)
    (hsu : ∀ a oe cls d pn, Zc cls d oe → (∃ vs, oe.data = .fields vs) → PSs (X.suite a ((a, oe) :: pn)) (b₀ :: suite) (ts a oe cls d pn)) (r : Cls' X hds l)
    (hj : ∀ a oe cls d pn, ts a oe cls d pn = ts a o00 cls d [] := by intros; rfl) : Cls' X (.ExceptHandler (some (.Name x np)) none (b₀ :: suite) pos' :: hds) (⟨c, none, fun a cls d => ts a o00 cls d []⟩ :: l) :=
  .cons trivial hc (fun a oe cls d pn z f => hj a oe cls d pn ▸ hsu a oe cls d pn z f) r
theorem cl_as {x n : Str} {i : Nat} {c : Value} {ts : Addr → Obj → Value → Option Addr → List (Addr × Obj) → TS} {b₀ : Stmt} {suite : List Stmt} {np pos' : Pos} (hN : X.N.Nodup) (hi : X.N[i]? = some n) (hln : X.env.kindOf n = some .local) (hc : Names X x c)
    (hsu : ∀ a oe cls d pn, Zc cls d oe → (∃ vs, oe.data = .fields vs) → PSs (X.suite a ((a, oe) :: pn)) (b₀ :: suite) (ts a oe cls d pn)) (r : Cls' X hds l)
    (hj : ∀ a oe cls d pn, ts a oe cls d pn = ts a o00 cls d [] := by intros; rfl) : Cls' X (.ExceptHandler (some (.Name x np)) (some n) (b₀ :: suite) pos' :: hds) (⟨c, some i, fun a cls d => ts a o00 cls d []⟩ :: l) :=
  .cons ⟨hN, hi, hln⟩ hc (fun a oe cls d pn z f => hj a oe cls d pn ▸ hsu a oe cls d pn z f) r
end
/-- isinstance(e, c), e what the suite holds, of the class D -/
theorem call_isEx {X : Cx} {a : Addr} {oe : Obj} {cls : Value} {d : Option Addr} {pn : List (Addr × Obj)} (hz : Zc cls d oe) (hf : ∃ vs, oe.data = .fields vs) :
    CallR (X.suite a ((a, oe) :: pn)) (.builtin "isinstance") (fun xs H Q => ∃ D, cls = .ref D ∧ d = none ∧ ExcC X.K D ∧ rIsE X.K D a xs H Q) := by
  intro pins s σ H xs us Q I r h
  obtain ⟨D, rfl, rfl, C, h⟩ := h
  exact call_isE C hz hf pins s σ H xs us Q I r h
end Mus

set_option maxRecDepth 100000
set_option maxHeartbeats 4000000
namespace Mus
open PySem L2 TL PySem.NumText
local macro_rules | `(tactic| walk_at "rd") => `(tactic| first
  | refine ⟨_, rfl, ?_⟩ | refine ⟨(True.intro : True), ?_⟩
  | refine ⟨_, _, rfl, rfl, (⟨by decide, by decide, by decide⟩ : CPow _ _), ?_⟩
  | refine ⟨_, _, rfl, rfl, (⟨by decide, by decide⟩ : CDiv _ _), ?_⟩
  | refine ⟨_, _, rfl, rfl, (by show (0 : Int) < _; decide), ?_⟩
  | refine ⟨_, _, rfl, rfl, ?_⟩ | refine ⟨rfl, ?_⟩ | refine iteT ?_ | refine iteF ?_ | refine ⟨_, _, rfl, ?_⟩ | refine .inl ⟨_, rfl, ?_⟩
  | refine ⟨_, _, _, _, _, rfl, (by assumption), (by assumption), (by assumption), rfl, ?_⟩ | refine ⟨_, _, _, _, rfl, rfl, SqT.of (by assumption), rfl, ?_⟩ | refine ⟨_, _, rfl, SqT.of (by assumption), rfl, ?_⟩
  | refine ⟨_, _, _, _, _, rfl, .ty _, Rp.ty (by assumption), kit_int _, ?_⟩ | refine ⟨_, _, _, _, _, rfl, .ty _, Rp.ty (by assumption), kit_bool _, ?_⟩
  | refine ⟨_, _, _, _, _, rfl, .ty _, Rp.ty (by assumption), kit_str _, ?_⟩ | refine ⟨_, _, _, _, _, rfl, .ty _, Rp.ty (by assumption), kit_tup _, ?_⟩)
local macro_rules | `(tactic| walk_at "cal") => `(tactic| first
  | refine ⟨_, _, _, _, _, rfl, (by assumption), ?_⟩ | refine ⟨_, _, _, _, _, rfl, (by assumption), (by assumption), ?_⟩)
local macro_rules | `(tactic| walk_at "sq") => `(tactic| first
  | refine ⟨_, _, rfl, Or.inr (SqT.of (by assumption)), ?_⟩ | refine ⟨_, _, _, _, rfl, rfl, SqT.of (by assumption), rfl, ?_⟩)
local macro_rules | `(tactic| walk_at "rds") => `(tactic| repeat first | walk_at "rd" | walk_at "cal" | walk_at "sq")
local macro_rules | `(tactic| walk_at "ze") => `(tactic| repeat first
  | exact zes_nil | exact ze_bl | exact ze_str | exact ze_non | apply zes_cons | apply ze_tup | apply ze_lst | apply ze_cat | exact di_c | exact di_v rfl | apply di_opC | apply di_op | apply di_neg | apply ze_i | (refine (⟨?_, ?_, ?_⟩ : CPow _ _) <;> decide) | exact Nat.le_of_ble_eq_true rfl | exact ze_varD rfl (by assumption))
local macro_rules | `(tactic| walk_at "rdz") => `(tactic| repeat (fail_if_success (first | show tLst _ _ _ _ | show tAsg (tLst _) _ _ _ _ | show tSeq (tAsg (tLst _) _) _ _ _ _)); first | walk_at "rd" | walk_at "cal" | walk_at "sq")
def top (i : Nat) : Stmt := PySem.Challenge.pw_mustercall_k10_two_cells.main.body.getD i (.Pass ⟨0, 0, 0, 0⟩)
structure Tx (K : PySem.W.Frag) (mg : Str → Option Value) (C CC CE : Addr) : Prop where
  b_len : mg "len" = none
  b_isinstance : mg "isinstance" = none
  b_int : mg "int" = none
  b_bool : mg "bool" = none
  b_str : mg "str" = none
  b_range : mg "range" = none
  b_min : mg "min" = none
  b_max : mg "max" = none
  g_Cells : mg "Cells" = some (.ref C)
  cl_Cells : Cls K C
  n_Cells__texts : NoAttr K C "_texts"
  n_Cells__has_crashed : NoAttr K C "_has_crashed"
  n_Cells__passing : NoAttr K C "_passing"
  n_Cells__keep : NoAttr K C "_keep"
  g_DiskCrashed : mg "DiskCrashed" = some (.ref CC)
  x_DiskCrashed : PySem.W.excIn K CC [.type "ValueError", .type "Exception", .type "BaseException", .type "object"] "ValueError.__new__" = true
  k_DiskCrashed : PySem.W.keepIn K (.ref CC) = true
  b_DiskCrashed : PySem.W.subIn K (.ref CC) (.type "BaseException") = some true
  t_DiskCrashed : PySem.W.typeIn K (.ref CC) = some (.type "type")
  g_DiskError : mg "DiskError" = some (.ref CE)
  x_DiskError : PySem.W.excIn K CE [.type "ValueError", .type "Exception", .type "BaseException", .type "object"] "ValueError.__new__" = true
  k_DiskError : PySem.W.keepIn K (.ref CE) = true
  b_DiskError : PySem.W.subIn K (.ref CE) (.type "BaseException") = some true
  t_DiskError : PySem.W.typeIn K (.ref CE) = some (.type "type")
  m_CC : PySem.W.exmOne K (.ref CC) (.ref CC) = some true
  m_EC : PySem.W.exmOne K (.ref CE) (.ref CC) = some false
  m_EE : PySem.W.exmOne K (.ref CE) (.ref CE) = some true
  e_CC : ExcC K CC
  u_CC : PySem.W.kitOne K (.ref CC) (.ref CE) = some false
/-! ### the disk -/
def pasV : Option Int → V
  | none => .non
  | some i => .int i
def cf (l : Addr) (dead : Bool) (pas : Option Int) (keep : Int) : List (Str × V) := [("_texts", .ref l), ("_has_crashed", .bl dead), ("_passing", pasV pas), ("_keep", .int keep)]
structure CAt (C : Addr) (H : Hp) (p l : Addr) (ts : Str × Str) (dead : Bool) (pas : Option Int) (keep : Int) : Prop where
  ob : ∃ dx, H p = some (.ins C dx (cf l dead pas keep))
  hl : H l = some (.lst [.str ts.1, .str ts.2])
theorem CAt.same {C : Addr} {H H' : Hp} {p l : Addr} {ts : Str × Str} {dead : Bool} {pas : Option Int} {keep : Int} (c : CAt C H p l ts dead pas keep) (s : Same H H') : CAt C H' p l ts dead pas keep := by
  obtain ⟨⟨dx, h⟩, h2⟩ := c
  exact ⟨⟨dx, s _ _ h⟩, s _ _ h2⟩
theorem CAt.ne {C : Addr} {H : Hp} {p l : Addr} {ts : Str × Str} {dead : Bool} {pas : Option Int} {keep : Int} (c : CAt C H p l ts dead pas keep) : p ≠ l := by
  obtain ⟨⟨dx, h⟩, h2⟩ := c
  exact ne_of h h2 (by intro z; cases z)
def getT (ts : Str × Str) (i : Int) : Str := if i = 0 then ts.1 else ts.2
def setT (ts : Str × Str) (i : Int) (z : Str) : Str × Str := if i = 0 then (z, ts.2) else (ts.1, z)
def torn (new old : Str) (k : Int) : Str := cutS new none (some k) ++ cutS old (some k) none
theorem sIx_pos (n : Nat) {k : Int} (h : 0 ≤ k) (d : Nat) : HT.sIx n d (some k) = min k.toNat n := by
  obtain ⟨m, rfl⟩ := Int.eq_ofNat_of_zero_le h
  rw [HT.sIx_nat, Int.toNat_natCast]
theorem torn_len (a b : Str) {k : Int} (h : 0 ≤ k) {n : Nat} (ha : a.length ≤ n) (hb : b.length ≤ n) : (torn a b k).length ≤ n := by
  unfold torn
  rw [len_tl, tl_append, List.length_append]
  have e1 : (tl (cutS a none (some k))).length = min k.toNat a.length := by
    show ((a.cps.toList.drop 0).take (HT.sIx a.length a.length (some k) - 0)).length = _
    rw [sIx_pos _ h, List.drop_zero, Nat.sub_zero, List.length_take]
    show min _ (tl a).length = _
    rw [← len_tl]; omega
  have e2 : (tl (cutS b (some k) none)).length = b.length - min k.toNat b.length := by
    show ((b.cps.toList.drop (HT.sIx b.length 0 (some k))).take (b.length - HT.sIx b.length 0 (some k))).length = _
    rw [sIx_pos _ h, List.length_take, List.length_drop]
    show min _ ((tl b).length - _) = _
    rw [← len_tl]; omega
  rw [e1, e2]; omega
theorem cut_len' (z : Str) (lo hi : Option Int) : (cutS z lo hi).length ≤ z.length := by
  rw [len_tl, len_tl]
  show ((z.cps.toList.drop _).take _).length ≤ _
  rw [List.length_take, List.length_drop]
  show min _ ((tl z).length - _) ≤ _
  omega
def okC (du dv : PyData) : Bool := isInt du 0 1 && dStr dv
def sp_init (C : Addr) : Sp := fun vs H Q _ => ∃ (p dx : Addr), vs = [.ref p] ∧ H p = some (.ins C dx []) ∧
  ∀ l H', H l = none → CAt C H' p l (Str.ofString "", Str.ofString "") false none 0 → (∀ b o, H b = some o → b ≠ p → H' b = some o) → Q .non H'
def sp_check (C CC CE : Addr) : Sp := fun vs H Q E => ∃ (q p l : Addr) (ts : Str × Str) (dead : Bool) (pas : Option Int) (keep : Int) (u v : V) (du dv : PyData), vs = [.ref p, u, v] ∧ CAt C H p l ts dead pas keep ∧ Rp q H u du ∧ Rp q H v dv ∧
  (dead = true → E (.ref CC) none H) ∧ (dead = false → okC du dv = false → E (.ref CE) none H) ∧ (dead = false → okC du dv = true → Q .non H)
def sp_read (C CC CE : Addr) : Sp := fun vs H Q E => ∃ (q p l : Addr) (ts : Str × Str) (dead : Bool) (pas : Option Int) (keep : Int) (u : V) (du : PyData), vs = [.ref p, u] ∧ CAt C H p l ts dead pas keep ∧ Rp q H u du ∧
  (dead = true → E (.ref CC) none H) ∧ (dead = false → isInt du 0 1 = false → E (.ref CE) none H) ∧ (∀ i, du = .int i → 0 ≤ i → i ≤ 1 → dead = false → Q (.str (getT ts i)) H)
def Keeps (p l : Addr) (H H' : Hp) : Prop := ∀ b o, H b = some o → b ≠ p → b ≠ l → H' b = some o
def sp_write (C CC CE : Addr) : Sp := fun vs H Q E => ∃ (q p l : Addr) (ts : Str × Str) (dead : Bool) (pas : Option Int) (keep : Int) (u v : V) (du dv : PyData), vs = [.ref p, u, v] ∧ CAt C H p l ts dead pas keep ∧ Rp q H u du ∧ Rp q H v dv ∧ 0 ≤ keep ∧ ts.1.length ≤ 1000 ∧ ts.2.length ≤ 1000 ∧ (∀ z, dv = .str z → z.length ≤ 1000) ∧
  (dead = true → E (.ref CC) none H) ∧ (dead = false → okC du dv = false → E (.ref CE) none H) ∧
  (∀ i z, du = .int i → dv = .str z → 0 ≤ i → i ≤ 1 → dead = false →
    (pas = some 0 → ∀ H', CAt C H' p l (setT ts i (torn z (getT ts i) keep)) true (some 0) keep → Keeps p l H H' → E (.ref CC) none H') ∧
    (pas ≠ some 0 → ∀ H', CAt C H' p l (setT ts i z) false (pas.map (· - 1)) keep → Keeps p l H H' → Q .non H'))
def sp_arm (C : Addr) : Sp := fun vs H Q _ => ∃ (p l : Addr) (ts : Str × Str) (dead : Bool) (pas : Option Int) (keep n k : Int), vs = [.ref p, .int n, .int k] ∧ CAt C H p l ts dead pas keep ∧ ∀ H', CAt C H' p l ts dead (some n) k → Keeps p l H H' → Q .non H'
def sp_crash (C : Addr) : Sp := fun vs H Q _ => ∃ (p l : Addr) (ts : Str × Str) (dead : Bool) (pas : Option Int) (keep : Int), vs = [.ref p] ∧ CAt C H p l ts dead pas keep ∧ ∀ H', CAt C H' p l ts false none keep → Keeps p l H H' → Q .non H'
section
variable {P : Program} {w : World} {K : PySem.W.Frag} {mg : Str → Option Value} {base : Heap} {C CC CE : Addr}
end
section
variable {P : Program} {w : World} {K : PySem.W.Frag} {mg : Str → Option Value} {base : Heap} {C CC CE : Addr}
abbrev s_is_integer : Stmt := top 5
abbrev N_is_integer : List Str := ["value", "least", "greatest"]
abbrev P_is_integer : List Str := ["value", "least", "greatest"]
theorem sc_is_integer : FnScope N_is_integer P_is_integer (defScope s_is_integer) := ⟨rfl, rfl, rfl, by decide +kernel, rfl, by decide +kernel, by decide +kernel⟩
theorem ok_is_integer {f : Addr} {fd : FuncData} (T : Tx K mg C CC CE) (F : Fun K "is_integer" "is_integer" s_is_integer f fd) : FnOk P w K mg base CX0 1 f fd P_is_integer spI := by
  have nd := sc_is_integer.nd
  refine F.ok sc_is_integer (fun vs H Q E h => ?_) (fun cdv A outer s H vs Q E hr h => ?_)
  · obtain ⟨_, _, _, _, _, rfl, _⟩ := h
    rfl
  · obtain ⟨p, v, d, a, b, rfl, hd, q⟩ := h
    refine ⟨_, (pss_cons (ps_if (PW.pt (pw_or (pt_not (pt_val (pe_callB call_isi (by rfl) T.b_isinstance (by decide +kernel) (pa_cons (pv 0) (pa_cons (pe_ty "int" T.b_int) pa_nil))))) (pw_or1 (pt_val (pe_callB call_isi (by rfl) T.b_isinstance (by decide +kernel) (pa_cons (pv 0) (pa_cons (pe_ty "bool" T.b_bool) pa_nil)))))))
        (pss_one (ps_ret pe_bl))
        pss_nil)
      (pss_one (ps_ret (pe_chain op_le op_le (pv 1) (pv 0) (pv 2))))), ?_⟩
    have hd' := hd
    cases hd <;> walk_at "rds"
    case int =>
      refine iB (fun h => ?_) (fun h => ?_)
      · walk_at "rds"
        exact ansB q (by simp [isInt, h])
      · exact ansB q (by simp [isInt, h])
    all_goals exact q
abbrev s_Cells___init__ : Stmt := inClass (top 7) 0
abbrev N_Cells___init__ : List Str := ["self"]
abbrev P_Cells___init__ : List Str := ["self"]
theorem sc_Cells___init__ : FnScope N_Cells___init__ P_Cells___init__ (defScope s_Cells___init__) := ⟨rfl, rfl, rfl, by decide +kernel, rfl, by decide +kernel, by decide +kernel⟩
theorem ok_init {f : Addr} {fd : FuncData} (T : Tx K mg C CC CE) (F : Fun K "__init__" "Cells.__init__" s_Cells___init__ f fd) : FnOk P w K mg base CX0 1 f fd P_Cells___init__ (sp_init C) := by
  have nd := sc_Cells___init__.nd
  refine F.ok sc_Cells___init__ (fun vs H Q E h => ?_) (fun cdv A outer s H vs Q E hr h => ?_)
  · obtain ⟨_, _, rfl, _⟩ := h
    rfl
  · obtain ⟨p, dx, rfl, hp, q⟩ := h
    have hs := sl
    refine ⟨_, (pss_cons (ps_fld (pv 0) (pe_lst (pa_cons pe_str (pa_cons pe_str pa_nil))) rfl)
      (pss_cons (ps_fld (pv 0) pe_bl rfl)
      (pss_cons (ps_fld (pv 0) pe_non rfl)
      (pss_one (ps_fld (pv 0) pe_int rfl))))), ?_⟩
    refine ⟨by show 2 ≤ sizeLine; omega, fun l nl => ?_⟩
    have pl := ne_of_none hp nl
    refine ⟨_, rfl, p, C, dx, [], rfl, (by rw [upd_ne pl]; exact hp), T.cl_Cells, T.n_Cells__texts, (by decide), ?_⟩
    refine ⟨_, rfl, p, C, dx, _, rfl, upd_same, T.cl_Cells, T.n_Cells__has_crashed, (by show 1 < 1000; decide), ?_⟩
    refine ⟨_, rfl, p, C, dx, _, rfl, upd_same, T.cl_Cells, T.n_Cells__passing, (by show 2 < 1000; decide), ?_⟩
    refine ⟨_, rfl, p, C, dx, _, rfl, upd_same, T.cl_Cells, T.n_Cells__keep, (by show 3 < 1000; decide), ?_⟩
    refine q l _ nl ⟨⟨dx, upd_same⟩, ?_⟩ fun b o h n => ?_
    · rw [upd_ne pl.symm, upd_ne pl.symm, upd_ne pl.symm, upd_ne pl.symm]; exact upd_same
    · rw [upd_ne n, upd_ne n, upd_ne n, upd_ne n, upd_ne (ne_of_none h nl)]; exact h
abbrev s_Cells__check : Stmt := inClass (top 7) 5
abbrev N_Cells__check : List Str := ["self", "cell", "text"]
abbrev P_Cells__check : List Str := ["self", "cell", "text"]
theorem sc_Cells__check : FnScope N_Cells__check P_Cells__check (defScope s_Cells__check) := ⟨rfl, rfl, rfl, by decide +kernel, rfl, by decide +kernel, by decide +kernel⟩
theorem ok_check {f : Addr} {fd : FuncData} (T : Tx K mg C CC CE) (c_is_integer : DefOk P w K mg base CX0 "is_integer" P_is_integer 1 spI) (F : Fun K "_check" "Cells._check" s_Cells__check f fd) : FnOk P w K mg base (L2.CX P w) 2 f fd P_Cells__check (sp_check C CC CE) := by
  have nd := sc_Cells__check.nd
  refine F.okX sc_Cells__check (fun vs H Q E h => ?_) (fun cdv A outer s H vs Q E hr h => ?_)
  · obtain ⟨_, _, _, _, _, _, _, _, _, _, _, rfl, _⟩ := h
    rfl
  · obtain ⟨q0, p, l, ts, dead, pas, keep, u, v, du, dv, rfl, hc, hu, hv, q1, q2, q3⟩ := h
    obtain ⟨⟨dx, ho⟩, hl⟩ := id hc
    have c1 := T.cl_Cells
    have n1 := T.n_Cells__has_crashed
    refine ⟨_, (pss_cons (ps_if (pt_val (pe_fld (pv 0) (by rfl)))
        (pss_one (ps_raise rfl (takes_of rfl rfl rfl rfl) (pmk_own0 PySem.F.excBase_ValueError T.x_DiskCrashed T.g_DiskCrashed T.k_DiskCrashed (raises_own T.b_DiskCrashed T.t_DiskCrashed))))
        pss_nil)
      (pss_one (ps_if (PW.pt (pw_or (pt_not (pt_val (pcall c_is_integer hr (pa_cons (pv 1) (pa_cons pe_int (pa_cons pe_int pa_nil)))))) (pw_or1 (pt_not (pt_val (pe_callB call_isi (by rfl) T.b_isinstance (by decide +kernel) (pa_cons (pv 2) (pa_cons (pe_ty "str" T.b_str) pa_nil))))))))
        (pss_one (ps_raise rfl (takes_of rfl rfl rfl rfl) (pmk_own0 PySem.F.excBase_ValueError T.x_DiskError T.g_DiskError T.k_DiskError (raises_own T.b_DiskError T.t_DiskError))))
        pss_nil))), ?_⟩
    walk_at "rds"
    refine iB (fun h => ?_) (fun h => ?_)
    · exact q1 h
    · have q2 := q2 h
      have q3 := q3 h
      walk_at "rds"
      refine iB (fun h2 => ?_) (fun h2 => ?_)
      · refine q2 ?_
        unfold okC
        cases e : isInt du 0 1 with
        | false => rfl
        | true => rw [e] at h2; cases h2
      · have e1 : isInt du 0 1 = true := by
          cases e : isInt du 0 1 with
          | true => rfl
          | false => rw [e] at h2; cases h2
        walk_at "rds"
        refine iB (fun h3 => ?_) (fun h3 => ?_)
        · refine q2 ?_
          unfold okC
          cases e : dStr dv with
          | false => rw [Bool.and_false]
          | true => rw [e] at h3; cases h3
        · refine q3 ?_
          unfold okC
          rw [e1]
          cases e : dStr dv with
          | true => rfl
          | false => rw [e] at h3; cases h3
abbrev s_Cells_read : Stmt := inClass (top 7) 1
abbrev N_Cells_read : List Str := ["self", "cell"]
abbrev P_Cells_read : List Str := ["self", "cell"]
theorem sc_Cells_read : FnScope N_Cells_read P_Cells_read (defScope s_Cells_read) := ⟨rfl, rfl, rfl, by decide +kernel, rfl, by decide +kernel, by decide +kernel⟩
theorem ok_read {f : Addr} {fd : FuncData} (T : Tx K mg C CC CE) (m_Cells__check : MethOk P w K mg base (L2.CX P w) C "_check" P_Cells__check 2 (sp_check C CC CE)) (F : Fun K "read" "Cells.read" s_Cells_read f fd) : FnOk P w K mg base (L2.CX P w) 3 f fd P_Cells_read (sp_read C CC CE) := by
  have nd := sc_Cells_read.nd
  refine F.okX sc_Cells_read (fun vs H Q E h => ?_) (fun cdv A outer s H vs Q E hr h => ?_)
  · obtain ⟨_, _, _, _, _, _, _, _, _, rfl, _⟩ := h
    rfl
  · obtain ⟨q0, p, l, ts, dead, pas, keep, u, du, rfl, hc, hu, q1, q2, q3⟩ := h
    obtain ⟨⟨dx, ho⟩, hl⟩ := id hc
    have c1 := T.cl_Cells
    have n1 := T.n_Cells__texts
    refine ⟨_, (pss_cons (ps_expr (pmethE m_Cells__check T.cl_Cells (takes_of rfl rfl rfl rfl) (fun _ _ _ _ h => h) (pv 0) hr (pa_cons (pv 1) (pa_cons pe_str pa_nil))))
      (pss_one (ps_ret (pe_ix ix_list (pe_fld (pv 0) (by rfl)) (pv 1) (fun _ _ => rfl))))), ?_⟩
    walk_at "rds"
    refine ⟨p, dx, _, rfl, ho, rfl, ?_⟩
    walk_at "rds"
    refine ⟨q0, p, l, ts, dead, pas, keep, u, _, du, _, rfl, hc, hu, .str _, q1, fun hd hk => ?_, fun hd hk => ?_⟩
    · refine q2 hd ?_
      unfold okC at hk
      rw [show dStr (.str (Str.ofString "")) = true from rfl, Bool.and_true] at hk
      exact hk
    · unfold okC at hk
      rw [show dStr (.str (Str.ofString "")) = true from rfl, Bool.and_true] at hk
      obtain ⟨i, rfl, i0, i1⟩ := isInt_int hk
      cases hu
      walk_at "rds"
      have hi : i = 0 ∨ i = 1 := by omega
      rcases hi with rfl | rfl
      · exact ⟨l, _, _, _, rfl, rfl, SqL.of hl, rfl, q3 0 rfl (by decide) (by decide) hd⟩
      · exact ⟨l, _, _, _, rfl, rfl, SqL.of hl, rfl, q3 1 rfl (by decide) (by decide) hd⟩
abbrev s_Cells_arm : Stmt := inClass (top 7) 3
abbrev N_Cells_arm : List Str := ["self", "count", "keep"]
abbrev P_Cells_arm : List Str := ["self", "count", "keep"]
theorem sc_Cells_arm : FnScope N_Cells_arm P_Cells_arm (defScope s_Cells_arm) := ⟨rfl, rfl, rfl, by decide +kernel, rfl, by decide +kernel, by decide +kernel⟩
theorem ok_arm {f : Addr} {fd : FuncData} (T : Tx K mg C CC CE) (F : Fun K "arm" "Cells.arm" s_Cells_arm f fd) : FnOk P w K mg base CX0 1 f fd P_Cells_arm (sp_arm C) := by
  have nd := sc_Cells_arm.nd
  refine F.ok sc_Cells_arm (fun vs H Q E h => ?_) (fun cdv A outer s H vs Q E hr h => ?_)
  · obtain ⟨_, _, _, _, _, _, _, _, rfl, _⟩ := h
    rfl
  · obtain ⟨p, l, ts, dead, pas, keep, n, k, rfl, hc, q⟩ := h
    have pl := hc.ne
    obtain ⟨⟨dx, ho⟩, hl⟩ := id hc
    refine ⟨_, (pss_cons (ps_fld (pv 0) (pv 1) rfl)
      (pss_one (ps_fld (pv 0) (pv 2) rfl))), ?_⟩
    refine ⟨_, rfl, _, rfl, p, C, dx, _, rfl, ho, T.cl_Cells, T.n_Cells__passing, (by show 4 < 1000; decide), ?_⟩
    refine ⟨_, rfl, _, rfl, p, C, dx, _, rfl, upd_same, T.cl_Cells, T.n_Cells__keep, (by show 4 < 1000; decide), ?_⟩
    exact q _ ⟨⟨dx, upd_same⟩, by rw [upd_ne pl.symm, upd_ne pl.symm]; exact hl⟩ fun b o h n1 _ => by rw [upd_ne n1, upd_ne n1]; exact h
abbrev s_Cells_crash : Stmt := inClass (top 7) 4
abbrev N_Cells_crash : List Str := ["self"]
abbrev P_Cells_crash : List Str := ["self"]
theorem sc_Cells_crash : FnScope N_Cells_crash P_Cells_crash (defScope s_Cells_crash) := ⟨rfl, rfl, rfl, by decide +kernel, rfl, by decide +kernel, by decide +kernel⟩
theorem ok_crash {f : Addr} {fd : FuncData} (T : Tx K mg C CC CE) (F : Fun K "crash" "Cells.crash" s_Cells_crash f fd) : FnOk P w K mg base CX0 1 f fd P_Cells_crash (sp_crash C) := by
  have nd := sc_Cells_crash.nd
  refine F.ok sc_Cells_crash (fun vs H Q E h => ?_) (fun cdv A outer s H vs Q E hr h => ?_)
  · obtain ⟨_, _, _, _, _, _, rfl, _⟩ := h
    rfl
  · obtain ⟨p, l, ts, dead, pas, keep, rfl, hc, q⟩ := h
    have pl := hc.ne
    obtain ⟨⟨dx, ho⟩, hl⟩ := id hc
    refine ⟨_, (pss_cons (ps_fld (pv 0) pe_bl rfl)
      (pss_one (ps_fld (pv 0) pe_non rfl))), ?_⟩
    refine ⟨_, rfl, p, C, dx, _, rfl, ho, T.cl_Cells, T.n_Cells__has_crashed, (by show 4 < 1000; decide), ?_⟩
    refine ⟨_, rfl, p, C, dx, _, rfl, upd_same, T.cl_Cells, T.n_Cells__passing, (by show 4 < 1000; decide), ?_⟩
    exact q _ ⟨⟨dx, upd_same⟩, by rw [upd_ne pl.symm, upd_ne pl.symm]; exact hl⟩ fun b o h n1 _ => by rw [upd_ne n1, upd_ne n1]; exact h
abbrev s_Cells_write : Stmt := inClass (top 7) 2
abbrev N_Cells_write : List Str := ["self", "cell", "text"]
abbrev P_Cells_write : List Str := ["self", "cell", "text"]
theorem sc_Cells_write : FnScope N_Cells_write P_Cells_write (defScope s_Cells_write) := ⟨rfl, rfl, rfl, by decide +kernel, rfl, by decide +kernel, by decide +kernel⟩
theorem ok_write {f : Addr} {fd : FuncData} (T : Tx K mg C CC CE) (m_Cells__check : MethOk P w K mg base (L2.CX P w) C "_check" P_Cells__check 2 (sp_check C CC CE)) (F : Fun K "write" "Cells.write" s_Cells_write f fd) : FnOk P w K mg base (L2.CX P w) 3 f fd P_Cells_write (sp_write C CC CE) := by
  have nd := sc_Cells_write.nd
  refine F.okX sc_Cells_write (fun vs H Q E h => ?_) (fun cdv A outer s H vs Q E hr h => ?_)
  · obtain ⟨_, _, _, _, _, _, _, _, _, _, _, rfl, _⟩ := h
    rfl
  · obtain ⟨q0, p, l, ts, dead, pas, keep, u, v, du, dv, rfl, hc, hu, hv, k0, l1, l2, lz, q1, q2, q3⟩ := h
    have hs := sl
    have pl := hc.ne
    obtain ⟨⟨dx, ho⟩, hl⟩ := id hc
    have c1 := T.cl_Cells
    have n1 := T.n_Cells__texts
    have n2 := T.n_Cells__passing
    have n3 := T.n_Cells__keep
    refine ⟨_, (pss_cons (ps_expr (pmethE m_Cells__check T.cl_Cells (takes_of rfl rfl rfl rfl) (fun _ _ _ _ h => h) (pv 0) hr (pa_cons (pv 1) (pa_cons (pv 2) pa_nil))))
      (pss_cons (ps_if (pt_cmpR op_eq (pe_fld (pv 0) (by rfl)) pe_int (nomark _))
        (pss_cons (ps_fld (pv 0) pe_bl rfl)
        (pss_cons (ps_asg (pe_op op_add_str (pe_slice sl_str (pv 2) po_none (po_some (pe_fld (pv 0) (by rfl)))) (pe_slice sl_str (pe_ix ix_list (pe_fld (pv 0) (by rfl)) (pv 1) (fun _ _ => rfl)) (po_some (pe_fld (pv 0) (by rfl))) po_none)) (pg_sub (pe_fld (pv 0) (by rfl)) (pv 1) set_list))
        (pss_one (ps_raise rfl (takes_of rfl rfl rfl rfl) (pmk_own0 PySem.F.excBase_ValueError T.x_DiskCrashed T.g_DiskCrashed T.k_DiskCrashed (raises_own T.b_DiskCrashed T.t_DiskCrashed))))))
        pss_nil)
      (pss_cons (ps_if (pt_cmpR op_notN (pe_fld (pv 0) (by rfl)) pe_non (nomark _))
        (pss_one (ps_fldaug (pv 0) pe_int in_sub))
        pss_nil)
      (pss_one (ps_asg (pv 2) (pg_sub (pe_fld (pv 0) (by rfl)) (pv 1) set_list)))))), ?_⟩
    walk_at "rds"
    refine ⟨p, dx, _, rfl, ho, rfl, ?_⟩
    walk_at "rds"
    refine ⟨q0, p, l, ts, dead, pas, keep, u, v, du, dv, rfl, hc, hu, hv, q1, q2, fun hd hk => ?_⟩
    unfold okC at hk
    rw [Bool.and_eq_true] at hk
    obtain ⟨i, rfl, i0, i1⟩ := isInt_int hk.1
    obtain ⟨z, rfl⟩ : ∃ z, dv = .str z := by cases dv <;> first | exact ⟨_, rfl⟩ | cases hk.2
    cases hu
    cases hv
    obtain ⟨q4, q5⟩ := q3 i z rfl rfl i0 i1 hd
    have lz := lz z rfl
    have hfin : ∀ (H1 : Hp) (ns : Str × Str) (nd : Bool) (np : Option Int), Keeps p l H H1 → H1 p = some (.ins C dx (cf l nd np keep)) → H1 l = some (.lst [.str ts.1, .str ts.2]) →
        CAt C (upd H1 l (.lst [.str ns.1, .str ns.2])) p l ns nd np keep ∧ Keeps p l H (upd H1 l (.lst [.str ns.1, .str ns.2])) := fun H1 ns nd np kp hp1 _ =>
      ⟨⟨⟨dx, by rw [upd_ne pl]; exact hp1⟩, upd_same⟩, fun b o h n1 n2 => by rw [upd_ne n2]; exact kp b o h n1 n2⟩
    have hi : i = 0 ∨ i = 1 := by omega
    have lo : (getT ts i).length ≤ 1000 := by unfold getT; split <;> assumption
    have hat : atI [V.str ts.1, V.str ts.2] i = some (.str (getT ts i)) := by rcases hi with rfl | rfl <;> rfl
    have hset : ∀ y : Str, ∃ j, ixN 2 i = some j ∧ ([V.str ts.1, V.str ts.2] : List V).set j (.str y) = [.str (setT ts i y).1, .str (setT ts i y).2] := fun y => by
      rcases hi with rfl | rfl
      · exact ⟨0, rfl, rfl⟩
      · exact ⟨1, rfl, rfl⟩
    have ho' := ho
    cases pas with
    | none =>
      walk_at "rds"
      obtain ⟨j, hj, hs2⟩ := hset z
      refine ⟨l, _, _, j, rfl, rfl, hl, hj, ?_⟩
      rw [hs2]
      obtain ⟨r1, r2⟩ := hfin H (setT ts i z) false none (fun b o h _ _ => h) (hd ▸ ho) hl
      exact q5 (by simp) _ r1 r2
    | some n =>
      walk_at "rds"
      refine iB (fun h => ?_) (fun h => ?_)
      · have e0 : n = 0 := V.int.inj (of_decide_eq_true h)
        subst e0
        walk_at "rds"
        refine ⟨p, C, dx, _, rfl, ho, c1, T.n_Cells__has_crashed, (by show 4 < 1000; decide), ?_⟩
        have ho1 : (upd H p (.ins C dx (putF "_has_crashed" (.bl true) (cf l dead (some 0) keep)))) p = some (.ins C dx (cf l true (some 0) keep)) := upd_same
        have hl1 : (upd H p (.ins C dx (putF "_has_crashed" (.bl true) (cf l dead (some 0) keep)))) l = some (.lst [.str ts.1, .str ts.2]) := by rw [upd_ne pl.symm]; exact hl
        have k1 : Keeps p l H (upd H p (.ins C dx (putF "_has_crashed" (.bl true) (cf l dead (some 0) keep)))) := fun b o h n1 _ => by rw [upd_ne n1]; exact h
        generalize upd H p _ = H1 at *
        walk_at "rds"
        refine ⟨by omega, ?_⟩
        walk_at "rds"
        refine ⟨l, _, _, _, rfl, rfl, SqL.of hl1, hat, ?_⟩
        walk_at "rds"
        refine ⟨by omega, ?_⟩
        have a1 := cut_len' z none (some keep)
        have a2 := cut_len' (getT ts i) (some keep) none
        refine ⟨_, _, rfl, rfl, by omega, ?_⟩
        walk_at "rds"
        obtain ⟨j, hj, hs2⟩ := hset (torn z (getT ts i) keep)
        refine ⟨l, _, _, j, rfl, rfl, hl1, hj, ?_⟩
        have e3 : cutS z none (some keep) ++ cutS (getT ts i) (some keep) none = torn z (getT ts i) keep := rfl
        rw [e3, hs2]
        obtain ⟨r1, r2⟩ := hfin H1 (setT ts i (torn z (getT ts i) keep)) true (some 0) k1 ho1 hl1
        exact q4 rfl _ r1 r2
      · have n0 : n ≠ 0 := fun e => of_decide_eq_false h (by rw [e]; rfl)
        walk_at "rds"
        refine ⟨dx, _, ho, by show 4 < 1000; decide, ?_⟩
        have ho1 : (upd H p (.ins C dx (putF "_passing" (.int (n - 1)) (cf l dead (some n) keep)))) p = some (.ins C dx (cf l dead (some (n - 1)) keep)) := upd_same
        have hl1 : (upd H p (.ins C dx (putF "_passing" (.int (n - 1)) (cf l dead (some n) keep)))) l = some (.lst [.str ts.1, .str ts.2]) := by rw [upd_ne pl.symm]; exact hl
        have k1 : Keeps p l H (upd H p (.ins C dx (putF "_passing" (.int (n - 1)) (cf l dead (some n) keep)))) := fun b o h n1 _ => by rw [upd_ne n1]; exact h
        generalize upd H p _ = H1 at *
        walk_at "rds"
        obtain ⟨j, hj, hs2⟩ := hset z
        refine ⟨l, _, _, j, rfl, rfl, hl1, hj, ?_⟩
        rw [hs2]
        obtain ⟨r1, r2⟩ := hfin H1 (setT ts i z) false (some (n - 1)) k1 (hd ▸ ho1) hl1
        exact q5 (fun e => n0 (Option.some.inj e)) _ r1 r2
end
/-! ### deeds -/
inductive De where
  | arm (n k : Int)
  | crash
  | read (u : V) (du : PyData)
  | write (u : V) (du : PyData) (v : V) (dv : PyData)
def deV : De → List V
  | .arm n k => [.str "arm", .int n, .int k]
  | .crash => [.str "crash"]
  | .read u _ => [.str "read", u]
  | .write u _ v _ => [.str "write", u, v]
def AtOk (u : V) (du : PyData) : Prop := (∃ i : Int, u = .int i ∧ du = .int i) ∨ (u = .non ∧ du = .none) ∨ (u = .str "0" ∧ du = .str "0") ∨ (u = .bl true ∧ du = .bool true)
def TxOk (v : V) (dv : PyData) : Prop := (v = .non ∧ dv = .none) ∨ ∃ z : Str, v = .str z ∧ dv = .str z ∧ z.length ≤ 60
theorem AtOk.rp {u : V} {du : PyData} (h : AtOk u du) (p : Addr) (H : Hp) : Rp p H u du := by
  rcases h with ⟨i, rfl, rfl⟩ | ⟨rfl, rfl⟩ | ⟨rfl, rfl⟩ | ⟨rfl, rfl⟩
  · exact .int _
  · exact .non
  · exact .str _
  · exact .bl _
theorem TxOk.rp {u : V} {du : PyData} (h : TxOk u du) (p : Addr) (H : Hp) : Rp p H u du := by
  rcases h with ⟨rfl, rfl⟩ | ⟨z, rfl, rfl, _⟩
  · exact .non
  · exact .str _
def DeOk : De → Prop
  | .arm _ k => 0 ≤ k
  | .crash => True
  | .read u du => AtOk u du
  | .write u du v dv => AtOk u du ∧ TxOk v dv
def sp_ltext : Sp := fun vs H Q _ => ∃ c : Int, vs = [.int c] ∧ ∀ z : Str, z.length ≤ 60 → Q (.str z) H
def sp_deed : Sp := fun vs H Q _ => ∃ c : Int, vs = [.int c] ∧ ∀ de t H', DeOk de → Same H H' → H' t = some (.tup (deV de)) → Q (.ref t) H'
theorem ch13 : (tl (Str.ofString "0123456789=ax")).length = 13 := by decide +kernel
section
variable {P : Program} {w : World} {K : PySem.W.Frag} {mg : Str → Option Value} {base : Heap} {C CC CE : Addr}
abbrev s__law_text : Stmt := top 9
abbrev N__law_text : List Str := ["cell", "text", "rest", "size", "k"]
abbrev P__law_text : List Str := ["cell"]
theorem sc__law_text : FnScope N__law_text P__law_text (defScope s__law_text) := ⟨rfl, rfl, rfl, by decide +kernel, rfl, by decide +kernel, by decide +kernel⟩
theorem ok__law_text {f : Addr} {fd : FuncData} (T : Tx K mg C CC CE) (F : Fun K "_law_text" "_law_text" s__law_text f fd) : FnOk P w K mg base CX0 (1) f fd P__law_text (sp_ltext) := by
  have nd := sc__law_text.nd
  refine F.ok sc__law_text (fun vs H Q E h => ?_) (fun cdv A outer s H vs Q E hr h => ?_)
  · obtain ⟨_, rfl, _⟩ := h
    rfl
  · obtain ⟨c, rfl, q⟩ := h
    have hs := sl
    refine ⟨_, (pss_cons (ps_set (i := 1) nd rfl (Or.inl rfl) pe_str)
      (pss_cons (ps_set (i := 2) nd rfl (Or.inl rfl) (pe_callTy call_int1 (by rfl) T.b_int (by decide +kernel) (pa_cons (pv 0) pa_nil)))
      (pss_cons (ps_set (i := 3) nd rfl (Or.inl rfl) (pe_op op_mod (pe_callTy call_int1 (by rfl) T.b_int (by decide +kernel) (pa_cons (pv 0) pa_nil)) pe_int))
      (C8.pss_cut (ps_if (pt_cmpR op_eq (pe_op op_mod (pe_callTy call_int1 (by rfl) T.b_int (by decide +kernel) (pa_cons (pe_op op_fdiv (pv 0) pe_int) pa_nil)) pe_int) pe_int (nomark _))
        (pss_one (ps_set (i := 3) nd rfl (Or.inl rfl) (pe_op op_mod (pe_callTy call_int1 (by rfl) T.b_int (by decide +kernel) (pa_cons (pe_op op_fdiv (pv 0) pe_int) pa_nil)) pe_int)))
        pss_nil)
      (pss_cons (ps_for PassesOwn.never rfl (pi_range1 (by rfl) T.b_range (pa_cons (pv 3) pa_nil)) (pg_name (i := 4) nd rfl (Or.inl rfl))
        (pss_cons (ps_set (i := 1) nd rfl (Or.inl rfl) (pe_op op_add_str (pv 1) (pe_ix ix_str pe_str (pe_op op_mod (pv 2) pe_int) (fun _ _ => rfl))))
        (pss_one (ps_set (i := 2) nd rfl (Or.inl rfl) (pe_op op_fdiv (pv 2) pe_int)))))
      (pss_one (ps_ret (pv 1)))))))), ?_⟩
    walk_at "rds"
    refine ⟨fun σ' H' => ∃ n : Int, σ' = [some (.int c), some (.str ""), some (.int c), some (.int n), none] ∧ 0 ≤ n ∧ n ≤ 60 ∧ H = H', ?_, ?_⟩
    · walk_at "rds"
      refine iB (fun _ => ?_) (fun _ => ?_)
      · walk_at "rds"
        exact ⟨by omega, by omega, rfl⟩
      · exact ⟨_, rfl, by omega, by omega, rfl⟩
    rintro _ _ ⟨n, rfl, n0, n1, rfl⟩
    refine ⟨_, rfl, n, rfl, by omega, by omega, for_range (lo := 0) (n := n.toNat) (fun i σ H' => ∃ (z : Str) (r : Int) (x4 : Option V), σ = [some (.int c), some (.str z), some (.int r), some (.int n), x4] ∧ z.length = i ∧ H = H') ?_ ?_ ?_⟩
    · exact ⟨_, c, _, rfl, rfl, rfl⟩
    · rintro i σ H' hi ⟨z, r, x4, rfl, hz, rfl⟩
      have h13 := ch13
      have hlt : (r % 13).toNat < (tl (Str.ofString "0123456789=ax")).length := by omega
      walk_at "rds"
      refine ⟨_, _, (tl (Str.ofString "0123456789=ax"))[(r % 13).toNat], rfl, rfl, by rw [len_tl]; omega, at_int (by omega) (List.getElem?_eq_getElem hlt), ?_⟩
      have l1 : (⟨#[(tl (Str.ofString "0123456789=ax"))[(r % 13).toNat]]⟩ : Str).length = 1 := rfl
      refine ⟨_, _, rfl, rfl, by omega, ?_⟩
      walk_at "rds"
      exact ⟨_, _, _, rfl, by rw [len_tl, tl_append, List.length_append, ← len_tl, hz]; rfl, rfl⟩
    · rintro σ H' ⟨z, r, x4, rfl, hz, rfl⟩
      exact ⟨_, rfl, q z (by omega)⟩
abbrev s__law_deed : Stmt := top 12
abbrev N__law_deed : List Str := ["cell", "kind", "keep", "at"]
abbrev P__law_deed : List Str := ["cell"]
theorem sc__law_deed : FnScope N__law_deed P__law_deed (defScope s__law_deed) := ⟨rfl, rfl, rfl, by decide +kernel, rfl, by decide +kernel, by decide +kernel⟩
theorem ok__law_deed {f : Addr} {fd : FuncData} (T : Tx K mg C CC CE) (c__law_text : DefOk P w K mg base CX0 "_law_text" P__law_text 1 (sp_ltext))(F : Fun K "_law_deed" "_law_deed" s__law_deed f fd) : FnOk P w K mg base CX0 (2) f fd P__law_deed (sp_deed) := by
  have nd := sc__law_deed.nd
  refine F.ok sc__law_deed (fun vs H Q E h => ?_) (fun cdv A outer s H vs Q E hr h => ?_)
  · obtain ⟨_, rfl, _⟩ := h
    rfl
  · obtain ⟨c, rfl, q⟩ := h
    have hs := sl
    refine ⟨_, (pss_cons (ps_set (i := 1) nd rfl (Or.inl rfl) (pe_ix ix_list (pe_lst (pa_cons pe_str (pa_cons pe_str (pa_cons pe_str (pa_cons pe_str (pa_cons pe_str (pa_cons pe_str pa_nil))))))) (pe_op op_mod (pe_callTy call_int1 (by rfl) T.b_int (by decide +kernel) (pa_cons (pv 0) pa_nil)) pe_int) (fun _ _ => rfl)))
      (pss_cons (ps_set (i := 0) nd rfl (Or.inl rfl) (pe_op op_fdiv (pv 0) pe_int))
      (pss_cons (ps_if (pt_cmpR op_eq (pv 1) pe_str (nomark _))
        (pss_cons (ps_set (i := 2) nd rfl (Or.inl rfl) (pe_op op_mod (pe_callTy call_int1 (by rfl) T.b_int (by decide +kernel) (pa_cons (pe_op op_fdiv (pv 0) pe_int) pa_nil)) pe_int))
        (C8.pss_cut (ps_if (pt_cmpR op_eq (pe_op op_mod (pe_callTy call_int1 (by rfl) T.b_int (by decide +kernel) (pa_cons (pe_op op_fdiv (pv 0) pe_int) pa_nil)) pe_int) pe_int (nomark _))
          (pss_one (ps_set (i := 2) nd rfl (Or.inl rfl) (pe_op op_mod (pe_callTy call_int1 (by rfl) T.b_int (by decide +kernel) (pa_cons (pe_op op_fdiv (pv 0) pe_int) pa_nil)) pe_int)))
          pss_nil)
        (pss_one (ps_ret (pe_tup (pa_cons (pv 1) (pa_cons (pe_ix ix_list (pe_lst (pa_cons pe_int (pa_cons pe_int (pa_cons pe_int (pa_cons pe_int (pa_cons pe_int (pa_cons pe_int (pa_cons pe_int (pa_cons pe_int pa_nil))))))))) (pe_op op_mod (pe_callTy call_int1 (by rfl) T.b_int (by decide +kernel) (pa_cons (pv 0) pa_nil)) pe_int) (fun _ _ => rfl)) (pa_cons (pv 2) pa_nil))))))))
        pss_nil)
      (pss_cons (ps_if (pt_cmpR op_eq (pv 1) pe_str (nomark _))
        (pss_one (ps_ret (pe_tup (pa_cons (pv 1) pa_nil))))
        pss_nil)
      (pss_cons (ps_set (i := 3) nd rfl (Or.inl rfl) (pe_ix ix_list (pe_lst (pa_cons pe_int (pa_cons pe_int (pa_cons pe_int (pa_cons pe_int (pa_cons pe_int (pa_cons pe_int (pa_cons pe_int (pa_cons pe_int (pa_cons (pe_ix ix_list (pe_lst (pa_cons pe_int (pa_cons (pe_un un_neg pe_int) (pa_cons pe_non (pa_cons pe_str (pa_cons pe_bl pa_nil)))))) (pe_op op_mod (pe_callTy call_int1 (by rfl) T.b_int (by decide +kernel) (pa_cons (pe_op op_fdiv (pv 0) pe_int) pa_nil)) pe_int) (fun _ _ => rfl)) pa_nil)))))))))) (pe_op op_mod (pe_callTy call_int1 (by rfl) T.b_int (by decide +kernel) (pa_cons (pv 0) pa_nil)) pe_int) (fun _ _ => rfl)))
      (pss_cons (ps_if (pt_cmpR op_eq (pv 1) pe_str (nomark _))
        (pss_one (ps_ret (pe_tup (pa_cons (pv 1) (pa_cons (pv 3) pa_nil)))))
        pss_nil)
      (pss_cons (ps_if (pt_cmpR op_eq (pe_op op_mod (pe_callTy call_int1 (by rfl) T.b_int (by decide +kernel) (pa_cons (pe_op op_fdiv (pv 0) pe_int) pa_nil)) pe_int) pe_int (nomark _))
        (pss_one (ps_ret (pe_tup (pa_cons (pv 1) (pa_cons (pv 3) (pa_cons pe_non pa_nil))))))
        pss_nil)
      (pss_one (ps_ret (pe_tup (pa_cons (pv 1) (pa_cons (pv 3) (pa_cons (pcall c__law_text hr (pa_cons (pe_op op_fdiv (pv 0) pe_int) pa_nil)) pa_nil))))))))))))), ?_⟩
    refine ⟨by show 6 ≤ sizeLine; omega, fun t1 n1 => ?_⟩
    have s1 := same_new n1 (.lst [V.str "write", .str "write", .str "write", .str "read", .str "arm", .str "crash"])
    walk_at "rds"
    obtain ⟨kv, hk1, hk2⟩ := atI_mem (xs := [V.str "write", .str "write", .str "write", .str "read", .str "arm", .str "crash"]) (r := c % 6) (by omega) (by show c % 6 < 6; omega)
    refine ⟨t1, _, _, kv, rfl, rfl, SqL.of upd_same, hk2, ?_⟩
    have hk : kv = .str "write" ∨ kv = .str "read" ∨ kv = .str "arm" ∨ kv = .str "crash" := by
      simp only [List.mem_cons, List.not_mem_nil, or_false] at hk1
      rcases hk1 with h | h | h | h | h | h
      · exact .inl h
      · exact .inl h
      · exact .inl h
      · exact .inr (.inl h)
      · exact .inr (.inr (.inl h))
      · exact .inr (.inr (.inr h))
    generalize upd H t1 _ = H1 at *
    have at9 : ∀ {Q : VK} {σ : L2.St}, True := trivial
    rcases hk with rfl | rfl | rfl | rfl
    · walk_at "rds"
      refine ⟨by show 5 ≤ sizeLine; omega, fun t2 n2 => ?_⟩
      walk_at "rds"
      obtain ⟨u0, hu1, hu2⟩ := atI_mem (xs := [V.int 2, .int (-1), .non, .str "0", .bl true]) (r := c / 6 / 9 % 5) (by omega) (by show c / 6 / 9 % 5 < 5; omega)
      refine ⟨t2, _, _, u0, rfl, rfl, SqL.of upd_same, hu2, ?_⟩
      refine ⟨by show 9 ≤ sizeLine; omega, fun t3 n3 => ?_⟩
      walk_at "rds"
      obtain ⟨u, hu3, hu4⟩ := atI_mem (xs := [V.int 0, .int 1, .int 0, .int 1, .int 0, .int 1, .int 0, .int 1, u0]) (r := c / 6 % 9) (by omega) (by show c / 6 % 9 < 9; omega)
      refine ⟨t3, _, _, u, rfl, rfl, SqL.of upd_same, hu4, ?_⟩
      obtain ⟨du, hdu⟩ : ∃ du, AtOk u du := by
        simp only [List.mem_cons, List.not_mem_nil, or_false] at hu1 hu3
        have h0 : ∃ du, AtOk u0 du := by
          rcases hu1 with rfl | rfl | rfl | rfl | rfl
          · exact ⟨_, .inl ⟨_, rfl, rfl⟩⟩
          · exact ⟨_, .inl ⟨_, rfl, rfl⟩⟩
          · exact ⟨_, .inr (.inl ⟨rfl, rfl⟩)⟩
          · exact ⟨_, .inr (.inr (.inl ⟨rfl, rfl⟩))⟩
          · exact ⟨_, .inr (.inr (.inr ⟨rfl, rfl⟩))⟩
        rcases hu3 with rfl | rfl | rfl | rfl | rfl | rfl | rfl | rfl | rfl
        all_goals first | exact h0 | exact ⟨_, .inl ⟨_, rfl, rfl⟩⟩
      generalize hH3 : upd (upd H1 t2 _) t3 _ = H3
      have sx : Same H H3 := hH3 ▸ s1.trans ((same_new n2 _).trans (same_new n3 _))
      walk_at "rds"
      refine iB (fun _ => ?_) (fun _ => ?_)
      · walk_at "rds"
        refine ⟨by show 3 ≤ sizeLine; omega, fun t4 n4 => ?_⟩
        exact q (.write u du .non .none) _ _ ⟨hdu, .inl ⟨rfl, rfl⟩⟩ (sx.trans (same_new n4 _)) upd_same
      · walk_at "rds"
        intro z hz
        refine ⟨by show 3 ≤ sizeLine; omega, fun t4 n4 => ?_⟩
        exact q (.write u du (.str z) (.str z)) _ _ ⟨hdu, .inr ⟨z, rfl, rfl, hz⟩⟩ (sx.trans (same_new n4 _)) upd_same
    · walk_at "rds"
      refine ⟨by show 5 ≤ sizeLine; omega, fun t2 n2 => ?_⟩
      walk_at "rds"
      obtain ⟨u0, hu1, hu2⟩ := atI_mem (xs := [V.int 2, .int (-1), .non, .str "0", .bl true]) (r := c / 6 / 9 % 5) (by omega) (by show c / 6 / 9 % 5 < 5; omega)
      refine ⟨t2, _, _, u0, rfl, rfl, SqL.of upd_same, hu2, ?_⟩
      refine ⟨by show 9 ≤ sizeLine; omega, fun t3 n3 => ?_⟩
      walk_at "rds"
      obtain ⟨u, hu3, hu4⟩ := atI_mem (xs := [V.int 0, .int 1, .int 0, .int 1, .int 0, .int 1, .int 0, .int 1, u0]) (r := c / 6 % 9) (by omega) (by show c / 6 % 9 < 9; omega)
      refine ⟨t3, _, _, u, rfl, rfl, SqL.of upd_same, hu4, ?_⟩
      obtain ⟨du, hdu⟩ : ∃ du, AtOk u du := by
        simp only [List.mem_cons, List.not_mem_nil, or_false] at hu1 hu3
        have h0 : ∃ du, AtOk u0 du := by
          rcases hu1 with rfl | rfl | rfl | rfl | rfl
          · exact ⟨_, .inl ⟨_, rfl, rfl⟩⟩
          · exact ⟨_, .inl ⟨_, rfl, rfl⟩⟩
          · exact ⟨_, .inr (.inl ⟨rfl, rfl⟩)⟩
          · exact ⟨_, .inr (.inr (.inl ⟨rfl, rfl⟩))⟩
          · exact ⟨_, .inr (.inr (.inr ⟨rfl, rfl⟩))⟩
        rcases hu3 with rfl | rfl | rfl | rfl | rfl | rfl | rfl | rfl | rfl
        all_goals first | exact h0 | exact ⟨_, .inl ⟨_, rfl, rfl⟩⟩
      generalize hH3 : upd (upd H1 t2 _) t3 _ = H3
      have sx : Same H H3 := hH3 ▸ s1.trans ((same_new n2 _).trans (same_new n3 _))
      walk_at "rds"
      refine ⟨by show 2 ≤ sizeLine; omega, fun t4 n4 => ?_⟩
      exact q (.read u du) _ _ hdu (sx.trans (same_new n4 _)) upd_same
    · walk_at "rds"
      refine ⟨fun σ' H' => ∃ n : Int, σ' = [some (.int (c / 6)), some (.str "arm"), some (.int n), none] ∧ 0 ≤ n ∧ n ≤ 70 ∧ H1 = H', ?_, ?_⟩
      · walk_at "rds"
        refine iB (fun _ => ?_) (fun _ => ?_)
        · walk_at "rds"
          exact ⟨by omega, by omega, rfl⟩
        · exact ⟨_, rfl, by omega, by omega, rfl⟩
      rintro _ _ ⟨n, rfl, n0, n1, rfl⟩
      walk_at "rds"
      refine ⟨by show 8 ≤ sizeLine; omega, fun t2 n2 => ?_⟩
      walk_at "rds"
      obtain ⟨x, _, hx⟩ := atI_intsU (ns := [0, 1, 2, 3, 0, 1, 2, 9]) (r := c / 6 % 8) (by omega) (by show c / 6 % 8 < 8; omega)
      refine ⟨t2, _, _, .int x, rfl, rfl, SqL.of upd_same, hx, ?_⟩
      walk_at "rds"
      refine ⟨by show 3 ≤ sizeLine; omega, fun t3 n3 => ?_⟩
      exact q (.arm x n) _ _ n0 (s1.trans ((same_new n2 _).trans (same_new n3 _))) upd_same
    · walk_at "rds"
      refine ⟨by show 1 ≤ sizeLine; omega, fun t3 n3 => ?_⟩
      exact q .crash _ _ trivial (s1.trans (same_new n3 _)) upd_same
end
end Mus

set_option maxRecDepth 100000
set_option maxHeartbeats 4000000
namespace Mus
open PySem L2 TL PySem.NumText
local macro_rules | `(tactic| walk_at "rd") => `(tactic| first
  | refine ⟨_, rfl, ?_⟩ | refine ⟨(True.intro : True), ?_⟩
  | refine ⟨_, _, rfl, rfl, (⟨by decide, by decide, by decide⟩ : CPow _ _), ?_⟩
  | refine ⟨_, _, rfl, rfl, (⟨by decide, by decide⟩ : CDiv _ _), ?_⟩
  | refine ⟨_, _, rfl, rfl, (by show (0 : Int) < _; decide), ?_⟩
  | refine ⟨_, _, rfl, rfl, ?_⟩ | refine ⟨rfl, ?_⟩ | refine iteT ?_ | refine iteF ?_ | refine ⟨_, _, rfl, ?_⟩ | refine .inl ⟨_, rfl, ?_⟩
  | refine ⟨_, _, _, _, _, rfl, (by assumption), (by assumption), (by assumption), rfl, ?_⟩ | refine ⟨_, _, _, _, rfl, rfl, SqT.of (by assumption), rfl, ?_⟩ | refine ⟨_, _, rfl, SqT.of (by assumption), rfl, ?_⟩
  | refine ⟨_, _, _, _, _, rfl, .ty _, Rp.ty (by assumption), kit_int _, ?_⟩ | refine ⟨_, _, _, _, _, rfl, .ty _, Rp.ty (by assumption), kit_bool _, ?_⟩
  | refine ⟨_, _, _, _, _, rfl, .ty _, Rp.ty (by assumption), kit_str _, ?_⟩ | refine ⟨_, _, _, _, _, rfl, .ty _, Rp.ty (by assumption), kit_tup _, ?_⟩)
local macro_rules | `(tactic| walk_at "cal") => `(tactic| first
  | refine ⟨_, _, _, _, _, rfl, (by assumption), ?_⟩ | refine ⟨_, _, _, _, _, rfl, (by assumption), (by assumption), ?_⟩)
local macro_rules | `(tactic| walk_at "sq") => `(tactic| first
  | refine ⟨_, _, rfl, Or.inr (SqT.of (by assumption)), ?_⟩ | refine ⟨_, _, _, _, rfl, rfl, SqT.of (by assumption), rfl, ?_⟩)
local macro_rules | `(tactic| walk_at "rds") => `(tactic| repeat first | walk_at "rd" | walk_at "cal" | walk_at "sq")
local macro_rules | `(tactic| walk_at "ze") => `(tactic| repeat first
  | exact zes_nil | exact ze_bl | exact ze_str | exact ze_non | apply zes_cons | apply ze_tup | apply ze_lst | apply ze_cat | exact di_c | exact di_v rfl | apply di_opC | apply di_op | apply di_neg | apply ze_i | (refine (⟨?_, ?_, ?_⟩ : CPow _ _) <;> decide) | exact Nat.le_of_ble_eq_true rfl | exact ze_varD rfl (by assumption))
local macro_rules | `(tactic| walk_at "rdz") => `(tactic| repeat (fail_if_success (first | show tLst _ _ _ _ | show tAsg (tLst _) _ _ _ _ | show tSeq (tAsg (tLst _) _) _ _ _ _)); first | walk_at "rd" | walk_at "cal" | walk_at "sq")
/-- the disk as the law holds it -/
structure Mo where
  ts : Str × Str
  dead : Bool
  pas : Option Int
  keep : Int
/-- the word, the value and the disk behind a deed -/
def out (m : Mo) : De → Str × V × Mo
  | .arm n k => ("done", .non, ⟨m.ts, m.dead, some n, k⟩)
  | .crash => ("done", .non, ⟨m.ts, false, none, m.keep⟩)
  | .read u du => if m.dead = true then ("crashed", .non, m) else if isInt du 0 1 = true then ("done", .str (getT m.ts (match du with | .int i => i | _ => 0)), m) else ("error", .non, m)
  | .write u du v dv => if m.dead = true then ("crashed", .non, m) else if isInt du 0 1 = true then (match dv with
      | .str z => if m.pas = some 0 then ("crashed", .non, ⟨setT m.ts (match du with | .int i => i | _ => 0) (torn z (getT m.ts (match du with | .int i => i | _ => 0)) m.keep), true, some 0, m.keep⟩)
        else ("done", .non, ⟨setT m.ts (match du with | .int i => i | _ => 0) z, false, m.pas.map (· - 1), m.keep⟩)
      | _ => ("error", .non, m)) else ("error", .non, m)
def sD (l : Addr) (m : Mo) : List (Key × V) := [(Sum.inr "texts", .ref l), (Sum.inr "left", pasV m.pas), (Sum.inr "keep", .int m.keep), (Sum.inr "dead", .bl m.dead)]
structure SAt (H : Hp) (st l : Addr) (m : Mo) : Prop where
  ob : H st = some (.dK (sD l m))
  hl : H l = some (.lst [.str m.ts.1, .str m.ts.2])
def MoOk (m : Mo) : Prop := 0 ≤ m.keep ∧ m.ts.1.length ≤ 60 ∧ m.ts.2.length ≤ 60
def sp_exp : Sp := fun vs H Q _ => ∃ (st l t : Addr) (m : Mo) (de : De), vs = [.ref st, .ref t] ∧ SAt H st l m ∧ MoOk m ∧ H t = some (.tup (deV de)) ∧ DeOk de ∧
  ∀ r H', H r = none → SAt H' st l (out m de).2.2 → Keeps st l H H' → H' r = some (.tup [.str (out m de).1, (out m de).2.1]) → r ≠ st → r ≠ l → Q (.ref r) H'
theorem put_left (l : Addr) (m : Mo) (p : Option Int) : putK (sD l m) (Sum.inr "left") (pasV p) = sD l { m with pas := p } := rfl
theorem put_keep (l : Addr) (m : Mo) (k : Int) : putK (sD l m) (Sum.inr "keep") (.int k) = sD l { m with keep := k } := rfl
theorem put_dead (l : Addr) (m : Mo) (b : Bool) : putK (sD l m) (Sum.inr "dead") (.bl b) = sD l { m with dead := b } := rfl
section
variable {P : Program} {w : World} {K : PySem.W.Frag} {mg : Str → Option Value} {base : Heap} {C CC CE : Addr}
abbrev s__law_expect : Stmt := top 11
abbrev N__law_expect : List Str := ["state", "deed", "texts"]
abbrev P__law_expect : List Str := ["state", "deed"]
theorem sc__law_expect : FnScope N__law_expect P__law_expect (defScope s__law_expect) := ⟨rfl, rfl, rfl, by decide +kernel, rfl, by decide +kernel, by decide +kernel⟩
theorem ok__law_expect {f : Addr} {fd : FuncData} (T : Tx K mg C CC CE) (F : Fun K "_law_expect" "_law_expect" s__law_expect f fd) : FnOk P w K mg base CX0 (1) f fd P__law_expect (sp_exp) := by
  have nd := sc__law_expect.nd
  refine F.ok sc__law_expect (fun vs H Q E h => ?_) (fun cdv A outer s H vs Q E hr h => ?_)
  · obtain ⟨_, _, _, _, _, rfl, _⟩ := h
    rfl
  · obtain ⟨st, l, t, m, de, rfl, S, mo, ht, dk, q⟩ := h
    have hs := sl
    have hu := hu_of hr
    obtain ⟨h1, h2⟩ := id S
    refine ⟨_, (pss_cons (ps_if (pt_cmpR op_eq (pe_ix ix_tup (pv 1) pe_int (fun _ _ => rfl)) pe_str (nomark _))
        (pss_cons (ps_dput hu (pv 0) pe_str (pe_ix ix_tup (pv 1) pe_int (fun _ _ => rfl)) rfl)
        (pss_cons (ps_dput hu (pv 0) pe_str (pe_ix ix_tup (pv 1) pe_int (fun _ _ => rfl)) rfl)
        (pss_one (ps_ret (pe_tup (pa_cons pe_str (pa_cons pe_non pa_nil)))))))
        pss_nil)
      (pss_cons (ps_if (pt_cmpR op_eq (pe_ix ix_tup (pv 1) pe_int (fun _ _ => rfl)) pe_str (nomark _))
        (pss_cons (ps_dput hu (pv 0) pe_str pe_non rfl)
        (pss_cons (ps_dput hu (pv 0) pe_str pe_bl rfl)
        (pss_one (ps_ret (pe_tup (pa_cons pe_str (pa_cons pe_non pa_nil)))))))
        pss_nil)
      (pss_cons (ps_if (pt_val (pe_dget hu (pv 0) pe_str (fun _ _ => rfl)))
        (pss_one (ps_ret (pe_tup (pa_cons pe_str (pa_cons pe_non pa_nil)))))
        pss_nil)
      (pss_cons (ps_if (PW.pt (pw_or (pt_val (pe_callB call_isi (by rfl) T.b_isinstance (by decide +kernel) (pa_cons (pe_ix ix_tup (pv 1) pe_int (fun _ _ => rfl)) (pa_cons (pe_ty "bool" T.b_bool) pa_nil)))) (pw_or (pt_not (pt_val (pe_callB call_isi (by rfl) T.b_isinstance (by decide +kernel) (pa_cons (pe_ix ix_tup (pv 1) pe_int (fun _ _ => rfl)) (pa_cons (pe_ty "int" T.b_int) pa_nil))))) (pw_or (pt_cmpR op_lt (pe_ix ix_tup (pv 1) pe_int (fun _ _ => rfl)) pe_int (nomark _)) (pw_or1 (pt_cmpR op_gt (pe_ix ix_tup (pv 1) pe_int (fun _ _ => rfl)) pe_int (nomark _)))))))
        (pss_one (ps_ret (pe_tup (pa_cons pe_str (pa_cons pe_non pa_nil)))))
        pss_nil)
      (pss_cons (ps_set (i := 2) nd rfl (Or.inl rfl) (pe_dget hu (pv 0) pe_str (fun _ _ => rfl)))
      (pss_cons (ps_if (pt_cmpR op_eq (pe_ix ix_tup (pv 1) pe_int (fun _ _ => rfl)) pe_str (nomark _))
        (pss_one (ps_ret (pe_tup (pa_cons pe_str (pa_cons (pe_ix ix_list (pv 2) (pe_ix ix_tup (pv 1) pe_int (fun _ _ => rfl)) (fun _ _ => rfl)) pa_nil)))))
        pss_nil)
      (pss_cons (ps_if (pt_not (pt_val (pe_callB call_isi (by rfl) T.b_isinstance (by decide +kernel) (pa_cons (pe_ix ix_tup (pv 1) pe_int (fun _ _ => rfl)) (pa_cons (pe_ty "str" T.b_str) pa_nil)))))
        (pss_one (ps_ret (pe_tup (pa_cons pe_str (pa_cons pe_non pa_nil)))))
        pss_nil)
      (pss_cons (ps_if (pt_cmpR op_eq (pe_dget hu (pv 0) pe_str (fun _ _ => rfl)) pe_int (nomark _))
        (pss_cons (ps_dput hu (pv 0) pe_str pe_bl rfl)
        (pss_cons (ps_asg (pe_op op_add_str (pe_slice sl_str (pe_ix ix_tup (pv 1) pe_int (fun _ _ => rfl)) po_none (po_some (pe_dget hu (pv 0) pe_str (fun _ _ => rfl)))) (pe_slice sl_str (pe_ix ix_list (pv 2) (pe_ix ix_tup (pv 1) pe_int (fun _ _ => rfl)) (fun _ _ => rfl)) (po_some (pe_dget hu (pv 0) pe_str (fun _ _ => rfl))) po_none)) (pg_sub (pv 2) (pe_ix ix_tup (pv 1) pe_int (fun _ _ => rfl)) set_list))
        (pss_one (ps_ret (pe_tup (pa_cons pe_str (pa_cons pe_non pa_nil)))))))
        pss_nil)
      (pss_cons (ps_if (pt_cmpR op_notN (pe_dget hu (pv 0) pe_str (fun _ _ => rfl)) pe_non (nomark _))
        (pss_one (ps_dput hu (pv 0) pe_str (pe_op op_sub (pe_dget hu (pv 0) pe_str (fun _ _ => rfl)) pe_int) rfl))
        pss_nil)
      (pss_cons (ps_asg (pe_ix ix_tup (pv 1) pe_int (fun _ _ => rfl)) (pg_sub (pv 2) (pe_ix ix_tup (pv 1) pe_int (fun _ _ => rfl)) set_list))
      (pss_one (ps_ret (pe_tup (pa_cons pe_str (pa_cons pe_non pa_nil))))))))))))))), ?_⟩
    have sl' : st ≠ l := ne_of h1 h2 (by intro z; cases z)
    have stt : t ≠ st := ne_of ht h1 (by intro z; cases z)
    have tl' : t ≠ l := ne_of ht h2 (by intro z; cases z)
    /- the end of each way: a new pair -/
    have fin : ∀ (H1 : Hp) (w : Str) (v : V) (m' : Mo), out m de = (w, v, m') → SAt H1 st l m' → Keeps st l H H1 → [V.str w, v].length ≤ sizeLine ∧ ∀ r, H1 r = none → Q (.ref r) (upd H1 r (.tup [.str w, v])) := fun H1 w v m' e S1 k1 => by
      refine ⟨by show 2 ≤ sizeLine; omega, fun r nr => ?_⟩
      have rs : r ≠ st := (ne_of_none S1.ob nr).symm
      have rl : r ≠ l := (ne_of_none S1.hl nr).symm
      have hr0 : H r = none := by
        cases e : H r with
        | none => rfl
        | some o => rw [k1 r o e rs rl] at nr; cases nr
      refine q r _ hr0 ?_ (fun b o hb n1 n2 => ?_) ?_ rs rl
      · rw [e]; exact ⟨(same_new nr _) _ _ S1.ob, (same_new nr _) _ _ S1.hl⟩
      · exact same_new nr _ _ _ (k1 b o hb n1 n2)
      · rw [e]; exact upd_same
    have kr : Keeps st l H H := fun _ _ h _ _ => h
    have gd : ∀ {H1 : Hp} {m1 : Mo}, H1 st = some (.dK (sD l m1)) → DGet H1 st (.str "dead") (some (.bl m1.dead)) := fun h => DGet.k (k := Sum.inr "dead") h
    have gl : ∀ {H1 : Hp} {m1 : Mo}, H1 st = some (.dK (sD l m1)) → DGet H1 st (.str "left") (some (pasV m1.pas)) := fun h => DGet.k (k := Sum.inr "left") h
    have gk : ∀ {H1 : Hp} {m1 : Mo}, H1 st = some (.dK (sD l m1)) → DGet H1 st (.str "keep") (some (.int m1.keep)) := fun h => DGet.k (k := Sum.inr "keep") h
    have gt : ∀ {H1 : Hp} {m1 : Mo}, H1 st = some (.dK (sD l m1)) → DGet H1 st (.str "texts") (some (.ref l)) := fun h => DGet.k (k := Sum.inr "texts") h
    have pl : ∀ {H1 : Hp} {m1 : Mo} (p : Option Int), H1 st = some (.dK (sD l m1)) → DPut H1 st (.str "left") (pasV p) (upd H1 st (.dK (sD l { m1 with pas := p }))) := fun p h => DPut.k (k := Sum.inr "left") h (by show 4 < sizeLine; omega)
    have pk : ∀ {H1 : Hp} {m1 : Mo} (p : Int), H1 st = some (.dK (sD l m1)) → DPut H1 st (.str "keep") (.int p) (upd H1 st (.dK (sD l { m1 with keep := p }))) := fun p h => DPut.k (k := Sum.inr "keep") h (by show 4 < sizeLine; omega)
    have pd : ∀ {H1 : Hp} {m1 : Mo} (p : Bool), H1 st = some (.dK (sD l m1)) → DPut H1 st (.str "dead") (.bl p) (upd H1 st (.dK (sD l { m1 with dead := p }))) := fun p h => DPut.k (k := Sum.inr "dead") h (by show 4 < sizeLine; omega)
    have keepS : ∀ {H1 : Hp} (o : HO), Keeps st l H H1 → Keeps st l H (upd H1 st o) := fun o k b u hb n1 n2 => by rw [upd_ne n1]; exact k b u hb n1 n2
    have keepL : ∀ {H1 : Hp} (o : HO), Keeps st l H H1 → Keeps st l H (upd H1 l o) := fun o k b u hb n1 n2 => by rw [upd_ne n2]; exact k b u hb n1 n2
    cases de with
    | arm n k =>
      walk_at "rds"
      refine ⟨st, _, rfl, pl (some n) h1, ?_⟩
      have o1 : (upd H st (.dK (sD l { m with pas := some n }))) st = _ := upd_same
      have t1 := (upd_ne (H := H) (o := .dK (sD l { m with pas := some n })) stt).trans ht
      walk_at "rds"
      refine ⟨st, _, rfl, pk k o1, ?_⟩
      exact fin _ _ _ _ rfl ⟨upd_same, by rw [upd_ne sl'.symm, upd_ne sl'.symm]; exact h2⟩ (keepS _ (keepS _ kr))
    | crash =>
      walk_at "rds"
      refine ⟨st, _, rfl, pl none h1, ?_⟩
      have o1 : (upd H st (.dK (sD l { m with pas := none }))) st = _ := upd_same
      walk_at "rds"
      refine ⟨st, _, rfl, pd false o1, ?_⟩
      exact fin _ _ _ _ rfl ⟨upd_same, by rw [upd_ne sl'.symm, upd_ne sl'.symm]; exact h2⟩ (keepS _ (keepS _ kr))
    | read u du =>
      walk_at "rds"
      refine ⟨st, _, rfl, gd h1, ?_⟩
      walk_at "rds"
      refine iB (fun hd => ?_) (fun hd => ?_)
      · exact fin H _ _ m (by simp [out, hd]) S kr
      have hd : m.dead = false := hd
      rcases dk with ⟨i, rfl, rfl⟩ | ⟨rfl, rfl⟩ | ⟨rfl, rfl⟩ | ⟨rfl, rfl⟩
      · have hrp : Rp st H (.int i) (.int i) := .int i
        walk_at "rds"
        refine iB (fun h => ?_) (fun h => ?_)
        · have h : i < 0 := of_decide_eq_true h
          walk_at "rds"
          exact fin H _ _ m (by simp [out, hd, isInt]; omega) S kr
        have h0 : ¬ i < 0 := of_decide_eq_false h
        walk_at "rds"
        refine iB (fun h => ?_) (fun h => ?_)
        · have h : 1 < i := of_decide_eq_true h
          walk_at "rds"
          exact fin H _ _ m (by simp [out, hd, isInt]; omega) S kr
        have h1' : ¬ 1 < i := of_decide_eq_false h
        walk_at "rds"
        refine ⟨st, _, rfl, gt h1, ?_⟩
        walk_at "rds"
        have hi : i = 0 ∨ i = 1 := by omega
        rcases hi with rfl | rfl
        · refine ⟨l, _, _, _, rfl, rfl, SqL.of h2, rfl, ?_⟩
          exact fin H _ _ m (by simp [out, hd, isInt, getT]) S kr
        · refine ⟨l, _, _, _, rfl, rfl, SqL.of h2, rfl, ?_⟩
          exact fin H _ _ m (by simp [out, hd, isInt, getT]) S kr
      · have hrp : Rp st H .non .none := .non
        walk_at "rds"
        exact fin H _ _ m (by simp [out, hd, isInt]) S kr
      · have hrp : Rp st H (.str "0") (.str "0") := .str _
        walk_at "rds"
        exact fin H _ _ m (by simp [out, hd, isInt]) S kr
      · have hrp : Rp st H (.bl true) (.bool true) := .bl _
        walk_at "rds"
        exact fin H _ _ m (by simp [out, hd, isInt]) S kr
    | write u du v dv =>
      obtain ⟨mo0, mo1, mo2⟩ := mo
      walk_at "rds"
      refine ⟨st, _, rfl, gd h1, ?_⟩
      walk_at "rds"
      refine iB (fun hd => ?_) (fun hd => ?_)
      · exact fin H _ _ m (by simp [out, hd]) S kr
      have hd : m.dead = false := hd
      obtain ⟨dk, dv'⟩ := dk
      rcases dk with ⟨i, rfl, rfl⟩ | ⟨rfl, rfl⟩ | ⟨rfl, rfl⟩ | ⟨rfl, rfl⟩
      · have hrp : Rp st H (.int i) (.int i) := .int i
        walk_at "rds"
        refine iB (fun h => ?_) (fun h => ?_)
        · have h : i < 0 := of_decide_eq_true h
          walk_at "rds"
          exact fin H _ _ m (by simp [out, hd, isInt]; omega) S kr
        have h0 : ¬ i < 0 := of_decide_eq_false h
        walk_at "rds"
        refine iB (fun h => ?_) (fun h => ?_)
        · have h : 1 < i := of_decide_eq_true h
          walk_at "rds"
          exact fin H _ _ m (by simp [out, hd, isInt]; omega) S kr
        have h1' : ¬ 1 < i := of_decide_eq_false h
        walk_at "rds"
        refine ⟨st, _, rfl, gt h1, ?_⟩
        walk_at "rds"
        have hin : isInt (.int i) 0 1 = true := by simp [isInt]; omega
        rcases dv' with ⟨rfl, rfl⟩ | ⟨z, rfl, rfl, lz⟩
        · have hrz : Rp st H .non .none := .non
          walk_at "rds"
          exact fin H _ _ m (by simp [out, hd, hin]) S kr
        have hrz : Rp st H (.str z) (.str z) := .str z
        walk_at "rds"
        refine ⟨st, _, rfl, gl h1, ?_⟩
        have hi : i = 0 ∨ i = 1 := by omega
        have hat : atI [V.str m.ts.1, V.str m.ts.2] i = some (.str (getT m.ts i)) := by rcases hi with rfl | rfl <;> rfl
        have lo : (getT m.ts i).length ≤ 60 := by unfold getT; split <;> assumption
        have hset : ∀ y : Str, ∃ j, ixN 2 i = some j ∧ ([V.str m.ts.1, V.str m.ts.2] : List V).set j (.str y) = [.str (setT m.ts i y).1, .str (setT m.ts i y).2] := fun y => by
          rcases hi with rfl | rfl
          · exact ⟨0, rfl, rfl⟩
          · exact ⟨1, rfl, rfl⟩
        cases hp : m.pas with
        | none =>
          walk_at "rds"
          refine ⟨st, _, rfl, gl h1, ?_⟩
          rw [hp]
          walk_at "rds"
          obtain ⟨j, hj, hs2⟩ := hset z
          refine ⟨l, _, _, j, rfl, rfl, h2, hj, ?_⟩
          rw [hs2]
          exact fin _ _ _ ⟨setT m.ts i z, false, none, m.keep⟩ (by simp [out, hd, hin, hp]) ⟨by rw [upd_ne sl', h1]; unfold sD; rw [hd, hp], upd_same⟩ (keepL _ kr)
        | some n =>
          walk_at "rds"
          refine iB (fun h => ?_) (fun h => ?_)
          · have e0 : n = 0 := V.int.inj (of_decide_eq_true h)
            subst e0
            walk_at "rds"
            refine ⟨st, _, rfl, pd true h1, ?_⟩
            have o1 : (upd H st (.dK (sD l { m with dead := true }))) st = some (.dK (sD l { m with dead := true })) := upd_same
            have l1 := (upd_ne (H := H) (o := .dK (sD l { m with dead := true })) sl'.symm).trans h2
            have t1 := (upd_ne (H := H) (o := .dK (sD l { m with dead := true })) stt).trans ht
            walk_at "rds"
            refine ⟨st, _, rfl, gk o1, ?_⟩
            walk_at "rds"
            refine ⟨by omega, ?_⟩
            walk_at "rds"
            refine ⟨l, _, _, _, rfl, rfl, SqL.of l1, hat, ?_⟩
            walk_at "rds"
            refine ⟨st, _, rfl, gk o1, ?_⟩
            walk_at "rds"
            refine ⟨by omega, ?_⟩
            have a1 := cut_len' z none (some m.keep)
            have a2 := cut_len' (getT m.ts i) (some m.keep) none
            refine ⟨_, _, rfl, rfl, by show (cutS z none (some m.keep)).length + (cutS (getT m.ts i) (some m.keep) none).length ≤ _; omega, ?_⟩
            walk_at "rds"
            obtain ⟨j, hj, hs2⟩ := hset (torn z (getT m.ts i) m.keep)
            refine ⟨l, _, _, j, rfl, rfl, l1, hj, ?_⟩
            have e3 : cutS z none (some m.keep) ++ cutS (getT m.ts i) (some m.keep) none = torn z (getT m.ts i) m.keep := rfl
            rw [e3, hs2]
            exact fin _ _ _ ⟨setT m.ts i (torn z (getT m.ts i) m.keep), true, some 0, m.keep⟩ (by simp [out, hd, hin, hp]) ⟨by rw [upd_ne sl', upd_same]; unfold sD; rw [hp], upd_same⟩ (keepL _ (keepS _ kr))
          · have n0 : ¬ n = 0 := fun e => of_decide_eq_false h (by rw [e]; rfl)
            walk_at "rds"
            refine ⟨st, _, rfl, gl h1, ?_⟩
            rw [hp]
            walk_at "rds"
            refine ⟨st, _, rfl, gl h1, ?_⟩
            rw [hp]
            walk_at "rds"
            refine ⟨st, _, rfl, pl (some (n - 1)) h1, ?_⟩
            have l1 := (upd_ne (H := H) (o := .dK (sD l { m with pas := some (n - 1) })) sl'.symm).trans h2
            have t1 := (upd_ne (H := H) (o := .dK (sD l { m with pas := some (n - 1) })) stt).trans ht
            walk_at "rds"
            obtain ⟨j, hj, hs2⟩ := hset z
            refine ⟨l, _, _, j, rfl, rfl, l1, hj, ?_⟩
            rw [hs2]
            exact fin _ _ _ ⟨setT m.ts i z, false, some (n - 1), m.keep⟩ (by simp [out, hd, hin, hp, n0]) ⟨by rw [upd_ne sl', upd_same]; unfold sD; rw [hd], upd_same⟩ (keepL _ (keepS _ kr))
      · have hrp : Rp st H .non .none := .non
        walk_at "rds"
        exact fin H _ _ m (by simp [out, hd, isInt]) S kr
      · have hrp : Rp st H (.str "0") (.str "0") := .str _
        walk_at "rds"
        exact fin H _ _ m (by simp [out, hd, isInt]) S kr
      · have hrp : Rp st H (.bl true) (.bool true) := .bl _
        walk_at "rds"
        exact fin H _ _ m (by simp [out, hd, isInt]) S kr
end
end Mus

set_option maxRecDepth 100000
set_option maxHeartbeats 4000000
namespace Mus
open PySem L2 TL PySem.NumText
local macro_rules | `(tactic| walk_at "rd") => `(tactic| first
  | refine ⟨_, rfl, ?_⟩ | refine ⟨(True.intro : True), ?_⟩
  | refine ⟨_, _, rfl, rfl, (⟨by decide, by decide, by decide⟩ : CPow _ _), ?_⟩
  | refine ⟨_, _, rfl, rfl, (⟨by decide, by decide⟩ : CDiv _ _), ?_⟩
  | refine ⟨_, _, rfl, rfl, (by show (0 : Int) < _; decide), ?_⟩
  | refine ⟨_, _, rfl, rfl, ?_⟩ | refine ⟨rfl, ?_⟩ | refine iteT ?_ | refine iteF ?_ | refine ⟨_, _, rfl, ?_⟩ | refine .inl ⟨_, rfl, ?_⟩
  | refine ⟨_, _, _, _, _, rfl, (by assumption), (by assumption), (by assumption), rfl, ?_⟩ | refine ⟨_, _, _, _, rfl, rfl, SqT.of (by assumption), rfl, ?_⟩ | refine ⟨_, _, rfl, SqT.of (by assumption), rfl, ?_⟩
  | refine ⟨_, _, _, _, _, rfl, .ty _, Rp.ty (by assumption), kit_int _, ?_⟩ | refine ⟨_, _, _, _, _, rfl, .ty _, Rp.ty (by assumption), kit_bool _, ?_⟩
  | refine ⟨_, _, _, _, _, rfl, .ty _, Rp.ty (by assumption), kit_str _, ?_⟩ | refine ⟨_, _, _, _, _, rfl, .ty _, Rp.ty (by assumption), kit_tup _, ?_⟩)
local macro_rules | `(tactic| walk_at "cal") => `(tactic| first
  | refine ⟨_, _, _, _, _, rfl, (by assumption), ?_⟩ | refine ⟨_, _, _, _, _, rfl, (by assumption), (by assumption), ?_⟩)
local macro_rules | `(tactic| walk_at "sq") => `(tactic| first
  | refine ⟨_, _, rfl, Or.inr (SqT.of (by assumption)), ?_⟩ | refine ⟨_, _, _, _, rfl, rfl, SqT.of (by assumption), rfl, ?_⟩)
local macro_rules | `(tactic| walk_at "rds") => `(tactic| repeat first | walk_at "rd" | walk_at "cal" | walk_at "sq")
local macro_rules | `(tactic| walk_at "ze") => `(tactic| repeat first
  | exact zes_nil | exact ze_bl | exact ze_str | exact ze_non | apply zes_cons | apply ze_tup | apply ze_lst | apply ze_cat | exact di_c | exact di_v rfl | apply di_opC | apply di_op | apply di_neg | apply ze_i | (refine (⟨?_, ?_, ?_⟩ : CPow _ _) <;> decide) | exact Nat.le_of_ble_eq_true rfl | exact ze_varD rfl (by assumption))
local macro_rules | `(tactic| walk_at "rdz") => `(tactic| repeat (fail_if_success (first | show tLst _ _ _ _ | show tAsg (tLst _) _ _ _ _ | show tSeq (tAsg (tLst _) _) _ _ _ _)); first | walk_at "rd" | walk_at "cal" | walk_at "sq")
def sp_act (C : Addr) : Sp := fun vs H Q _ => ∃ (p l t : Addr) (m : Mo) (de : De), vs = [.ref p, .ref t] ∧ CAt C H p l m.ts m.dead m.pas m.keep ∧ MoOk m ∧ H t = some (.tup (deV de)) ∧ DeOk de ∧
  ∀ r H', H r = none → CAt C H' p l (out m de).2.2.ts (out m de).2.2.dead (out m de).2.2.pas (out m de).2.2.keep → Keeps p l H H' → H' r = some (.tup [.str (out m de).1, (out m de).2.1]) → r ≠ p → r ≠ l → Q (.ref r) H'
section
variable {P : Program} {w : World} {K : PySem.W.Frag} {mg : Str → Option Value} {base : Heap} {C CC CE : Addr}
abbrev s__law_act : Stmt := top 10
abbrev N__law_act : List Str := ["cells", "deed", "error"]
abbrev P__law_act : List Str := ["cells", "deed"]
theorem sc__law_act : FnScope N__law_act P__law_act (defScope s__law_act) := ⟨rfl, rfl, rfl, by decide +kernel, rfl, by decide +kernel, by decide +kernel⟩
theorem ok__law_act {f : Addr} {fd : FuncData} (T : Tx K mg C CC CE) (m_Cells_read : MethOk P w K mg base (L2.CX P w) C "read" P_Cells_read 3 (sp_read C CC CE)) (m_Cells_write : MethOk P w K mg base (L2.CX P w) C "write" P_Cells_write 3 (sp_write C CC CE))
    (m_Cells_arm : MethOk P w K mg base CX0 C "arm" P_Cells_arm 1 (sp_arm C)) (m_Cells_crash : MethOk P w K mg base CX0 C "crash" P_Cells_crash 1 (sp_crash C)) (F : Fun K "_law_act" "_law_act" s__law_act f fd) : FnOk P w K mg base CX0 4 f fd P__law_act (sp_act C) := by
  have nd := sc__law_act.nd
  refine F.ok sc__law_act (fun vs H Q E h => ?_) (fun cdv A outer s H vs Q E hr h => ?_)
  · obtain ⟨_, _, _, _, _, rfl, _⟩ := h
    rfl
  · obtain ⟨p, l, t, m, de, rfl, S, mo, ht, dk, q⟩ := h
    have hs := sl
    have hu := hu_of hr
    have pl := S.ne
    obtain ⟨⟨dx, ho⟩, hl⟩ := id S
    have c1 := T.cl_Cells
    refine ⟨_, (pss_one (ps_tryC rfl rfl takes0 (fun W pn xe tk _ => (pss_cons (ps_if (pt_cmpR op_eq (pe_ix ix_tup (pv 1) pe_int (fun _ _ => rfl)) pe_str (nomark _))
          (pss_one (ps_ret (pe_tup (pa_cons pe_str (pa_cons (pmethA m_Cells_write T.cl_Cells tk (pv 0) hr (pa_cons (pe_ix ix_tup (pv 1) pe_int (fun _ _ => rfl)) (pa_cons (pe_ix ix_tup (pv 1) pe_int (fun _ _ => rfl)) pa_nil))) pa_nil)))))
          pss_nil)
        (pss_cons (ps_if (pt_cmpR op_eq (pe_ix ix_tup (pv 1) pe_int (fun _ _ => rfl)) pe_str (nomark _))
          (pss_one (ps_ret (pe_tup (pa_cons pe_str (pa_cons (pmethA m_Cells_read T.cl_Cells tk (pv 0) hr (pa_cons (pe_ix ix_tup (pv 1) pe_int (fun _ _ => rfl)) pa_nil)) pa_nil)))))
          pss_nil)
        (pss_cons (ps_if (pt_cmpR op_eq (pe_ix ix_tup (pv 1) pe_int (fun _ _ => rfl)) pe_str (nomark _))
          (pss_one (ps_ret (pe_tup (pa_cons pe_str (pa_cons (pmeth m_Cells_arm T.cl_Cells (pv 0) hr (pa_cons (pe_ix ix_tup (pv 1) pe_int (fun _ _ => rfl)) (pa_cons (pe_ix ix_tup (pv 1) pe_int (fun _ _ => rfl)) pa_nil))) pa_nil)))))
          pss_nil)
        (pss_one (ps_ret (pe_tup (pa_cons pe_str (pa_cons (pmeth0 m_Cells_crash T.cl_Cells (pv 0) hr) pa_nil)))))))))
        (cl_as (i := 2) nd rfl rfl ⟨rfl, by decide, .inl T.g_DiskCrashed⟩ (fun a oe cls d pn hz hf => (pss_cons (ps_if (pt_val (pe_callB (call_isEx hz hf) (by rfl) T.b_isinstance (by decide +kernel) (pa_cons (pv 2) (pa_cons (pe_cls T.g_DiskError) pa_nil))))
          (pss_one (ps_ret (pe_tup (pa_cons pe_str (pa_cons pe_non pa_nil)))))
          pss_nil)
        (pss_one (ps_ret (pe_tup (pa_cons pe_str (pa_cons pe_non pa_nil))))))) (cl_one ⟨rfl, by decide, .inl T.g_DiskError⟩ (fun a oe cls d pn hz hf => (pss_one (ps_ret (pe_tup (pa_cons pe_str (pa_cons pe_non pa_nil)))))) .nil)))), ?_⟩
    have fin : ∀ (H1 : Hp) (w : Str) (v : V) (m' : Mo), out m de = (w, v, m') → CAt C H1 p l m'.ts m'.dead m'.pas m'.keep → Keeps p l H H1 → [V.str w, v].length ≤ sizeLine ∧ ∀ r, H1 r = none → Q (.ref r) (upd H1 r (.tup [.str w, v])) := fun H1 w v m' e S1 k1 => by
      refine ⟨by show 2 ≤ sizeLine; omega, fun r nr => ?_⟩
      obtain ⟨⟨dx1, o1⟩, o2⟩ := id S1
      have rs : r ≠ p := (ne_of_none o1 nr).symm
      have rl : r ≠ l := (ne_of_none o2 nr).symm
      have hr0 : H r = none := by
        cases e : H r with
        | none => rfl
        | some o => rw [k1 r o e rs rl] at nr; cases nr
      refine q r _ hr0 ?_ (fun b o hb n1 n2 => ?_) ?_ rs rl
      · rw [e]; exact S1.same (same_new nr _)
      · exact same_new nr _ _ _ (k1 b o hb n1 n2)
      · rw [e]; exact upd_same
    have kr : Keeps p l H H := fun _ _ h _ _ => h
    obtain ⟨mo0, mo1, mo2⟩ := mo
    cases de with
    | arm n k =>
      walk_at "rds"
      refine ⟨p, dx, _, rfl, ho, rfl, ?_⟩
      walk_at "rds"
      exact ⟨p, l, m.ts, m.dead, m.pas, m.keep, n, k, rfl, S, fun H' c kk => fin H' _ _ _ rfl c kk⟩
    | crash =>
      walk_at "rds"
      refine ⟨p, dx, _, rfl, ho, rfl, ?_⟩
      exact ⟨p, l, m.ts, m.dead, m.pas, m.keep, rfl, S, fun H' c kk => fin H' _ _ _ rfl c kk⟩
    | read u du =>
      walk_at "rds"
      refine ⟨p, dx, _, rfl, ho, rfl, ?_⟩
      walk_at "rds"
      refine ⟨p, p, l, m.ts, m.dead, m.pas, m.keep, u, du, rfl, S, AtOk.rp dk _ _, fun hd => ?_, fun hd hi => ?_, fun i hi i0 i1 hd => ?_⟩
      · refine ⟨true, T.m_CC, fun _ a na => ?_, fun h => by cases h⟩
        refine ⟨_, rfl, CC, rfl, rfl, T.e_CC, _, _, false, rfl, fun u r => r, T.u_CC, ?_⟩
        walk_at "rds"
        exact fin H _ _ m (by simp [out, hd]) S kr
      · refine ⟨false, T.m_EC, (fun h => by cases h), fun _ => ⟨true, T.m_EE, fun _ a na => ?_, (fun h => by cases h)⟩⟩
        exact fin H _ _ m (by simp [out, hd, hi]) S kr
      · subst hi
        exact fin H _ _ m (by simp [out, hd, isInt, i0, i1]) S kr
    | write u du v dv =>
      obtain ⟨dk, dv'⟩ := dk
      walk_at "rds"
      refine ⟨p, dx, _, rfl, ho, rfl, ?_⟩
      walk_at "rds"
      refine ⟨p, p, l, m.ts, m.dead, m.pas, m.keep, u, v, du, dv, rfl, S, AtOk.rp dk _ _, TxOk.rp dv' _ _, mo0, by omega, by omega, ?_, fun hd => ?_, fun hd hi => ?_, fun i z hi hz i0 i1 hd => ⟨fun hp H' c kk => ?_, fun hp H' c kk => ?_⟩⟩
      · intro z e
        rcases dv' with ⟨_, rfl⟩ | ⟨z', _, rfl, lz⟩
        · cases e
        · cases e; omega
      · refine ⟨true, T.m_CC, fun _ a na => ?_, fun h => by cases h⟩
        refine ⟨_, rfl, CC, rfl, rfl, T.e_CC, _, _, false, rfl, fun u r => r, T.u_CC, ?_⟩
        walk_at "rds"
        exact fin H _ _ m (by simp [out, hd]) S kr
      · refine ⟨false, T.m_EC, (fun h => by cases h), fun _ => ⟨true, T.m_EE, fun _ a na => ?_, (fun h => by cases h)⟩⟩
        refine fin H _ _ m ?_ S kr
        unfold okC at hi
        rcases dv' with ⟨_, rfl⟩ | ⟨z', _, rfl, lz⟩
        · simp [out, hd]
        · have hi : isInt du 0 1 = false := by simpa [dStr] using hi
          simp [out, hd, hi]
      · subst hi hz
        refine ⟨true, T.m_CC, fun _ a na => ?_, fun h => by cases h⟩
        refine ⟨_, rfl, CC, rfl, rfl, T.e_CC, _, _, false, rfl, fun u r => r, T.u_CC, ?_⟩
        walk_at "rds"
        exact fin H' _ _ ⟨setT m.ts i (torn z (getT m.ts i) m.keep), true, some 0, m.keep⟩ (by simp [out, hd, hp, isInt, i0, i1]) c kk
      · subst hi hz
        exact fin H' _ _ ⟨setT m.ts i z, false, m.pas.map (· - 1), m.keep⟩ (by simp [out, hd, hp, isInt, i0, i1]) c kk
def sp_law (K : PySem.W.Frag) : Sp := fun vs H Q _ => ∃ (a : Addr) (ns : List Int), vs = [.ref a] ∧ SqL K H a (ns.map V.int) ∧ ns.length ≤ 63 ∧ ∀ H', Q (.bl true) H'
theorem MoOk.out {m : Mo} {de : De} (h : MoOk m) (d : DeOk de) : MoOk (out m de).2.2 := by
  obtain ⟨h0, h1, h2⟩ := h
  have st : ∀ (i : Int) (z : Str), z.length ≤ 60 → (setT m.ts i z).1.length ≤ 60 ∧ (setT m.ts i z).2.length ≤ 60 := fun i z hz => by
    unfold setT; split
    · exact ⟨hz, h2⟩
    · exact ⟨h1, hz⟩
  have gt : ∀ i : Int, (getT m.ts i).length ≤ 60 := fun i => by unfold getT; split <;> assumption
  cases de with
  | arm n k => exact ⟨d, h1, h2⟩
  | crash => exact ⟨h0, h1, h2⟩
  | read u du =>
    unfold Mus.out
    dsimp only
    split
    · exact ⟨h0, h1, h2⟩
    · split <;> exact ⟨h0, h1, h2⟩
  | write u du v dv =>
    obtain ⟨_, dv'⟩ := d
    unfold Mus.out
    dsimp only
    split
    · exact ⟨h0, h1, h2⟩
    · split
      · rcases dv' with ⟨_, rfl⟩ | ⟨z, _, rfl, lz⟩
        · exact ⟨h0, h1, h2⟩
        · dsimp only
          split
          · exact ⟨h0, st _ _ (torn_len _ _ h0 lz (gt _))⟩
          · exact ⟨h0, st _ _ lz⟩
      · exact ⟨h0, h1, h2⟩
theorem out_val (m : Mo) (de : De) : (out m de).2.1 = .non ∨ ∃ z, (out m de).2.1 = .str z := by
  cases de with
  | arm n k => exact .inl rfl
  | crash => exact .inl rfl
  | read u du =>
    unfold Mus.out
    dsimp only
    split
    · exact .inl rfl
    · split
      · exact .inr ⟨_, rfl⟩
      · exact .inl rfl
  | write u du v dv =>
    unfold Mus.out
    dsimp only
    split
    · exact .inl rfl
    · split
      · split
        · split <;> exact .inl rfl
        · exact .inl rfl
      · exact .inl rfl
abbrev s_law : Stmt := top 13
abbrev N_law : List Str := ["script", "cells", "state", "cell", "deed", "expected", "actual"]
abbrev P_law : List Str := ["script"]
theorem sc_law : FnScope N_law P_law (defScope s_law) := ⟨rfl, rfl, rfl, by decide +kernel, rfl, by decide +kernel, by decide +kernel⟩
theorem ok_law {f : Addr} {fd : FuncData} (T : Tx K mg C CC CE) (k_Cells : MkOk P w K mg base C "Cells" P_Cells___init__ 1 (sp_init C)) (m_Cells_read : MethOk P w K mg base (L2.CX P w) C "read" P_Cells_read 3 (sp_read C CC CE))
    (c__law_deed : DefOk P w K mg base CX0 "_law_deed" P__law_deed 2 (sp_deed)) (c__law_expect : DefOk P w K mg base CX0 "_law_expect" P__law_expect 1 (sp_exp)) (c__law_act : DefOk P w K mg base CX0 "_law_act" P__law_act 4 (sp_act C)) (F : Fun K "law" "law" s_law f fd) : FnOk P w K mg base CX0 6 f fd P_law (sp_law K) := by
  have nd := sc_law.nd
  refine F.ok sc_law (fun vs H Q E h => ?_) (fun cdv A outer s H vs Q E hr h => ?_)
  · obtain ⟨_, _, rfl, _⟩ := h
    rfl
  · obtain ⟨a, ns, rfl, hS, hlen, q⟩ := h
    have hu := hu_of hr
    have hs := sl
    have c1 := T.cl_Cells
    refine ⟨_, (pss_cons (ps_set (i := 1) nd rfl (Or.inl rfl) (pmake0 k_Cells hr))
      (pss_cons (ps_set (i := 2) nd rfl (Or.inl rfl) (pe_disp (pps_cons pe_str (pe_lst (pa_cons pe_str (pa_cons pe_str pa_nil))) (pps_cons pe_str pe_non (pps_cons pe_str pe_int (pps_cons pe_str pe_bl pps_nil)))) (by rfl) (by rfl) (fun z => by cases z) (by decide)))
      (pss_cons (ps_for PassesOwn.never rfl (pi_list (pv 0)) (pg_name (i := 3) nd rfl (Or.inl rfl))
        (pss_cons (ps_set (i := 4) nd rfl (Or.inl rfl) (pcall c__law_deed hr (pa_cons (pv 3) pa_nil)))
        (pss_cons (ps_set (i := 5) nd rfl (Or.inl rfl) (pcall c__law_expect hr (pa_cons (pv 2) (pa_cons (pv 4) pa_nil))))
        (pss_cons (ps_set (i := 6) nd rfl (Or.inl rfl) (pcall c__law_act hr (pa_cons (pv 1) (pa_cons (pv 4) pa_nil))))
        (pss_cons (ps_if (PW.pt (pw_or (pt_cmpR op_ne (pe_ix ix_tup (pv 6) pe_int (fun _ _ => rfl)) (pe_ix ix_tup (pv 5) pe_int (fun _ _ => rfl)) (nomark _)) (pw_or (pt_cmpR op_ne (pe_cmpR op_isN (pe_ix ix_tup (pv 6) pe_int (fun _ _ => rfl)) pe_non (nomark _)) (pe_cmpR op_isN (pe_ix ix_tup (pv 5) pe_int (fun _ _ => rfl)) pe_non (nomark _)) (nomark _)) (pw_or1 (pt_cmpR op_ne (pe_ix ix_tup (pv 6) pe_int (fun _ _ => rfl)) (pe_ix ix_tup (pv 5) pe_int (fun _ _ => rfl)) (nomark _))))))
          (pss_one (ps_ret pe_bl))
          pss_nil)
        (pss_one (ps_if (PW.pt (pw_and (pt_not (pt_val (pe_dget hu (pv 2) pe_str (fun _ _ => rfl)))) (pw_and1 (PW.pt (pw_or (pt_cmpR op_ne (pmethE m_Cells_read T.cl_Cells takes0 (fun _ _ _ _ h => h) (pv 1) hr (pa_cons pe_int pa_nil)) (pe_ix ix_list (pe_dget hu (pv 2) pe_str (fun _ _ => rfl)) pe_int (fun _ _ => rfl)) (nomark _)) (pw_or1 (pt_cmpR op_ne (pmethE m_Cells_read T.cl_Cells takes0 (fun _ _ _ _ h => h) (pv 1) hr (pa_cons pe_int pa_nil)) (pe_ix ix_list (pe_dget hu (pv 2) pe_str (fun _ _ => rfl)) pe_int (fun _ _ => rfl)) (nomark _))))))))
          (pss_one (ps_ret pe_bl))
          pss_nil)))))))
      (pss_one (ps_ret pe_bl))))), ?_⟩
    intro p dx np ndx ndp
    refine ⟨p, dx, rfl, upd_same, fun l H1 nl hc fr => ⟨rfl, ?_⟩⟩
    have lp : l ≠ p := fun z => by rw [z, upd_same] at nl; cases nl
    have ldx : l ≠ dx := fun z => by rw [z, upd_ne ndp, upd_same] at nl; cases nl
    have nl0 : H l = none := by rwa [upd_ne lp, upd_ne ldx] at nl
    have s1 : Same H H1 := fun b o hb => fr b o (by rw [upd_ne (ne_of_none hb np), upd_ne (ne_of_none hb ndx)]; exact hb) (ne_of_none hb np)
    intro st nst
    refine ⟨by show 2 ≤ sizeLine; omega, fun l2 nl2 => ?_⟩
    have st2 : st ≠ l2 := ne_of_none upd_same nl2
    have nl2' : H1 l2 = none := by rwa [upd_ne st2.symm] at nl2
    refine ⟨by rw [upd_ne st2]; exact upd_same, [(Sum.inr "texts", .ref l2), (Sum.inr "left", .non), (Sum.inr "keep", .int 0), (Sum.inr "dead", .bl false)], rfl, Nat.le_of_ble_eq_true rfl, ?_⟩
    have nst0 : H st = none := by
      cases e : H st with
      | none => rfl
      | some o => rw [s1 _ _ e] at nst; cases nst
    have nl20 : H l2 = none := by
      cases e : H l2 with
      | none => rfl
      | some o => rw [s1 _ _ e] at nl2'; cases nl2'
    have ll : l ≠ l2 := ne_of_none hc.hl nl2'
    obtain ⟨⟨dx1, o1⟩, o2⟩ := id hc
    have pst : p ≠ st := ne_of_none o1 nst
    have lst' : l ≠ st := ne_of_none o2 nst
    have pl2 : p ≠ l2 := ne_of_none o1 nl2'
    generalize hE : upd (upd (upd H1 st (.dK [])) l2 _) st _ = H2
    have e0 : ∀ b, b ≠ st → b ≠ l2 → H2 b = H1 b := fun b n1 n2 => by rw [← hE, upd_ne n1, upd_ne n2, upd_ne n1]
    have S0 : SAt H2 st l2 ⟨(Str.ofString "", Str.ofString ""), false, none, 0⟩ := by rw [← hE]; exact ⟨upd_same, by rw [upd_ne st2.symm, upd_same]⟩
    have C0 : CAt C H2 p l (Str.ofString "", Str.ofString "") false none 0 := ⟨⟨dx1, by rw [e0 p pst pl2]; exact o1⟩, by rw [e0 l lst' ll]; exact o2⟩
    have sH : Same H H2 := fun b o hb => by rw [e0 b (ne_of_none hb nst0) (ne_of_none hb nl20)]; exact s1 b o hb
    refine ⟨_, rfl, a, rfl, ⟨_, sH.seq hS⟩, for_list (K := K) (a := a) (xs := ns.map V.int) (fun i σ H' => ∃ (m : Mo) (x3 x4 x5 x6 : Option V), σ = [some (.ref a), some (.ref p), some (.ref st), x3, x4, x5, x6] ∧ Same H H' ∧ CAt C H' p l m.ts m.dead m.pas m.keep ∧ SAt H' st l2 m ∧ MoOk m) ?_ ?_ ?_ ?_⟩
    · exact ⟨⟨(Str.ofString "", Str.ofString ""), false, none, 0⟩, _, _, _, _, rfl, sH, C0, S0, ⟨by decide, Nat.zero_le _, Nat.zero_le _⟩⟩
    · rintro i σ H' _ ⟨m, _, _, _, _, rfl, s', _⟩
      exact s'.seq hS
    · rintro i x σ H3 hx ⟨m, x3, x4, x5, x6, rfl, sH3, C3, S3, mo⟩
      obtain ⟨n, rfl⟩ : ∃ n, x = .int n := by
        rw [List.getElem?_map] at hx
        cases e : ns[i]? with
        | none => rw [e] at hx; cases hx
        | some n => rw [e] at hx; exact ⟨n, (Option.some.inj hx).symm⟩
      walk_at "rds"
      refine fun de t H4 dk s4 ht => ?_
      have C4 := C3.same s4
      have S4 : SAt H4 st l2 m := ⟨s4 _ _ S3.ob, s4 _ _ S3.hl⟩
      walk_at "rds"
      refine ⟨st, l2, t, m, de, rfl, S4, mo, ht, dk, fun r1 H5 nr1 S5 k5 hr1 _ _ => ?_⟩
      obtain ⟨⟨dx4, q1⟩, q2⟩ := id C4
      have C5 : CAt C H5 p l m.ts m.dead m.pas m.keep := ⟨⟨dx4, k5 _ _ q1 pst pl2⟩, k5 _ _ q2 lst' ll⟩
      have ht5 := k5 _ _ ht (ne_of ht S4.ob (by intro z; cases z)) (ne_of ht S4.hl (by intro z; cases z))
      walk_at "rds"
      refine ⟨p, l, t, m, de, rfl, C5, mo, ht5, dk, fun r2 H6 nr2 C6 k6 hr2 _ _ => ?_⟩
      have hr1' := k6 _ _ hr1 (by obtain ⟨⟨_, z⟩, _⟩ := C5; exact ne_of hr1 z (by intro z; cases z)) (ne_of hr1 C5.hl (by intro z; cases z))
      have S6 : SAt H6 st l2 (out m de).2.2 := ⟨k6 _ _ S5.ob pst.symm lst'.symm, k6 _ _ S5.hl pl2.symm ll.symm⟩
      have mo6 := mo.out dk
      have sH6 : Same H H6 := fun b o hb => k6 b o (k5 b o (s4 b o (sH3 b o hb)) (ne_of_none hb nst0) (ne_of_none hb nl20)) (ne_of_none hb np) (ne_of_none hb nl0)
      have ov := out_val m de
      revert hr1' hr2 C6 S6 mo6 ov
      generalize (out m de).1 = wd
      generalize (out m de).2.1 = vl
      generalize (out m de).2.2 = m6
      intro C6 hr2 hr1' S6 mo6 ov
      walk_at "rds"
      refine nF rfl ?_
      walk_at "rds"
      refine nF rfl ?_
      walk_at "rds"
      refine ⟨by rcases ov with rfl | ⟨z, rfl⟩ <;> rfl, ?_⟩
      walk_at "rds"
      refine nF rfl ?_
      walk_at "rds"
      have gd : DGet H6 st (.str "dead") (some (.bl m6.dead)) := DGet.k (k := Sum.inr "dead") S6.ob
      have gt : DGet H6 st (.str "texts") (some (.ref l2)) := DGet.k (k := Sum.inr "texts") S6.ob
      refine ⟨st, _, rfl, gd, ?_⟩
      walk_at "rds"
      cases hd : m6.dead with
      | true =>
        walk_at "rds"
        exact ⟨S6, mo6⟩
      | false =>
        walk_at "rds"
        obtain ⟨⟨dx6, w1⟩, w2⟩ := id C6
        refine ⟨p, dx6, _, rfl, w1, rfl, ?_⟩
        walk_at "rds"
        refine ⟨p, p, l, m6.ts, m6.dead, m6.pas, m6.keep, .int 0, .int 0, rfl, C6, .int 0, fun h => (by rw [hd] at h; cases h), fun _ h => (by cases h), fun i e _ _ _ => ?_⟩
        cases e
        walk_at "rds"
        refine ⟨st, _, rfl, gt, ?_⟩
        walk_at "rds"
        refine ⟨l2, _, _, _, rfl, rfl, SqL.of S6.hl, rfl, ?_⟩
        walk_at "rds"
        refine nF rfl ?_
        walk_at "rds"
        refine ⟨p, dx6, _, rfl, w1, rfl, ?_⟩
        walk_at "rds"
        refine ⟨p, p, l, m6.ts, m6.dead, m6.pas, m6.keep, .int 1, .int 1, rfl, C6, .int 1, fun h => (by rw [hd] at h; cases h), fun _ h => (by cases h), fun i e _ _ _ => ?_⟩
        cases e
        walk_at "rds"
        refine ⟨st, _, rfl, gt, ?_⟩
        walk_at "rds"
        refine ⟨l2, _, _, _, rfl, rfl, SqL.of S6.hl, rfl, ?_⟩
        walk_at "rds"
        refine nF rfl ?_
        exact ⟨m6, _, _, _, _, rfl, sH6, C6, S6, mo6⟩
    · rintro σ H' ⟨m, _, _, _, _, rfl, _⟩
      exact q _
end
end Mus

set_option maxRecDepth 100000
set_option maxHeartbeats 4000000
namespace Mus
open PySem L2
def at_mk {K : PySem.W.Frag} {h : Heap} {mg : Str → Option Value} {x : Str} {ps : List Str} {st : Stmt} {f : Addr} {oc : Value} {od an : Option Addr} {osl : Array (Option Value)} {kV dc pm cd ct : Value} (X : K.In h) (G : h.Ns mainGlobals mg) (a : PySem.W.nsIn K mainGlobals x = some (some (.ref f)))
    (l : K.lookup f = some ⟨oc, od, .func (PySem.W.fnOf x x (defArgs st) (defBody st) (defScope st) .none kV dc pm an cd ct), osl⟩) (c : PySem.W.codeIn K cd x = true) (k : PySem.W.keepIn K (.ref f) = true)
    (hb : ∀ (kV doc pm : Value) (an : Option Addr) (cdv ct : Value) (us : List Value), us.length = ps.length → bindArgs (PySem.W.fnOf x x (defArgs st) (defBody st) (defScope st) .none kV doc pm an cdv ct) ⟨us, []⟩ = pure (ps.zip us)) : DefAt K mg x ps st :=
  ⟨f, _, fun_mk (st := st) l c k, PySem.W.mg_of X G a, (fun_mk (st := st) l c k).binds hb⟩
def meth_mk {K : PySem.W.Frag} {C : Addr} {x qual : Str} {ps : List Str} {st : Stmt} {f : Addr} {oc : Value} {od an : Option Addr} {osl : Array (Option Value)} {kV dc pm cd ct : Value} (a : PySem.W.findIn K (.ref C) x = some (some (.ref f))) (i : PySem.W.isFn K (.ref f) = true)
    (l : K.lookup f = some ⟨oc, od, .func (PySem.W.fnOf x qual (defArgs st) (defBody st) (defScope st) .none kV dc pm an cd ct), osl⟩) (c : PySem.W.codeIn K cd qual = true) (k : PySem.W.keepIn K (.ref f) = true)
    (hb : ∀ (kV doc pm : Value) (an : Option Addr) (cdv ct : Value) (us : List Value), us.length = ps.length → bindArgs (PySem.W.fnOf x qual (defArgs st) (defBody st) (defScope st) .none kV doc pm an cdv ct) ⟨us, []⟩ = pure (ps.zip us)) : MethAt K C x qual ps st :=
  ⟨f, _, fun_mk (st := st) l c k, ⟨a, i, k⟩, (fun_mk (st := st) l c k).binds hb⟩
theorem walk_ofX {l : PySem.W.OpenLaw} {n k : Nat} {q : Program} {loose : List Str} {XP : (Str → Option Value) → Heap → Prop} {YP : World → Heap → Prop} {d : DefRec} {K : Params → PySem.W.Frag} {sp : World → Sp} {x : Str}
    (most : l.most = some n) (few : n ≤ sizeLine) (nod : d.params.defaults = []) (room : Room k callerA) (kin : ∀ (w : World) (h : Heap), YP w h → (K w.params).In h)
    (F : ∀ (w : World) (mg : Str → Option Value) (at1 : Addr) (h : Heap), (K w.params).In h → h.Ns mainGlobals mg → XP mg h → mg d.name = some (.ref at1) →
      ∃ fd : FuncData, (∀ (s : Shared) (u : Value), BindsTo s fd ⟨[u], []⟩ [(x, u)]) ∧ ∀ base : Heap, (K w.params).In base → base.Ns mainGlobals mg → FnOk l.prog w (K w.params) mg base CX0 k at1 fd [x] (sp w))
    (hsp : ∀ (w : World) (H : Hp) (a : Addr) (ns : List Int), ns.length ≤ n → Only H → SqL (K w.params) H a (ns.map V.int) → sp w [.ref a] H (fun v _ => v = .bl true) fun _ _ _ => False) :
    PySem.W.WalkO q loose XP YP l.row.toRowW d [] (fun f vs => PySem.call f vs) := by
  refine Att.attach_call most nod fun w sb sc mg mB at1 o pm1 cd1 doc1 a vs ns G Y ho1 hd1 hc1 hm1 ob1 in1 ln1 hg1 => ?_
  have inK := kin w _ Y
  obtain ⟨fd, bnd, pr⟩ := F w mg at1 _ inK G.T.g G.X hm1
  exact law_call inK G.T.g G.T.b G.T.builtins G.T.nolimit hg1 ob1 in1 (Nat.le_trans ln1 few) room pr bnd (fun H hO hS => hsp w H a ns ln1 hO hS) fun H e s' z => z
theorem loose_int {n : Str} {i : Int} {mg : Str → Option Value} {h : Heap} (x : PySem.W.LooseAre [(n, PySem.W.WData.int i)] mg h) : ∃ t, mg n = some (.int i t) := by
  obtain ⟨v, h1, h2⟩ := x.val _ (List.mem_singleton.mpr rfl)
  cases h2
  exact ⟨_, h1⟩
theorem all_mk {l : PySem.W.OpenLaw} {w : World} {K : PySem.W.Frag} {h : Heap} {mg : Str → Option Value} {fa : Addr} (X : K.In h) (G : h.Ns mainGlobals mg) (hfa : mg "law" = some (.ref fa))
    {C_Cells : Addr}
    {C_DiskCrashed : Addr}
    {C_DiskError : Addr}
    {odx_Cells___init__ anx_Cells___init__ : Option Addr} {slx_Cells___init__ : Array (Option Value)} {ocx_Cells___init__ kVx_Cells___init__ dcx_Cells___init__ pmx_Cells___init__ cdx_Cells___init__ ctx_Cells___init__ : Value} {fx_Cells___init__ : Addr}
    {odx_Cells_read anx_Cells_read : Option Addr} {slx_Cells_read : Array (Option Value)} {ocx_Cells_read kVx_Cells_read dcx_Cells_read pmx_Cells_read cdx_Cells_read ctx_Cells_read : Value} {fx_Cells_read : Addr}
    {odx_Cells_write anx_Cells_write : Option Addr} {slx_Cells_write : Array (Option Value)} {ocx_Cells_write kVx_Cells_write dcx_Cells_write pmx_Cells_write cdx_Cells_write ctx_Cells_write : Value} {fx_Cells_write : Addr}
    {odx_Cells_arm anx_Cells_arm : Option Addr} {slx_Cells_arm : Array (Option Value)} {ocx_Cells_arm kVx_Cells_arm dcx_Cells_arm pmx_Cells_arm cdx_Cells_arm ctx_Cells_arm : Value} {fx_Cells_arm : Addr}
    {odx_Cells_crash anx_Cells_crash : Option Addr} {slx_Cells_crash : Array (Option Value)} {ocx_Cells_crash kVx_Cells_crash dcx_Cells_crash pmx_Cells_crash cdx_Cells_crash ctx_Cells_crash : Value} {fx_Cells_crash : Addr}
    {odx_Cells__check anx_Cells__check : Option Addr} {slx_Cells__check : Array (Option Value)} {ocx_Cells__check kVx_Cells__check dcx_Cells__check pmx_Cells__check cdx_Cells__check ctx_Cells__check : Value} {fx_Cells__check : Addr}
    {odx_is_integer anx_is_integer : Option Addr} {slx_is_integer : Array (Option Value)} {ocx_is_integer kVx_is_integer dcx_is_integer pmx_is_integer cdx_is_integer ctx_is_integer : Value} {fx_is_integer : Addr}
    {odx__law_text anx__law_text : Option Addr} {slx__law_text : Array (Option Value)} {ocx__law_text kVx__law_text dcx__law_text pmx__law_text cdx__law_text ctx__law_text : Value} {fx__law_text : Addr}
    {odx__law_act anx__law_act : Option Addr} {slx__law_act : Array (Option Value)} {ocx__law_act kVx__law_act dcx__law_act pmx__law_act cdx__law_act ctx__law_act : Value} {fx__law_act : Addr}
    {odx__law_expect anx__law_expect : Option Addr} {slx__law_expect : Array (Option Value)} {ocx__law_expect kVx__law_expect dcx__law_expect pmx__law_expect cdx__law_expect ctx__law_expect : Value} {fx__law_expect : Addr}
    {odx__law_deed anx__law_deed : Option Addr} {slx__law_deed : Array (Option Value)} {ocx__law_deed kVx__law_deed dcx__law_deed pmx__law_deed cdx__law_deed ctx__law_deed : Value} {fx__law_deed : Addr}
    {odx_law anx_law : Option Addr} {slx_law : Array (Option Value)} {ocx_law kVx_law dcx_law pmx_law cdx_law ctx_law : Value} {fx_law : Addr}
    (aC_Cells : PySem.W.nsIn K mainGlobals "Cells" = some (some (.ref C_Cells)))
    (aC_DiskCrashed : PySem.W.nsIn K mainGlobals "DiskCrashed" = some (some (.ref C_DiskCrashed)))
    (aC_DiskError : PySem.W.nsIn K mainGlobals "DiskError" = some (some (.ref C_DiskError)))
    (pg_Cells : PySem.W.plainGet K C_Cells Str.empty = true)
    (hd_Cells : PySem.W.hasDictIn K C_Cells = true)
    (po_Cells : PySem.W.plainOver K C_Cells = true)
    (sa_Cells : PySem.W.findIn K (.ref C_Cells) "__setattr__" = some (some (.builtin "object.__setattr__")))
    (mk_Cells : PySem.W.makesIn K C_Cells = true)
    (kc_Cells : PySem.W.keepIn K (.ref C_Cells) = true)
    (n_Cells__texts : PySem.W.findIn K (.ref C_Cells) "_texts" = some none)
    (n_Cells__has_crashed : PySem.W.findIn K (.ref C_Cells) "_has_crashed" = some none)
    (n_Cells__passing : PySem.W.findIn K (.ref C_Cells) "_passing" = some none)
    (n_Cells__keep : PySem.W.findIn K (.ref C_Cells) "_keep" = some none)
    (ax_Cells___init__ : PySem.W.findIn K (.ref C_Cells) "__init__" = some (some (.ref fx_Cells___init__)))
    (ix_Cells___init__ : PySem.W.isFn K (.ref fx_Cells___init__) = true)
    (lx_Cells___init__ : K.lookup fx_Cells___init__ = some ⟨ocx_Cells___init__, odx_Cells___init__, .func (PySem.W.fnOf "__init__" "Cells.__init__" (defArgs s_Cells___init__) (defBody s_Cells___init__) (defScope s_Cells___init__) .none kVx_Cells___init__ dcx_Cells___init__ pmx_Cells___init__ anx_Cells___init__ cdx_Cells___init__ ctx_Cells___init__), slx_Cells___init__⟩)
    (cx_Cells___init__ : PySem.W.codeIn K cdx_Cells___init__ "Cells.__init__" = true)
    (kx_Cells___init__ : PySem.W.keepIn K (.ref fx_Cells___init__) = true)
    (ax_Cells_read : PySem.W.findIn K (.ref C_Cells) "read" = some (some (.ref fx_Cells_read)))
    (ix_Cells_read : PySem.W.isFn K (.ref fx_Cells_read) = true)
    (lx_Cells_read : K.lookup fx_Cells_read = some ⟨ocx_Cells_read, odx_Cells_read, .func (PySem.W.fnOf "read" "Cells.read" (defArgs s_Cells_read) (defBody s_Cells_read) (defScope s_Cells_read) .none kVx_Cells_read dcx_Cells_read pmx_Cells_read anx_Cells_read cdx_Cells_read ctx_Cells_read), slx_Cells_read⟩)
    (cx_Cells_read : PySem.W.codeIn K cdx_Cells_read "Cells.read" = true)
    (kx_Cells_read : PySem.W.keepIn K (.ref fx_Cells_read) = true)
    (ax_Cells_write : PySem.W.findIn K (.ref C_Cells) "write" = some (some (.ref fx_Cells_write)))
    (ix_Cells_write : PySem.W.isFn K (.ref fx_Cells_write) = true)
    (lx_Cells_write : K.lookup fx_Cells_write = some ⟨ocx_Cells_write, odx_Cells_write, .func (PySem.W.fnOf "write" "Cells.write" (defArgs s_Cells_write) (defBody s_Cells_write) (defScope s_Cells_write) .none kVx_Cells_write dcx_Cells_write pmx_Cells_write anx_Cells_write cdx_Cells_write ctx_Cells_write), slx_Cells_write⟩)
    (cx_Cells_write : PySem.W.codeIn K cdx_Cells_write "Cells.write" = true)
    (kx_Cells_write : PySem.W.keepIn K (.ref fx_Cells_write) = true)
    (ax_Cells_arm : PySem.W.findIn K (.ref C_Cells) "arm" = some (some (.ref fx_Cells_arm)))
    (ix_Cells_arm : PySem.W.isFn K (.ref fx_Cells_arm) = true)
    (lx_Cells_arm : K.lookup fx_Cells_arm = some ⟨ocx_Cells_arm, odx_Cells_arm, .func (PySem.W.fnOf "arm" "Cells.arm" (defArgs s_Cells_arm) (defBody s_Cells_arm) (defScope s_Cells_arm) .none kVx_Cells_arm dcx_Cells_arm pmx_Cells_arm anx_Cells_arm cdx_Cells_arm ctx_Cells_arm), slx_Cells_arm⟩)
    (cx_Cells_arm : PySem.W.codeIn K cdx_Cells_arm "Cells.arm" = true)
    (kx_Cells_arm : PySem.W.keepIn K (.ref fx_Cells_arm) = true)
    (ax_Cells_crash : PySem.W.findIn K (.ref C_Cells) "crash" = some (some (.ref fx_Cells_crash)))
    (ix_Cells_crash : PySem.W.isFn K (.ref fx_Cells_crash) = true)
    (lx_Cells_crash : K.lookup fx_Cells_crash = some ⟨ocx_Cells_crash, odx_Cells_crash, .func (PySem.W.fnOf "crash" "Cells.crash" (defArgs s_Cells_crash) (defBody s_Cells_crash) (defScope s_Cells_crash) .none kVx_Cells_crash dcx_Cells_crash pmx_Cells_crash anx_Cells_crash cdx_Cells_crash ctx_Cells_crash), slx_Cells_crash⟩)
    (cx_Cells_crash : PySem.W.codeIn K cdx_Cells_crash "Cells.crash" = true)
    (kx_Cells_crash : PySem.W.keepIn K (.ref fx_Cells_crash) = true)
    (ax_Cells__check : PySem.W.findIn K (.ref C_Cells) "_check" = some (some (.ref fx_Cells__check)))
    (ix_Cells__check : PySem.W.isFn K (.ref fx_Cells__check) = true)
    (lx_Cells__check : K.lookup fx_Cells__check = some ⟨ocx_Cells__check, odx_Cells__check, .func (PySem.W.fnOf "_check" "Cells._check" (defArgs s_Cells__check) (defBody s_Cells__check) (defScope s_Cells__check) .none kVx_Cells__check dcx_Cells__check pmx_Cells__check anx_Cells__check cdx_Cells__check ctx_Cells__check), slx_Cells__check⟩)
    (cx_Cells__check : PySem.W.codeIn K cdx_Cells__check "Cells._check" = true)
    (kx_Cells__check : PySem.W.keepIn K (.ref fx_Cells__check) = true)
    (x_DiskCrashed : PySem.W.excIn K C_DiskCrashed [.type "ValueError", .type "Exception", .type "BaseException", .type "object"] "ValueError.__new__" = true)
    (k_DiskCrashed : PySem.W.keepIn K (.ref C_DiskCrashed) = true)
    (b_DiskCrashed : PySem.W.subIn K (.ref C_DiskCrashed) (.type "BaseException") = some true)
    (t_DiskCrashed : PySem.W.typeIn K (.ref C_DiskCrashed) = some (.type "type"))
    (x_DiskError : PySem.W.excIn K C_DiskError [.type "ValueError", .type "Exception", .type "BaseException", .type "object"] "ValueError.__new__" = true)
    (k_DiskError : PySem.W.keepIn K (.ref C_DiskError) = true)
    (b_DiskError : PySem.W.subIn K (.ref C_DiskError) (.type "BaseException") = some true)
    (t_DiskError : PySem.W.typeIn K (.ref C_DiskError) = some (.type "type"))
    (m_CC : PySem.W.exmOne K (.ref C_DiskCrashed) (.ref C_DiskCrashed) = some true)
    (m_EC : PySem.W.exmOne K (.ref C_DiskError) (.ref C_DiskCrashed) = some false)
    (m_EE : PySem.W.exmOne K (.ref C_DiskError) (.ref C_DiskError) = some true)
    (u_CC : PySem.W.kitOne K (.ref C_DiskCrashed) (.ref C_DiskError) = some false)
    (eg : PySem.W.findIn K (.ref C_DiskCrashed) "__getattribute__" = some (some (.builtin "BaseException.__getattribute__")))
    (ek : PySem.W.findIn K (.ref C_DiskCrashed) "__getattr__" = some none)
    (es_ : PySem.W.subIn K (.ref C_DiskCrashed) (.type "BaseException") = some true)
    (ed : PySem.W.hasDictIn K C_DiskCrashed = true)
    (ea : PySem.W.findIn K (.ref C_DiskCrashed) "__class__" = some (some (.builtin "object.__class__")))
    (en : PySem.W.specialIn K (.builtin "object.__class__") "__get__" = some (some (.builtin "getset_descriptor.__get__")))
    (et : PySem.W.takesIn K (.builtin "object.__class__") = some true)
    (em : PySem.W.mroIn K C_DiskCrashed (.type "object") = some true)
    (ax_is_integer : PySem.W.nsIn K mainGlobals "is_integer" = some (some (.ref fx_is_integer)))
    (lx_is_integer : K.lookup fx_is_integer = some ⟨ocx_is_integer, odx_is_integer, .func (PySem.W.fnOf "is_integer" "is_integer" (defArgs s_is_integer) (defBody s_is_integer) (defScope s_is_integer) .none kVx_is_integer dcx_is_integer pmx_is_integer anx_is_integer cdx_is_integer ctx_is_integer), slx_is_integer⟩)
    (cx_is_integer : PySem.W.codeIn K cdx_is_integer "is_integer" = true)
    (kx_is_integer : PySem.W.keepIn K (.ref fx_is_integer) = true)
    (ax__law_text : PySem.W.nsIn K mainGlobals "_law_text" = some (some (.ref fx__law_text)))
    (lx__law_text : K.lookup fx__law_text = some ⟨ocx__law_text, odx__law_text, .func (PySem.W.fnOf "_law_text" "_law_text" (defArgs s__law_text) (defBody s__law_text) (defScope s__law_text) .none kVx__law_text dcx__law_text pmx__law_text anx__law_text cdx__law_text ctx__law_text), slx__law_text⟩)
    (cx__law_text : PySem.W.codeIn K cdx__law_text "_law_text" = true)
    (kx__law_text : PySem.W.keepIn K (.ref fx__law_text) = true)
    (ax__law_act : PySem.W.nsIn K mainGlobals "_law_act" = some (some (.ref fx__law_act)))
    (lx__law_act : K.lookup fx__law_act = some ⟨ocx__law_act, odx__law_act, .func (PySem.W.fnOf "_law_act" "_law_act" (defArgs s__law_act) (defBody s__law_act) (defScope s__law_act) .none kVx__law_act dcx__law_act pmx__law_act anx__law_act cdx__law_act ctx__law_act), slx__law_act⟩)
    (cx__law_act : PySem.W.codeIn K cdx__law_act "_law_act" = true)
    (kx__law_act : PySem.W.keepIn K (.ref fx__law_act) = true)
    (ax__law_expect : PySem.W.nsIn K mainGlobals "_law_expect" = some (some (.ref fx__law_expect)))
    (lx__law_expect : K.lookup fx__law_expect = some ⟨ocx__law_expect, odx__law_expect, .func (PySem.W.fnOf "_law_expect" "_law_expect" (defArgs s__law_expect) (defBody s__law_expect) (defScope s__law_expect) .none kVx__law_expect dcx__law_expect pmx__law_expect anx__law_expect cdx__law_expect ctx__law_expect), slx__law_expect⟩)
    (cx__law_expect : PySem.W.codeIn K cdx__law_expect "_law_expect" = true)
    (kx__law_expect : PySem.W.keepIn K (.ref fx__law_expect) = true)
    (ax__law_deed : PySem.W.nsIn K mainGlobals "_law_deed" = some (some (.ref fx__law_deed)))
    (lx__law_deed : K.lookup fx__law_deed = some ⟨ocx__law_deed, odx__law_deed, .func (PySem.W.fnOf "_law_deed" "_law_deed" (defArgs s__law_deed) (defBody s__law_deed) (defScope s__law_deed) .none kVx__law_deed dcx__law_deed pmx__law_deed anx__law_deed cdx__law_deed ctx__law_deed), slx__law_deed⟩)
    (cx__law_deed : PySem.W.codeIn K cdx__law_deed "_law_deed" = true)
    (kx__law_deed : PySem.W.keepIn K (.ref fx__law_deed) = true)
    (ax_law : PySem.W.nsIn K mainGlobals "law" = some (some (.ref fx_law)))
    (lx_law : K.lookup fx_law = some ⟨ocx_law, odx_law, .func (PySem.W.fnOf "law" "law" (defArgs s_law) (defBody s_law) (defScope s_law) .none kVx_law dcx_law pmx_law anx_law cdx_law ctx_law), slx_law⟩)
    (cx_law : PySem.W.codeIn K cdx_law "law" = true)
    (kx_law : PySem.W.keepIn K (.ref fx_law) = true)
    (zlen : PySem.W.nsIn K mainGlobals "len" = some none)
    (zisinstance : PySem.W.nsIn K mainGlobals "isinstance" = some none)
    (zint : PySem.W.nsIn K mainGlobals "int" = some none)
    (zbool : PySem.W.nsIn K mainGlobals "bool" = some none)
    (zstr : PySem.W.nsIn K mainGlobals "str" = some none)
    (zrange : PySem.W.nsIn K mainGlobals "range" = some none)
    (zmin : PySem.W.nsIn K mainGlobals "min" = some none)
    (zmax : PySem.W.nsIn K mainGlobals "max" = some none) :
    ∃ fd : FuncData, (∀ (s : Shared) (v : Value), BindsTo s fd ⟨[v], []⟩ [("script", v)]) ∧ ∀ base : Heap, K.In base → base.Ns mainGlobals mg → FnOk l.prog w K mg base CX0 6 fa fd ["script"] (sp_law K) := by
  have e := hfa.symm.trans (PySem.W.mg_of X G ax_law)
  cases e
  have T : Tx K mg C_Cells C_DiskCrashed C_DiskError := {
    b_len := PySem.W.mg_none_of X G zlen
    b_isinstance := PySem.W.mg_none_of X G zisinstance
    b_int := PySem.W.mg_none_of X G zint
    b_bool := PySem.W.mg_none_of X G zbool
    b_str := PySem.W.mg_none_of X G zstr
    b_range := PySem.W.mg_none_of X G zrange
    b_min := PySem.W.mg_none_of X G zmin
    b_max := PySem.W.mg_none_of X G zmax
    g_Cells := PySem.W.mg_of X G aC_Cells
    cl_Cells := ⟨pg_Cells, hd_Cells, po_Cells, sa_Cells⟩
    n_Cells__texts := n_Cells__texts
    n_Cells__has_crashed := n_Cells__has_crashed
    n_Cells__passing := n_Cells__passing
    n_Cells__keep := n_Cells__keep
    g_DiskCrashed := PySem.W.mg_of X G aC_DiskCrashed
    x_DiskCrashed := x_DiskCrashed
    k_DiskCrashed := k_DiskCrashed
    b_DiskCrashed := b_DiskCrashed
    t_DiskCrashed := t_DiskCrashed
    g_DiskError := PySem.W.mg_of X G aC_DiskError
    x_DiskError := x_DiskError
    k_DiskError := k_DiskError
    b_DiskError := b_DiskError
    t_DiskError := t_DiskError
    m_CC := m_CC
    m_EC := m_EC
    m_EE := m_EE
    u_CC := u_CC
    e_CC := ⟨eg, ek, es_, ed, ea, en, et, em⟩ }
  let a_Cells___init__ : MethAt K C_Cells "__init__" "Cells.__init__" P_Cells___init__ s_Cells___init__ := meth_mk ax_Cells___init__ ix_Cells___init__ lx_Cells___init__ cx_Cells___init__ kx_Cells___init__ fun _ _ _ _ _ _ us hl => match us, hl with | [_], _ => rfl
  let a_Cells_read : MethAt K C_Cells "read" "Cells.read" P_Cells_read s_Cells_read := meth_mk ax_Cells_read ix_Cells_read lx_Cells_read cx_Cells_read kx_Cells_read fun _ _ _ _ _ _ us hl => match us, hl with | [_, _], _ => rfl
  let a_Cells_write : MethAt K C_Cells "write" "Cells.write" P_Cells_write s_Cells_write := meth_mk ax_Cells_write ix_Cells_write lx_Cells_write cx_Cells_write kx_Cells_write fun _ _ _ _ _ _ us hl => match us, hl with | [_, _, _], _ => rfl
  let a_Cells_arm : MethAt K C_Cells "arm" "Cells.arm" P_Cells_arm s_Cells_arm := meth_mk ax_Cells_arm ix_Cells_arm lx_Cells_arm cx_Cells_arm kx_Cells_arm fun _ _ _ _ _ _ us hl => match us, hl with | [_, _, _], _ => rfl
  let a_Cells_crash : MethAt K C_Cells "crash" "Cells.crash" P_Cells_crash s_Cells_crash := meth_mk ax_Cells_crash ix_Cells_crash lx_Cells_crash cx_Cells_crash kx_Cells_crash fun _ _ _ _ _ _ us hl => match us, hl with | [_], _ => rfl
  let a_Cells__check : MethAt K C_Cells "_check" "Cells._check" P_Cells__check s_Cells__check := meth_mk ax_Cells__check ix_Cells__check lx_Cells__check cx_Cells__check kx_Cells__check fun _ _ _ _ _ _ us hl => match us, hl with | [_, _, _], _ => rfl
  let a_is_integer : DefAt K mg "is_integer" P_is_integer s_is_integer := at_mk X G ax_is_integer lx_is_integer cx_is_integer kx_is_integer fun _ _ _ _ _ _ us hl => match us, hl with | [_, _, _], _ => rfl
  let a__law_text : DefAt K mg "_law_text" P__law_text s__law_text := at_mk X G ax__law_text lx__law_text cx__law_text kx__law_text fun _ _ _ _ _ _ us hl => match us, hl with | [_], _ => rfl
  let a__law_act : DefAt K mg "_law_act" P__law_act s__law_act := at_mk X G ax__law_act lx__law_act cx__law_act kx__law_act fun _ _ _ _ _ _ us hl => match us, hl with | [_, _], _ => rfl
  let a__law_expect : DefAt K mg "_law_expect" P__law_expect s__law_expect := at_mk X G ax__law_expect lx__law_expect cx__law_expect kx__law_expect fun _ _ _ _ _ _ us hl => match us, hl with | [_, _], _ => rfl
  let a__law_deed : DefAt K mg "_law_deed" P__law_deed s__law_deed := at_mk X G ax__law_deed lx__law_deed cx__law_deed kx__law_deed fun _ _ _ _ _ _ us hl => match us, hl with | [_], _ => rfl
  have F_law := fun_mk (st := s_law) lx_law cx_law kx_law
  refine ⟨PySem.W.fnOf "law" "law" (defArgs s_law) (defBody s_law) (defScope s_law) .none kVx_law dcx_law pmx_law anx_law cdx_law ctx_law, fun s v => .of_eq rfl, fun base _ _ => ?_⟩
  let k_Cells : MkOk l.prog w K mg base C_Cells "Cells" P_Cells___init__ 1 (sp_init C_Cells) := a_Cells___init__.mk' mk_Cells kc_Cells T.g_Cells fun F => ok_init T F
  let c_is_integer : DefOk l.prog w K mg base CX0 "is_integer" P_is_integer 1 (spI) := a_is_integer.ok fun F => ok_is_integer T  F
  let m_Cells__check : MethOk l.prog w K mg base (L2.CX l.prog w) C_Cells "_check" P_Cells__check 2 (sp_check C_Cells C_DiskCrashed C_DiskError) := a_Cells__check.ok fun F => ok_check T c_is_integer F
  let m_Cells_read : MethOk l.prog w K mg base (L2.CX l.prog w) C_Cells "read" P_Cells_read 3 (sp_read C_Cells C_DiskCrashed C_DiskError) := a_Cells_read.ok fun F => ok_read T m_Cells__check F
  let m_Cells_write : MethOk l.prog w K mg base (L2.CX l.prog w) C_Cells "write" P_Cells_write 3 (sp_write C_Cells C_DiskCrashed C_DiskError) := a_Cells_write.ok fun F => ok_write T m_Cells__check F
  let m_Cells_arm : MethOk l.prog w K mg base (CX0) C_Cells "arm" P_Cells_arm 1 (sp_arm C_Cells) := a_Cells_arm.ok fun F => ok_arm T  F
  let m_Cells_crash : MethOk l.prog w K mg base (CX0) C_Cells "crash" P_Cells_crash 1 (sp_crash C_Cells) := a_Cells_crash.ok fun F => ok_crash T  F
  let c__law_text : DefOk l.prog w K mg base CX0 "_law_text" P__law_text 1 (sp_ltext) := a__law_text.ok fun F => ok__law_text T  F
  let c__law_deed : DefOk l.prog w K mg base CX0 "_law_deed" P__law_deed 2 (sp_deed) := a__law_deed.ok fun F => ok__law_deed T c__law_text F
  let c__law_expect : DefOk l.prog w K mg base CX0 "_law_expect" P__law_expect 1 (sp_exp) := a__law_expect.ok fun F => ok__law_expect T  F
  let c__law_act : DefOk l.prog w K mg base CX0 "_law_act" P__law_act 4 (sp_act C_Cells) := a__law_act.ok fun F => ok__law_act T m_Cells_read m_Cells_write m_Cells_arm m_Cells_crash F
  exact ok_law T k_Cells m_Cells_read c__law_deed c__law_expect c__law_act F_law
end Mus
open PySem PySem.W PyProof.Rows
set_option maxRecDepth 100000 in
set_option maxHeartbeats 0 in
theorem PySem.Challenge.cw_mustercall_k10_two_cells_holds : PySem.Challenge.rw_mustercall_k10_two_cells.Holds := by
  w_on; o_law; k_head; (case hw => w_witness2)
  k_fill
  refine Mus.walk_ofX (l := PySem.Challenge.rw_mustercall_k10_two_cells) (n := 63) (k := 6) (x := "script") (sp := fun w => Mus.sp_law (_ : PySem.W.Frag)) rfl (by decide) rfl ⟨rfl, by decide, by decide⟩ (fun w h Y => PySem.W.kIn_of Y) ?F (fun _ _ a ns hl _ hS => ⟨a, ns, rfl, hS, hl, fun _ => rfl⟩)
  case F =>
    intro w mg fa h KX G XX hmg
    refine' Mus.all_mk KX G hmg ?aC_Cells ?aC_DiskCrashed ?aC_DiskError ?pg_Cells ?hd_Cells ?po_Cells ?sa_Cells ?mk_Cells ?kc_Cells ?n_Cells__texts ?n_Cells__has_crashed ?n_Cells__passing ?n_Cells__keep ?ax_Cells___init__ ?ix_Cells___init__ ?lx_Cells___init__ ?cx_Cells___init__ ?kx_Cells___init__ ?ax_Cells_read ?ix_Cells_read ?lx_Cells_read ?cx_Cells_read ?kx_Cells_read ?ax_Cells_write ?ix_Cells_write ?lx_Cells_write ?cx_Cells_write ?kx_Cells_write ?ax_Cells_arm ?ix_Cells_arm ?lx_Cells_arm ?cx_Cells_arm ?kx_Cells_arm ?ax_Cells_crash ?ix_Cells_crash ?lx_Cells_crash ?cx_Cells_crash ?kx_Cells_crash ?ax_Cells__check ?ix_Cells__check ?lx_Cells__check ?cx_Cells__check ?kx_Cells__check ?x_DiskCrashed ?k_DiskCrashed ?b_DiskCrashed ?t_DiskCrashed ?x_DiskError ?k_DiskError ?b_DiskError ?t_DiskError ?m_CC ?m_EC ?m_EE ?u_CC ?eg ?ek ?es_ ?ed ?ea ?en ?et ?em ?ax_is_integer ?lx_is_integer ?cx_is_integer ?kx_is_integer ?ax__law_text ?lx__law_text ?cx__law_text ?kx__law_text ?ax__law_act ?lx__law_act ?cx__law_act ?kx__law_act ?ax__law_expect ?lx__law_expect ?cx__law_expect ?kx__law_expect ?ax__law_deed ?lx__law_deed ?cx__law_deed ?kx__law_deed ?ax_law ?lx_law ?cx_law ?kx_law ?zlen ?zisinstance ?zint ?zbool ?zstr ?zrange ?zmin ?zmax
    (case aC_Cells => first | k_is | rfl)
    (case aC_DiskCrashed => first | k_is | rfl)
    (case aC_DiskError => first | k_is | rfl)
    (case pg_Cells => first | k_is | rfl)
    (case hd_Cells => first | k_is | rfl)
    (case po_Cells => first | k_is | rfl)
    (case sa_Cells => first | k_is | rfl)
    (case mk_Cells => first | k_is | rfl)
    (case kc_Cells => first | k_is | rfl)
    (case n_Cells__texts => first | k_is | rfl)
    (case n_Cells__has_crashed => first | k_is | rfl)
    (case n_Cells__passing => first | k_is | rfl)
    (case n_Cells__keep => first | k_is | rfl)
    (case ax_Cells___init__ => first | k_is | rfl)
    (case ix_Cells___init__ => first | k_is | rfl)
    (case lx_Cells___init__ => first | k_is | rfl)
    (case cx_Cells___init__ => first | k_is | rfl)
    (case kx_Cells___init__ => first | k_is | rfl)
    (case ax_Cells_read => first | k_is | rfl)
    (case ix_Cells_read => first | k_is | rfl)
    (case lx_Cells_read => first | k_is | rfl)
    (case cx_Cells_read => first | k_is | rfl)
    (case kx_Cells_read => first | k_is | rfl)
    (case ax_Cells_write => first | k_is | rfl)
    (case ix_Cells_write => first | k_is | rfl)
    (case lx_Cells_write => first | k_is | rfl)
    (case cx_Cells_write => first | k_is | rfl)
    (case kx_Cells_write => first | k_is | rfl)
    (case ax_Cells_arm => first | k_is | rfl)
    (case ix_Cells_arm => first | k_is | rfl)
    (case lx_Cells_arm => first | k_is | rfl)
    (case cx_Cells_arm => first | k_is | rfl)
    (case kx_Cells_arm => first | k_is | rfl)
    (case ax_Cells_crash => first | k_is | rfl)
    (case ix_Cells_crash => first | k_is | rfl)
    (case lx_Cells_crash => first | k_is | rfl)
    (case cx_Cells_crash => first | k_is | rfl)
    (case kx_Cells_crash => first | k_is | rfl)
    (case ax_Cells__check => first | k_is | rfl)
    (case ix_Cells__check => first | k_is | rfl)
    (case lx_Cells__check => first | k_is | rfl)
    (case cx_Cells__check => first | k_is | rfl)
    (case kx_Cells__check => first | k_is | rfl)
    (case x_DiskCrashed => k_exc)
    (case k_DiskCrashed => first | k_is | rfl)
    (case b_DiskCrashed => first | k_is | rfl)
    (case t_DiskCrashed => first | k_is | rfl)
    (case x_DiskError => k_exc)
    (case k_DiskError => first | k_is | rfl)
    (case b_DiskError => first | k_is | rfl)
    (case t_DiskError => first | k_is | rfl)
    (case m_CC => first | k_is | rfl)
    (case m_EC => first | k_is | rfl)
    (case m_EE => first | k_is | rfl)
    (case u_CC => first | k_is | rfl)
    (case eg => first | k_is | rfl)
    (case ek => first | k_is | rfl)
    (case es_ => first | k_is | rfl)
    (case ed => first | k_is | rfl)
    (case ea => first | k_is | rfl)
    (case en => first | k_is | rfl)
    (case et => first | k_is | rfl)
    (case em => first | k_is | rfl)
    (case ax_is_integer => first | k_is | rfl)
    (case lx_is_integer => first | k_is | rfl)
    (case cx_is_integer => first | k_is | rfl)
    (case kx_is_integer => first | k_is | rfl)
    (case ax__law_text => first | k_is | rfl)
    (case lx__law_text => first | k_is | rfl)
    (case cx__law_text => first | k_is | rfl)
    (case kx__law_text => first | k_is | rfl)
    (case ax__law_act => first | k_is | rfl)
    (case lx__law_act => first | k_is | rfl)
    (case cx__law_act => first | k_is | rfl)
    (case kx__law_act => first | k_is | rfl)
    (case ax__law_expect => first | k_is | rfl)
    (case lx__law_expect => first | k_is | rfl)
    (case cx__law_expect => first | k_is | rfl)
    (case kx__law_expect => first | k_is | rfl)
    (case ax__law_deed => first | k_is | rfl)
    (case lx__law_deed => first | k_is | rfl)
    (case cx__law_deed => first | k_is | rfl)
    (case kx__law_deed => first | k_is | rfl)
    (case ax_law => first | k_is | rfl)
    (case lx_law => first | k_is | rfl)
    (case cx_law => first | k_is | rfl)
    (case kx_law => first | k_is | rfl)
    (case zlen => first | k_is | rfl)
    (case zisinstance => first | k_is | rfl)
    (case zint => first | k_is | rfl)
    (case zbool => first | k_is | rfl)
    (case zstr => first | k_is | rfl)
    (case zrange => first | k_is | rfl)
    (case zmin => first | k_is | rfl)
    (case zmax => first | k_is | rfl)

