import PyProof.Rows.All
import Wide.All
import OpenK.AllK
import Wide.FinOn
import HandS.Base
import HandS.Call
import HandS.List
import HandS.Comp
import HandS.Ends
import HandS.Iter
import HandS.Text
import HandS.Words
import HandS.WordsList
import HandS.Wide
import HandS.IsInst
import HandS.TupAny
import HandS.Dict
import HandS.WordsDict
import HandS.Conv
import HandS.More
import HandS.Codes
import HandS.SortRule
import HandS.Walk
import HandS.Exc
import HandS.ExcOwn
import HandS.TryOnly
import HandS.WordsExc
import HandS.TryMany
import HandS.ExcIs
import HandS.ExcInit
import HandS.ExcField
import HandS.WrittenGet
import PySem.Challenge.RW_mustercall_k60_histories
set_option Elab.async false
set_option linter.all false
set_option maxRecDepth 100000
set_option maxHeartbeats 4000000
/-! What my proofs share: a def with its promise as one thing, small rules, heaps. -/
namespace Mus
open PySem L2
/-- a def of the text that keeps a promise, and all that a call of it asks -/
structure DefOk (P : Program) (w : World) (K : PySem.W.Frag) (mg : Str → Option Value) (base : Heap) (CX : CXT) (x : Str) (ps : List Str) (k : Nat) (sp : Sp) where
  f : Addr
  fd : FuncData
  G : FnOk P w K mg base CX k f fd ps sp
  m : mg x = some (.ref f)
  kp : PySem.W.keepIn K (.ref f) = true
  b : Binds K fd ps []
def DefOk.mono {P : Program} {w : World} {K : PySem.W.Frag} {mg : Str → Option Value} {base : Heap} {CX : CXT} {x : Str} {ps : List Str} {j k : Nat} {sp : Sp} (c : DefOk P w K mg base CX x ps j sp) (h : j ≤ k) : DefOk P w K mg base CX x ps k sp :=
  ⟨c.f, c.fd, c.G.mono h, c.m, c.kp, c.b⟩
/-- a def of the text as the top left it: no promise yet -/
structure DefAt (K : PySem.W.Frag) (mg : Str → Option Value) (x : Str) (ps : List Str) (st : Stmt) where
  f : Addr
  fd : FuncData
  F : Fun K x x st f fd
  m : mg x = some (.ref f)
  b : Binds K fd ps []
def DefAt.ok {P : Program} {w : World} {K : PySem.W.Frag} {mg : Str → Option Value} {base : Heap} {CX : CXT} {x : Str} {ps : List Str} {st : Stmt} {k : Nat} {sp : Sp} (d : DefAt K mg x ps st) (h : ∀ {f : Addr} {fd : FuncData}, Fun K x x st f fd → FnOk P w K mg base CX k f fd ps sp) : DefOk P w K mg base CX x ps k sp :=
  ⟨d.f, d.fd, h d.F, d.m, d.F.kp, d.b⟩
section
variable {X : Cx}
theorem pcall {x : Str} {ps : List Str} {j k : Nat} {sp : Sp} {e : Expr} {es : List Expr} {t : TA} {p pos : Pos} (c : DefOk X.prog X.w X.K X.mg X.base CX0 x ps j sp) (hr : Room k X.A) (ha : PA X (e :: es) t) (hj : j ≤ k := by first | decide | omega) (hg : Gl X x := by rfl)
    (db0 : (x == ("__debug__" : Str)) = false := by decide) (st0 : starEach (e :: es) X.env = (false, eval e X.env) :: starEach es X.env := by rfl) (pl0 : (backTo pos (starEach es X.env)).any (·.1) = false := by rfl) :
    PE X (.Call (.Name x p) (e :: es) [] pos) (tCall sp [] E0 t) := pe_call c.G (hr.mono hj) hg c.m c.kp c.b .nil pass0 ha db0 st0 pl0
/-- a text n times -/
theorem op_mul_str : OpR X (binaryOp .Mult) (fun x y H Q => ∃ (z : Str) (n : Int), x = .str z ∧ y = .int n ∧ 2 ≤ n ∧ n ≤ 1000 ∧ 1 ≤ z.length ∧ z.length ≤ 1000 ∧ ∀ r : Str, TL.tl r = (List.replicate n.toNat (TL.tl z)).flatten → Q (.str r) H) := by
  intro pins s σ H x y v u Q I rx ry h
  obtain ⟨z, n, rfl, rfl, h2, h3, h4, h5, q⟩ := h
  obtain ⟨t, rfl⟩ := rx
  obtain ⟨t', rfl⟩ := ry
  have n1 : ¬ n < 1 := by omega
  have n2 : ¬ (n == 1 || z.length == 0) = true := by
    rw [Bool.or_eq_true, beq_iff_eq, beq_iff_eq]; omega
  have hr : (decide (n < -(2 ^ 63 : Int)) || decide (n ≥ 2 ^ 63)) = false := by
    rw [decide_eq_false (by omega), decide_eq_false (by omega)]; rfl
  have hm : z.length * n.toNat ≤ 1000 * 1000 := Nat.mul_le_mul h5 (by omega)
  have hl : Builtin.Str.tooLong (z.length * n.toNat) = false := by
    unfold Builtin.Str.tooLong
    have e : sizeLine = 16777216 := sizeLine_eq
    rw [decide_eq_false (by omega)]
  have hb : ¬ ((z.length : Int) > (2 ^ 63 - 1) / n) := by
    have : (1000 : Int) ≤ (2 ^ 63 - 1) / n := by
      rw [Int.le_ediv_iff_mul_le (by omega)]
      omega
    omega
  refine PySem.P.mul_str hr (fun _ _ => hb) (fun _ _ => hl) ?_
  rw [if_neg n1, if_neg n2]
  have hf : ∀ (k : Nat) (acc : Array Nat), ((List.replicate k z.cps).foldl (· ++ ·) acc).toList = acc.toList ++ (List.replicate k z.cps.toList).flatten := by
    intro k
    induction k with
    | zero => intro acc; simp
    | succ k ih =>
      intro acc
      rw [List.replicate_succ, List.foldl_cons, ih, List.replicate_succ, List.flatten_cons, Array.toList_append, List.append_assoc]
  have hr : TL.tl (⟨(List.replicate n.toNat z.cps).foldl (· ++ ·) #[]⟩ : Str) = (List.replicate n.toNat (TL.tl z)).flatten := by
    show ((List.replicate n.toNat z.cps).foldl (· ++ ·) #[]).toList = _
    rw [hf]; rfl
  have hlen : (⟨(List.replicate n.toNat z.cps).foldl (· ++ ·) #[]⟩ : Str).length ≤ sizeLine := by
    rw [TL.len_tl, hr]
    have e : sizeLine = 16777216 := sizeLine_eq
    have z2 : ((List.replicate n.toNat (TL.tl z)).flatten).length = z.length * n.toNat := by
      rw [TL.len_tl]
      generalize n.toNat = k
      induction k with
      | zero => rfl
      | succ k ih => rw [List.replicate_succ, List.flatten_cons, List.length_append, ih, Nat.mul_succ, Nat.add_comm]
    omega
  exact ⟨hlen, .str _, H, I.tok _, ⟨_, rfl⟩, q _ hr⟩
/-- for c in a text -/
theorem for_str {z : Str} {g : TG} {tb : TS} {D : Ends} {σ : St} {H : Hp} (Pv : Nat → St → Hp → Prop) (h0 : Pv 0 σ H)
    (hs : ∀ i c σ H, (TL.tl z)[i]? = some c → Pv i σ H → g (.str ⟨#[c]⟩) σ H fun σ2 H2 => tb { D with nx := Pv (i + 1), ct := Pv (i + 1), bk := D.nx } σ2 H2) (hd : ∀ σ H, Pv (TL.tl z).length σ H → D.nx σ H) :
    ∃ W : Nat → Nat → St → Hp → Prop, (∃ m, W 0 m σ H) ∧ ∀ i m σ H, W i m σ H →
      ((Its z).stop i H ∧ D.nx σ H) ∨ ((Its z).go i H ∧ ∃ N : St → Hp → Prop, (∀ σ' H', N σ' H' → ∃ m', m' < m ∧ W (i + 1) m' σ' H') ∧ ∀ x H', (Its z).yld i H x H' → g x σ H' fun σ2 H2 => tb { D with nx := N, ct := N, bk := D.nx } σ2 H2) := by
  have hl : (TL.tl z).length = z.cps.size := Array.length_toList
  refine ⟨fun i m σ H => m = (TL.tl z).length - i ∧ i ≤ (TL.tl z).length ∧ Pv i σ H, ⟨(TL.tl z).length, rfl, Nat.zero_le _, h0⟩, ?_⟩
  rintro i m σ H ⟨rfl, le1, pv1⟩
  by_cases lt1 : i < (TL.tl z).length
  · refine .inr ⟨(by show i < z.cps.size; omega), Pv (i + 1), fun σ' H' p' => ⟨(TL.tl z).length - (i + 1), by omega, rfl, lt1, p'⟩, fun x H' y => ?_⟩
    obtain ⟨e, c, hc, ex⟩ := y
    subst e
    subst ex
    exact hs i c σ H' (by rw [Array.getElem?_toList]; exact hc) pv1
  · have e : i = (TL.tl z).length := by omega
    subst e
    exact .inl ⟨(by show z.cps.size ≤ _; omega), hd σ H pv1⟩
end
/-! ### heaps -/
/-- all but what stands at p is as it was -/
def But (p : Addr) (H H' : Hp) : Prop := ∀ b o, H b = some o → b ≠ p → H' b = some o
theorem But.refl (p : Addr) (H : Hp) : But p H H := fun _ _ h _ => h
theorem But.trans {p : Addr} {H H1 H2 : Hp} (a : But p H H1) (b : But p H1 H2) : But p H H2 := fun c o h n => b c o (a c o h n) n
theorem But.of {p : Addr} {H H' : Hp} (a : Same H H') : But p H H' := fun c o h _ => a c o h
theorem same_new {H : Hp} {p : Addr} (h : H p = none) (o : HO) : Same H (upd H p o) := fun b u q => by rw [upd_ne (ne_of_none q h)]; exact q
theorem but_upd {H : Hp} {p : Addr} (o : HO) : But p H (upd H p o) := fun b u q n => by rw [upd_ne n]; exact q
theorem same_seqT {K : PySem.W.Frag} {H H' : Hp} {a : Addr} {xs : List V} (e : Same H H') (h : SqT K H a xs) : SqT K H' a xs := by
  rcases h with (h | ⟨o, h⟩) | h
  · exact .inl (.inl (e _ _ h))
  · exact .inl (.inr ⟨o, e _ _ h⟩)
  · exact .inr h
/-- tuples stay where only a list may change -/
theorem But.seqT {K : PySem.W.Frag} {H H' : Hp} {p a : Addr} {xs ys : List V} (e : But p H H') (hp : H p = some (.lst ys)) (h : SqT K H a xs) : SqT K H' a xs := by
  rcases h with (h | ⟨o, h⟩) | h
  · exact .inl (.inl (e _ _ h (ne_of h hp (by intro z; cases z))))
  · exact .inl (.inr ⟨o, e _ _ h (ne_of h hp (by intro z; cases z))⟩)
  · exact .inr h
theorem But.seqL {K : PySem.W.Frag} {H H' : Hp} {p a : Addr} {xs : List V} (e : But p H H') (hp : a ≠ p) (h : SqL K H a xs) : SqL K H' a xs := by
  rcases h with (h | ⟨o, h⟩) | h
  · exact .inl (.inl (e _ _ h hp))
  · exact .inl (.inr ⟨o, e _ _ h hp⟩)
  · exact .inr h
end Mus

set_option maxRecDepth 100000
set_option maxHeartbeats 4000000
/-! Plain data of any kind in the heap, beside one list (the bag, at p) that changes. -/
namespace Mus
open PySem L2
theorem sl : sizeLine = 16777216 := sizeLine_eq
theorem dT {p : Prop} [Decidable p] {A B : Prop} (h : p) (a : A) : if decide p = true then A else B := by
  rw [decide_eq_true h]; exact iteT a
theorem dF {p : Prop} [Decidable p] {A B : Prop} (h : ¬ p) (b : B) : if decide p = true then A else B := by
  rw [decide_eq_false h]; exact iteF b
theorem nT {p : Prop} [Decidable p] {A B : Prop} (h : ¬ p) (a : A) : if (!decide p) = true then A else B := by
  rw [decide_eq_false h]; exact iteT a
theorem nF {p : Prop} [Decidable p] {A B : Prop} (h : p) (b : B) : if (!decide p) = true then A else B := by
  rw [decide_eq_true h]; exact iteF b
theorem at_int {α : Type} {xs : List α} {i : Int} {v : α} (h0 : 0 ≤ i) (h : xs[i.toNat]? = some v) : atI xs i = some v := by
  have e : i = ((i.toNat : Nat) : Int) := by omega
  rw [e]
  exact atI_nat h
theorem pe_const {X : Cx} {x : Str} {i : Int} {pos : Pos} (hm : ∃ t, X.mg x = some (.int i t)) (hg : Gl X x := by rfl) (hd : (x == ("__debug__" : Str)) = false := by decide) : PE X (.Name x pos) (tC (.int i)) := by
  obtain ⟨t, h⟩ := hm
  exact pe_glob hg h ⟨t, rfl⟩ hd
theorem pe_ty {X : Cx} {x : Str} {pos : Pos} (n : String) (hm : X.mg x = none) (hv : bootBuiltins x = some (.type n) := by decide +kernel) (hg : Gl X x := by rfl) (hn : x ≠ "__name__" := by decide) (hd : (x == ("__debug__" : Str)) = false := by decide) : PE X (.Name x pos) (tC (.ty n)) := pe_bltn hg hm hv rfl hn hd
theorem pe_cls {X : Cx} {x : Str} {C : Addr} {pos : Pos} (hm : X.mg x = some (.ref C)) (hg : Gl X x := by rfl) (hd : (x == ("__debug__" : Str)) = false := by decide) : PE X (.Name x pos) (tC (.ref C)) := pe_glob (v := .ref C) hg hm rfl hd
mutual
/-- the value v stands for the data d, all of it tracked and none of it at p -/
inductive Rp (p : Addr) (H : Hp) : V → PyData → Prop
  | non : Rp p H .non .none
  | bl (b : Bool) : Rp p H (.bl b) (.bool b)
  | int (i : Int) : Rp p H (.int i) (.int i)
  | str (x : Str) : Rp p H (.str x) (.str x)
  | lst {a : Addr} {xs : List V} {ds : List PyData} : H a = some (.lst xs) → a ≠ p → Rps p H xs ds → Rp p H (.ref a) (.list ds)
  | tup {a : Addr} {xs : List V} {ds : List PyData} : H a = some (.tup xs) → a ≠ p → xs.length ≤ 100000 → Rps p H xs ds → Rp p H (.ref a) (.tuple ds)
inductive Rps (p : Addr) (H : Hp) : List V → List PyData → Prop
  | nil : Rps p H [] []
  | cons {v : V} {vs : List V} {d : PyData} {ds : List PyData} : Rp p H v d → Rps p H vs ds → Rps p H (v :: vs) (d :: ds)
end
mutual
theorem Rp.mono {p : Addr} {H H' : Hp} (k : But p H H') : ∀ {v : V} {d : PyData}, Rp p H v d → Rp p H' v d
  | _, _, .non => .non
  | _, _, .bl b => .bl b
  | _, _, .int i => .int i
  | _, _, .str x => .str x
  | _, _, .lst h n r => .lst (k _ _ h n) n (Rps.mono k r)
  | _, _, .tup h n l r => .tup (k _ _ h n) n l (Rps.mono k r)
theorem Rps.mono {p : Addr} {H H' : Hp} (k : But p H H') : ∀ {vs : List V} {ds : List PyData}, Rps p H vs ds → Rps p H' vs ds
  | _, _, .nil => .nil
  | _, _, .cons a b => .cons (Rp.mono k a) (Rps.mono k b)
end
mutual
theorem Rp.dp {p : Addr} {K : PySem.W.Frag} {H : Hp} : ∀ {v : V} {d : PyData}, Rp p H v d → Dp K H v d
  | _, _, .non => .non
  | _, _, .bl b => .bl b
  | _, _, .int i => .int i
  | _, _, .str x => .str x
  | _, _, .lst h n r => .lst (SqL.of h) (Rps.dp r)
  | _, _, .tup h n _ r => .tup (SqT.of h) (Rps.dp r)
theorem Rps.dp {p : Addr} {K : PySem.W.Frag} {H : Hp} : ∀ {vs : List V} {ds : List PyData}, Rps p H vs ds → DpAll K H vs ds
  | _, _, .nil => .nil
  | _, _, .cons a b => .cons (Rp.dp a) (Rps.dp b)
end
theorem Rp.same {p : Addr} {H H' : Hp} {v : V} {d : PyData} (k : Same H H') (h : Rp p H v d) : Rp p H' v d := h.mono (But.of k)
theorem Rps.same {p : Addr} {H H' : Hp} {vs : List V} {ds : List PyData} (k : Same H H') (h : Rps p H vs ds) : Rps p H' vs ds := h.mono (But.of k)
theorem Rps.length {p : Addr} {H : Hp} : ∀ {vs : List V} {ds : List PyData}, Rps p H vs ds → vs.length = ds.length
  | _, _, .nil => rfl
  | _, _, .cons _ r => by rw [List.length_cons, List.length_cons, Rps.length r]
theorem Rps.at {p : Addr} {H : Hp} : ∀ {vs : List V} {ds : List PyData} {i : Nat} {v : V}, Rps p H vs ds → vs[i]? = some v → ∃ d, ds[i]? = some d ∧ Rp p H v d
  | _, _, i, v, .nil, h => by simp at h
  | _, _, 0, v, .cons a _, h => by cases h; exact ⟨_, rfl, a⟩
  | _, _, i + 1, v, .cons _ r, h => Rps.at (i := i) r (by simpa using h)
theorem Rps.get {p : Addr} {H : Hp} : ∀ {vs : List V} {ds : List PyData} {i : Nat} {d : PyData}, Rps p H vs ds → ds[i]? = some d → ∃ v, vs[i]? = some v ∧ Rp p H v d
  | _, _, i, v, .nil, h => by simp at h
  | _, _, 0, v, .cons a _, h => by cases h; exact ⟨_, rfl, a⟩
  | _, _, i + 1, v, .cons _ r, h => Rps.get (i := i) r (by simpa using h)
theorem Rps.append {p : Addr} {H : Hp} : ∀ {vs ws : List V} {ds es : List PyData}, Rps p H vs ds → Rps p H ws es → Rps p H (vs ++ ws) (ds ++ es)
  | _, _, _, _, .nil, r => r
  | _, _, _, _, .cons a q, r => .cons a (Rps.append q r)
theorem Rps.take {p : Addr} {H : Hp} : ∀ {vs : List V} {ds : List PyData} (n : Nat), Rps p H vs ds → Rps p H (vs.take n) (ds.take n)
  | _, _, 0, _ => .nil
  | _, _, n + 1, .nil => .nil
  | _, _, n + 1, .cons a q => .cons a (Rps.take n q)
theorem Rps.drop {p : Addr} {H : Hp} : ∀ {vs : List V} {ds : List PyData} (n : Nat), Rps p H vs ds → Rps p H (vs.drop n) (ds.drop n)
  | _, _, 0, r => r
  | _, _, n + 1, .nil => .nil
  | _, _, n + 1, .cons a q => Rps.drop n q
/-! ### classes of data -/
def tyD : PyData → Value
  | .none => .type "NoneType" | .bool _ => .type "bool" | .int _ => .type "int" | .str _ => .type "str" | .list _ => .type "list" | .tuple _ => .type "tuple" | .dict _ => .type "dict"
theorem Rp.ty {p : Addr} {K : PySem.W.Frag} {H : Hp} {v : V} {d : PyData} (h : Rp p H v d) : TyX K H v (tyD d) := by
  cases h with
  | non => exact .base .non
  | bl b => exact .base (.bl b)
  | int i => exact .base (.int i)
  | str x => exact .base (.str x)
  | lst h _ _ => exact .base (.lst h)
  | tup h _ _ _ => exact .base (.tup h)
def dInt : PyData → Bool
  | .int _ => true | .bool _ => true | _ => false
def dBool : PyData → Bool
  | .bool _ => true | _ => false
def dStr : PyData → Bool
  | .str _ => true | _ => false
def dTup : PyData → Bool
  | .tuple _ => true | _ => false
theorem kit_int {K : PySem.W.Frag} : ∀ d : PyData, PySem.W.kitOne K (tyD d) (.type "int") = some (dInt d)
  | .none => kit_ty (r := false) (by decide +kernel)
  | .bool _ => kit_ty (r := true) (by decide +kernel)
  | .int _ => kit_ty (r := true) (by decide +kernel)
  | .str _ => kit_ty (r := false) (by decide +kernel)
  | .list _ => kit_ty (r := false) (by decide +kernel)
  | .tuple _ => kit_ty (r := false) (by decide +kernel)
  | .dict _ => kit_ty (r := false) (by decide +kernel)
theorem kit_bool {K : PySem.W.Frag} : ∀ d : PyData, PySem.W.kitOne K (tyD d) (.type "bool") = some (dBool d)
  | .none => kit_ty (r := false) (by decide +kernel)
  | .bool _ => kit_ty (r := true) (by decide +kernel)
  | .int _ => kit_ty (r := false) (by decide +kernel)
  | .str _ => kit_ty (r := false) (by decide +kernel)
  | .list _ => kit_ty (r := false) (by decide +kernel)
  | .tuple _ => kit_ty (r := false) (by decide +kernel)
  | .dict _ => kit_ty (r := false) (by decide +kernel)
theorem kit_str {K : PySem.W.Frag} : ∀ d : PyData, PySem.W.kitOne K (tyD d) (.type "str") = some (dStr d)
  | .none => kit_ty (r := false) (by decide +kernel)
  | .bool _ => kit_ty (r := false) (by decide +kernel)
  | .int _ => kit_ty (r := false) (by decide +kernel)
  | .str _ => kit_ty (r := true) (by decide +kernel)
  | .list _ => kit_ty (r := false) (by decide +kernel)
  | .tuple _ => kit_ty (r := false) (by decide +kernel)
  | .dict _ => kit_ty (r := false) (by decide +kernel)
theorem kit_tup {K : PySem.W.Frag} : ∀ d : PyData, PySem.W.kitOne K (tyD d) (.type "tuple") = some (dTup d)
  | .none => kit_ty (r := false) (by decide +kernel)
  | .bool _ => kit_ty (r := false) (by decide +kernel)
  | .int _ => kit_ty (r := false) (by decide +kernel)
  | .str _ => kit_ty (r := false) (by decide +kernel)
  | .list _ => kit_ty (r := false) (by decide +kernel)
  | .tuple _ => kit_ty (r := true) (by decide +kernel)
  | .dict _ => kit_ty (r := false) (by decide +kernel)
end Mus
namespace Mus
open PySem L2
/-! ### members and view ids, as functions of data -/
def isInt (d : PyData) (a b : Int) : Bool := match d with | .int i => decide (a ≤ i) && decide (i ≤ b) | _ => false
def isProc (c d : PyData) : Bool := match c with | .int n => (decide (1 ≤ n) && decide (n ≤ 12)) && isInt d 0 (n - 1) | _ => false
def isMem (c : PyData) : PyData → Bool
  | .tuple [x, y] => isProc c x && isInt y 1 1000000000000
  | _ => false
def isVid (c : PyData) : PyData → Bool
  | .tuple [x, y] => isInt x 0 1000000000000 && isMem c y
  | _ => false
def procOf : PyData → Int
  | .tuple (.int i :: _) => i
  | _ => 0
def memsFrom (c : PyData) : Int → List PyData → Bool
  | _, [] => true
  | l, d :: ds => isMem c d && decide (l < procOf d) && memsFrom c (procOf d) ds
def isMems (c : PyData) : PyData → Bool
  | .tuple ds => !ds.isEmpty && memsFrom c (-1) ds
  | _ => false
theorem isProc_int {c d : PyData} (h : isProc c d = true) : ∃ n i, c = .int n ∧ d = .int i ∧ 1 ≤ n ∧ n ≤ 12 ∧ 0 ≤ i ∧ i < n := by
  cases c <;> try (simp [isProc] at h; done)
  rename_i n
  cases d <;> try (simp [isProc, isInt] at h; done)
  rename_i i
  simp [isProc, isInt] at h
  exact ⟨n, i, rfl, rfl, by omega, by omega, by omega, by omega⟩
theorem isInt_int {d : PyData} {a b : Int} (h : isInt d a b = true) : ∃ i, d = .int i ∧ a ≤ i ∧ i ≤ b := by
  cases d <;> try (simp [isInt] at h; done)
  rename_i i
  simp [isInt] at h
  exact ⟨i, rfl, h.1, h.2⟩
theorem isMem_int {c d : PyData} (h : isMem c d = true) : ∃ n i l, c = .int n ∧ d = .tuple [.int i, .int l] ∧ 1 ≤ n ∧ n ≤ 12 ∧ 0 ≤ i ∧ i < n ∧ 1 ≤ l ∧ l ≤ 1000000000000 := by
  unfold isMem at h
  split at h
  · rename_i x y
    rw [Bool.and_eq_true] at h
    obtain ⟨n, i, rfl, rfl, h1, h2, h3, h4⟩ := isProc_int h.1
    obtain ⟨l, rfl, h5, h6⟩ := isInt_int h.2
    exact ⟨n, i, l, rfl, rfl, h1, h2, h3, h4, h5, h6⟩
  · cases h
/-! ### promises: a truth told of data, nothing changed -/
def spI : Sp := fun vs H Q _ => ∃ (p : Addr) (v : V) (d : PyData) (a b : Int), vs = [v, .int a, .int b] ∧ Rp p H v d ∧ Q (.bl (isInt d a b)) H
def spB1 (f : PyData → Bool) : Sp := fun vs H Q _ => ∃ (p : Addr) (v : V) (d : PyData), vs = [v] ∧ Rp p H v d ∧ Q (.bl (f d)) H
def spB2 (f : PyData → PyData → Bool) : Sp := fun vs H Q _ => ∃ (p : Addr) (u v : V) (c d : PyData), vs = [u, v] ∧ Rp p H u c ∧ Rp p H v d ∧ Q (.bl (f c d)) H
/-- the same where new things may have come -/
def spS1 (f : PyData → Bool) : Sp := fun vs H Q _ => ∃ (p : Addr) (v : V) (d : PyData), vs = [v] ∧ Rp p H v d ∧ ∀ H', Same H H' → Q (.bl (f d)) H'
def spS2 (f : PyData → PyData → Bool) : Sp := fun vs H Q _ => ∃ (p : Addr) (u v : V) (c d : PyData), vs = [u, v] ∧ Rp p H u c ∧ Rp p H v d ∧ ∀ H', Same H H' → Q (.bl (f c d)) H'
theorem ansB {Q : VK} {H : Hp} {b c : Bool} (q : Q (.bl b) H) (e : b = c) : Q (.bl c) H := e ▸ q
theorem iB {A B : Prop} {b : Bool} (h1 : b = true → A) (h2 : b = false → B) : if b = true then A else B := by
  cases b
  · exact iteF (h2 rfl)
  · exact iteT (h1 rfl)
theorem vint_ne {a b : Int} (h : a ≠ b) : ¬ V.int a = V.int b := fun e => h (V.int.inj e)
theorem drop_cons {α : Type} {xs : List α} {i : Nat} {x : α} (h : xs[i]? = some x) : xs.drop i = x :: xs.drop (i + 1) := by
  obtain ⟨hi, e⟩ := List.getElem?_eq_some_iff.mp h
  rw [List.drop_eq_getElem_cons hi, e]
section
variable {P : Program} {w : World} {K : PySem.W.Frag} {mg : Str → Option Value} {base : Heap}
theorem no_call {CX : CXT} {k : Nat} {f : Addr} {fd : FuncData} {ps : List Str} {sp : Sp} (no : ∀ vs H Q E, ¬ sp vs H Q E) : FnOk P w K mg base CX k f fd ps sp :=
  ⟨fun vs H Q E h => absurd h (no vs H Q E), fun A outer s H args us vs Q E _ _ _ _ h => absurd h (no vs H Q E)⟩
end
end Mus

set_option maxRecDepth 100000
set_option maxHeartbeats 4000000
/-! The bag of a law's draws, new things beside it, displays of data, tuples cut and joined. -/
namespace Mus
open PySem L2
def Bag (p : Addr) (c : Int) (H : Hp) : Prop := ∃ x y : Int, H p = some (.lst [.int x, .int y, .int c])
theorem Bag.seqT {K : PySem.W.Frag} {p : Addr} {c : Int} {H H' : Hp} (g : Bag p c H) (b : But p H H') {a : Addr} {xs : List V} (h : SqT K H a xs) : SqT K H' a xs := by
  obtain ⟨x, y, hp⟩ := g
  exact b.seqT hp h
theorem Bag.ne {p D : Addr} {c : Int} {H : Hp} (g : Bag p c H) (h : H D = none) : p ≠ D := by
  obtain ⟨x, y, hp⟩ := g
  exact ne_of_none hp h
theorem Bag.upd {p D : Addr} {c : Int} {H : Hp} {o : HO} (g : Bag p c H) (h : p ≠ D) : Bag p c (upd H D o) := by
  obtain ⟨x, y, hp⟩ := g
  exact ⟨x, y, by rw [upd_ne h]; exact hp⟩
theorem Bag.new {p D : Addr} {c : Int} {H : Hp} {o : HO} (g : Bag p c H) (h : H D = none) : Bag p c (L2.upd H D o) := g.upd (g.ne h)
theorem Bag.same {p : Addr} {c : Int} {H H' : Hp} (g : Bag p c H) (s : Same H H') : Bag p c H' := by
  obtain ⟨x, y, hp⟩ := g
  exact ⟨x, y, s _ _ hp⟩
/-- a new thing -/
theorem But.new {p D : Addr} {H H' : Hp} {o : HO} (b : But p H H') (h : H' D = none) : But p H (L2.upd H' D o) := fun a u e n => by
  have z := b a u e n
  rw [upd_ne (ne_of_none z h)]; exact z
/-- a change at what was not there at first -/
theorem But.later {p D : Addr} {H H' : Hp} {o : HO} (b : But p H H') (h : H D = none) : But p H (L2.upd H' D o) := fun a u e n => by
  rw [upd_ne (ne_of_none e h)]; exact b a u e n
theorem But.free {p D : Addr} {H H' : Hp} (b : But p H H') (h : H' D = none) (n : D ≠ p) : H D = none := by
  cases e : H D with
  | none => rfl
  | some o =>
    have z := b D o e n
    rw [h] at z; cases z
/-! ### displays -/
/-- the expression gives the int i, and that is all -/
def DI (te : TE) (σ : St) (i : Int) : Prop := ∀ (H : Hp) (Q : VK), Q (.int i) H → te σ H Q
/-- the expression gives the data d, new things beside what was -/
def DE (p : Addr) (te : TE) (σ : St) (d : PyData) : Prop := ∀ (c : Int) (H : Hp) (Q : VK), Bag p c H → (∀ v H', Same H H' → Bag p c H' → Rp p H' v d → Q v H') → te σ H Q
def DEs (p : Addr) (ta : TA) (σ : St) (ds : List PyData) : Prop := ∀ (c : Int) (H : Hp) (Q : List V → Hp → Prop), Bag p c H → (∀ vs H', Same H H' → Bag p c H' → Rps p H' vs ds → Q vs H') → ta σ H Q
section
variable {p : Addr} {σ : St} {te ta1 tb1 : TE} {ta : TA} {i j : Int} {d : PyData} {ds : List PyData}
theorem Same.rfl' (H : Hp) : Same H H := fun _ _ h => h
theorem di_c : DI (tC (.int i)) σ i := fun _ _ q => q
theorem di_v {n : Nat} (h : σ[n]? = some (some (.int i))) : DI (tVar n) σ i := fun _ _ q => ⟨_, h, q⟩
theorem di_op {f : Int → Int → Int} (h1 : DI ta1 σ i) (h2 : DI tb1 σ j) : DI (tOp (rI0 fun i j => .int (f i j)) ta1 tb1) σ (f i j) := fun H Q q => h1 H _ (h2 H _ ⟨i, j, rfl, rfl, q⟩)
theorem di_opC {C : Int → Int → Prop} {f : Int → Int → Int} (h1 : DI ta1 σ i) (h2 : DI tb1 σ j) (hc : C i j) : DI (tOp (rI C fun i j => .int (f i j)) ta1 tb1) σ (f i j) := fun H Q q => h1 H _ (h2 H _ ⟨i, j, rfl, rfl, hc, q⟩)
theorem di_neg (h1 : DI te σ i) : DI (tUn (rU fun i => .int (-i)) te) σ (-i) := fun H Q q => h1 H _ ⟨i, rfl, q⟩
theorem de_i (h : DI te σ i) : DE p te σ (.int i) := fun c H Q g q => h H Q (q _ H (Same.rfl' H) g (.int i))
theorem de_bl {b : Bool} : DE p (tC (.bl b)) σ (.bool b) := fun c H Q g q => q _ H (Same.rfl' H) g (.bl b)
theorem de_str {z : Str} : DE p (tC (.str z)) σ (.str z) := fun c H Q g q => q _ H (Same.rfl' H) g (.str z)
theorem de_non : DE p (tC .non) σ .none := fun c H Q g q => q _ H (Same.rfl' H) g .non
theorem des_nil : DEs p tNil σ [] := fun c H Q g q => q [] H (Same.rfl' H) g .nil
theorem des_cons (h1 : DE p te σ d) (h2 : DEs p ta σ ds) : DEs p (tCons te ta) σ (d :: ds) := fun c H Q g q =>
  h1 c H _ g fun v H1 s1 g1 r1 => h2 c H1 _ g1 fun vs H2 s2 g2 r2 => q _ H2 (s1.trans s2) g2 (.cons (r1.same s2) r2)
theorem de_tup (h : DEs p ta σ ds) (hl : ds.length ≤ 1000) : DE p (tTup ta) σ (.tuple ds) := fun c H Q g q =>
  h c H _ g fun vs H1 s1 g1 r1 => ⟨by have := r1.length; have := sl; omega, fun a na => q _ _ (s1.trans (same_new na _)) (g1.new na) (.tup upd_same (g1.ne na).symm (by have := r1.length; omega) (r1.same (same_new na _)))⟩
theorem de_lst (h : DEs p ta σ ds) (hl : ds.length ≤ 1000) : DE p (tLst ta) σ (.list ds) := fun c H Q g q =>
  h c H _ g fun vs H1 s1 g1 r1 => ⟨by have := r1.length; have := sl; omega, fun a na => q _ _ (s1.trans (same_new na _)) (g1.new na) (.lst upd_same (g1.ne na).symm (r1.same (same_new na _)))⟩
theorem de_lstN (n : Nat) (R : PyData → Prop) {c : Int} {H : Hp} {Q : VK} (h : ∃ ds, DEs p ta σ ds ∧ ds.length = n ∧ ∀ d ∈ ds, R d) (hn : n ≤ 1000) (g : Bag p c H)
    (q : ∀ ds v H', ds.length = n → (∀ d ∈ ds, R d) → Same H H' → Bag p c H' → Rp p H' v (.list ds) → Q v H') : tLst ta σ H Q := by
  obtain ⟨ds, h1, h2, h3⟩ := h
  exact de_lst h1 (by omega) c H Q g fun v H' => q ds v H' h2 h3
theorem de_cat {es : List PyData} (h1 : DE p ta1 σ (.list ds)) (h2 : DE p tb1 σ (.list es)) (hl : ds.length + es.length ≤ 1000) : DE p (tOp rCat ta1 tb1) σ (.list (ds ++ es)) := fun c H Q g q =>
  h1 c H _ g fun v H1 s1 g1 r1 => h2 c H1 _ g1 fun u H2 s2 g2 r2 => by
    obtain _ | _ | _ | _ | @⟨a, xs, _, ha, na, hr⟩ | _ := r1.same s2
    obtain _ | _ | _ | _ | @⟨b, ys, _, hb, nb, hr2⟩ | _ := r2
    refine ⟨a, b, xs, ys, rfl, rfl, ha, hb, ?_, fun t nt => q _ _ (s1.trans (s2.trans (same_new nt _))) (g2.new nt) (.lst upd_same (g2.ne nt).symm ((hr.append hr2).same (same_new nt _)))⟩
    have := hr.length; have := hr2.length; have := sl; omega
theorem de_varD {n : Nat} {v : V} (h : σ[n]? = some (some v)) (hd : ∀ H, Rp p H v d) : DE p (tVar n) σ d := fun c H Q g q => ⟨_, h, q _ H (Same.rfl' H) g (hd H)⟩
end
/-! ### tuples cut and joined -/
def cutD (ds : List PyData) (lo hi : Option Int) : List PyData := (ds.drop (HT.sIx ds.length 0 lo)).take (HT.sIx ds.length ds.length hi - HT.sIx ds.length 0 lo)
theorem Rps.cut {p : Addr} {H : Hp} {vs : List V} {ds : List PyData} (r : Rps p H vs ds) (lo hi : Option Int) : Rps p H (cutV vs lo hi) (cutD ds lo hi) := by
  unfold cutV cutD
  rw [r.length]
  exact (r.drop _).take _
theorem cutD_len (ds : List PyData) (lo hi : Option Int) : (cutD ds lo hi).length ≤ ds.length := by
  unfold cutD
  rw [List.length_take, List.length_drop]; omega
theorem cutD_mem {ds : List PyData} {lo hi : Option Int} {d : PyData} (h : d ∈ cutD ds lo hi) : d ∈ ds := List.mem_of_mem_drop (List.mem_of_mem_take h)
theorem cut_whole {xs : List V} {lo hi : Option Int} (h : HT.sIx xs.length 0 lo = 0 ∧ HT.sIx xs.length xs.length hi = xs.length) : cutV xs lo hi = xs := by
  unfold cutV
  rw [h.1, h.2, List.drop_zero, Nat.sub_zero, List.take_length]
section
variable {K : PySem.W.Frag} {p : Addr} {c : Int} {H : Hp} {Q : VK}
theorem rd_cut {a : Addr} {ds : List PyData} {lo hi : Option Int} (r : Rp p H (.ref a) (.tuple ds)) (g : Bag p c H)
    (q : ∀ b H', Same H H' → Bag p c H' → Rp p H' (.ref b) (.tuple (cutD ds lo hi)) → Q (.ref b) H') : rSlA K (.ref a) lo hi H Q := by
  obtain _ | _ | _ | _ | _ | @⟨_, xs, _, ha, na, hw, hr⟩ := r
  refine ⟨a, xs, rfl, SqT.of ha, fun w => ?_, fun w b nb => ?_⟩
  · refine q _ _ (Same.rfl' H) g (.tup ha na hw ?_)
    have z := hr.cut lo hi
    rw [cut_whole w] at z
    exact z
  · exact q _ _ (same_new nb _) (g.new nb) (.tup upd_same (g.ne nb).symm (Nat.le_trans (cutV_length _ _ _) hw) ((hr.cut lo hi).same (same_new nb _)))
theorem rd_cat {a b : Addr} {ds es : List PyData} (r1 : Rp p H (.ref a) (.tuple ds)) (r2 : Rp p H (.ref b) (.tuple es)) (g : Bag p c H) (hl : ds.length + es.length ≤ 100000)
    (q : ∀ t H', Same H H' → Bag p c H' → Rp p H' (.ref t) (.tuple (ds ++ es)) → Q (.ref t) H') : rCatA K (.ref a) (.ref b) H Q := by
  have k2 := r2
  have k1 := r1
  obtain _ | _ | _ | _ | _ | @⟨_, xs, _, ha, na, hw, hr⟩ := r1
  obtain _ | _ | _ | _ | _ | @⟨_, ys, _, hb, nb, hw2, hr2⟩ := r2
  have l1 := hr.length
  have l2 := hr2.length
  have hs := sl
  refine ⟨a, b, xs, ys, rfl, rfl, SqT.of ha, SqT.of hb, by omega, fun e => ?_, fun _ e => ?_, fun _ _ t nt => ?_⟩
  · subst e
    cases ds with
    | nil => exact q _ _ (Same.rfl' H) g k2
    | cons _ _ => cases l1
  · subst e
    cases es with
    | nil => rw [List.append_nil] at q; exact q _ _ (Same.rfl' H) g k1
    | cons _ _ => cases l2
  · exact q _ _ (same_new nt _) (g.new nt) (.tup upd_same (g.ne nt).symm (by rw [List.length_append]; omega) ((hr.append hr2).same (same_new nt _)))
end
/-! ### how deep and wide, what its texts are -/
def fit : Nat → PyData → Prop
  | 0, .tuple _ => False
  | n + 1, .tuple ds => ds.length ≤ 3000 ∧ ∀ d ∈ ds, fit n d
  | _, _ => True
inductive Her (P : Str → Prop) : PyData → Prop
  | tup {ds : List PyData} : (∀ d ∈ ds, Her P d) → Her P (.tuple ds)
  | str {z : Str} : P z → Her P (.str z)
  | non : Her P .none
  | bl (b : Bool) : Her P (.bool b)
  | int (i : Int) : Her P (.int i)
  | lst (ds : List PyData) : Her P (.list ds)
theorem Her.mem {P : Str → Prop} {ds : List PyData} (h : Her P (.tuple ds)) : ∀ d ∈ ds, Her P d := by
  cases h with
  | tup h => exact h
theorem Her.cut {P : Str → Prop} {ds : List PyData} (h : Her P (.tuple ds)) (lo hi : Option Int) : Her P (.tuple (cutD ds lo hi)) := .tup fun d m => h.mem d (cutD_mem m)
theorem Her.app {P : Str → Prop} {ds es : List PyData} (h : Her P (.tuple ds)) (k : Her P (.tuple es)) : Her P (.tuple (ds ++ es)) := .tup fun d m => by
  rcases List.mem_append.mp m with m | m
  · exact h.mem d m
  · exact k.mem d m
theorem Her.one {P : Str → Prop} {d : PyData} (h : Her P d) : Her P (.tuple [d]) := .tup fun e m => by rw [List.mem_singleton.mp m]; exact h
/-- one level less, if there is one -/
def spv (sp : Nat → Sp) (n : Nat) : Sp := fun vs H Q E => ∃ m, n = m + 1 ∧ sp m vs H Q E
/-- a thing spoilt: some data, its texts from the two -/
def sp_spoilt (n : Nat) : Sp := fun vs H Q _ => ∃ (p : Addr) (c : Int) (v o : V) (d e : PyData), vs = [.ref p, v, o] ∧ Bag p c H ∧ Rp p H v d ∧ Rp p H o e ∧ fit n d ∧
  ∀ v' d' H', Rp p H' v' d' → (∀ P, Her P d → Her P e → Her P d') → But p H H' → Bag p c H' → Q v' H'
def sp_bag (K : PySem.W.Frag) : Sp := fun vs H Q _ => ∃ (a : Addr) (ns : List Int) (k : Nat), vs = [.ref a, .int k] ∧ SqL K H a (ns.map V.int) ∧ ∀ p H', H p = none → Same H H' → Bag p k H' → Q (.ref p) H'
def sp_draw : Sp := fun vs H Q _ => ∃ (p : Addr) (c m : Int), vs = [.ref p, .int m] ∧ Bag p c H ∧ 0 < m ∧ m.natAbs < 2 ^ 100 ∧ ∀ r H', 0 ≤ r → r < m → But p H H' → Bag p c H' → Q (.int r) H'
/-- an int at least 1 and at most 10 ** 12 -/
def sp_pos : Sp := fun vs H Q _ => ∃ (p : Addr) (c : Int), vs = [.ref p] ∧ Bag p c H ∧ ∀ r H', 1 ≤ r → r ≤ 1000000000000 → But p H H' → Bag p c H' → Q (.int r) H'
end Mus
namespace Mus
open PySem L2
/-- no list in it -/
inductive NoL : PyData → Prop
  | tup {ds : List PyData} : (∀ d ∈ ds, NoL d) → NoL (.tuple ds)
  | str (z : Str) : NoL (.str z)
  | non : NoL .none
  | bl (b : Bool) : NoL (.bool b)
  | int (i : Int) : NoL (.int i)
theorem NoL.mem {ds : List PyData} (h : NoL (.tuple ds)) : ∀ d ∈ ds, NoL d := by
  cases h with
  | tup h => exact h
theorem NoL.two {a b : PyData} (h : NoL a) (k : NoL b) : NoL (.tuple [a, b]) := .tup fun d m => by
  rcases List.mem_cons.mp m with rfl | m
  · exact h
  · rw [List.mem_singleton.mp m]; exact k
theorem NoL.three {a b c : PyData} (h : NoL a) (k : NoL b) (l : NoL c) : NoL (.tuple [a, b, c]) := .tup fun d m => by
  rcases List.mem_cons.mp m with rfl | m
  · exact h
  · rcases List.mem_cons.mp m with rfl | m
    · exact k
    · rw [List.mem_singleton.mp m]; exact l
mutual
theorem Rp.upL {p D : Addr} {H H' : Hp} {ys : List V} (hD : H D = some (.lst ys)) (k : ∀ b o, H b = some o → b ≠ p → b ≠ D → H' b = some o) : ∀ {v : V} {d : PyData}, Rp p H v d → NoL d → Rp p H' v d
  | _, _, .non, _ => .non
  | _, _, .bl b, _ => .bl b
  | _, _, .int i, _ => .int i
  | _, _, .str x, _ => .str x
  | _, _, .lst h n r, z => nomatch z
  | _, _, .tup h n l r, z => .tup (k _ _ h n (ne_of h hD (by intro z; cases z))) n l (Rps.upL hD k r z.mem)
theorem Rps.upL {p D : Addr} {H H' : Hp} {ys : List V} (hD : H D = some (.lst ys)) (k : ∀ b o, H b = some o → b ≠ p → b ≠ D → H' b = some o) : ∀ {vs : List V} {ds : List PyData}, Rps p H vs ds → (∀ d ∈ ds, NoL d) → Rps p H' vs ds
  | _, _, .nil, _ => .nil
  | _, _, .cons a b, z => .cons (Rp.upL hD k a (z _ List.mem_cons_self)) (Rps.upL hD k b fun d m => z d (List.mem_cons_of_mem _ m))
end
/-- a change at the list at D -/
theorem Rps.updL {p D : Addr} {H : Hp} {ys : List V} {o : HO} (hD : H D = some (.lst ys)) {vs : List V} {ds : List PyData} (r : Rps p H vs ds) (z : ∀ d ∈ ds, NoL d) : Rps p (upd H D o) vs ds :=
  r.upL hD (fun b o h _ n => by rw [upd_ne n]; exact h) z
theorem Rp.updL {p D : Addr} {H : Hp} {ys : List V} {o : HO} (hD : H D = some (.lst ys)) {v : V} {d : PyData} (r : Rp p H v d) (z : NoL d) : Rp p (upd H D o) v d :=
  r.upL hD (fun b o h _ n => by rw [upd_ne n]; exact h) z
end Mus

set_option maxRecDepth 100000
set_option maxHeartbeats 4000000
/-! Methods and makers of own classes, as DefOk is for defs. -/
namespace Mus
open PySem L2
structure MethOk (P : Program) (w : World) (K : PySem.W.Frag) (mg : Str → Option Value) (base : Heap) (CX : CXT) (C : Addr) (x : Str) (ps : List Str) (k : Nat) (sp : Sp) where
  f : Addr
  fd : FuncData
  G : FnOk P w K mg base CX k f fd ps sp
  m : Meth K C x f
  b : Binds K fd ps []
structure MethAt (K : PySem.W.Frag) (C : Addr) (x qual : Str) (ps : List Str) (st : Stmt) where
  f : Addr
  fd : FuncData
  F : Fun K x qual st f fd
  m : Meth K C x f
  b : Binds K fd ps []
def MethAt.ok {P : Program} {w : World} {K : PySem.W.Frag} {mg : Str → Option Value} {base : Heap} {CX : CXT} {C : Addr} {x qual : Str} {ps : List Str} {st : Stmt} {k : Nat} {sp : Sp} (d : MethAt K C x qual ps st) (h : ∀ {f : Addr} {fd : FuncData}, Fun K x qual st f fd → FnOk P w K mg base CX k f fd ps sp) : MethOk P w K mg base CX C x ps k sp :=
  ⟨d.f, d.fd, h d.F, d.m, d.b⟩
/-- a class whose __init__ keeps the promise -/
structure MkOk (P : Program) (w : World) (K : PySem.W.Frag) (mg : Str → Option Value) (base : Heap) (C : Addr) (x : Str) (ps : List Str) (k : Nat) (sp : Sp) where
  f : Addr
  fd : FuncData
  G : FnOk P w K mg base CX0 k f fd ps sp
  M : Mk K C f
  g : mg x = some (.ref C)
  b : Binds K fd ps []
def MethAt.mk' {P : Program} {w : World} {K : PySem.W.Frag} {mg : Str → Option Value} {base : Heap} {C : Addr} {x : Str} {qual : Str} {ps : List Str} {st : Stmt} {k : Nat} {sp : Sp} (d : MethAt K C "__init__" qual ps st) (hm : PySem.W.makesIn K C = true) (hk : PySem.W.keepIn K (.ref C) = true) (g : mg x = some (.ref C))
    (h : ∀ {f : Addr} {fd : FuncData}, Fun K "__init__" qual st f fd → FnOk P w K mg base CX0 k f fd ps sp) : MkOk P w K mg base C x ps k sp :=
  ⟨d.f, d.fd, h d.F, ⟨hm, d.m.at_, d.m.fn, hk⟩, g, d.b⟩
section
variable {X : Cx} {C : Addr} {x m : Str} {ps : List Str} {j k : Nat} {sp : Sp} {o e : Expr} {es : List Expr} {to : TE} {t : TA} {p pos apos : Pos}
theorem pmeth {pl : Sem Bool} (c : MethOk X.prog X.w X.K X.mg X.base CX0 C m ps j sp) (cl : Cls X.K C) (ho : PE X o to) (hr : Room k X.A) (ha : PA X (e :: es) t) (hj : j ≤ k := by first | decide | omega)
    (st0 : starEach (e :: es) X.env = (false, eval e X.env) :: starEach es X.env := by rfl) (pl0 : (backTo pos (starEach es X.env)).any (·.1) = false := by rfl)
    (ht : eval (.Call (.Attribute o m apos) (e :: es) [] pos) X.env = (do
      let v ← eval o X.env; standAt apos.atName; let (f, one) ← holding [v] (getMethod v m pl)
      callWith pos f one (backTo pos (starEach (e :: es) X.env)) (backToKw pos (keywordEach [] X.env))) := by rfl) :
    PE X (.Call (.Attribute o m apos) (e :: es) [] pos) (tMeth C m sp [] E0 to t) := pe_meth ho cl c.m c.G (hr.mono hj) c.b .nil pass0 ha st0 pl0 ht
theorem pmeth0 {pl : Sem Bool} (c : MethOk X.prog X.w X.K X.mg X.base CX0 C m ps j sp) (cl : Cls X.K C) (ho : PE X o to) (hr : Room k X.A) (hj : j ≤ k := by first | decide | omega)
    (ht : eval (.Call (.Attribute o m apos) [] [] pos) X.env = (do
      let v ← eval o X.env; standAt apos.atName; let (f, one) ← holding [v] (getMethod v m pl)
      callWith pos f one (backTo pos (starEach [] X.env)) (backToKw pos (keywordEach [] X.env))) := by rfl) :
    PE X (.Call (.Attribute o m apos) [] [] pos) (tMeth C m sp [] E0 to tNil) := pe_meth0 ho cl c.m c.G (hr.mono hj) c.b .nil pass0 ht
theorem pmake (c : MkOk X.prog X.w X.K X.mg X.base C x ps j sp) (hr : Room k X.A) (ha : PA X (e :: es) t) (hj : j + 1 ≤ k := by first | decide | omega) (hg : Gl X x := by rfl)
    (d0 : (x == ("__debug__" : Str)) = false := by decide) (st0 : starEach (e :: es) X.env = (false, eval e X.env) :: starEach es X.env := by rfl) (pl0 : (backTo pos (starEach es X.env)).any (·.1) = false := by rfl) :
    PE X (.Call (.Name x p) (e :: es) [] pos) (tMake C sp [] E0 t) := pe_make c.M c.G (hr.mono hj) hg c.g c.b .nil pass0 ha d0 st0 pl0
theorem pmake0 (c : MkOk X.prog X.w X.K X.mg X.base C x ps j sp) (hr : Room k X.A) (hj : j + 1 ≤ k := by first | decide | omega) (hg : Gl X x := by rfl) (d0 : (x == ("__debug__" : Str)) = false := by decide) :
    PE X (.Call (.Name x p) [] [] pos) (tMake C sp [] E0 tNil) := pe_make0 c.M c.G (hr.mono hj) hg c.g c.b .nil pass0 d0
end
end Mus

set_option maxRecDepth 100000
set_option maxHeartbeats 4000000
/-! Errors of the program's own: made without arguments, let out by methods. -/
namespace Mus
open PySem PySem.Spec PyProof.Rows L2
section
variable {X : Cx} {C : Addr} {bmB : List Value} {B newId initId : String}
theorem pmk_own0 {x : Str} {p pos : Pos} (F : ExcBaseFacts B newId initId bmB) (q : PySem.W.excIn X.K C bmB newId = true) (gC : X.mg x = some (.ref C)) (kC : PySem.W.keepIn X.K (.ref C) = true) (r : Raises X (.ref C)) (hg : Gl X x := by rfl)
    (hdb : (x == ("__debug__" : Str)) = false := by decide) : PMk X (.Call (.Name x p) [] [] pos) (fun _ H Q => Q (.ref C) none H) := by
  intro pins s σ H Q I h
  refine wpAny_Call_Name_kw (ld_glob I hg gC ?_ hdb)
  refine PySem.W.callWith_K0 I.kIn kC ?_
  show wpAny _ _ (call (.ref C) []) _ _ _
  obtain ⟨mem, g, dw, tn, io⟩ := s
  obtain ⟨chain, N, nm0, qn, bs, hdct, sn, sub, ab, col, dd, k0, k1, k2, k3, k5, mN, cC, hN, hni, T⟩ := exc_obj I.kIn q
  exact wpAny_call_exc_subT F T cC hN hni (fun h' a hm => mk_of I hm r h (I.hok.gone hm.new)) (by show 0 ≤ sizeLine; rw [sizeLine_eq]; omega)
end
section
variable {X : Cx} {C : Addr} {x m : Str} {ps : List Str} {j k : Nat} {sp : Sp} {o e : Expr} {es : List Expr} {to : TE} {t : TA} {p pos apos : Pos} {W : WX} {E : XK}
/-- o.m(e, ..), what it lets out leaves this def, too -/
theorem pmethE {pl : Sem Bool} (c : MethOk X.prog X.w X.K X.mg X.base (L2.CX X.prog X.w) C m ps j sp) (cl : Cls X.K C) (tk : Takes X W) (hW : ∀ cls d σ H, E cls d H → W cls d σ H) (ho : PE X o to) (hr : Room k X.A) (ha : PA X (e :: es) t) (hj : j ≤ k := by first | decide | omega)
    (st0 : starEach (e :: es) X.env = (false, eval e X.env) :: starEach es X.env := by rfl) (pl0 : (backTo pos (starEach es X.env)).any (·.1) = false := by rfl)
    (ht : eval (.Call (.Attribute o m apos) (e :: es) [] pos) X.env = (do
      let v ← eval o X.env; standAt apos.atName; let (f, one) ← holding [v] (getMethod v m pl)
      callWith pos f one (backTo pos (starEach (e :: es) X.env)) (backToKw pos (keywordEach [] X.env))) := by rfl) :
    PE X (.Call (.Attribute o m apos) (e :: es) [] pos) (tMeth C m sp [] E to t) := pe_meth ho cl c.m c.G (hr.mono hj) c.b .nil (passes_call tk hW) ha st0 pl0 ht
theorem pmethE0 {pl : Sem Bool} (c : MethOk X.prog X.w X.K X.mg X.base (L2.CX X.prog X.w) C m ps j sp) (cl : Cls X.K C) (tk : Takes X W) (hW : ∀ cls d σ H, E cls d H → W cls d σ H) (ho : PE X o to) (hr : Room k X.A) (hj : j ≤ k := by first | decide | omega)
    (ht : eval (.Call (.Attribute o m apos) [] [] pos) X.env = (do
      let v ← eval o X.env; standAt apos.atName; let (f, one) ← holding [v] (getMethod v m pl)
      callWith pos f one (backTo pos (starEach [] X.env)) (backToKw pos (keywordEach [] X.env))) := by rfl) :
    PE X (.Call (.Attribute o m apos) [] [] pos) (tMeth C m sp [] E to tNil) := pe_meth0 ho cl c.m c.G (hr.mono hj) c.b .nil (passes_call tk hW) ht
/-- f(e, ..), the same of a def -/
theorem pcallE (c : DefOk X.prog X.w X.K X.mg X.base (L2.CX X.prog X.w) x ps j sp) (tk : Takes X W) (hW : ∀ cls d σ H, E cls d H → W cls d σ H) (hr : Room k X.A) (ha : PA X (e :: es) t) (hj : j ≤ k := by first | decide | omega) (hg : Gl X x := by rfl)
    (db0 : (x == ("__debug__" : Str)) = false := by decide) (st0 : starEach (e :: es) X.env = (false, eval e X.env) :: starEach es X.env := by rfl) (pl0 : (backTo pos (starEach es X.env)).any (·.1) = false := by rfl) :
    PE X (.Call (.Name x p) (e :: es) [] pos) (tCall sp [] E t) := pe_call c.G (hr.mono hj) hg c.m c.kp c.b .nil (passes_call tk hW) ha db0 st0 pl0
end
end Mus

set_option maxRecDepth 100000
set_option maxHeartbeats 4000000
/-! Calls whose errors are caught where the slots stand. -/
namespace Mus
open PySem PySem.Spec PyProof.Rows L2
/-! ### calls in a try's body -/
def tMethA (C : Addr) (m : Str) (sp : Sp) (E : L2.St → XK) (ta : TE) (t : TA) : TE := fun σ H Q => ta σ H fun x H1 => ∃ a dx fs, x = .ref a ∧ H1 a = some (.ins C dx fs) ∧ fs.lookup m = none ∧ t σ H1 fun vs H2 => sp (x :: vs) H2 Q (E σ)
section
variable {X : Cx} {C : Addr} {x m : Str} {ps : List Str} {j k : Nat} {sp : Sp} {o e : Expr} {es : List Expr} {to : TE} {t : TA} {p pos apos : Pos} {W : WX}
theorem pmethA {pl : Sem Bool} (c : MethOk X.prog X.w X.K X.mg X.base (L2.CX X.prog X.w) C m ps j sp) (cl : Cls X.K C) (tk : Takes X W) (ho : PE X o to) (hr : Room k X.A) (ha : PA X (e :: es) t) (hj : j ≤ k := by first | decide | omega)
    (st0 : starEach (e :: es) X.env = (false, eval e X.env) :: starEach es X.env := by rfl) (pl0 : (backTo pos (starEach es X.env)).any (·.1) = false := by rfl)
    (ht : eval (.Call (.Attribute o m apos) (e :: es) [] pos) X.env = (do
      let v ← eval o X.env; standAt apos.atName; let (f, one) ← holding [v] (getMethod v m pl)
      callWith pos f one (backTo pos (starEach (e :: es) X.env)) (backToKw pos (keywordEach [] X.env))) := by rfl) :
    PE X (.Call (.Attribute o m apos) (e :: es) [] pos) (tMethA C m sp (WE W) to t) := by
  refine ⟨fun pins s σ H Q I h => ?_⟩
  refine PySem.W.methodCall_KW (pl := pl) (thn (ho.run pins s σ H _ I h) fun u s1 ⟨x, H1, I1, rx, a, dx, fs, ex, ea, l, q⟩ => ?_) ht
  subst ex
  obtain rfl : u = Value.ref a := rx
  refine getmeth_ok I1 ea cl c.m l ?_
  refine PySem.W.callWith_K (first := [.ref a]) (h₀ := X.base) I.ok.mod.kin c.m.kp (thn (ha.run pos pins s1 σ H1 _ I1 q) fun us s2 ⟨vs, H2, I2, r, q2⟩ => ⟨I2.kIn, ?_⟩) st0 pl0
  exact run_fnS (us := .ref a :: us) (vs := .ref a :: vs) c.G (hr.mono hj) c.b (passAt tk σ) I2 (.cons rfl r) q2
theorem pmethA0 {pl : Sem Bool} (c : MethOk X.prog X.w X.K X.mg X.base (L2.CX X.prog X.w) C m ps j sp) (cl : Cls X.K C) (tk : Takes X W) (ho : PE X o to) (hr : Room k X.A) (hj : j ≤ k := by first | decide | omega)
    (ht : eval (.Call (.Attribute o m apos) [] [] pos) X.env = (do
      let v ← eval o X.env; standAt apos.atName; let (f, one) ← holding [v] (getMethod v m pl)
      callWith pos f one (backTo pos (starEach [] X.env)) (backToKw pos (keywordEach [] X.env))) := by rfl) :
    PE X (.Call (.Attribute o m apos) [] [] pos) (tMethA C m sp (WE W) to tNil) := by
  refine ⟨fun pins s σ H Q I h => ?_⟩
  refine PySem.W.methodCall_KW (pl := pl) (thn (ho.run pins s σ H _ I h) fun u s1 ⟨x, H1, I1, rx, a, dx, fs, ex, ea, l, q⟩ => ?_) ht
  subst ex
  obtain rfl : u = Value.ref a := rx
  refine getmeth_ok I1 ea cl c.m l ?_
  refine PySem.W.callWith_K0 (first := [.ref a]) I1.kIn c.m.kp ?_
  exact run_fnS (us := [.ref a]) (vs := [.ref a]) c.G (hr.mono hj) c.b (passAt tk σ) I1 (.cons rfl .nil) q
theorem pcallA (c : DefOk X.prog X.w X.K X.mg X.base (L2.CX X.prog X.w) x ps j sp) (tk : Takes X W) (hr : Room k X.A) (ha : PA X (e :: es) t) (hj : j ≤ k := by first | decide | omega) (hg : Gl X x := by rfl)
    (db0 : (x == ("__debug__" : Str)) = false := by decide) (st0 : starEach (e :: es) X.env = (false, eval e X.env) :: starEach es X.env := by rfl) (pl0 : (backTo pos (starEach es X.env)).any (·.1) = false := by rfl) :
    PE X (.Call (.Name x p) (e :: es) [] pos) (tCallS sp (WE W) t) := pe_callS c.G (hr.mono hj) hg c.m c.kp c.b (fun σ => passAt tk σ) ha db0 st0 pl0
end
end Mus

set_option maxRecDepth 100000
set_option maxHeartbeats 4000000
/-! The same rules, so that Lean finds the inner readings: they may name what they don't depend on. -/
namespace Mus
open PySem PySem.Spec PyProof.Rows L2
def s00 : Shared := {}
def h00 : Hp := fun _ => none
def o00 : Obj := default
def x00 : Value → Shared → Prop := fun _ _ => False
section
variable {X : Cx} {x n : Str} {c : Value} {i : Nat} {body suite : List Stmt} {b₀ : Stmt} {np pos pos' : Pos} {tb : WX → List (Addr × Obj) → (Value → Shared → Prop) → TS} {ts : Addr → Obj → Value → Option Addr → List (Addr × Obj) → TS} {Wout : WX}
theorem ps_tryAs (hs : X.stack = X.env :: X.outer) (hf : X.env.frame = some X.env.locals) (hN : X.N.Nodup) (hi : X.N[i]? = some n) (hln : X.env.kindOf n = some .local) (hc : Names X x c) (tk : Takes X Wout)
    (hb : ∀ W pn xe, Takes (X.tr pn xe) W → PassesOwn (model X.prog X.w) X.A X.env xe → PSs (X.tr pn xe) body (tb W pn xe)) (hsu : ∀ a oe cls d pn, Zc cls d oe → (∃ vs, oe.data = .fields vs) → PSs (X.suite a ((a, oe) :: pn)) (b₀ :: suite) (ts a oe cls d pn))
    (i1 : ∀ W pn xe, tb W pn xe = tb W [] x00 := by intros; rfl) (i2 : ∀ a oe cls d pn, ts a oe cls d pn = ts a o00 cls d [] := by intros; rfl) :
    PS X (.Try body [.ExceptHandler (some (.Name x np)) (some n) (b₀ :: suite) pos'] [] [] pos) (fun D σ H => tb (wAs X.K c i (fun a cls d => ts a o00 cls d []) Wout D) [] x00 D σ H) :=
  ps_try_as (tb := fun W => tb W [] x00) hs hf hN hi hln hc tk (fun W pn xe t p => i1 W pn xe ▸ hb W pn xe t p) fun a oe cls d pn z f => i2 a oe cls d pn ▸ hsu a oe cls d pn z f
end
section
variable {X : Cx} {body : List Stmt} {h₀ : ExceptHandler} {hds : List ExceptHandler} {l : List (Value × (Addr → Value → Option Addr → TS))} {pos : Pos} {tb : WX → List (Addr × Obj) → (Value → Shared → Prop) → TS} {Wout : WX}
theorem ps_tryX (hs : X.stack = X.env :: X.outer) (hf : X.env.frame = some X.env.locals) (tk : Takes X Wout)
    (hb : ∀ W pn xe, Takes (X.tr pn xe) W → PassesOwn (model X.prog X.w) X.A X.env xe → PSs (X.tr pn xe) body (tb W pn xe)) (hh : HdsOk X (h₀ :: hds) l) (i1 : ∀ W pn xe, tb W pn xe = tb W [] x00 := by intros; rfl) :
    PS X (.Try body (h₀ :: hds) [] [] pos) (fun D σ H => tb (wMany X.K Wout D l) [] x00 D σ H) :=
  ps_try_many (tb := fun W => tb W [] x00) hs hf tk (fun W pn xe t p => i1 W pn xe ▸ hb W pn xe t p) hh
theorem hd_one {x : Str} {c : Value} {ts : Addr → Obj → Value → Option Addr → List (Addr × Obj) → TS} {b₀ : Stmt} {suite : List Stmt} {np pos' : Pos} (hc : Names X x c)
    (hsu : ∀ a oe cls d pn, Zc cls d oe → (∃ vs, oe.data = .fields vs) → PSs (X.suite a ((a, oe) :: pn)) (b₀ :: suite) (ts a oe cls d pn)) (r : HdsOk X hds l) (i2 : ∀ a oe cls d pn, ts a oe cls d pn = ts a o00 cls d [] := by intros; rfl) :
    HdsOk X (.ExceptHandler (some (.Name x np)) none (b₀ :: suite) pos' :: hds) ((c, fun a cls d => ts a o00 cls d []) :: l) :=
  .cons hc (fun a oe cls d pn z f => i2 a oe cls d pn ▸ hsu a oe cls d pn z f) r
end
section
variable {X : Cx} {elt tg iter : Expr} {ifs : List Expr} {scope : Scope} {own : List (Str × Nat)} {pos : Pos} {wi : TI} {g : Shared → Hp → Addr → List (Str × Addr) → List Addr → TG} {tt : Shared → Hp → Addr → List (Str × Addr) → List Addr → TT} {te : Shared → Hp → Addr → List (Str × Addr) → List Addr → TE}
theorem pe_lcX (hc : X.calm = true) (hN : X.N.Nodup) (hi : PI X tg iter wi) (ok : BlkOk X.N X.env.scope scope own)
    (hg : ∀ (s : Shared) (H : Hp) (C : Addr) (cl : List (Str × Addr)) (fp : List Addr), PG (X.blk s H scope (compEnvC scope cl C X.env) fp) tg (g s H C cl fp)) (ht : ∀ (s : Shared) (H : Hp) (C : Addr) (cl : List (Str × Addr)) (fp : List Addr), PTs (X.blk s H scope (compEnvC scope cl C X.env) fp) ifs (tt s H C cl fp))
    (he : ∀ (s : Shared) (H : Hp) (C : Addr) (cl : List (Str × Addr)) (fp : List Addr), PE (X.blk s H scope (compEnvC scope cl C X.env) fp) elt (te s H C cl fp)) (hs : ∀ x, foldedSetIterable iter X.env x = pure x := by intro _; rfl)
    (i1 : ∀ s H C cl fp, g s H C cl fp = g s00 h00 0 [] [] := by intros; rfl) (i2 : ∀ s H C cl fp, tt s H C cl fp = tt s00 h00 0 [] [] := by intros; rfl) (i3 : ∀ s H C cl fp, te s H C cl fp = te s00 h00 0 [] [] := by intros; rfl) :
    PE X (.ListComp elt [⟨tg, iter, ifs, 0⟩] scope pos) (tLc wi (g s00 h00 0 [] []) (tt s00 h00 0 [] []) (te s00 h00 0 [] []) (own.map (·.2))) :=
  pe_lc hc hN hi ok (fun s H C cl fp => i1 s H C cl fp ▸ hg s H C cl fp) (fun s H C cl fp => i2 s H C cl fp ▸ ht s H C cl fp) (fun s H C cl fp => i3 s H C cl fp ▸ he s H C cl fp) hs
theorem ps_setLcX {i : Nat} {y : Str} {py : Pos} {spos : Pos} (hc : X.calm = true) (hN : X.N.Nodup) (hy : X.N[i]? = some y) (hyl : X.env.scope.names.lookup y = some .local)
    (hsw : swapsWith (.ListComp elt [⟨tg, iter, ifs, 0⟩] scope pos) (some (.Name y py)) spos.line X.env = pure true) (hi : PI X tg iter wi) (ok : BlkOk X.N X.env.scope scope own)
    (hg : ∀ (s : Shared) (H : Hp) (C : Addr) (cl : List (Str × Addr)) (fp : List Addr), PG (X.blk s H scope (compEnvC scope cl C X.env) fp) tg (g s H C cl fp)) (ht : ∀ (s : Shared) (H : Hp) (C : Addr) (cl : List (Str × Addr)) (fp : List Addr), PTs (X.blk s H scope (compEnvC scope cl C X.env) fp) ifs (tt s H C cl fp))
    (he : ∀ (s : Shared) (H : Hp) (C : Addr) (cl : List (Str × Addr)) (fp : List Addr), PE (X.blk s H scope (compEnvC scope cl C X.env) fp) elt (te s H C cl fp)) (hs : ∀ x, foldedSetIterable iter X.env x = pure x := by intro _; rfl)
    (i1 : ∀ s H C cl fp, g s H C cl fp = g s00 h00 0 [] [] := by intros; rfl) (i2 : ∀ s H C cl fp, tt s H C cl fp = tt s00 h00 0 [] [] := by intros; rfl) (i3 : ∀ s H C cl fp, te s H C cl fp = te s00 h00 0 [] [] := by intros; rfl) :
    PS X (.Assign [.Name y py] (.ListComp elt [⟨tg, iter, ifs, 0⟩] scope pos) spos) (tAsg (tLc wi (g s00 h00 0 [] []) (tt s00 h00 0 [] []) (te s00 h00 0 [] []) (own.map (·.2))) (gName i)) :=
  ps_setLc hc hN hy hyl hsw hi ok (fun s H C cl fp => i1 s H C cl fp ▸ hg s H C cl fp) (fun s H C cl fp => i2 s H C cl fp ▸ ht s H C cl fp) (fun s H C cl fp => i3 s H C cl fp ▸ he s H C cl fp) hs
end
end Mus

set_option maxRecDepth 100000
set_option maxHeartbeats 4000000
/-! An own error class with two fields: raised, caught by name, its fields read. -/
namespace Mus
open PySem PySem.Spec PyProof.Rows L2
structure ExOk (P : Program) (w : World) (K : PySem.W.Frag) (mg : Str → Option Value) (base : Heap) (C : Addr) (x : Str) (ps : List Str) (k : Nat) (sp : Sp) where
  f : Addr
  fd : FuncData
  G : FnOk P w K mg base CX0 k f fd ps sp
  o : OexC K C
  i : PySem.W.findIn K (.ref C) "__init__" = some (some (.ref f))
  t : PySem.W.typeIn K (.ref f) = some (.type "function")
  m : mg x = some (.ref C)
  b : Binds K fd ps []
section
variable {X : Cx} {C : Addr} {x : Str} {ps : List Str} {j k : Nat} {sp : Sp} {e : Expr} {es : List Expr} {ta : TA} {p pos pos' : Pos} {W : WX}
theorem praise (c : ExOk X.prog X.w X.K X.mg X.base C x ps j sp) (tk : Takes X W) (hr : Room k X.A) (ha : PA X (e :: es) ta) (hc : X.calm = true := by rfl) (hj : j + 1 ≤ k := by first | decide | omega) (hg : Gl X x := by rfl)
    (hdb : (x == ("__debug__" : Str)) = false := by decide) (he : starEach (e :: es) X.env = (false, eval e X.env) :: starEach es X.env := by rfl) (hpl : (backTo pos (starEach es X.env)).any (·.1) = false := by rfl) :
    PS X (.Raise (some (.Call (.Name x p) (e :: es) [] pos)) none pos') (fun _ σ H => tMkO C sp [] ta σ H fun cls d H' => W cls d σ H') :=
  ps_raise hc tk (pmk_oex c.o c.i c.t c.G (hr.mono hj) c.b .nil pass0 hg c.m ha hdb he hpl)
end
/-- the __init__ of BadSchedule: two fields, the line first -/
def sp_bs (C : Addr) : Sp := fun vs H Q _ => ∃ (a : Addr) (u v : V), vs = [.ref a, u, v] ∧ H a = some (exo a C none) ∧ ∀ d H', H d = none → (∀ b o, H b = some o → b ≠ a → H' b = some o) → H' a = some (exo a C (some d)) → H' d = some (exd d [("reason", v), ("line", u)]) → Q .non H'
def bsF (u v : V) : List (Str × V) := [("reason", v), ("line", u)]
theorem rd_bs {C : Addr} {ta tb : TE} {u v : V} {σ : L2.St} {H : Hp} {Q : XK} (h1 : ∀ R : VK, R u H → ta σ H R) (h2 : ∀ R : VK, R v H → tb σ H R) (q : ∀ d H', H d = none → Same H H' → H' d = some (.xd (bsF u v)) → Q (.ref C) (some d) H') :
    tMkO C (sp_bs C) [] (tCons ta (tCons tb tNil)) σ H Q := by
  refine h1 _ (h2 _ ⟨by show 2 ≤ 1000; decide, fun a na => ⟨a, u, v, rfl, upd_same, fun d H' nd fr ha hd => ⟨rfl, d, _, ha, hd, ?_, ?_⟩⟩⟩)
  · have da : d ≠ a := fun z => by rw [z, upd_same] at nd; cases nd
    rwa [upd_ne da] at nd
  · have da : d ≠ a := fun z => by rw [z, upd_same] at nd; cases nd
    have nd' : H d = none := by rwa [upd_ne da] at nd
    refine q d _ nd' (fun b o hb => ?_) upd_same
    have hbd : b ≠ d := ne_of_none hb nd'
    have hba : b ≠ a := ne_of_none hb na
    rw [upd_ne hbd, del_ne hba]
    exact fr b o (by rw [upd_ne hba]; exact hb) hba
end Mus

set_option maxRecDepth 100000
set_option maxHeartbeats 4000000
/-! Displays of data, with no bag: p is any place that is taken. -/
namespace Mus
open PySem L2
def Occ (p : Addr) (H : Hp) : Prop := ∃ o, H p = some o
theorem Occ.same {p : Addr} {H H' : Hp} (g : Occ p H) (s : Same H H') : Occ p H' := by
  obtain ⟨o, h⟩ := g
  exact ⟨o, s _ _ h⟩
theorem Occ.ne {p D : Addr} {H : Hp} (g : Occ p H) (h : H D = none) : p ≠ D := by
  obtain ⟨o, hp⟩ := g
  exact ne_of_none hp h
def ZE (p : Addr) (te : TE) (σ : St) (d : PyData) : Prop := ∀ (H : Hp) (Q : VK), Occ p H → (∀ v H', Same H H' → Rp p H' v d → Q v H') → te σ H Q
def ZEs (p : Addr) (ta : TA) (σ : St) (ds : List PyData) : Prop := ∀ (H : Hp) (Q : List V → Hp → Prop), Occ p H → (∀ vs H', Same H H' → Rps p H' vs ds → Q vs H') → ta σ H Q
section
variable {p : Addr} {σ : St} {te ta1 tb1 : TE} {ta : TA} {i j : Int} {d : PyData} {ds : List PyData}
theorem ze_i (h : DI te σ i) : ZE p te σ (.int i) := fun H Q g q => h H Q (q _ H (Same.rfl' H) (.int i))
theorem ze_bl {b : Bool} : ZE p (tC (.bl b)) σ (.bool b) := fun H Q g q => q _ H (Same.rfl' H) (.bl b)
theorem ze_str {z : Str} : ZE p (tC (.str z)) σ (.str z) := fun H Q g q => q _ H (Same.rfl' H) (.str z)
theorem ze_non : ZE p (tC .non) σ .none := fun H Q g q => q _ H (Same.rfl' H) .non
theorem zes_nil : ZEs p tNil σ [] := fun H Q g q => q [] H (Same.rfl' H) .nil
theorem zes_cons (h1 : ZE p te σ d) (h2 : ZEs p ta σ ds) : ZEs p (tCons te ta) σ (d :: ds) := fun H Q g q =>
  h1 H _ g fun v H1 s1 r1 => h2 H1 _ (g.same s1) fun vs H2 s2 r2 => q _ H2 (s1.trans s2) (.cons (r1.same s2) r2)
theorem ze_tup (h : ZEs p ta σ ds) (hl : ds.length ≤ 1000) : ZE p (tTup ta) σ (.tuple ds) := fun H Q g q =>
  h H _ g fun vs H1 s1 r1 => ⟨by have := r1.length; have := sl; omega, fun a na => q _ _ (s1.trans (same_new na _)) (.tup upd_same ((g.same s1).ne na).symm (by have := r1.length; omega) (r1.same (same_new na _)))⟩
theorem ze_lst (h : ZEs p ta σ ds) (hl : ds.length ≤ 1000) : ZE p (tLst ta) σ (.list ds) := fun H Q g q =>
  h H _ g fun vs H1 s1 r1 => ⟨by have := r1.length; have := sl; omega, fun a na => q _ _ (s1.trans (same_new na _)) (.lst upd_same ((g.same s1).ne na).symm (r1.same (same_new na _)))⟩
theorem ze_cat {es : List PyData} (h1 : ZE p ta1 σ (.list ds)) (h2 : ZE p tb1 σ (.list es)) (hl : ds.length + es.length ≤ 1000) : ZE p (tOp rCat ta1 tb1) σ (.list (ds ++ es)) := fun H Q g q =>
  h1 H _ g fun v H1 s1 r1 => h2 H1 _ (g.same s1) fun u H2 s2 r2 => by
    obtain _ | _ | _ | _ | @⟨a, xs, _, ha, na, hr⟩ | _ := r1.same s2
    obtain _ | _ | _ | _ | @⟨b, ys, _, hb, nb, hr2⟩ | _ := r2
    refine ⟨a, b, xs, ys, rfl, rfl, ha, hb, ?_, fun t nt => q _ _ (s1.trans (s2.trans (same_new nt _))) (.lst upd_same (((g.same s1).same s2).ne nt).symm ((hr.append hr2).same (same_new nt _)))⟩
    have := hr.length; have := hr2.length; have := sl; omega
theorem ze_varD {n : Nat} {v : V} (h : σ[n]? = some (some v)) (hd : ∀ H, Rp p H v d) : ZE p (tVar n) σ d := fun H Q g q => ⟨_, h, q _ H (Same.rfl' H) (hd H)⟩
/-- a list of the data D at some place -/
theorem ze_list {H : Hp} {Q : VK} (h : ZE p te σ (.list ds)) (g : Occ p H) (q : ∀ a xs H', Same H H' → H' a = some (.lst xs) → a ≠ p → Rps p H' xs ds → Q (.ref a) H') : te σ H Q :=
  h H Q g fun v H' s r => by
    obtain _ | _ | _ | _ | @⟨a, xs, _, ha, na, hr⟩ | _ := r
    exact q a xs H' s ha na hr
end
end Mus

set_option maxRecDepth 100000
set_option maxHeartbeats 4000000
namespace Mus
open PySem L2
local macro_rules | `(tactic| walk_at "rd") => `(tactic| first
  | refine ⟨_, rfl, ?_⟩ | refine ⟨(True.intro : True), ?_⟩
  | refine ⟨_, _, rfl, rfl, (⟨by decide, by decide, by decide⟩ : CPow _ _), ?_⟩
  | refine ⟨_, _, rfl, rfl, (⟨by decide, by decide⟩ : CDiv _ _), ?_⟩
  | refine ⟨_, _, rfl, rfl, (by show (0 : Int) < _; decide), ?_⟩
  | refine ⟨_, _, rfl, rfl, ?_⟩ | refine ⟨rfl, ?_⟩ | refine iteT ?_ | refine iteF ?_ | refine ⟨_, _, rfl, ?_⟩ | refine .inl ⟨_, rfl, ?_⟩
  | refine ⟨_, _, _, _, _, rfl, (by assumption), (by assumption), (by assumption), rfl, ?_⟩ | refine ⟨_, _, _, _, rfl, rfl, SqT.of (by assumption), rfl, ?_⟩ | refine ⟨_, _, rfl, SqT.of (by assumption), rfl, ?_⟩
  | refine ⟨_, _, _, _, _, rfl, .ty _, Rp.ty (by assumption), kit_int _, ?_⟩ | refine ⟨_, _, _, _, _, rfl, .ty _, Rp.ty (by assumption), kit_bool _, ?_⟩
  | refine ⟨_, _, _, _, _, rfl, .ty _, Rp.ty (by assumption), kit_str _, ?_⟩ | refine ⟨_, _, _, _, _, rfl, .ty _, Rp.ty (by assumption), kit_tup _, ?_⟩)
local macro_rules | `(tactic| walk_at "cal") => `(tactic| first
  | refine ⟨_, _, _, _, _, rfl, (by assumption), ?_⟩ | refine ⟨_, _, _, _, _, rfl, (by assumption), (by assumption), ?_⟩)
local macro_rules | `(tactic| walk_at "sq") => `(tactic| first
  | refine ⟨_, _, rfl, Or.inr (SqT.of (by assumption)), ?_⟩ | refine ⟨_, _, _, _, rfl, rfl, SqT.of (by assumption), rfl, ?_⟩)
local macro_rules | `(tactic| walk_at "rds") => `(tactic| repeat first | walk_at "rd" | walk_at "cal" | walk_at "sq")
local macro_rules | `(tactic| walk_at "ze") => `(tactic| repeat first
  | exact zes_nil | exact ze_bl | exact ze_str | exact ze_non | apply zes_cons | apply ze_tup | apply ze_lst | apply ze_cat | exact di_c | exact di_v rfl | apply di_opC | apply di_op | apply di_neg | apply ze_i | (refine (⟨?_, ?_, ?_⟩ : CPow _ _) <;> decide) | exact Nat.le_of_ble_eq_true rfl | exact ze_varD rfl (by assumption))
local macro_rules | `(tactic| walk_at "rdz") => `(tactic| repeat (fail_if_success (first | show tLst _ _ _ _ | show tAsg (tLst _) _ _ _ _ | show tSeq (tAsg (tLst _) _) _ _ _ _)); first | walk_at "rd" | walk_at "cal" | walk_at "sq")
def top (i : Nat) : Stmt := PySem.Challenge.pw_mustercall_k60_histories.main.body.getD i (.Pass ⟨0, 0, 0, 0⟩)
def evLen (z : Str) : Option Int := if z = "view" then some 5 else if z = "cast" then some 6 else if z = "deliver" then some 5 else if z = "crash" then some 3 else none
def Five (z : Str) : Prop := z = "view" ∨ z = "cast" ∨ z = "deliver" ∨ z = "crash" ∨ z = "fall"
def Told (z : Str) (r : Option Value) : Prop := match evLen z with | some n => ∃ u, r = some u ∧ RelV (.int n) u | none => r = none
structure Tx (w : World) (K : PySem.W.Frag) (mg : Str → Option Value) (CH CB DL : Addr) : Prop where
  b_len : mg "len" = none
  b_isinstance : mg "isinstance" = none
  b_int : mg "int" = none
  b_bool : mg "bool" = none
  b_str : mg "str" = none
  b_tuple : mg "tuple" = none
  b_list : mg "list" = none
  b_max : mg "max" = none
  c_MOST_NUMBER : ∃ t, mg "MOST_NUMBER" = some (.int 1000000000000 t)
  g__LENGTHS : mg "_LENGTHS" = some (.ref DL)
  D : ∃ es n, KDict K w DL es n
  k : ∀ z, Five z → ∃ r, PySem.W.nsIn K DL z = some r ∧ Told z r
  g_History : mg "History" = some (.ref CH)
  cl_History : L2.Cls K CH
  n_History__events : NoAttr K CH "_events"
  g_BadSchedule : mg "BadSchedule" = some (.ref CB)
  o_BadSchedule : OexC K CB
  f_BadSchedule : XfC K CB
  n_line : PySem.W.findIn K (.ref CB) "line" = some none
  n_reason : PySem.W.findIn K (.ref CB) "reason" = some none
  m_BB : PySem.W.exmOne K (.ref CB) (.ref CB) = some true
section
variable {P : Program} {w : World} {K : PySem.W.Frag} {mg : Str → Option Value} {base : Heap} {CH CB DL : Addr}
abbrev s_BadSchedule___init__ : Stmt := inClass (top 2) 0
abbrev N_BadSchedule___init__ : List Str := ["self", "line", "reason"]
abbrev P_BadSchedule___init__ : List Str := ["self", "line", "reason"]
theorem sc_BadSchedule___init__ : FnScope N_BadSchedule___init__ P_BadSchedule___init__ (defScope s_BadSchedule___init__) := ⟨rfl, rfl, rfl, by decide +kernel, rfl, by decide +kernel, by decide +kernel⟩
theorem ok_bs {f : Addr} {fd : FuncData} (T : Tx w K mg CH CB DL) (F : Fun K "__init__" "BadSchedule.__init__" s_BadSchedule___init__ f fd) : FnOk P w K mg base CX0 1 f fd P_BadSchedule___init__ (sp_bs CB) := by
  have nd := sc_BadSchedule___init__.nd
  refine F.ok sc_BadSchedule___init__ (fun vs H Q E h => ?_) (fun cdv A outer s H vs Q E hr h => ?_)
  · obtain ⟨_, _, _, rfl, _⟩ := h
    rfl
  · obtain ⟨a, u, v, rfl, ha, q⟩ := h
    refine ⟨_, (pss_cons (ps_ost (pv 0) (pv 1))
      (pss_one (ps_ost (pv 0) (pv 2)))), ?_⟩
    refine ⟨_, rfl, _, rfl, a, CB, rfl, T.o_BadSchedule, T.n_line, .inl ⟨ha, fun d nd hne => ?_⟩⟩
    refine ⟨_, rfl, _, rfl, a, CB, rfl, T.o_BadSchedule, T.n_reason, .inr ⟨d, [("line", u)], upd_same, by rw [upd_ne hne, upd_same], by show 1 ≤ 900; decide, ?_⟩⟩
    refine q d _ nd (fun b o h hb => ?_) ?_ upd_same
    · have hbd : b ≠ d := ne_of_none h nd
      rw [upd_ne hbd, upd_ne hb, upd_ne hbd]; exact h
    · rw [upd_ne hne.symm, upd_same]
abbrev s_is_integer : Stmt := top 5
abbrev N_is_integer : List Str := ["value", "least", "greatest"]
abbrev P_is_integer : List Str := ["value", "least", "greatest"]
theorem sc_is_integer : FnScope N_is_integer P_is_integer (defScope s_is_integer) := ⟨rfl, rfl, rfl, by decide +kernel, rfl, by decide +kernel, by decide +kernel⟩
theorem ok_is_integer {f : Addr} {fd : FuncData} (T : Tx w K mg CH CB DL) (F : Fun K "is_integer" "is_integer" s_is_integer f fd) : FnOk P w K mg base CX0 (1) f fd P_is_integer (spI) := by
  have nd := sc_is_integer.nd
  refine F.ok sc_is_integer (fun vs H Q E h => ?_) (fun cdv A outer s H vs Q E hr h => ?_)
  · obtain ⟨_, _, _, _, _, rfl, _⟩ := h
    rfl
  · obtain ⟨p, v, d, a, b, rfl, hd, q⟩ := h
    refine ⟨_, (pss_cons (ps_if (PW.pt (pw_or (pt_not (pt_val (pe_callB call_isi (by rfl) T.b_isinstance (by decide +kernel) (pa_cons (pv 0) (pa_cons (pe_ty "int" T.b_int) pa_nil))))) (pw_or1 (pt_val (pe_callB call_isi (by rfl) T.b_isinstance (by decide +kernel) (pa_cons (pv 0) (pa_cons (pe_ty "bool" T.b_bool) pa_nil)))))))
        (pss_one (ps_ret pe_bl))
        pss_nil)
      (pss_one (ps_ret (pe_chain op_le op_le (pv 1) (pv 0) (pv 2))))), ?_⟩
    have hd' := hd
    cases hd <;> walk_at "rds"
    case int =>
      refine iB (fun h => ?_) (fun h => ?_)
      · walk_at "rds"
        exact ansB q (by simp [isInt, h])
      · exact ansB q (by simp [isInt, h])
    all_goals exact q
/-! ### events -/
def isEvt : PyData → Bool
  | .tuple (.str z :: x :: ds) => (match evLen z with | some n => decide ((ds.length : Int) + 2 = n) && isInt x 0 1000000000000 | none => false)
  | _ => false
def EvK (d : PyData) : Prop := dTup d = false ∨ d = .tuple [] ∨ ∃ z ds, d = .tuple (.str z :: ds) ∧ Five z
theorem evLen_two {z : Str} {n : Int} (h : evLen z = some n) : 3 ≤ n ∧ n ≤ 6 := by
  unfold evLen at h
  repeat (first | split at h | (cases h <;> (constructor <;> decide)))
def spEv : Sp := fun vs H Q _ => ∃ (p : Addr) (v : V) (d : PyData), vs = [v] ∧ Rp p H v d ∧ EvK d ∧ Q (.bl (isEvt d)) H
abbrev s__is_event : Stmt := top 8
abbrev N__is_event : List Str := ["value", "kind"]
abbrev P__is_event : List Str := ["value"]
theorem sc__is_event : FnScope N__is_event P__is_event (defScope s__is_event) := ⟨rfl, rfl, rfl, by decide +kernel, rfl, by decide +kernel, by decide +kernel⟩
theorem ok__is_event {f : Addr} {fd : FuncData} (T : Tx w K mg CH CB DL) (c_is_integer : DefOk P w K mg base CX0 "is_integer" P_is_integer 1 (spI))(F : Fun K "_is_event" "_is_event" s__is_event f fd) : FnOk P w K mg base CX0 (2) f fd P__is_event (spEv) := by
  have nd := sc__is_event.nd
  refine F.ok sc__is_event (fun vs H Q E h => ?_) (fun cdv A outer s H vs Q E hr h => ?_)
  · obtain ⟨_, _, _, rfl, _⟩ := h
    rfl
  · obtain ⟨p, v, d, rfl, hd, hk, q⟩ := h
    obtain ⟨es, nE, D⟩ := T.D
    have D : KDict K w DL es nE := D
    refine ⟨_, (pss_cons (ps_if (PW.pt (pw_or (pt_not (pt_val (pe_callB call_isi (by rfl) T.b_isinstance (by decide +kernel) (pa_cons (pv 0) (pa_cons (pe_ty "tuple" T.b_tuple) pa_nil))))) (pw_or1 (pt_cmpR op_eq (pe_callB call_len_seq (by rfl) T.b_len (by decide +kernel) (pa_cons (pv 0) pa_nil)) pe_int (nomark _)))))
        (pss_one (ps_ret pe_bl))
        pss_nil)
      (pss_cons (ps_set (i := 1) nd rfl (Or.inl rfl) (pe_ix ix_tup (pv 0) pe_int (fun _ _ => rfl)))
      (pss_cons (ps_if (PW.pt (pw_or (pt_not (pt_val (pe_callB call_isi (by rfl) T.b_isinstance (by decide +kernel) (pa_cons (pv 1) (pa_cons (pe_ty "str" T.b_str) pa_nil))))) (pw_or (pt_cmpR (op_notIn_kd D) (pv 1) (pe_cls T.g__LENGTHS) (by rfl)) (pw_or1 (pt_cmpR op_ne (pe_callB call_len_seq (by rfl) T.b_len (by decide +kernel) (pa_cons (pv 0) pa_nil)) (pe_ix ix_kdict (pe_cls T.g__LENGTHS) (pv 1) (fun _ _ => rfl)) (nomark _))))))
        (pss_one (ps_ret pe_bl))
        pss_nil)
      (pss_one (ps_ret (pcall c_is_integer hr (pa_cons (pe_ix ix_tup (pv 0) pe_int (fun _ _ => rfl)) (pa_cons pe_int (pa_cons (pe_const T.c_MOST_NUMBER) pa_nil))))))))), ?_⟩
    have hd' := hd
    rcases hk with hk | rfl | ⟨z, ds, rfl, hz⟩
    · cases hd <;> simp [dTup] at hk <;> walk_at "rds" <;> exact q
    · obtain _ | _ | _ | _ | _ | @⟨a, xs, _, ha, np, hw, hr⟩ := hd
      cases hr
      walk_at "rds"
      exact q
    · obtain _ | _ | _ | _ | _ | @⟨a, xs, _, ha, np, hw, hr⟩ := hd
      obtain _ | ⟨hx, hrs⟩ := hr
      rename_i xs
      cases hx
      have hl := hrs.length
      obtain ⟨r, hr1, hr2⟩ := T.k z hz
      walk_at "rds"
      have a0 : ∀ (x : V) (l : List V), atI (x :: l) 0 = some x := fun x l => at_int (by decide) rfl
      refine ⟨a, _, _, _, rfl, rfl, SqT.of ha, a0 _ _, ?_⟩
      walk_at "rds"
      have hzr : Rp p H (.str z) (.str z) := .str z
      walk_at "rds"
      refine ⟨z, r, rfl, rfl, hr1, ?_⟩
      unfold Told at hr2
      cases he : evLen z with
      | none =>
        rw [he] at hr2
        subst hr2
        walk_at "rds"
        refine ansB q ?_
        simp only [isEvt]
        cases ds with
        | nil => rfl
        | cons x ds => simp [isEvt, he]
      | some n =>
        rw [he] at hr2
        obtain ⟨u, rfl, ru⟩ := hr2
        obtain ⟨n1, n2⟩ := evLen_two he
        walk_at "rds"
        refine ⟨DL, z, .int n, rfl, rfl, ?_, ?_⟩
        · obtain ⟨d1, d2, _⟩ := D
          exact ⟨es, nE, u, d1, d2, hr1, ru⟩
        walk_at "rds"
        refine iB (fun h => ?_) (fun h => ?_)
        · have hn : ¬ ((xs.length : Int) + 1 = n) := fun e => by
            rw [decide_eq_true (show V.int ((V.str z :: xs).length : Nat) = V.int n by rw [List.length_cons, ← e]; rfl)] at h; cases h
          walk_at "rds"
          refine ansB q ?_
          cases ds with
          | nil => rfl
          | cons x ds =>
            rw [List.length_cons] at hl
            have : ¬ ((ds.length : Int) + 2 = n) := fun e => hn (by omega)
            simp [isEvt, he, this]
        · have hn : (xs.length : Int) + 1 = n := by
            cases hd : decide (V.int ((V.str z :: xs).length : Nat) = V.int n) with
            | true => have : (((V.str z :: xs).length : Nat) : Int) = n := V.int.inj (of_decide_eq_true hd); rw [List.length_cons] at this; omega
            | false => rw [hd] at h; cases h
          obtain _ | @⟨v1, xs, x, ds, hx, hr2⟩ := hrs
          · rw [List.length_nil] at hn; omega
          walk_at "rds"
          refine ⟨a, _, _, _, rfl, rfl, SqT.of ha, at_int (by decide) rfl, ?_⟩
          walk_at "rds"
          refine ansB q ?_
          have : (ds.length : Int) + 2 = n := by rw [List.length_cons] at hn; rw [List.length_cons, List.length_cons] at hl; omega
          simp [isEvt, he, this]
end
end Mus

set_option maxRecDepth 100000
set_option maxHeartbeats 4000000
namespace Mus
open PySem L2
local macro_rules | `(tactic| walk_at "rd") => `(tactic| first
  | refine ⟨_, rfl, ?_⟩ | refine ⟨(True.intro : True), ?_⟩
  | refine ⟨_, _, rfl, rfl, (⟨by decide, by decide, by decide⟩ : CPow _ _), ?_⟩
  | refine ⟨_, _, rfl, rfl, (⟨by decide, by decide⟩ : CDiv _ _), ?_⟩
  | refine ⟨_, _, rfl, rfl, (by show (0 : Int) < _; decide), ?_⟩
  | refine ⟨_, _, rfl, rfl, ?_⟩ | refine ⟨rfl, ?_⟩ | refine iteT ?_ | refine iteF ?_ | refine ⟨_, _, rfl, ?_⟩ | refine .inl ⟨_, rfl, ?_⟩
  | refine ⟨_, _, _, _, _, rfl, (by assumption), (by assumption), (by assumption), rfl, ?_⟩ | refine ⟨_, _, _, _, rfl, rfl, SqT.of (by assumption), rfl, ?_⟩ | refine ⟨_, _, rfl, SqT.of (by assumption), rfl, ?_⟩
  | refine ⟨_, _, _, _, _, rfl, .ty _, Rp.ty (by assumption), kit_int _, ?_⟩ | refine ⟨_, _, _, _, _, rfl, .ty _, Rp.ty (by assumption), kit_bool _, ?_⟩
  | refine ⟨_, _, _, _, _, rfl, .ty _, Rp.ty (by assumption), kit_str _, ?_⟩ | refine ⟨_, _, _, _, _, rfl, .ty _, Rp.ty (by assumption), kit_tup _, ?_⟩)
local macro_rules | `(tactic| walk_at "cal") => `(tactic| first
  | refine ⟨_, _, _, _, _, rfl, (by assumption), ?_⟩ | refine ⟨_, _, _, _, _, rfl, (by assumption), (by assumption), ?_⟩)
local macro_rules | `(tactic| walk_at "sq") => `(tactic| first
  | refine ⟨_, _, rfl, Or.inr (SqT.of (by assumption)), ?_⟩ | refine ⟨_, _, _, _, rfl, rfl, SqT.of (by assumption), rfl, ?_⟩)
local macro_rules | `(tactic| walk_at "rds") => `(tactic| repeat first | walk_at "rd" | walk_at "cal" | walk_at "sq")
local macro_rules | `(tactic| walk_at "ze") => `(tactic| repeat first
  | exact zes_nil | exact ze_bl | exact ze_str | exact ze_non | apply zes_cons | apply ze_tup | apply ze_lst | apply ze_cat | exact di_c | exact di_v rfl | apply di_opC | apply di_op | apply di_neg | apply ze_i | (refine (⟨?_, ?_, ?_⟩ : CPow _ _) <;> decide) | exact Nat.le_of_ble_eq_true rfl | exact ze_varD rfl (by assumption))
local macro_rules | `(tactic| walk_at "rdz") => `(tactic| repeat (fail_if_success (first | show tLst _ _ _ _ | show tAsg (tLst _) _ _ _ _ | show tSeq (tAsg (tLst _) _) _ _ _ _)); first | walk_at "rd" | walk_at "cal" | walk_at "sq")
section
variable {P : Program} {w : World} {K : PySem.W.Frag} {mg : Str → Option Value} {base : Heap} {CH CB DL : Addr}
/-! ### the history -/
def hf (l : Addr) : List (Str × V) := [("_events", .ref l)]
def tm : PyData → Int
  | .tuple (_ :: .int t :: _) => t
  | _ => 0
def lastT (ds : List PyData) : Int := match ds.getLast? with | some d => tm d | none => 0
def Gd (d : PyData) : Prop := isEvt d = true ∧ NoL d ∧ d.canLay0 = true ∧ d.depth ≤ 10
structure HAt (CH : Addr) (H : Hp) (p l : Addr) (vs : List V) (ds : List PyData) : Prop where
  ob : ∃ dx, H p = some (.ins CH dx (hf l))
  hl : H l = some (.lst vs)
  rs : Rps l H vs ds
  ok : ∀ d ∈ ds, Gd d
  le : ds.length ≤ 100
theorem HAt.same {H H' : Hp} {p l : Addr} {vs : List V} {ds : List PyData} (h : HAt CH H p l vs ds) (s : Same H H') : HAt CH H' p l vs ds := by
  obtain ⟨⟨dx, h1⟩, h2, h3, h4, h5⟩ := h
  exact ⟨⟨dx, s _ _ h1⟩, s _ _ h2, h3.same s, h4, h5⟩
theorem isEvt_form {d : PyData} (h : isEvt d = true) : ∃ z t ds, d = .tuple (.str z :: .int t :: ds) ∧ 0 ≤ t ∧ t ≤ 1000000000000 := by
  unfold isEvt at h
  split at h
  · rename_i z x ds
    split at h
    · rw [Bool.and_eq_true] at h
      obtain ⟨i, rfl, h1, h2⟩ := isInt_int h.2
      exact ⟨z, i, ds, rfl, h1, h2⟩
    · cases h
  · cases h
theorem Rps.last {p : Addr} {H : Hp} {vs : List V} {ds : List PyData} (r : Rps p H vs ds) (h : 0 < vs.length) : ∃ v d, atI vs (-1) = some v ∧ ds.getLast? = some d ∧ d ∈ ds ∧ Rp p H v d := by
  have hne : vs ≠ [] := List.length_pos_iff.mp h
  have hl := r.length
  have e := List.dropLast_concat_getLast hne
  have hi : vs[vs.length - 1]? = some (vs.getLast hne) := by rw [List.getLast_eq_getElem]; exact List.getElem?_eq_getElem _
  obtain ⟨d, hd, rd⟩ := r.at hi
  refine ⟨vs.getLast hne, d, ?_, ?_, List.mem_of_getElem? hd, rd⟩
  · have := atI_last vs.dropLast (vs.getLast hne)
    rwa [e] at this
  · rw [List.getLast?_eq_getElem?, ← hl]; exact hd
/-- why an event is refused, if it is -/
def verd (d : PyData) (ds : List PyData) : Option Str := if isEvt d = true then (if tm d < lastT ds then some "time" else none) else some "event"
abbrev s_History___init__ : Stmt := inClass (top 9) 0
abbrev N_History___init__ : List Str := ["self"]
abbrev P_History___init__ : List Str := ["self"]
theorem sc_History___init__ : FnScope N_History___init__ P_History___init__ (defScope s_History___init__) := ⟨rfl, rfl, rfl, by decide +kernel, rfl, by decide +kernel, by decide +kernel⟩
def sp_hinit (CH : Addr) : Sp := fun vs H Q _ => ∃ (p dx : Addr), vs = [.ref p] ∧ H p = some (.ins CH dx []) ∧ ∀ l H', H l = none → HAt CH H' p l [] [] → (∀ b o, H b = some o → b ≠ p → H' b = some o) → Q .non H'
theorem ok_hinit {f : Addr} {fd : FuncData} (T : Tx w K mg CH CB DL) (F : Fun K "__init__" "History.__init__" s_History___init__ f fd) : FnOk P w K mg base CX0 1 f fd P_History___init__ (sp_hinit CH) := by
  have nd := sc_History___init__.nd
  refine F.ok sc_History___init__ (fun vs H Q E h => ?_) (fun cdv A outer s H vs Q E hr h => ?_)
  · obtain ⟨_, _, rfl, _⟩ := h
    rfl
  · obtain ⟨p, dx, rfl, hp, q⟩ := h
    refine ⟨_, (pss_one (ps_fld (pv 0) (pe_lst pa_nil) rfl)), ?_⟩
    have hs := sl
    refine ⟨by show 0 ≤ sizeLine; omega, fun l nl => ?_⟩
    have pl : p ≠ l := ne_of_none hp nl
    refine ⟨_, rfl, p, CH, dx, [], rfl, (by rw [upd_ne pl]; exact hp), T.cl_History, T.n_History__events, (by decide), ?_⟩
    refine q l _ nl ⟨⟨dx, upd_same⟩, by rw [upd_ne pl.symm, upd_same], .nil, fun d h => (by cases h), Nat.zero_le _⟩ fun b o hb nb => ?_
    rw [upd_ne nb, upd_ne (ne_of_none hb nl)]; exact hb
abbrev s_History_events : Stmt := inClass (top 9) 2
abbrev N_History_events : List Str := ["self"]
abbrev P_History_events : List Str := ["self"]
theorem sc_History_events : FnScope N_History_events P_History_events (defScope s_History_events) := ⟨rfl, rfl, rfl, by decide +kernel, rfl, by decide +kernel, by decide +kernel⟩
def sp_hevs (CH : Addr) : Sp := fun vs H Q _ => ∃ (p l : Addr) (ws : List V) (ds : List PyData), vs = [.ref p] ∧ HAt CH H p l ws ds ∧ ∀ a, H a = none → Q (.ref a) (upd H a (.lst ws))
theorem ok_hevs {f : Addr} {fd : FuncData} (T : Tx w K mg CH CB DL) (F : Fun K "events" "History.events" s_History_events f fd) : FnOk P w K mg base CX0 1 f fd P_History_events (sp_hevs CH) := by
  have nd := sc_History_events.nd
  refine F.ok sc_History_events (fun vs H Q E h => ?_) (fun cdv A outer s H vs Q E hr h => ?_)
  · obtain ⟨_, _, _, _, rfl, _⟩ := h
    rfl
  · obtain ⟨p, l, ws, ds, rfl, hh, q⟩ := h
    obtain ⟨⟨dx, h1⟩, h2, _⟩ := id hh
    refine ⟨_, (pss_one (ps_ret (pe_callTy call_list_of (by rfl) T.b_list (by decide +kernel) (pa_cons (pe_fld (pv 0) (by rfl)) pa_nil)))), ?_⟩
    have c1 := T.cl_History
    have n1 := T.n_History__events
    walk_at "rds"
    refine ⟨l, _, rfl, .inl (SqL.of h2), fun a na => q a na⟩
abbrev s_History_add : Stmt := inClass (top 9) 1
abbrev N_History_add : List Str := ["self", "event"]
abbrev P_History_add : List Str := ["self", "event"]
theorem sc_History_add : FnScope N_History_add P_History_add (defScope s_History_add) := ⟨rfl, rfl, rfl, by decide +kernel, rfl, by decide +kernel, by decide +kernel⟩
def sp_add (CH CB : Addr) : Sp := fun vs H Q E => ∃ (p l : Addr) (ws : List V) (ds : List PyData) (v : V) (d : PyData), vs = [.ref p, v] ∧ HAt CH H p l ws ds ∧ Rp l H v d ∧ EvK d ∧
  (∀ z, verd d ds = some z → ∀ e H', Same H H' → H' e = some (.xd (bsF (.int 0) (.str z))) → E (.ref CB) (some e) H') ∧ (verd d ds = none → Q .non (upd H l (.lst (ws ++ [v]))))
theorem ok_add {f : Addr} {fd : FuncData} (T : Tx w K mg CH CB DL) (x_BadSchedule : ExOk P w K mg base CB "BadSchedule" P_BadSchedule___init__ 1 (sp_bs CB)) (c__is_event : DefOk P w K mg base CX0 "_is_event" P__is_event 2 (spEv)) (F : Fun K "add" "History.add" s_History_add f fd) : FnOk P w K mg base (L2.CX P w) 3 f fd P_History_add (sp_add CH CB) := by
  have nd := sc_History_add.nd
  refine F.okX sc_History_add (fun vs H Q E h => ?_) (fun cdv A outer s H vs Q E hr h => ?_)
  · obtain ⟨_, _, _, _, _, _, rfl, _⟩ := h
    rfl
  · obtain ⟨p, l, ws, ds, v, d, rfl, hh, hv, hk, q1, q2⟩ := h
    have hs := sl
    obtain ⟨⟨dx, h1⟩, h2, h3, h4, h5⟩ := id hh
    have lw := h3.length
    refine ⟨_, (pss_cons (ps_if (pt_not (pt_val (pcall c__is_event hr (pa_cons (pv 1) pa_nil))))
        (pss_one (praise x_BadSchedule (takes_of rfl rfl rfl rfl) hr (pa_cons pe_int (pa_cons pe_str pa_nil))))
        pss_nil)
      (pss_cons (ps_if (PW.pt (pw_and (pt_cmpR op_gt (pe_callB call_len_seq (by rfl) T.b_len (by decide +kernel) (pa_cons (pe_fld (pv 0) (by rfl)) pa_nil)) pe_int (nomark _)) (pw_and1 (pt_cmpR op_lt (pe_ix ix_tup (pv 1) pe_int (fun _ _ => rfl)) (pe_ix ix_tup (pe_ix ix_list (pe_fld (pv 0) (by rfl)) (pe_un un_neg pe_int) (fun _ _ => rfl)) pe_int (fun _ _ => rfl)) (nomark _)))))
        (pss_one (praise x_BadSchedule (takes_of rfl rfl rfl rfl) hr (pa_cons pe_int (pa_cons pe_str pa_nil))))
        pss_nil)
      (pss_one (ps_expr (pe_bm PySem.F.plainAttrs_list PySem.F.slot_list_append PySem.F.type_list_append mt_append (pe_fld (pv 0) (by rfl)) (pa_cons (pv 1) pa_nil)))))), ?_⟩
    have c1 := T.cl_History
    have n1 := T.n_History__events
    refine ⟨_, rfl, l, v, d, rfl, hv, hk, ?_⟩
    walk_at "rds"
    refine iB (fun h => ?_) (fun h => ?_)
    · have h : isEvt d = false := by simpa using h
      refine rd_bs (fun R r => r) (fun R r => r) fun e H' _ s1 he => q1 "event" (by unfold verd; rw [h]; rfl) e H' s1 he
    · have h : isEvt d = true := by simpa using h
      obtain ⟨z, t, es, rfl, t0, t1⟩ := isEvt_form h
      obtain _ | _ | _ | _ | _ | @⟨a, xs, _, ha, na, hw, hr1⟩ := hv
      obtain _ | ⟨hx, _ | ⟨hy, hr2⟩⟩ := hr1
      cases hy
      have hat : ∀ (x y : V) (l : List V), atI (x :: y :: l) 1 = some y := fun x y l => at_int (by decide) rfl
      have app : ¬ t < lastT ds → Q .non (upd H l (.lst (ws ++ [.ref a]))) := fun k => q2 (by unfold verd; rw [if_pos h, if_neg (show ¬ tm (.tuple (.str z :: .int t :: es)) < lastT ds from k)])
      walk_at "rds"
      refine ⟨l, _, rfl, .inl (SqL.of h2), ?_⟩
      walk_at "rds"
      refine iB (fun h => ?_) (fun h => ?_)
      · have h : 0 < ws.length := by have := of_decide_eq_true h; omega
        obtain ⟨v', d', e1, e2, e3, r'⟩ := h3.last h
        obtain ⟨z', t', es', rfl, t0', t1'⟩ := isEvt_form (h4 d' e3).1
        obtain _ | _ | _ | _ | _ | @⟨a', xs', _, ha', na', hw', hr1'⟩ := r'
        obtain _ | ⟨hx', _ | ⟨hy', hr2'⟩⟩ := hr1'
        cases hy'
        have eL : lastT ds = t' := by unfold lastT; rw [e2]; rfl
        walk_at "rds"
        refine ⟨a, _, _, _, rfl, rfl, SqT.of ha, hat _ _ _, ?_⟩
        walk_at "rds"
        refine ⟨l, _, _, _, rfl, rfl, SqL.of h2, e1, ?_⟩
        walk_at "rds"
        refine ⟨a', _, _, _, rfl, rfl, SqT.of ha', hat _ _ _, ?_⟩
        walk_at "rds"
        refine iB (fun h => ?_) (fun h => ?_)
        · have h : t < t' := of_decide_eq_true h
          refine rd_bs (fun R r => r) (fun R r => r) fun e H' _ s1 he => q1 "time" (by unfold verd; rw [if_pos ‹isEvt _ = true›, if_pos (show tm (.tuple (.str z :: .int t :: es)) < lastT ds by rw [eL]; exact h)]) e H' s1 he
        · have h : ¬ t < t' := of_decide_eq_false h
          walk_at "rds"
          refine ⟨.inl ⟨rfl, _, SqL.of h2⟩, ?_⟩
          walk_at "rds"
          exact ⟨l, _, _, rfl, rfl, h2, by omega, app (by rw [eL]; exact h)⟩
      · have h : ws.length = 0 := by have := of_decide_eq_false h; omega
        have e : ds = [] := List.eq_nil_of_length_eq_zero (by omega)
        walk_at "rds"
        refine ⟨.inl ⟨rfl, _, SqL.of h2⟩, ?_⟩
        walk_at "rds"
        exact ⟨l, _, _, rfl, rfl, h2, by omega, app (by rw [e]; show ¬ t < 0; omega)⟩
end
end Mus

set_option maxRecDepth 100000
set_option maxHeartbeats 4000000
namespace Mus
open PySem L2
local macro_rules | `(tactic| walk_at "rd") => `(tactic| first
  | refine ⟨_, rfl, ?_⟩ | refine ⟨(True.intro : True), ?_⟩
  | refine ⟨_, _, rfl, rfl, (⟨by decide, by decide, by decide⟩ : CPow _ _), ?_⟩
  | refine ⟨_, _, rfl, rfl, (⟨by decide, by decide⟩ : CDiv _ _), ?_⟩
  | refine ⟨_, _, rfl, rfl, (by show (0 : Int) < _; decide), ?_⟩
  | refine ⟨_, _, rfl, rfl, ?_⟩ | refine ⟨rfl, ?_⟩ | refine iteT ?_ | refine iteF ?_ | refine ⟨_, _, rfl, ?_⟩ | refine .inl ⟨_, rfl, ?_⟩
  | refine ⟨_, _, _, _, _, rfl, (by assumption), (by assumption), (by assumption), rfl, ?_⟩ | refine ⟨_, _, _, _, rfl, rfl, SqT.of (by assumption), rfl, ?_⟩ | refine ⟨_, _, rfl, SqT.of (by assumption), rfl, ?_⟩
  | refine ⟨_, _, _, _, _, rfl, .ty _, Rp.ty (by assumption), kit_int _, ?_⟩ | refine ⟨_, _, _, _, _, rfl, .ty _, Rp.ty (by assumption), kit_bool _, ?_⟩
  | refine ⟨_, _, _, _, _, rfl, .ty _, Rp.ty (by assumption), kit_str _, ?_⟩ | refine ⟨_, _, _, _, _, rfl, .ty _, Rp.ty (by assumption), kit_tup _, ?_⟩)
local macro_rules | `(tactic| walk_at "cal") => `(tactic| first
  | refine ⟨_, _, _, _, _, rfl, (by assumption), ?_⟩ | refine ⟨_, _, _, _, _, rfl, (by assumption), (by assumption), ?_⟩)
local macro_rules | `(tactic| walk_at "sq") => `(tactic| first
  | refine ⟨_, _, rfl, Or.inr (SqT.of (by assumption)), ?_⟩ | refine ⟨_, _, _, _, rfl, rfl, SqT.of (by assumption), rfl, ?_⟩)
local macro_rules | `(tactic| walk_at "rds") => `(tactic| repeat first | walk_at "rd" | walk_at "cal" | walk_at "sq")
local macro_rules | `(tactic| walk_at "ze") => `(tactic| repeat first
  | exact zes_nil | exact ze_bl | exact ze_str | exact ze_non | apply zes_cons | apply ze_tup | apply ze_lst | apply ze_cat | exact di_c | exact di_v rfl | apply di_opC | apply di_op | apply di_neg | apply ze_i | (refine (⟨?_, ?_, ?_⟩ : CPow _ _) <;> decide) | exact Nat.le_of_ble_eq_true rfl | exact ze_varD rfl (by assumption))
local macro_rules | `(tactic| walk_at "rdz") => `(tactic| repeat (fail_if_success (first | show tLst _ _ _ _ | show tAsg (tLst _) _ _ _ _ | show tSeq (tAsg (tLst _) _) _ _ _ _)); first | walk_at "rd" | walk_at "cal" | walk_at "sq")
/-! ### what the law offers -/
def ev (t : Int) : List PyData := [.tuple [.str "view", .int t, .tuple [.int 0, .int 1], .tuple [.int 3, .tuple [.int 0, .int 1]], .tuple [.tuple [.int 0, .int 1]]],
  .tuple [.str "cast", .int t, .tuple [.int 0, .int 1], .tuple [.int 3, .tuple [.int 0, .int 1]], .int 1, .str "a"],
  .tuple [.str "crash", .int t, .int 2],
  .tuple [.str "deliver", .int t, .tuple [.int 0, .int 1], .tuple [.int 3, .tuple [.int 0, .int 1]], .tuple [.tuple [.int 0, .int 1], .int 1, .str "a"]]]
def odds (t : Int) : List PyData := [.none, .tuple [], .tuple [.str "crash", .int t], .tuple [.str "fall", .int t, .int 1], .list [.str "crash", .int t, .int 0], .tuple [.str "crash", .int (-1), .int 0], .tuple [.str "crash", .bool true, .int 0], .int 7] ++
  [.tuple [.str "view", .int t, .tuple [.int 0, .int 1], .tuple [.int 3, .tuple [.int 0, .int 1]]], .tuple [.str "deliver", .int t, .tuple [.int 0, .int 1]], .tuple [.str "cast", .int t, .int 1, .int 1, .int 1], .tuple [.str "crash", .none, .int 0]]
theorem e_view : evLen "view" = some 5 := by decide +kernel
theorem e_cast : evLen "cast" = some 6 := by decide +kernel
theorem e_deliver : evLen "deliver" = some 5 := by decide +kernel
theorem e_crash : evLen "crash" = some 3 := by decide +kernel
theorem e_fall : evLen "fall" = none := by decide +kernel
theorem s_view : PyData.strOk "view" = true := by decide +kernel
theorem s_cast : PyData.strOk "cast" = true := by decide +kernel
theorem s_deliver : PyData.strOk "deliver" = true := by decide +kernel
theorem s_crash : PyData.strOk "crash" = true := by decide +kernel
theorem s_a : PyData.strOk "a" = true := by decide +kernel
theorem ev_ok {t : Int} {d : PyData} (h : d ∈ ev t) : EvK d ∧ (isEvt d = isInt (.int t) 0 1000000000000) ∧ (∃ z ds, d = .tuple (.str z :: .int t :: ds)) ∧ NoL d ∧ d.canLay0 = true ∧ d.depth ≤ 10 := by
  have p : NoL (.tuple [.int 0, .int 1]) := .two (.int _) (.int _)
  have p2 : NoL (.tuple [.int 3, .tuple [.int 0, .int 1]]) := .two (.int _) p
  simp only [ev, List.mem_cons, List.not_mem_nil, or_false] at h
  have all4 : ∀ (a : PyData) (l : List PyData), NoL a → (∀ d ∈ l, NoL d) → ∀ d ∈ a :: l, NoL d := fun a l h1 h2 d hd => by
    rcases List.mem_cons.mp hd with rfl | hd
    · exact h1
    · exact h2 d hd
  have nil : ∀ d ∈ ([] : List PyData), NoL d := fun d h => by cases h
  rcases h with rfl | rfl | rfl | rfl
  · exact ⟨.inr (.inr ⟨_, _, rfl, .inl rfl⟩), by simp [isEvt, e_view, e_cast, e_deliver, e_crash, e_fall], ⟨_, _, rfl⟩, .tup (all4 _ _ (.str _) (all4 _ _ (.int _) (all4 _ _ p (all4 _ _ p2 (all4 _ _ (.tup (all4 _ _ p nil)) nil))))), by simp [PyData.canLay0, PyData.canLayAll0, s_view, s_cast, s_deliver, s_crash, s_a], by simp [PyData.depth, PyData.depthAll]⟩
  · exact ⟨.inr (.inr ⟨_, _, rfl, .inr (.inl rfl)⟩), by simp [isEvt, e_view, e_cast, e_deliver, e_crash, e_fall], ⟨_, _, rfl⟩, .tup (all4 _ _ (.str _) (all4 _ _ (.int _) (all4 _ _ p (all4 _ _ p2 (all4 _ _ (.int _) (all4 _ _ (.str _) nil)))))), by simp [PyData.canLay0, PyData.canLayAll0, s_view, s_cast, s_deliver, s_crash, s_a], by simp [PyData.depth, PyData.depthAll]⟩
  · exact ⟨.inr (.inr ⟨_, _, rfl, .inr (.inr (.inr (.inl rfl)))⟩), by simp [isEvt, e_view, e_cast, e_deliver, e_crash, e_fall], ⟨_, _, rfl⟩, .tup (all4 _ _ (.str _) (all4 _ _ (.int _) (all4 _ _ (.int _) nil))), by simp [PyData.canLay0, PyData.canLayAll0, s_view, s_cast, s_deliver, s_crash, s_a], by simp [PyData.depth, PyData.depthAll]⟩
  · exact ⟨.inr (.inr ⟨_, _, rfl, .inr (.inr (.inl rfl))⟩), by simp [isEvt, e_view, e_cast, e_deliver, e_crash, e_fall], ⟨_, _, rfl⟩, .tup (all4 _ _ (.str _) (all4 _ _ (.int _) (all4 _ _ p (all4 _ _ p2 (all4 _ _ (.three p (.int _) (.str _)) nil))))), by simp [PyData.canLay0, PyData.canLayAll0, s_view, s_cast, s_deliver, s_crash, s_a], by simp [PyData.depth, PyData.depthAll]⟩
theorem odd_ok {t : Int} {d : PyData} (h : d ∈ odds t) : EvK d ∧ isEvt d = false := by
  simp only [odds, List.cons_append, List.nil_append, List.mem_cons, List.not_mem_nil, or_false] at h
  rcases h with rfl | rfl | rfl | rfl | rfl | rfl | rfl | rfl | rfl | rfl | rfl | rfl
  · exact ⟨.inl rfl, rfl⟩
  · exact ⟨.inr (.inl rfl), rfl⟩
  · exact ⟨.inr (.inr ⟨_, _, rfl, .inr (.inr (.inr (.inl rfl)))⟩), by simp [isEvt, e_view, e_cast, e_deliver, e_crash, e_fall]⟩
  · exact ⟨.inr (.inr ⟨_, _, rfl, .inr (.inr (.inr (.inr rfl)))⟩), by simp [isEvt, e_view, e_cast, e_deliver, e_crash, e_fall]⟩
  · exact ⟨.inl rfl, rfl⟩
  · exact ⟨.inr (.inr ⟨_, _, rfl, .inr (.inr (.inr (.inl rfl)))⟩), by simp [isEvt, e_view, e_cast, e_deliver, e_crash, e_fall, isInt]⟩
  · exact ⟨.inr (.inr ⟨_, _, rfl, .inr (.inr (.inr (.inl rfl)))⟩), by simp [isEvt, e_view, e_cast, e_deliver, e_crash, e_fall, isInt]⟩
  · exact ⟨.inl rfl, rfl⟩
  · exact ⟨.inr (.inr ⟨_, _, rfl, .inl rfl⟩), by simp [isEvt, e_view, e_cast, e_deliver, e_crash, e_fall]⟩
  · exact ⟨.inr (.inr ⟨_, _, rfl, .inr (.inr (.inl rfl))⟩), by simp [isEvt, e_view, e_cast, e_deliver, e_crash, e_fall]⟩
  · exact ⟨.inr (.inr ⟨_, _, rfl, .inr (.inl rfl)⟩), by simp [isEvt, e_view, e_cast, e_deliver, e_crash, e_fall]⟩
  · exact ⟨.inr (.inr ⟨_, _, rfl, .inr (.inr (.inr (.inl rfl)))⟩), by simp [isEvt, e_view, e_cast, e_deliver, e_crash, e_fall, isInt]⟩
theorem atI_ints {ns : List Int} {r : Int} (h0 : 0 ≤ r) (h1 : r < ns.length) : ∃ x, x ∈ ns ∧ atI (ns.map V.int) r = some (.int x) := by
  have hi : r.toNat < ns.length := by omega
  refine ⟨ns[r.toNat], List.getElem_mem _, at_int h0 ?_⟩
  rw [List.getElem?_map, List.getElem?_eq_getElem hi]; rfl
def sp_offer : Sp := fun vs H Q _ => ∃ (p : Addr) (c t : Int), vs = [.int c, .int t] ∧ Occ p H ∧ ∀ t' v d H', 0 ≤ t' → d ∈ ev t' → Same H H' → Rp p H' v d → Q v H'
def sp_lodd : Sp := fun vs H Q _ => ∃ (p : Addr) (c t : Int), vs = [.int c, .int t] ∧ Occ p H ∧ ∀ v d H', d ∈ odds t → Same H H' → Rp p H' v d → Q v H'
section
variable {P : Program} {w : World} {K : PySem.W.Frag} {mg : Str → Option Value} {base : Heap} {CH CB DL : Addr}
abbrev s__law_offer : Stmt := top 11
abbrev N__law_offer : List Str := ["cell", "time", "events"]
abbrev P__law_offer : List Str := ["cell", "time"]
theorem sc__law_offer : FnScope N__law_offer P__law_offer (defScope s__law_offer) := ⟨rfl, rfl, rfl, by decide +kernel, rfl, by decide +kernel, by decide +kernel⟩
theorem ok__law_offer {f : Addr} {fd : FuncData} (T : Tx w K mg CH CB DL) (F : Fun K "_law_offer" "_law_offer" s__law_offer f fd) : FnOk P w K mg base CX0 (1) f fd P__law_offer (sp_offer) := by
  have nd := sc__law_offer.nd
  refine F.ok sc__law_offer (fun vs H Q E h => ?_) (fun cdv A outer s H vs Q E hr h => ?_)
  · obtain ⟨_, _, _, rfl, _⟩ := h
    rfl
  · obtain ⟨p, c, t, rfl, g, q⟩ := h
    have hs := sl
    refine ⟨_, (pss_cons (ps_set (i := 1) nd rfl (Or.inl rfl) (pe_callB (call_max2 rfl) (by rfl) T.b_max (by decide +kernel) (pa_cons pe_int (pa_cons (pe_op op_add (pv 1) (pe_ix ix_list (pe_lst (pa_cons pe_int (pa_cons pe_int (pa_cons pe_int (pa_cons pe_int (pa_cons (pe_un un_neg pe_int) (pa_cons (pe_op op_pow pe_int pe_int) pa_nil))))))) (pe_op op_mod (pe_callTy call_int1 (by rfl) T.b_int (by decide +kernel) (pa_cons (pv 0) pa_nil)) pe_int) (fun _ _ => rfl))) pa_nil))))
      (pss_cons (ps_set (i := 0) nd rfl (Or.inl rfl) (pe_callTy call_int1 (by rfl) T.b_int (by decide +kernel) (pa_cons (pe_op op_fdiv (pv 0) pe_int) pa_nil)))
      (pss_cons (ps_set (i := 2) nd rfl (Or.inl rfl) (pe_lst (pa_cons (pe_tup (pa_cons pe_str (pa_cons (pv 1) (pa_cons (pe_tup (pa_cons pe_int (pa_cons pe_int pa_nil))) (pa_cons (pe_tup (pa_cons pe_int (pa_cons (pe_tup (pa_cons pe_int (pa_cons pe_int pa_nil))) pa_nil))) (pa_cons (pe_tup (pa_cons (pe_tup (pa_cons pe_int (pa_cons pe_int pa_nil))) pa_nil)) pa_nil)))))) (pa_cons (pe_tup (pa_cons pe_str (pa_cons (pv 1) (pa_cons (pe_tup (pa_cons pe_int (pa_cons pe_int pa_nil))) (pa_cons (pe_tup (pa_cons pe_int (pa_cons (pe_tup (pa_cons pe_int (pa_cons pe_int pa_nil))) pa_nil))) (pa_cons pe_int (pa_cons pe_str pa_nil))))))) (pa_cons (pe_tup (pa_cons pe_str (pa_cons (pv 1) (pa_cons pe_int pa_nil)))) pa_nil)))))
      (pss_one (ps_ret (pe_ix ix_list (pe_op op_cat (pv 2) (pe_lst (pa_cons (pe_tup (pa_cons pe_str (pa_cons (pv 1) (pa_cons (pe_tup (pa_cons pe_int (pa_cons pe_int pa_nil))) (pa_cons (pe_tup (pa_cons pe_int (pa_cons (pe_tup (pa_cons pe_int (pa_cons pe_int pa_nil))) pa_nil))) (pa_cons (pe_tup (pa_cons (pe_tup (pa_cons pe_int (pa_cons pe_int pa_nil))) (pa_cons pe_int (pa_cons pe_str pa_nil)))) pa_nil)))))) pa_nil))) (pe_op op_mod (pv 0) pe_int) (fun _ _ => rfl))))))), ?_⟩
    walk_at "rds"
    refine ⟨by show 6 ≤ sizeLine; omega, fun a na => ?_⟩
    have sa := same_new na (.lst [V.int 0, V.int 0, V.int 1, V.int 3, V.int (-1), V.int (10 ^ Int.toNat 9)])
    walk_at "rds"
    obtain ⟨x, _, hx⟩ := atI_ints (ns := [0, 0, 1, 3, -1, 10 ^ Int.toNat 9]) (r := c % 6) (by omega) (by show c % 6 < 6; omega)
    refine ⟨a, _, _, .int x, rfl, rfl, SqL.of upd_same, hx, ?_⟩
    refine ⟨_, _, rfl, rfl, _, _, rfl, ?_⟩
    have ht : 0 ≤ (if t + x > 0 then t + x else 0) := by split <;> omega
    revert ht
    generalize (if t + x > 0 then t + x else 0) = t'
    intro ht
    refine ⟨_, rfl, _, _, rfl, rfl, (⟨by decide, by decide⟩ : CDiv _ _), .inl ⟨_, rfl, ?_⟩⟩
    dsimp only [gName, tSeq, tAsg]
    show tLst _ _ _ _
    refine ze_list (p := p) (ds := (ev t').take 3) (by walk_at "ze") (g.same sa) fun b xs H1 s1 hb nb r1 => ?_
    walk_at "rdz"
    show tLst _ _ _ _
    refine ze_list (p := p) (ds := (ev t').drop 3) (by walk_at "ze") ((g.same sa).same s1) fun b2 ys H2 s2 hb2 nb2 r2 => ?_
    have l1 : xs.length = 3 := r1.length
    have l2 : ys.length = 1 := r2.length
    refine ⟨b, b2, xs, ys, rfl, rfl, s2 _ _ hb, hb2, by omega, fun u nu => ?_⟩
    have r3 : Rps p H2 (xs ++ ys) (ev t') := (r1.same s2).append r2
    have su := same_new nu (.lst (xs ++ ys))
    walk_at "rds"
    have hlt : (c / 6 % 4).toNat < (xs ++ ys).length := by rw [List.length_append]; omega
    obtain ⟨d, hd, rd⟩ := (r3.same su).at (List.getElem?_eq_getElem hlt)
    refine ⟨u, _, _, _, rfl, rfl, SqL.of upd_same, at_int (by omega) (List.getElem?_eq_getElem hlt), ?_⟩
    exact q t' _ d _ ht (List.mem_of_getElem? hd) (sa.trans (s1.trans (s2.trans su))) rd
abbrev s__law_odd : Stmt := top 12
abbrev N__law_odd : List Str := ["cell", "time", "odd"]
abbrev P__law_odd : List Str := ["cell", "time"]
theorem sc__law_odd : FnScope N__law_odd P__law_odd (defScope s__law_odd) := ⟨rfl, rfl, rfl, by decide +kernel, rfl, by decide +kernel, by decide +kernel⟩
theorem ok__law_odd {f : Addr} {fd : FuncData} (T : Tx w K mg CH CB DL) (F : Fun K "_law_odd" "_law_odd" s__law_odd f fd) : FnOk P w K mg base CX0 (1) f fd P__law_odd (sp_lodd) := by
  have nd := sc__law_odd.nd
  refine F.ok sc__law_odd (fun vs H Q E h => ?_) (fun cdv A outer s H vs Q E hr h => ?_)
  · obtain ⟨_, _, _, rfl, _⟩ := h
    rfl
  · obtain ⟨p, c, t, rfl, g, q⟩ := h
    have hs := sl
    refine ⟨_, (pss_cons (ps_set (i := 2) nd rfl (Or.inl rfl) (pe_lst (pa_cons pe_non (pa_cons (pe_tup pa_nil) (pa_cons (pe_tup (pa_cons pe_str (pa_cons (pv 1) pa_nil))) (pa_cons (pe_tup (pa_cons pe_str (pa_cons (pv 1) (pa_cons pe_int pa_nil)))) (pa_cons (pe_lst (pa_cons pe_str (pa_cons (pv 1) (pa_cons pe_int pa_nil)))) (pa_cons (pe_tup (pa_cons pe_str (pa_cons (pe_un un_neg pe_int) (pa_cons pe_int pa_nil)))) (pa_cons (pe_tup (pa_cons pe_str (pa_cons pe_bl (pa_cons pe_int pa_nil)))) (pa_cons pe_int pa_nil))))))))))
      (pss_cons (ps_set (i := 2) nd rfl (Or.inl rfl) (pe_op op_cat (pv 2) (pe_lst (pa_cons (pe_tup (pa_cons pe_str (pa_cons (pv 1) (pa_cons (pe_tup (pa_cons pe_int (pa_cons pe_int pa_nil))) (pa_cons (pe_tup (pa_cons pe_int (pa_cons (pe_tup (pa_cons pe_int (pa_cons pe_int pa_nil))) pa_nil))) pa_nil))))) (pa_cons (pe_tup (pa_cons pe_str (pa_cons (pv 1) (pa_cons (pe_tup (pa_cons pe_int (pa_cons pe_int pa_nil))) pa_nil)))) (pa_cons (pe_tup (pa_cons pe_str (pa_cons (pv 1) (pa_cons pe_int (pa_cons pe_int (pa_cons pe_int pa_nil)))))) (pa_cons (pe_tup (pa_cons pe_str (pa_cons pe_non (pa_cons pe_int pa_nil)))) pa_nil)))))))
      (pss_one (ps_ret (pe_ix ix_list (pv 2) (pe_op op_mod (pe_callTy call_int1 (by rfl) T.b_int (by decide +kernel) (pa_cons (pv 0) pa_nil)) pe_int) (fun _ _ => rfl)))))), ?_⟩
    show tAsg (tLst _) _ _ _ _
    show tLst _ _ _ _
    refine ze_list (p := p) (ds := (odds t).take 8) (by walk_at "ze") g fun a xs H1 s1 ha na r1 => ?_
    walk_at "rdz"
    show tLst _ _ _ _
    refine ze_list (p := p) (ds := (odds t).drop 8) (by walk_at "ze") (g.same s1) fun b2 ys H2 s2 hb2 nb2 r2 => ?_
    have l1 : xs.length = 8 := r1.length
    have l2 : ys.length = 4 := r2.length
    refine ⟨a, b2, xs, ys, rfl, rfl, s2 _ _ ha, hb2, by omega, fun u nu => ?_⟩
    have r3 : Rps p H2 (xs ++ ys) (odds t) := (r1.same s2).append r2
    have su := same_new nu (.lst (xs ++ ys))
    walk_at "rds"
    have hlt : (c % 12).toNat < (xs ++ ys).length := by rw [List.length_append]; omega
    obtain ⟨d, hd, rd⟩ := (r3.same su).at (List.getElem?_eq_getElem hlt)
    refine ⟨u, _, _, _, rfl, rfl, SqL.of upd_same, at_int (by omega) (List.getElem?_eq_getElem hlt), ?_⟩
    exact q _ d _ (List.mem_of_getElem? hd) (s1.trans (s2.trans su)) rd
end
end Mus

set_option maxRecDepth 100000
set_option maxHeartbeats 4000000
namespace Mus
open PySem L2
local macro_rules | `(tactic| walk_at "rd") => `(tactic| first
  | refine ⟨_, rfl, ?_⟩ | refine ⟨(True.intro : True), ?_⟩
  | refine ⟨_, _, rfl, rfl, (⟨by decide, by decide, by decide⟩ : CPow _ _), ?_⟩
  | refine ⟨_, _, rfl, rfl, (⟨by decide, by decide⟩ : CDiv _ _), ?_⟩
  | refine ⟨_, _, rfl, rfl, (by show (0 : Int) < _; decide), ?_⟩
  | refine ⟨_, _, rfl, rfl, ?_⟩ | refine ⟨rfl, ?_⟩ | refine iteT ?_ | refine iteF ?_ | refine ⟨_, _, rfl, ?_⟩ | refine .inl ⟨_, rfl, ?_⟩
  | refine ⟨_, _, _, _, _, rfl, (by assumption), (by assumption), (by assumption), rfl, ?_⟩ | refine ⟨_, _, _, _, rfl, rfl, SqT.of (by assumption), rfl, ?_⟩ | refine ⟨_, _, rfl, SqT.of (by assumption), rfl, ?_⟩
  | refine ⟨_, _, _, _, _, rfl, .ty _, Rp.ty (by assumption), kit_int _, ?_⟩ | refine ⟨_, _, _, _, _, rfl, .ty _, Rp.ty (by assumption), kit_bool _, ?_⟩
  | refine ⟨_, _, _, _, _, rfl, .ty _, Rp.ty (by assumption), kit_str _, ?_⟩ | refine ⟨_, _, _, _, _, rfl, .ty _, Rp.ty (by assumption), kit_tup _, ?_⟩)
local macro_rules | `(tactic| walk_at "cal") => `(tactic| first
  | refine ⟨_, _, _, _, _, rfl, (by assumption), ?_⟩ | refine ⟨_, _, _, _, _, rfl, (by assumption), (by assumption), ?_⟩)
local macro_rules | `(tactic| walk_at "sq") => `(tactic| first
  | refine ⟨_, _, rfl, Or.inr (SqT.of (by assumption)), ?_⟩ | refine ⟨_, _, _, _, rfl, rfl, SqT.of (by assumption), rfl, ?_⟩)
local macro_rules | `(tactic| walk_at "rds") => `(tactic| repeat first | walk_at "rd" | walk_at "cal" | walk_at "sq")
local macro_rules | `(tactic| walk_at "ze") => `(tactic| repeat first
  | exact zes_nil | exact ze_bl | exact ze_str | exact ze_non | apply zes_cons | apply ze_tup | apply ze_lst | apply ze_cat | exact di_c | exact di_v rfl | apply di_opC | apply di_op | apply di_neg | apply ze_i | (refine (⟨?_, ?_, ?_⟩ : CPow _ _) <;> decide) | exact Nat.le_of_ble_eq_true rfl | exact ze_varD rfl (by assumption))
local macro_rules | `(tactic| walk_at "rdz") => `(tactic| repeat (fail_if_success (first | show tLst _ _ _ _ | show tAsg (tLst _) _ _ _ _ | show tSeq (tAsg (tLst _) _) _ _ _ _)); first | walk_at "rd" | walk_at "cal" | walk_at "sq")
section
variable {P : Program} {w : World} {K : PySem.W.Frag} {mg : Str → Option Value} {base : Heap} {CH CB DL : Addr}
def sp_added (CH : Addr) : Sp := fun vs H Q _ => ∃ (p l : Addr) (ws : List V) (ds : List PyData) (v : V) (d : PyData), vs = [.ref p, v] ∧ HAt CH H p l ws ds ∧ Rp l H v d ∧ EvK d ∧
  (∀ z, verd d ds = some z → ∀ H', Same H H' → Q (.str z) H') ∧ (verd d ds = none → Q (.str "") (upd H l (.lst (ws ++ [v]))))
abbrev s__law_added : Stmt := top 13
abbrev N__law_added : List Str := ["history", "event", "error"]
abbrev P__law_added : List Str := ["history", "event"]
theorem sc__law_added : FnScope N__law_added P__law_added (defScope s__law_added) := ⟨rfl, rfl, rfl, by decide +kernel, rfl, by decide +kernel, by decide +kernel⟩
theorem ok__law_added {f : Addr} {fd : FuncData} (T : Tx w K mg CH CB DL) (m_History_add : MethOk P w K mg base (L2.CX P w) CH "add" P_History_add 3 (sp_add CH CB)) (F : Fun K "_law_added" "_law_added" s__law_added f fd) : FnOk P w K mg base CX0 4 f fd P__law_added (sp_added CH) := by
  have nd := sc__law_added.nd
  refine F.ok sc__law_added (fun vs H Q E h => ?_) (fun cdv A outer s H vs Q E hr h => ?_)
  · obtain ⟨_, _, _, _, _, _, rfl, _⟩ := h
    rfl
  · obtain ⟨p, l, ws, ds, v, d, rfl, hh, hv, hk, q1, q2⟩ := h
    have hs := sl
    obtain ⟨⟨dx, h1⟩, h2, h3, h4, h5⟩ := id hh
    refine ⟨_, (pss_cons (ps_tryAs (i := 2) rfl rfl nd rfl rfl ⟨rfl, by decide, .inl T.g_BadSchedule⟩ takes0 (fun W pn xe tk _ => (pss_one (ps_expr (pmethA m_History_add T.cl_History tk (pv 0) hr (pa_cons (pv 1) pa_nil)))))
        (fun a oe cls d pn hz hf => (pss_cons (ps_if (PW.pt (pw_or (pt_val (pe_callB call_isi (by rfl) T.b_isinstance (by decide +kernel) (pa_cons (pe_xf T.f_BadSchedule T.n_line hz hf (pv 2)) (pa_cons (pe_ty "bool" T.b_bool) pa_nil)))) (pw_or1 (pt_cmpR op_ne (pe_xf T.f_BadSchedule T.n_line hz hf (pv 2)) pe_int (nomark _)))))
          (pss_one (ps_ret pe_non))
          pss_nil)
        (pss_one (ps_ret (pe_xf T.f_BadSchedule T.n_reason hz hf (pv 2)))))))
      (pss_one (ps_ret pe_str))), ?_⟩
    refine ⟨_, rfl, p, dx, _, rfl, h1, rfl, _, rfl, p, l, ws, ds, v, d, rfl, hh, hv, hk, fun z hz e H' s1 he => ?_, fun hz => ?_⟩
    · refine ⟨true, T.m_BB, fun _ a na => ?_, fun h => by cases h⟩
      refine ⟨_, rfl, rfl, rfl, e, _, .int 0, rfl, he, rfl, ?_⟩
      refine ⟨_, _, _, _, false, rfl, .ty _, .base (.int 0), kit_ty (by decide +kernel), ?_⟩
      walk_at "rds"
      refine ⟨e, _, .int 0, rfl, he, rfl, ?_⟩
      walk_at "rds"
      refine ⟨e, _, .str z, rfl, he, rfl, ?_⟩
      exact q1 z hz H' s1
    · exact q2 hz
def dueE (t' t : Int) : Str := if t' > 1000000000000 then "event" else if t' < t then "time" else ""
def sp_law (K : PySem.W.Frag) : Sp := fun vs H Q _ => ∃ (a : Addr) (ns : List Int), vs = [.ref a] ∧ SqL K H a (ns.map V.int) ∧ ns.length ≤ 63 ∧ ∀ H', Q (.bl true) H'
/-- how things stand at a turn -/
structure At60 (CH : Addr) (H0 H : Hp) (p l e : Addr) (t : Int) (ws : List V) (ds : List PyData) : Prop where
  s : Same H0 H
  nl : H0 l = none
  ne : H0 e = none
  le : e ≠ l
  h : HAt CH H p l ws ds
  he : H e = some (.lst ws)
  t0 : 0 ≤ t
  t1 : lastT ds = t
theorem At60.same {H0 H H' : Hp} {p l e : Addr} {t : Int} {ws : List V} {ds : List PyData} (a : At60 CH H0 H p l e t ws ds) (s : Same H H') : At60 CH H0 H' p l e t ws ds :=
  ⟨a.s.trans s, a.nl, a.ne, a.le, a.h.same s, s _ _ a.he, a.t0, a.t1⟩
theorem gd_list {ds : List PyData} (h : ∀ d ∈ ds, Gd d) : SeqAt.shaped (.list ds) = true ∧ PyData.eqv (.list ds) (.list ds) = true := by
  have h1 : PyData.canLayAll0 ds = true ∧ PyData.depthAll ds ≤ 10 := by
    induction ds with
    | nil => simp [PyData.canLayAll0, PyData.depthAll]
    | cons d ds ih =>
      obtain ⟨i1, i2⟩ := ih fun x hx => h x (List.mem_cons_of_mem _ hx)
      obtain ⟨_, _, g1, g2⟩ := h d List.mem_cons_self
      simp [PyData.canLayAll0, PyData.depthAll, g1, i1]
      omega
  refine ⟨?_, SeqAt.eqv_refl _ (by simp [PyData.canLay0, h1.1])⟩
  unfold SeqAt.shaped
  rw [Bool.and_eq_true, decide_eq_true_eq]
  refine ⟨by simp [PyData.canLay0, h1.1], ?_⟩
  have := h1.2
  simp [PyData.depth]
  omega
abbrev s_law : Stmt := top 14
abbrev N_law : List Str := ["script", "history", "events", "time", "cell", "odd", "event", "due", "handed"]
abbrev P_law : List Str := ["script"]
theorem sc_law : FnScope N_law P_law (defScope s_law) := ⟨rfl, rfl, rfl, by decide +kernel, rfl, by decide +kernel, by decide +kernel⟩
theorem ok_law {f : Addr} {fd : FuncData} (T : Tx w K mg CH CB DL) (k_History : MkOk P w K mg base CH "History" P_History___init__ 1 (sp_hinit CH)) (m_History_events : MethOk P w K mg base CX0 CH "events" P_History_events 1 (sp_hevs CH))
    (c__law_offer : DefOk P w K mg base CX0 "_law_offer" P__law_offer 1 (sp_offer)) (c__law_odd : DefOk P w K mg base CX0 "_law_odd" P__law_odd 1 (sp_lodd)) (c__law_added : DefOk P w K mg base CX0 "_law_added" P__law_added 4 (sp_added CH)) (F : Fun K "law" "law" s_law f fd) : FnOk P w K mg base CX0 5 f fd P_law (sp_law K) := by
  have nd := sc_law.nd
  refine F.ok sc_law (fun vs H Q E h => ?_) (fun cdv A outer s H vs Q E hr h => ?_)
  · obtain ⟨_, _, rfl, _⟩ := h
    rfl
  · obtain ⟨a, ns, rfl, hS, hlen, q⟩ := h
    have hu := hu_of hr
    have hs := sl
    have c1 := T.cl_History
    refine ⟨_, (pss_cons (ps_set (i := 1) nd rfl (Or.inl rfl) (pmake0 k_History hr))
      (pss_cons (ps_set (i := 2) nd rfl (Or.inl rfl) (pe_lst pa_nil))
      (pss_cons (ps_set (i := 3) nd rfl (Or.inl rfl) pe_int)
      (pss_cons (ps_for PassesOwn.never rfl (pi_list (pv 0)) (pg_name (i := 4) nd rfl (Or.inl rfl))
        (pss_cons (ps_set (i := 5) nd rfl (Or.inl rfl) (pe_cmpR op_eq (pe_op op_mod (pe_callTy call_int1 (by rfl) T.b_int (by decide +kernel) (pa_cons (pv 4) pa_nil)) pe_int) pe_int (nomark _)))
        (pss_cons (ps_set (i := 6) nd rfl (Or.inl rfl) (pcall c__law_offer hr (pa_cons (pe_op op_fdiv (pv 4) pe_int) (pa_cons (pv 3) pa_nil))))
        (pss_cons (ps_set (i := 7) nd rfl (Or.inl rfl) pe_str)
        (C8.pss_cut (ps_if (pt_cmpR op_lt (pe_ix ix_tup (pv 6) pe_int (fun _ _ => rfl)) (pv 3) (nomark _))
          (pss_one (ps_set (i := 7) nd rfl (Or.inl rfl) pe_str))
          pss_nil)
        (C8.pss_cut (ps_if (pt_cmpR op_gt (pe_ix ix_tup (pv 6) pe_int (fun _ _ => rfl)) (pe_op op_pow pe_int pe_int) (nomark _))
          (pss_one (ps_set (i := 7) nd rfl (Or.inl rfl) pe_str))
          pss_nil)
        (C8.pss_cut (ps_if (pt_val (pv 5))
          (pss_cons (ps_set (i := 6) nd rfl (Or.inl rfl) (pcall c__law_odd hr (pa_cons (pe_op op_fdiv (pv 4) pe_int) (pa_cons (pv 3) pa_nil))))
          (pss_one (ps_set (i := 7) nd rfl (Or.inl rfl) pe_str)))
          pss_nil)
        (pss_cons (ps_if (pt_cmpR op_ne (pcall c__law_added hr (pa_cons (pv 1) (pa_cons (pv 6) pa_nil))) (pv 7) (nomark _))
          (pss_one (ps_ret pe_bl))
          pss_nil)
        (C8.pss_cut (ps_if (pt_cmpR op_eq (pv 7) pe_str (nomark _))
          (pss_cons (ps_expr (pe_bm PySem.F.plainAttrs_list PySem.F.slot_list_append PySem.F.type_list_append mt_append (pv 2) (pa_cons (pv 6) pa_nil)))
          (pss_one (ps_set (i := 3) nd rfl (Or.inl rfl) (pe_ix ix_tup (pv 6) pe_int (fun _ _ => rfl)))))
          pss_nil)
        (pss_cons (ps_set (i := 8) nd rfl (Or.inl rfl) (pmeth0 m_History_events T.cl_History (pv 1) hr))
        (pss_cons (ps_if (PW.pt (pw_or (pt_not (pt_val (pe_callB call_isi (by rfl) T.b_isinstance (by decide +kernel) (pa_cons (pv 8) (pa_cons (pe_ty "list" T.b_list) pa_nil))))) (pw_or1 (pt_cmpR (op_neD hr.units) (pv 8) (pv 2) (nomark _)))))
          (pss_one (ps_ret pe_bl))
          pss_nil)
        (pss_one (ps_expr (pe_bm PySem.F.plainAttrs_list PySem.F.slot_list_append PySem.F.type_list_append mt_append (pv 8) (pa_cons pe_non pa_nil)))))))))))))))
      (pss_one (ps_ret (pe_cmpR (op_eqD hr.units) (pmeth0 m_History_events T.cl_History (pv 1) hr) (pv 2) (nomark _)))))))), ?_⟩
    intro p dx np ndx ndp
    refine ⟨p, dx, rfl, upd_same, fun l H1 nl hh fr => ⟨rfl, ?_⟩⟩
    have lp : l ≠ p := fun z => by rw [z, upd_same] at nl; cases nl
    have ldx : l ≠ dx := fun z => by rw [z, upd_ne ndp, upd_same] at nl; cases nl
    have nl0 : H l = none := by rwa [upd_ne lp, upd_ne ldx] at nl
    have s1 : Same H H1 := fun b o hb => fr b o (by rw [upd_ne (ne_of_none hb np), upd_ne (ne_of_none hb ndx)]; exact hb) (ne_of_none hb np)
    refine ⟨by show 0 ≤ sizeLine; omega, fun e ne => ?_⟩
    have ne0 : H e = none := by
      cases he : H e with
      | none => rfl
      | some o => rw [s1 _ _ he] at ne; cases ne
    have el : e ≠ l := (ne_of_none hh.hl ne).symm
    have A0 : At60 CH H (upd H1 e (.lst [])) p l e 0 [] [] := ⟨s1.trans (same_new ne _), nl0, ne0, el, hh.same (same_new ne _), upd_same, by decide, rfl⟩
    generalize upd H1 e (HO.lst []) = H2 at *
    refine ⟨_, rfl, a, rfl, ⟨_, A0.s.seq hS⟩, for_list (K := K) (a := a) (xs := ns.map V.int) (fun i σ H' => ∃ (t : Int) (ws : List V) (ds : List PyData) (x4 x5 x6 x7 x8 : Option V), σ = [some (.ref a), some (.ref p), some (.ref e), some (.int t), x4, x5, x6, x7, x8] ∧ At60 CH H H' p l e t ws ds ∧ ds.length ≤ i) ?_ ?_ ?_ ?_⟩
    · exact ⟨0, [], [], _, _, _, _, _, rfl, A0, Nat.le_refl _⟩
    · rintro i σ H' _ ⟨t, ws, ds, _, _, _, _, _, rfl, A, _⟩
      exact A.s.seq hS
    · rintro i x σ H3 hx ⟨t, ws, ds, x4, x5, x6, x7, x8, rfl, A1, hle⟩
      obtain ⟨n, rfl⟩ : ∃ n, x = .int n := by
        rw [List.getElem?_map] at hx
        cases e : ns[i]? with
        | none => rw [e] at hx; cases hx
        | some n => rw [e] at hx; exact ⟨n, (Option.some.inj hx).symm⟩
      have hi : i < 63 := by
        have := (List.getElem?_eq_some_iff.mp hx).1
        rw [List.length_map] at this
        omega
      walk_at "rds"
      have hb : decide ((fun i j => V.int (i % j)) n 7 = V.int 0) = decide (n % 7 = 0) := decide_eq_decide.mpr ⟨fun h => V.int.inj h, fun h => congrArg V.int h⟩
      rw [hb]
      generalize decide (n % 7 = 0) = odd
      obtain ⟨⟨dx1, o1⟩, o2, o3, o4, o5⟩ := id A1.h
      refine ⟨l, n / 7, t, rfl, ⟨_, o2⟩, fun t' v d H4 t0 hd s4 rv => ?_⟩
      have A4 := A1.same s4
      obtain ⟨k1, k2, ⟨z, es, rfl⟩, k3, k4, k5⟩ := ev_ok hd
      obtain _ | _ | _ | _ | _ | @⟨b, xs, _, hb, nb, hw, hr1⟩ := id rv
      obtain _ | ⟨hx1, _ | ⟨hy1, hr2⟩⟩ := id hr1
      cases hy1
      have hat : ∀ (x y : V) (l : List V), atI (x :: y :: l) 1 = some y := fun x y l => at_int (by decide) rfl
      walk_at "rds"
      have B : ∀ (v : V) (u : Str) (x8 : Option V), ([some (V.ref a), some (V.ref p), some (V.ref e), some (V.int t), some (V.int n), some (V.bl odd), some v, some (V.str u), x8] : L2.St) = [some (V.ref a), some (V.ref p), some (V.ref e), some (V.int t), some (V.int n), some (V.bl odd), some v, some (V.str u), x8] := fun _ _ _ => rfl
      refine ⟨fun σ' H' => σ' = [some (V.ref a), some (V.ref p), some (V.ref e), some (V.int t), some (V.int n), some (V.bl odd), some (V.ref b), some (V.str (if t' < t then "time" else "")), x8] ∧ H4 = H', ?_, ?_⟩
      · walk_at "rds"
        refine ⟨b, _, _, _, rfl, rfl, SqT.of hb, hat _ _ _, ?_⟩
        walk_at "rds"
        refine iB (fun h => ?_) (fun h => ?_)
        · rw [if_pos (of_decide_eq_true h)]; exact ⟨rfl, rfl⟩
        · rw [if_neg (of_decide_eq_false h)]; exact ⟨rfl, rfl⟩
      rintro _ _ ⟨rfl, rfl⟩
      refine ⟨fun σ' H' => σ' = [some (V.ref a), some (V.ref p), some (V.ref e), some (V.int t), some (V.int n), some (V.bl odd), some (V.ref b), some (V.str (dueE t' t)), x8] ∧ H4 = H', ?_, ?_⟩
      · walk_at "rds"
        refine ⟨b, _, _, _, rfl, rfl, SqT.of hb, hat _ _ _, ?_⟩
        walk_at "rds"
        refine iB (fun h => ?_) (fun h => ?_)
        · have h : t' > 1000000000000 := of_decide_eq_true h
          unfold dueE
          rw [if_pos h]; exact ⟨rfl, rfl⟩
        · have h : ¬ t' > 1000000000000 := of_decide_eq_false h
          unfold dueE
          rw [if_neg h]; exact ⟨rfl, rfl⟩
      rintro _ _ ⟨rfl, rfl⟩
      have vd : dueE t' t = (verd (.tuple (.str z :: .int t' :: es)) ds).getD "" := by
        unfold verd dueE
        rw [k2, show tm (.tuple (.str z :: .int t' :: es)) = t' from rfl, A1.t1]
        by_cases h : t' > 1000000000000
        · have e : isInt (.int t') 0 1000000000000 = false := by show (decide (0 ≤ t') && decide (t' ≤ 1000000000000)) = false; rw [decide_eq_false (show ¬ t' ≤ 1000000000000 by omega), Bool.and_false]
          rw [if_pos h, e]; rfl
        · have e : isInt (.int t') 0 1000000000000 = true := by show (decide (0 ≤ t') && decide (t' ≤ 1000000000000)) = true; rw [decide_eq_true (show t' ≤ 1000000000000 by omega), decide_eq_true t0]; rfl
          rw [if_neg h, e, if_pos rfl]
          split <;> rfl
      refine ⟨fun σ' H' => ∃ (v : V) (d : PyData), σ' = [some (V.ref a), some (V.ref p), some (V.ref e), some (V.int t), some (V.int n), some (V.bl odd), some v, some (V.str ((verd d ds).getD "")), x8] ∧ At60 CH H H' p l e t ws ds ∧ Rp l H' v d ∧ EvK d ∧ (verd d ds = none → d.canLay0 = true ∧ d.depth ≤ 10 ∧ NoL d), ?_, ?_⟩
      · refine ⟨_, rfl, _, rfl, ?_⟩
        cases odd with
        | true =>
          refine iteT ?_
          refine ⟨_, rfl, _, _, rfl, rfl, (⟨by decide, by decide⟩ : CDiv _ _), _, rfl, l, n / 7, t, rfl, ⟨_, A4.h.hl⟩, fun v d H5 hd s5 rv5 => ?_⟩
          obtain ⟨i1, i2⟩ := odd_ok hd
          have ve : verd d ds = some "event" := by unfold verd; rw [i2]; rfl
          walk_at "rds"
          refine ⟨v, d, by rw [ve]; rfl, A4.same s5, rv5, i1, fun h => by rw [ve] at h; cases h⟩
        | false =>
          refine iteF ?_
          exact ⟨_, _, by rw [vd], A4, rv, k1, fun _ => ⟨k4, k5, k3⟩⟩
      rintro _ H5 ⟨v, d, rfl, A5, rv5, ek, gd⟩
      walk_at "rds"
      have fin : ∀ (t : Int) (ws : List V) (ds : List PyData) (H6 : Hp) (v : V) (u : Str), At60 CH H H6 p l e t ws ds → ds.length ≤ i + 1 → True := fun _ _ _ _ _ _ _ _ => trivial
      refine ⟨p, l, ws, ds, v, d, rfl, A5.h, rv5, ek, fun z hz H6 s6 => ?_, fun hz => ?_⟩
      case' refine_1 =>
        have zne : z ≠ "" := by
          unfold verd at hz
          split at hz
          · split at hz
            · cases hz; decide +kernel
            · cases hz
          · cases hz; decide +kernel
        rw [hz]
        walk_at "rds"
        refine nF rfl ?_
        walk_at "rds"
        refine ⟨fun σ' H' => ∃ (t : Int) (ws : List V) (ds : List PyData) (x6 x7 x8 : Option V), σ' = [some (V.ref a), some (V.ref p), some (V.ref e), some (V.int t), some (V.int n), some (V.bl odd), x6, x7, x8] ∧ At60 CH H H' p l e t ws ds ∧ ds.length ≤ i + 1, ?_, ?_⟩
        case' refine_1 =>
          walk_at "rds"
          refine dF (fun h => zne (V.str.inj h)) ?_
          exact ⟨t, ws, ds, _, _, _, rfl, A5.same s6, by omega⟩
      case' refine_2 =>
        rw [hz]
        have hev : isEvt d = true ∧ ¬ tm d < lastT ds := by
          unfold verd at hz
          split at hz
          · rename_i h1
            split at hz
            · cases hz
            · rename_i h2
              exact ⟨h1, h2⟩
          · cases hz
        obtain ⟨gd1, gd2, gd3⟩ := gd hz
        obtain ⟨z2, t2, es2, rfl, t20, t21⟩ := isEvt_form hev.1
        obtain _ | _ | _ | _ | _ | @⟨b2, xs2, _, hb2, nb2, hw2, hr2⟩ := id rv5
        obtain _ | ⟨hx2, _ | ⟨hy2, hr3⟩⟩ := id hr2
        cases hy2
        have l5 : (upd H5 l (HO.lst (ws ++ [V.ref b2]))) l = some (.lst (ws ++ [V.ref b2])) := upd_same
        have e5 : (upd H5 l (HO.lst (ws ++ [V.ref b2]))) e = some (.lst ws) := by rw [upd_ne A5.le]; exact A5.he
        have b5 := (upd_ne (H := H5) (o := HO.lst (ws ++ [V.ref b2])) nb2).trans hb2
        have lw := A5.h.rs.length
        walk_at "rds"
        refine ⟨fun σ' H' => ∃ (t : Int) (ws : List V) (ds : List PyData) (x6 x7 x8 : Option V), σ' = [some (V.ref a), some (V.ref p), some (V.ref e), some (V.int t), some (V.int n), some (V.bl odd), x6, x7, x8] ∧ At60 CH H H' p l e t ws ds ∧ ds.length ≤ i + 1, ?_, ?_⟩
        case' refine_1 =>
          walk_at "rds"
          refine ⟨.inl ⟨rfl, _, SqL.of e5⟩, ?_⟩
          walk_at "rds"
          refine ⟨e, _, _, rfl, rfl, e5, by omega, ?_⟩
          walk_at "rds"
          have be : b2 ≠ e := ne_of b5 e5 (by intro z; cases z)
          refine ⟨b2, _, _, _, rfl, rfl, SqT.of ((upd_ne be).trans b5), hat _ _ _, ?_⟩
          obtain ⟨⟨dx5, p5⟩, q5, r5, k5', le5⟩ := id A5.h
          have pl : p ≠ l := ne_of p5 q5 (by intro z; cases z)
          have pe : p ≠ e := ne_of p5 A5.he (by intro z; cases z)
          have all : ∀ x ∈ ds ++ [.tuple (.str z2 :: .int t2 :: es2)], Gd x := fun x hx => by
            rcases List.mem_append.mp hx with hx | hx
            · exact k5' x hx
            · rw [List.mem_singleton.mp hx]; exact ⟨hev.1, gd3, gd1, gd2⟩
          refine ⟨t2, ws ++ [.ref b2], ds ++ [.tuple (.str z2 :: .int t2 :: es2)], _, _, _, rfl, ⟨fun b o hb => ?_, A5.nl, A5.ne, A5.le, ⟨⟨dx5, ?_⟩, ?_, ?_, all, ?_⟩, upd_same, t20, ?_⟩, ?_⟩
          · rw [upd_ne (ne_of_none hb A5.ne), upd_ne (ne_of_none hb A5.nl)]; exact A5.s b o hb
          · rw [upd_ne pe, upd_ne pl]; exact p5
          · rw [upd_ne A5.le.symm, upd_same]
          · exact Rps.updL e5 ((r5.append (.cons rv5 .nil)).mono (but_upd _)) fun x hx => (all x hx).2.1
          · rw [List.length_append]; show _ + 1 ≤ 100; omega
          · unfold lastT; rw [List.getLast?_append]; rfl
          · rw [List.length_append]; show _ + 1 ≤ _; omega
      all_goals
        rintro _ H7 ⟨t7, ws7, ds7, x6, x7', x8', rfl, A7, hle7⟩
        obtain ⟨⟨dx7, o7⟩, _, r7, k7, _⟩ := id A7.h
        walk_at "rds"
        refine ⟨p, dx7, _, rfl, o7, rfl, ?_⟩
        refine ⟨p, l, ws7, ds7, rfl, A7.h, fun u nu => ?_⟩
        have su := same_new nu (.lst ws7)
        obtain ⟨g1, g2⟩ := gd_list k7
        walk_at "rds"
        refine ⟨_, _, _, _, true, rfl, .ty _, .base (.lst upd_same), kit_ty (by decide +kernel), ?_⟩
        walk_at "rds"
        refine ⟨.list ds7, .list ds7, .lst (SqL.of upd_same) (r7.same su).dp, .lst (SqL.of (su _ _ A7.he)) (r7.same su).dp, g1, g1, ?_⟩
        rw [g2]
        walk_at "rds"
        refine ⟨.inl ⟨rfl, _, SqL.of upd_same⟩, ?_⟩
        walk_at "rds"
        have lw7 := r7.length
        refine ⟨u, _, _, rfl, rfl, upd_same, by have := A7.h.le; omega, t7, ws7, ds7, _, _, _, _, _, rfl, A7.same fun b o hb => ?_, hle7⟩
        rw [upd_ne (ne_of_none hb nu), upd_ne (ne_of_none hb nu)]; exact hb
    · rintro σ H3 ⟨t, ws, ds, x4, x5, x6, x7, x8, rfl, A1, _⟩
      obtain ⟨⟨dx', o1⟩, o2, o3, o4, o5⟩ := id A1.h
      walk_at "rds"
      refine ⟨p, dx', _, rfl, o1, rfl, ?_⟩
      refine ⟨p, l, ws, ds, rfl, A1.h, fun u nu => ?_⟩
      have su := same_new nu (.lst ws)
      obtain ⟨g1, g2⟩ := gd_list o4
      walk_at "rds"
      refine ⟨.list ds, .list ds, .lst (SqL.of upd_same) (o3.same su).dp, .lst (SqL.of (su _ _ A1.he)) (o3.same su).dp, g1, g1, ?_⟩
      rw [g2]
      exact q _
end
end Mus

set_option maxRecDepth 100000
set_option maxHeartbeats 4000000
namespace Mus
open PySem L2
def at_mk {K : PySem.W.Frag} {h : Heap} {mg : Str → Option Value} {x : Str} {ps : List Str} {st : Stmt} {f : Addr} {oc : Value} {od an : Option Addr} {osl : Array (Option Value)} {kV dc pm cd ct : Value} (X : K.In h) (G : h.Ns mainGlobals mg) (a : PySem.W.nsIn K mainGlobals x = some (some (.ref f)))
    (l : K.lookup f = some ⟨oc, od, .func (PySem.W.fnOf x x (defArgs st) (defBody st) (defScope st) .none kV dc pm an cd ct), osl⟩) (c : PySem.W.codeIn K cd x = true) (k : PySem.W.keepIn K (.ref f) = true)
    (hb : ∀ (kV doc pm : Value) (an : Option Addr) (cdv ct : Value) (us : List Value), us.length = ps.length → bindArgs (PySem.W.fnOf x x (defArgs st) (defBody st) (defScope st) .none kV doc pm an cdv ct) ⟨us, []⟩ = pure (ps.zip us)) : DefAt K mg x ps st :=
  ⟨f, _, fun_mk (st := st) l c k, PySem.W.mg_of X G a, (fun_mk (st := st) l c k).binds hb⟩
def meth_mk {K : PySem.W.Frag} {C : Addr} {x qual : Str} {ps : List Str} {st : Stmt} {f : Addr} {oc : Value} {od an : Option Addr} {osl : Array (Option Value)} {kV dc pm cd ct : Value} (a : PySem.W.findIn K (.ref C) x = some (some (.ref f))) (i : PySem.W.isFn K (.ref f) = true)
    (l : K.lookup f = some ⟨oc, od, .func (PySem.W.fnOf x qual (defArgs st) (defBody st) (defScope st) .none kV dc pm an cd ct), osl⟩) (c : PySem.W.codeIn K cd qual = true) (k : PySem.W.keepIn K (.ref f) = true)
    (hb : ∀ (kV doc pm : Value) (an : Option Addr) (cdv ct : Value) (us : List Value), us.length = ps.length → bindArgs (PySem.W.fnOf x qual (defArgs st) (defBody st) (defScope st) .none kV doc pm an cdv ct) ⟨us, []⟩ = pure (ps.zip us)) : MethAt K C x qual ps st :=
  ⟨f, _, fun_mk (st := st) l c k, ⟨a, i, k⟩, (fun_mk (st := st) l c k).binds hb⟩
theorem walk_ofX {l : PySem.W.OpenLaw} {n k : Nat} {q : Program} {loose : List Str} {XP : (Str → Option Value) → Heap → Prop} {YP : World → Heap → Prop} {d : DefRec} {K : Params → PySem.W.Frag} {sp : World → Sp} {x : Str}
    (most : l.most = some n) (few : n ≤ sizeLine) (nod : d.params.defaults = []) (room : Room k callerA) (kin : ∀ (w : World) (h : Heap), YP w h → (K w.params).In h)
    (F : ∀ (w : World) (mg : Str → Option Value) (at1 : Addr) (h : Heap), (K w.params).In h → h.Ns mainGlobals mg → XP mg h → mg d.name = some (.ref at1) →
      ∃ fd : FuncData, (∀ (s : Shared) (u : Value), BindsTo s fd ⟨[u], []⟩ [(x, u)]) ∧ ∀ base : Heap, (K w.params).In base → base.Ns mainGlobals mg → FnOk l.prog w (K w.params) mg base CX0 k at1 fd [x] (sp w))
    (hsp : ∀ (w : World) (H : Hp) (a : Addr) (ns : List Int), ns.length ≤ n → Only H → SqL (K w.params) H a (ns.map V.int) → sp w [.ref a] H (fun v _ => v = .bl true) fun _ _ _ => False) :
    PySem.W.WalkO q loose XP YP l.row.toRowW d [] (fun f vs => PySem.call f vs) := by
  refine Att.attach_call most nod fun w sb sc mg mB at1 o pm1 cd1 doc1 a vs ns G Y ho1 hd1 hc1 hm1 ob1 in1 ln1 hg1 => ?_
  have inK := kin w _ Y
  obtain ⟨fd, bnd, pr⟩ := F w mg at1 _ inK G.T.g G.X hm1
  exact law_call inK G.T.g G.T.b G.T.builtins G.T.nolimit hg1 ob1 in1 (Nat.le_trans ln1 few) room pr bnd (fun H hO hS => hsp w H a ns ln1 hO hS) fun H e s' z => z
theorem loose_int {n : Str} {i : Int} {mg : Str → Option Value} {h : Heap} (x : PySem.W.LooseAre [(n, PySem.W.WData.int i)] mg h) : ∃ t, mg n = some (.int i t) := by
  obtain ⟨v, h1, h2⟩ := x.val _ (List.mem_singleton.mpr rfl)
  cases h2
  exact ⟨_, h1⟩
theorem all_mk {l : PySem.W.OpenLaw} {w : World} {K : PySem.W.Frag} {h : Heap} {mg : Str → Option Value} {fa : Addr} (X : K.In h) (G : h.Ns mainGlobals mg) (hfa : mg "law" = some (.ref fa)) (hL0 : ∃ t, mg "MOST_NUMBER" = some (.int 1000000000000 t))
    {C_History : Addr}
    {odx_History___init__ anx_History___init__ : Option Addr} {slx_History___init__ : Array (Option Value)} {ocx_History___init__ kVx_History___init__ dcx_History___init__ pmx_History___init__ cdx_History___init__ ctx_History___init__ : Value} {fx_History___init__ : Addr}
    {odx_History_add anx_History_add : Option Addr} {slx_History_add : Array (Option Value)} {ocx_History_add kVx_History_add dcx_History_add pmx_History_add cdx_History_add ctx_History_add : Value} {fx_History_add : Addr}
    {odx_History_events anx_History_events : Option Addr} {slx_History_events : Array (Option Value)} {ocx_History_events kVx_History_events dcx_History_events pmx_History_events cdx_History_events ctx_History_events : Value} {fx_History_events : Addr}
    {C_BadSchedule M_BadSchedule : Addr} {nm_BadSchedule q_BadSchedule : Str} {N_BadSchedule : Addr} {bs_BadSchedule : List Value} {sn_BadSchedule : List Str} {sub_BadSchedule : List Value} {ab_BadSchedule : Bool} {col_BadSchedule : Option Bool} {dd_BadSchedule : Option Addr} {m0_BadSchedule m1_BadSchedule m2_BadSchedule m3_BadSchedule m5_BadSchedule : Option Value}
    {odxIBadSchedule anxIBadSchedule : Option Addr} {slxIBadSchedule : Array (Option Value)} {ocxIBadSchedule kVxIBadSchedule dcxIBadSchedule pmxIBadSchedule cdxIBadSchedule ctxIBadSchedule : Value} {fxIBadSchedule : Addr}
    {D__LENGTHS : Addr} {es__LENGTHS : Array DictEntry} {nE__LENGTHS : Nat}
    {t0__LENGTHS : Tok}
    {t1__LENGTHS : Tok}
    {t2__LENGTHS : Tok}
    {t3__LENGTHS : Tok}
    {odx_is_integer anx_is_integer : Option Addr} {slx_is_integer : Array (Option Value)} {ocx_is_integer kVx_is_integer dcx_is_integer pmx_is_integer cdx_is_integer ctx_is_integer : Value} {fx_is_integer : Addr}
    {odx__is_event anx__is_event : Option Addr} {slx__is_event : Array (Option Value)} {ocx__is_event kVx__is_event dcx__is_event pmx__is_event cdx__is_event ctx__is_event : Value} {fx__is_event : Addr}
    {odx__law_offer anx__law_offer : Option Addr} {slx__law_offer : Array (Option Value)} {ocx__law_offer kVx__law_offer dcx__law_offer pmx__law_offer cdx__law_offer ctx__law_offer : Value} {fx__law_offer : Addr}
    {odx__law_odd anx__law_odd : Option Addr} {slx__law_odd : Array (Option Value)} {ocx__law_odd kVx__law_odd dcx__law_odd pmx__law_odd cdx__law_odd ctx__law_odd : Value} {fx__law_odd : Addr}
    {odx__law_added anx__law_added : Option Addr} {slx__law_added : Array (Option Value)} {ocx__law_added kVx__law_added dcx__law_added pmx__law_added cdx__law_added ctx__law_added : Value} {fx__law_added : Addr}
    {odx_law anx_law : Option Addr} {slx_law : Array (Option Value)} {ocx_law kVx_law dcx_law pmx_law cdx_law ctx_law : Value} {fx_law : Addr}
    (aC_History : PySem.W.nsIn K mainGlobals "History" = some (some (.ref C_History)))
    (pg_History : PySem.W.plainGet K C_History Str.empty = true)
    (hd_History : PySem.W.hasDictIn K C_History = true)
    (po_History : PySem.W.plainOver K C_History = true)
    (sa_History : PySem.W.findIn K (.ref C_History) "__setattr__" = some (some (.builtin "object.__setattr__")))
    (mk_History : PySem.W.makesIn K C_History = true)
    (kc_History : PySem.W.keepIn K (.ref C_History) = true)
    (n_History__events : PySem.W.findIn K (.ref C_History) "_events" = some none)
    (ax_History___init__ : PySem.W.findIn K (.ref C_History) "__init__" = some (some (.ref fx_History___init__)))
    (ix_History___init__ : PySem.W.isFn K (.ref fx_History___init__) = true)
    (lx_History___init__ : K.lookup fx_History___init__ = some ⟨ocx_History___init__, odx_History___init__, .func (PySem.W.fnOf "__init__" "History.__init__" (defArgs s_History___init__) (defBody s_History___init__) (defScope s_History___init__) .none kVx_History___init__ dcx_History___init__ pmx_History___init__ anx_History___init__ cdx_History___init__ ctx_History___init__), slx_History___init__⟩)
    (cx_History___init__ : PySem.W.codeIn K cdx_History___init__ "History.__init__" = true)
    (kx_History___init__ : PySem.W.keepIn K (.ref fx_History___init__) = true)
    (ax_History_add : PySem.W.findIn K (.ref C_History) "add" = some (some (.ref fx_History_add)))
    (ix_History_add : PySem.W.isFn K (.ref fx_History_add) = true)
    (lx_History_add : K.lookup fx_History_add = some ⟨ocx_History_add, odx_History_add, .func (PySem.W.fnOf "add" "History.add" (defArgs s_History_add) (defBody s_History_add) (defScope s_History_add) .none kVx_History_add dcx_History_add pmx_History_add anx_History_add cdx_History_add ctx_History_add), slx_History_add⟩)
    (cx_History_add : PySem.W.codeIn K cdx_History_add "History.add" = true)
    (kx_History_add : PySem.W.keepIn K (.ref fx_History_add) = true)
    (ax_History_events : PySem.W.findIn K (.ref C_History) "events" = some (some (.ref fx_History_events)))
    (ix_History_events : PySem.W.isFn K (.ref fx_History_events) = true)
    (lx_History_events : K.lookup fx_History_events = some ⟨ocx_History_events, odx_History_events, .func (PySem.W.fnOf "events" "History.events" (defArgs s_History_events) (defBody s_History_events) (defScope s_History_events) .none kVx_History_events dcx_History_events pmx_History_events anx_History_events cdx_History_events ctx_History_events), slx_History_events⟩)
    (cx_History_events : PySem.W.codeIn K cdx_History_events "History.events" = true)
    (kx_History_events : PySem.W.keepIn K (.ref fx_History_events) = true)
    (aC_BadSchedule : PySem.W.nsIn K mainGlobals "BadSchedule" = some (some (.ref C_BadSchedule)))
    (xL_BadSchedule : K.lookup C_BadSchedule = some (excClassObj nm_BadSchedule q_BadSchedule C_BadSchedule N_BadSchedule bs_BadSchedule [.ref M_BadSchedule, .type "ValueError", .type "Exception", .type "BaseException", .type "object"] true sn_BadSchedule sub_BadSchedule ab_BadSchedule col_BadSchedule dd_BadSchedule m0_BadSchedule m1_BadSchedule m2_BadSchedule m3_BadSchedule m5_BadSchedule "ValueError.__new__"))
    (sa_BadSchedule : PySem.W.findIn K (.ref C_BadSchedule) "__setattr__" = some (some (.builtin "object.__setattr__")))
    (ty_BadSchedule : PySem.W.typeIn K (.ref C_BadSchedule) = some (.type "type"))
    (hs_BadSchedule : PySem.W.subIn K (.ref C_BadSchedule) (.type "BaseException") = some true)
    (kC_BadSchedule : PySem.W.keepIn K (.ref C_BadSchedule) = true)
    (hg_BadSchedule : PySem.W.findIn K (.ref C_BadSchedule) "__getattribute__" = some (some (.builtin "BaseException.__getattribute__")))
    (hk_BadSchedule : PySem.W.findIn K (.ref C_BadSchedule) "__getattr__" = some none)
    (hd_BadSchedule : PySem.W.hasDictIn K C_BadSchedule = true)
    (n_BadSchedule_line : PySem.W.findIn K (.ref C_BadSchedule) "line" = some none)
    (n_BadSchedule_reason : PySem.W.findIn K (.ref C_BadSchedule) "reason" = some none)
    (iI_BadSchedule : PySem.W.findIn K (.ref C_BadSchedule) "__init__" = some (some (.ref fxIBadSchedule)))
    (lxIBadSchedule : K.lookup fxIBadSchedule = some ⟨ocxIBadSchedule, odxIBadSchedule, .func (PySem.W.fnOf "__init__" "BadSchedule.__init__" (defArgs s_BadSchedule___init__) (defBody s_BadSchedule___init__) (defScope s_BadSchedule___init__) .none kVxIBadSchedule dcxIBadSchedule pmxIBadSchedule anxIBadSchedule cdxIBadSchedule ctxIBadSchedule), slxIBadSchedule⟩)
    (cxIBadSchedule : PySem.W.codeIn K cdxIBadSchedule "BadSchedule.__init__" = true)
    (kxIBadSchedule : PySem.W.keepIn K (.ref fxIBadSchedule) = true)
    (tI_BadSchedule : PySem.W.typeIn K (.ref fxIBadSchedule) = some (.type "function"))
    (aD__LENGTHS : PySem.W.nsIn K mainGlobals "_LENGTHS" = some (some (.ref D__LENGTHS)))
    (lD__LENGTHS : K.lookup D__LENGTHS = some ⟨.type "dict", none, .dict es__LENGTHS nE__LENGTHS, #[]⟩)
    (kD__LENGTHS : PySem.W.KeysLit w.params es__LENGTHS.toList)
    (zD__LENGTHS : (D__LENGTHS == sysModules) = false)
    (e0__LENGTHS : PySem.W.nsIn K D__LENGTHS "view" = some (some (.int 5 t0__LENGTHS)))
    (e1__LENGTHS : PySem.W.nsIn K D__LENGTHS "cast" = some (some (.int 6 t1__LENGTHS)))
    (e2__LENGTHS : PySem.W.nsIn K D__LENGTHS "deliver" = some (some (.int 5 t2__LENGTHS)))
    (e3__LENGTHS : PySem.W.nsIn K D__LENGTHS "crash" = some (some (.int 3 t3__LENGTHS)))
    (e4__LENGTHS : PySem.W.nsIn K D__LENGTHS "fall" = some none)
    (m_BB : PySem.W.exmOne K (.ref C_BadSchedule) (.ref C_BadSchedule) = some true)
    (ax_is_integer : PySem.W.nsIn K mainGlobals "is_integer" = some (some (.ref fx_is_integer)))
    (lx_is_integer : K.lookup fx_is_integer = some ⟨ocx_is_integer, odx_is_integer, .func (PySem.W.fnOf "is_integer" "is_integer" (defArgs s_is_integer) (defBody s_is_integer) (defScope s_is_integer) .none kVx_is_integer dcx_is_integer pmx_is_integer anx_is_integer cdx_is_integer ctx_is_integer), slx_is_integer⟩)
    (cx_is_integer : PySem.W.codeIn K cdx_is_integer "is_integer" = true)
    (kx_is_integer : PySem.W.keepIn K (.ref fx_is_integer) = true)
    (ax__is_event : PySem.W.nsIn K mainGlobals "_is_event" = some (some (.ref fx__is_event)))
    (lx__is_event : K.lookup fx__is_event = some ⟨ocx__is_event, odx__is_event, .func (PySem.W.fnOf "_is_event" "_is_event" (defArgs s__is_event) (defBody s__is_event) (defScope s__is_event) .none kVx__is_event dcx__is_event pmx__is_event anx__is_event cdx__is_event ctx__is_event), slx__is_event⟩)
    (cx__is_event : PySem.W.codeIn K cdx__is_event "_is_event" = true)
    (kx__is_event : PySem.W.keepIn K (.ref fx__is_event) = true)
    (ax__law_offer : PySem.W.nsIn K mainGlobals "_law_offer" = some (some (.ref fx__law_offer)))
    (lx__law_offer : K.lookup fx__law_offer = some ⟨ocx__law_offer, odx__law_offer, .func (PySem.W.fnOf "_law_offer" "_law_offer" (defArgs s__law_offer) (defBody s__law_offer) (defScope s__law_offer) .none kVx__law_offer dcx__law_offer pmx__law_offer anx__law_offer cdx__law_offer ctx__law_offer), slx__law_offer⟩)
    (cx__law_offer : PySem.W.codeIn K cdx__law_offer "_law_offer" = true)
    (kx__law_offer : PySem.W.keepIn K (.ref fx__law_offer) = true)
    (ax__law_odd : PySem.W.nsIn K mainGlobals "_law_odd" = some (some (.ref fx__law_odd)))
    (lx__law_odd : K.lookup fx__law_odd = some ⟨ocx__law_odd, odx__law_odd, .func (PySem.W.fnOf "_law_odd" "_law_odd" (defArgs s__law_odd) (defBody s__law_odd) (defScope s__law_odd) .none kVx__law_odd dcx__law_odd pmx__law_odd anx__law_odd cdx__law_odd ctx__law_odd), slx__law_odd⟩)
    (cx__law_odd : PySem.W.codeIn K cdx__law_odd "_law_odd" = true)
    (kx__law_odd : PySem.W.keepIn K (.ref fx__law_odd) = true)
    (ax__law_added : PySem.W.nsIn K mainGlobals "_law_added" = some (some (.ref fx__law_added)))
    (lx__law_added : K.lookup fx__law_added = some ⟨ocx__law_added, odx__law_added, .func (PySem.W.fnOf "_law_added" "_law_added" (defArgs s__law_added) (defBody s__law_added) (defScope s__law_added) .none kVx__law_added dcx__law_added pmx__law_added anx__law_added cdx__law_added ctx__law_added), slx__law_added⟩)
    (cx__law_added : PySem.W.codeIn K cdx__law_added "_law_added" = true)
    (kx__law_added : PySem.W.keepIn K (.ref fx__law_added) = true)
    (ax_law : PySem.W.nsIn K mainGlobals "law" = some (some (.ref fx_law)))
    (lx_law : K.lookup fx_law = some ⟨ocx_law, odx_law, .func (PySem.W.fnOf "law" "law" (defArgs s_law) (defBody s_law) (defScope s_law) .none kVx_law dcx_law pmx_law anx_law cdx_law ctx_law), slx_law⟩)
    (cx_law : PySem.W.codeIn K cdx_law "law" = true)
    (kx_law : PySem.W.keepIn K (.ref fx_law) = true)
    (zlen : PySem.W.nsIn K mainGlobals "len" = some none)
    (zisinstance : PySem.W.nsIn K mainGlobals "isinstance" = some none)
    (zint : PySem.W.nsIn K mainGlobals "int" = some none)
    (zbool : PySem.W.nsIn K mainGlobals "bool" = some none)
    (zstr : PySem.W.nsIn K mainGlobals "str" = some none)
    (ztuple : PySem.W.nsIn K mainGlobals "tuple" = some none)
    (zlist : PySem.W.nsIn K mainGlobals "list" = some none)
    (zmax : PySem.W.nsIn K mainGlobals "max" = some none) :
    ∃ fd : FuncData, (∀ (s : Shared) (v : Value), BindsTo s fd ⟨[v], []⟩ [("script", v)]) ∧ ∀ base : Heap, K.In base → base.Ns mainGlobals mg → FnOk l.prog w K mg base CX0 5 fa fd ["script"] (sp_law K) := by
  have e := hfa.symm.trans (PySem.W.mg_of X G ax_law)
  cases e
  have T : Tx w K mg C_History C_BadSchedule D__LENGTHS := {
    b_len := PySem.W.mg_none_of X G zlen
    b_isinstance := PySem.W.mg_none_of X G zisinstance
    b_int := PySem.W.mg_none_of X G zint
    b_bool := PySem.W.mg_none_of X G zbool
    b_str := PySem.W.mg_none_of X G zstr
    b_tuple := PySem.W.mg_none_of X G ztuple
    b_list := PySem.W.mg_none_of X G zlist
    b_max := PySem.W.mg_none_of X G zmax
    c_MOST_NUMBER := hL0
    g_History := PySem.W.mg_of X G aC_History
    cl_History := ⟨pg_History, hd_History, po_History, sa_History⟩
    n_History__events := n_History__events
    g_BadSchedule := PySem.W.mg_of X G aC_BadSchedule
    o_BadSchedule := { cls := ⟨nm_BadSchedule, q_BadSchedule, N_BadSchedule, bs_BadSchedule, _, sn_BadSchedule, sub_BadSchedule, ab_BadSchedule, col_BadSchedule, dd_BadSchedule, m0_BadSchedule, m1_BadSchedule, m2_BadSchedule, m3_BadSchedule, m5_BadSchedule, xL_BadSchedule, rfl⟩, sa := sa_BadSchedule, exC := hs_BadSchedule, tyC := ty_BadSchedule, kC := kC_BadSchedule }
    f_BadSchedule := ⟨hg_BadSchedule, hk_BadSchedule, hs_BadSchedule, hd_BadSchedule⟩
    n_line := n_BadSchedule_line
    n_reason := n_BadSchedule_reason
    g__LENGTHS := PySem.W.mg_of X G aD__LENGTHS
    m_BB := m_BB
    D := ⟨_, _, lD__LENGTHS, kD__LENGTHS, zD__LENGTHS⟩
    k := fun z hz => by
      rcases hz with rfl | rfl | rfl | rfl | rfl
      · exact ⟨_, e0__LENGTHS, by unfold Told; rw [e_view]; exact ⟨_, rfl, _, rfl⟩⟩
      · exact ⟨_, e1__LENGTHS, by unfold Told; rw [e_cast]; exact ⟨_, rfl, _, rfl⟩⟩
      · exact ⟨_, e2__LENGTHS, by unfold Told; rw [e_deliver]; exact ⟨_, rfl, _, rfl⟩⟩
      · exact ⟨_, e3__LENGTHS, by unfold Told; rw [e_crash]; exact ⟨_, rfl, _, rfl⟩⟩
      · exact ⟨_, e4__LENGTHS, by unfold Told; rw [e_fall]⟩ }
  have F_BadSchedule := fun_mk (st := s_BadSchedule___init__) lxIBadSchedule cxIBadSchedule kxIBadSchedule
  let a_History___init__ : MethAt K C_History "__init__" "History.__init__" P_History___init__ s_History___init__ := meth_mk ax_History___init__ ix_History___init__ lx_History___init__ cx_History___init__ kx_History___init__ fun _ _ _ _ _ _ us hl => match us, hl with | [_], _ => rfl
  let a_History_add : MethAt K C_History "add" "History.add" P_History_add s_History_add := meth_mk ax_History_add ix_History_add lx_History_add cx_History_add kx_History_add fun _ _ _ _ _ _ us hl => match us, hl with | [_, _], _ => rfl
  let a_History_events : MethAt K C_History "events" "History.events" P_History_events s_History_events := meth_mk ax_History_events ix_History_events lx_History_events cx_History_events kx_History_events fun _ _ _ _ _ _ us hl => match us, hl with | [_], _ => rfl
  let a_is_integer : DefAt K mg "is_integer" P_is_integer s_is_integer := at_mk X G ax_is_integer lx_is_integer cx_is_integer kx_is_integer fun _ _ _ _ _ _ us hl => match us, hl with | [_, _, _], _ => rfl
  let a__is_event : DefAt K mg "_is_event" P__is_event s__is_event := at_mk X G ax__is_event lx__is_event cx__is_event kx__is_event fun _ _ _ _ _ _ us hl => match us, hl with | [_], _ => rfl
  let a__law_offer : DefAt K mg "_law_offer" P__law_offer s__law_offer := at_mk X G ax__law_offer lx__law_offer cx__law_offer kx__law_offer fun _ _ _ _ _ _ us hl => match us, hl with | [_, _], _ => rfl
  let a__law_odd : DefAt K mg "_law_odd" P__law_odd s__law_odd := at_mk X G ax__law_odd lx__law_odd cx__law_odd kx__law_odd fun _ _ _ _ _ _ us hl => match us, hl with | [_, _], _ => rfl
  let a__law_added : DefAt K mg "_law_added" P__law_added s__law_added := at_mk X G ax__law_added lx__law_added cx__law_added kx__law_added fun _ _ _ _ _ _ us hl => match us, hl with | [_, _], _ => rfl
  have F_law := fun_mk (st := s_law) lx_law cx_law kx_law
  refine ⟨PySem.W.fnOf "law" "law" (defArgs s_law) (defBody s_law) (defScope s_law) .none kVx_law dcx_law pmx_law anx_law cdx_law ctx_law, fun s v => .of_eq rfl, fun base _ _ => ?_⟩
  let x_BadSchedule : ExOk l.prog w K mg base C_BadSchedule "BadSchedule" P_BadSchedule___init__ 1 (sp_bs C_BadSchedule) := ⟨_, _, ok_bs T F_BadSchedule, T.o_BadSchedule, iI_BadSchedule, tI_BadSchedule, T.g_BadSchedule, F_BadSchedule.binds (ps := P_BadSchedule___init__) fun _ _ _ _ _ _ us hl => match us, hl with | [_, _, _], _ => rfl⟩
  let k_History : MkOk l.prog w K mg base C_History "History" P_History___init__ 1 (sp_hinit C_History) := a_History___init__.mk' mk_History kc_History T.g_History fun F => ok_hinit T F
  let c_is_integer : DefOk l.prog w K mg base CX0 "is_integer" P_is_integer 1 (spI) := a_is_integer.ok fun F => ok_is_integer T  F
  let c__is_event : DefOk l.prog w K mg base CX0 "_is_event" P__is_event 2 (spEv) := a__is_event.ok fun F => ok__is_event T c_is_integer F
  let m_History_add : MethOk l.prog w K mg base (L2.CX l.prog w) C_History "add" P_History_add 3 (sp_add C_History C_BadSchedule) := a_History_add.ok fun F => ok_add T x_BadSchedule c__is_event F
  let m_History_events : MethOk l.prog w K mg base (CX0) C_History "events" P_History_events 1 (sp_hevs C_History) := a_History_events.ok fun F => ok_hevs T  F
  let c__law_offer : DefOk l.prog w K mg base CX0 "_law_offer" P__law_offer 1 (sp_offer) := a__law_offer.ok fun F => ok__law_offer T  F
  let c__law_odd : DefOk l.prog w K mg base CX0 "_law_odd" P__law_odd 1 (sp_lodd) := a__law_odd.ok fun F => ok__law_odd T  F
  let c__law_added : DefOk l.prog w K mg base CX0 "_law_added" P__law_added 4 (sp_added C_History) := a__law_added.ok fun F => ok__law_added T m_History_add F
  exact ok_law T k_History m_History_events c__law_offer c__law_odd c__law_added F_law
end Mus
open PySem PySem.W PyProof.Rows
set_option maxRecDepth 100000 in
set_option maxHeartbeats 0 in
theorem PySem.Challenge.cw_mustercall_k60_histories_holds : PySem.Challenge.rw_mustercall_k60_histories.Holds := by
  w_on; o_law; k_head; (case hw => w_witness2)
  k_fill
  refine Mus.walk_ofX (l := PySem.Challenge.rw_mustercall_k60_histories) (n := 63) (k := 5) (x := "script") (sp := fun w => Mus.sp_law (_ : PySem.W.Frag)) rfl (by decide) rfl ⟨rfl, by decide, by decide⟩ (fun w h Y => PySem.W.kIn_of Y) ?F (fun _ _ a ns hl _ hS => ⟨a, ns, rfl, hS, hl, fun _ => rfl⟩)
  case F =>
    intro w mg fa h KX G XX hmg
    refine' Mus.all_mk KX G hmg (Mus.loose_int XX.2) ?aC_History ?pg_History ?hd_History ?po_History ?sa_History ?mk_History ?kc_History ?n_History__events ?ax_History___init__ ?ix_History___init__ ?lx_History___init__ ?cx_History___init__ ?kx_History___init__ ?ax_History_add ?ix_History_add ?lx_History_add ?cx_History_add ?kx_History_add ?ax_History_events ?ix_History_events ?lx_History_events ?cx_History_events ?kx_History_events ?aC_BadSchedule ?xL_BadSchedule ?sa_BadSchedule ?ty_BadSchedule ?hs_BadSchedule ?kC_BadSchedule ?hg_BadSchedule ?hk_BadSchedule ?hd_BadSchedule ?n_BadSchedule_line ?n_BadSchedule_reason ?iI_BadSchedule ?lxIBadSchedule ?cxIBadSchedule ?kxIBadSchedule ?tI_BadSchedule ?aD__LENGTHS ?lD__LENGTHS ?kD__LENGTHS ?zD__LENGTHS ?e0__LENGTHS ?e1__LENGTHS ?e2__LENGTHS ?e3__LENGTHS ?e4__LENGTHS ?m_BB ?ax_is_integer ?lx_is_integer ?cx_is_integer ?kx_is_integer ?ax__is_event ?lx__is_event ?cx__is_event ?kx__is_event ?ax__law_offer ?lx__law_offer ?cx__law_offer ?kx__law_offer ?ax__law_odd ?lx__law_odd ?cx__law_odd ?kx__law_odd ?ax__law_added ?lx__law_added ?cx__law_added ?kx__law_added ?ax_law ?lx_law ?cx_law ?kx_law ?zlen ?zisinstance ?zint ?zbool ?zstr ?ztuple ?zlist ?zmax
    (case aC_History => first | k_is | rfl)
    (case pg_History => first | k_is | rfl)
    (case hd_History => first | k_is | rfl)
    (case po_History => first | k_is | rfl)
    (case sa_History => first | k_is | rfl)
    (case mk_History => first | k_is | rfl)
    (case kc_History => first | k_is | rfl)
    (case n_History__events => first | k_is | rfl)
    (case ax_History___init__ => first | k_is | rfl)
    (case ix_History___init__ => first | k_is | rfl)
    (case lx_History___init__ => first | k_is | rfl)
    (case cx_History___init__ => first | k_is | rfl)
    (case kx_History___init__ => first | k_is | rfl)
    (case ax_History_add => first | k_is | rfl)
    (case ix_History_add => first | k_is | rfl)
    (case lx_History_add => first | k_is | rfl)
    (case cx_History_add => first | k_is | rfl)
    (case kx_History_add => first | k_is | rfl)
    (case ax_History_events => first | k_is | rfl)
    (case ix_History_events => first | k_is | rfl)
    (case lx_History_events => first | k_is | rfl)
    (case cx_History_events => first | k_is | rfl)
    (case kx_History_events => first | k_is | rfl)
    (case aC_BadSchedule => first | k_is | rfl)
    (case xL_BadSchedule => first | k_is | rfl)
    (case sa_BadSchedule => first | k_is | rfl)
    (case ty_BadSchedule => first | k_is | rfl)
    (case hs_BadSchedule => first | k_is | rfl)
    (case kC_BadSchedule => first | k_is | rfl)
    (case hg_BadSchedule => first | k_is | rfl)
    (case hk_BadSchedule => first | k_is | rfl)
    (case hd_BadSchedule => first | k_is | rfl)
    (case n_BadSchedule_line => first | k_is | rfl)
    (case n_BadSchedule_reason => first | k_is | rfl)
    (case iI_BadSchedule => first | k_is | rfl)
    (case lxIBadSchedule => first | k_is | rfl)
    (case cxIBadSchedule => first | k_is | rfl)
    (case kxIBadSchedule => first | k_is | rfl)
    (case tI_BadSchedule => first | k_is | rfl)
    (case aD__LENGTHS => first | k_is | rfl)
    (case lD__LENGTHS => first | k_is | rfl)
    (case kD__LENGTHS => exact ⟨⟨_, _, rfl, rfl⟩, ⟨_, _, rfl, rfl⟩, ⟨_, _, rfl, rfl⟩, ⟨_, _, rfl, rfl⟩, trivial⟩)
    (case zD__LENGTHS => first | k_is | rfl)
    (case e0__LENGTHS => first | k_is | rfl)
    (case e1__LENGTHS => first | k_is | rfl)
    (case e2__LENGTHS => first | k_is | rfl)
    (case e3__LENGTHS => first | k_is | rfl)
    (case e4__LENGTHS => first | k_is | rfl)
    (case m_BB => first | k_is | rfl)
    (case ax_is_integer => first | k_is | rfl)
    (case lx_is_integer => first | k_is | rfl)
    (case cx_is_integer => first | k_is | rfl)
    (case kx_is_integer => first | k_is | rfl)
    (case ax__is_event => first | k_is | rfl)
    (case lx__is_event => first | k_is | rfl)
    (case cx__is_event => first | k_is | rfl)
    (case kx__is_event => first | k_is | rfl)
    (case ax__law_offer => first | k_is | rfl)
    (case lx__law_offer => first | k_is | rfl)
    (case cx__law_offer => first | k_is | rfl)
    (case kx__law_offer => first | k_is | rfl)
    (case ax__law_odd => first | k_is | rfl)
    (case lx__law_odd => first | k_is | rfl)
    (case cx__law_odd => first | k_is | rfl)
    (case kx__law_odd => first | k_is | rfl)
    (case ax__law_added => first | k_is | rfl)
    (case lx__law_added => first | k_is | rfl)
    (case cx__law_added => first | k_is | rfl)
    (case kx__law_added => first | k_is | rfl)
    (case ax_law => first | k_is | rfl)
    (case lx_law => first | k_is | rfl)
    (case cx_law => first | k_is | rfl)
    (case kx_law => first | k_is | rfl)
    (case zlen => first | k_is | rfl)
    (case zisinstance => first | k_is | rfl)
    (case zint => first | k_is | rfl)
    (case zbool => first | k_is | rfl)
    (case zstr => first | k_is | rfl)
    (case ztuple => first | k_is | rfl)
    (case zlist => first | k_is | rfl)
    (case zmax => first | k_is | rfl)

