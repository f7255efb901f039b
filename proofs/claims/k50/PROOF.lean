import PyProof.Rows.All
import Wide.All
import OpenK.AllK
import Wide.FinOn
import HandS.Base
import HandS.Call
import HandS.List
import HandS.Comp
import HandS.Ends
import HandS.Iter
import HandS.Text
import HandS.Words
import HandS.WordsList
import HandS.Wide
import HandS.IsInst
import HandS.TupAny
import HandS.Dict
import HandS.WordsDict
import HandS.Conv
import HandS.More
import HandS.Codes
import HandS.SortRule
import HandS.Walk
import HandS.Exc
import HandS.ExcOwn
import HandS.TryOnly
import HandS.WordsExc
import HandS.TryMany
import HandS.ExcIs
import HandS.ExcInit
import HandS.ExcField
import KE.SortData
import KE.SortUse
import HandS.SortOrd
import PySem.Challenge.RW_mustercall_k50_net_of_packets
set_option Elab.async false
set_option linter.all false
set_option maxRecDepth 100000
set_option maxHeartbeats 4000000
/-! What my proofs share: a def with its promise as one thing, small rules, heaps. -/
namespace Mus
open PySem L2
/-- a def of the text that keeps a promise, and all that a call of it asks -/
structure DefOk (P : Program) (w : World) (K : PySem.W.Frag) (mg : Str → Option Value) (base : Heap) (CX : CXT) (x : Str) (ps : List Str) (k : Nat) (sp : Sp) where
  f : Addr
  fd : FuncData
  G : FnOk P w K mg base CX k f fd ps sp
  m : mg x = some (.ref f)
  kp : PySem.W.keepIn K (.ref f) = true
  b : Binds K fd ps []
def DefOk.mono {P : Program} {w : World} {K : PySem.W.Frag} {mg : Str → Option Value} {base : Heap} {CX : CXT} {x : Str} {ps : List Str} {j k : Nat} {sp : Sp} (c : DefOk P w K mg base CX x ps j sp) (h : j ≤ k) : DefOk P w K mg base CX x ps k sp :=
  ⟨c.f, c.fd, c.G.mono h, c.m, c.kp, c.b⟩
/-- a def of the text as the top left it: no promise yet -/
structure DefAt (K : PySem.W.Frag) (mg : Str → Option Value) (x : Str) (ps : List Str) (st : Stmt) where
  f : Addr
  fd : FuncData
  F : Fun K x x st f fd
  m : mg x = some (.ref f)
  b : Binds K fd ps []
def DefAt.ok {P : Program} {w : World} {K : PySem.W.Frag} {mg : Str → Option Value} {base : Heap} {CX : CXT} {x : Str} {ps : List Str} {st : Stmt} {k : Nat} {sp : Sp} (d : DefAt K mg x ps st) (h : ∀ {f : Addr} {fd : FuncData}, Fun K x x st f fd → FnOk P w K mg base CX k f fd ps sp) : DefOk P w K mg base CX x ps k sp :=
  ⟨d.f, d.fd, h d.F, d.m, d.F.kp, d.b⟩
section
variable {X : Cx}
theorem pcall {x : Str} {ps : List Str} {j k : Nat} {sp : Sp} {e : Expr} {es : List Expr} {t : TA} {p pos : Pos} (c : DefOk X.prog X.w X.K X.mg X.base CX0 x ps j sp) (hr : Room k X.A) (ha : PA X (e :: es) t) (hj : j ≤ k := by first | decide | omega) (hg : Gl X x := by rfl)
    (db0 : (x == ("__debug__" : Str)) = false := by decide) (st0 : starEach (e :: es) X.env = (false, eval e X.env) :: starEach es X.env := by rfl) (pl0 : (backTo pos (starEach es X.env)).any (·.1) = false := by rfl) :
    PE X (.Call (.Name x p) (e :: es) [] pos) (tCall sp [] E0 t) := pe_call c.G (hr.mono hj) hg c.m c.kp c.b .nil pass0 ha db0 st0 pl0
/-- a text n times -/
theorem op_mul_str : OpR X (binaryOp .Mult) (fun x y H Q => ∃ (z : Str) (n : Int), x = .str z ∧ y = .int n ∧ 2 ≤ n ∧ n ≤ 1000 ∧ 1 ≤ z.length ∧ z.length ≤ 1000 ∧ ∀ r : Str, TL.tl r = (List.replicate n.toNat (TL.tl z)).flatten → Q (.str r) H) := by
  intro pins s σ H x y v u Q I rx ry h
  obtain ⟨z, n, rfl, rfl, h2, h3, h4, h5, q⟩ := h
  obtain ⟨t, rfl⟩ := rx
  obtain ⟨t', rfl⟩ := ry
  have n1 : ¬ n < 1 := by omega
  have n2 : ¬ (n == 1 || z.length == 0) = true := by
    rw [Bool.or_eq_true, beq_iff_eq, beq_iff_eq]; omega
  have hr : (decide (n < -(2 ^ 63 : Int)) || decide (n ≥ 2 ^ 63)) = false := by
    rw [decide_eq_false (by omega), decide_eq_false (by omega)]; rfl
  have hm : z.length * n.toNat ≤ 1000 * 1000 := Nat.mul_le_mul h5 (by omega)
  have hl : Builtin.Str.tooLong (z.length * n.toNat) = false := by
    unfold Builtin.Str.tooLong
    have e : sizeLine = 16777216 := sizeLine_eq
    rw [decide_eq_false (by omega)]
  have hb : ¬ ((z.length : Int) > (2 ^ 63 - 1) / n) := by
    have : (1000 : Int) ≤ (2 ^ 63 - 1) / n := by
      rw [Int.le_ediv_iff_mul_le (by omega)]
      omega
    omega
  refine PySem.P.mul_str hr (fun _ _ => hb) (fun _ _ => hl) ?_
  rw [if_neg n1, if_neg n2]
  have hf : ∀ (k : Nat) (acc : Array Nat), ((List.replicate k z.cps).foldl (· ++ ·) acc).toList = acc.toList ++ (List.replicate k z.cps.toList).flatten := by
    intro k
    induction k with
    | zero => intro acc; simp
    | succ k ih =>
      intro acc
      rw [List.replicate_succ, List.foldl_cons, ih, List.replicate_succ, List.flatten_cons, Array.toList_append, List.append_assoc]
  have hr : TL.tl (⟨(List.replicate n.toNat z.cps).foldl (· ++ ·) #[]⟩ : Str) = (List.replicate n.toNat (TL.tl z)).flatten := by
    show ((List.replicate n.toNat z.cps).foldl (· ++ ·) #[]).toList = _
    rw [hf]; rfl
  have hlen : (⟨(List.replicate n.toNat z.cps).foldl (· ++ ·) #[]⟩ : Str).length ≤ sizeLine := by
    rw [TL.len_tl, hr]
    have e : sizeLine = 16777216 := sizeLine_eq
    have z2 : ((List.replicate n.toNat (TL.tl z)).flatten).length = z.length * n.toNat := by
      rw [TL.len_tl]
      generalize n.toNat = k
      induction k with
      | zero => rfl
      | succ k ih => rw [List.replicate_succ, List.flatten_cons, List.length_append, ih, Nat.mul_succ, Nat.add_comm]
    omega
  exact ⟨hlen, .str _, H, I.tok _, ⟨_, rfl⟩, q _ hr⟩
/-- for c in a text -/
theorem for_str {z : Str} {g : TG} {tb : TS} {D : Ends} {σ : St} {H : Hp} (Pv : Nat → St → Hp → Prop) (h0 : Pv 0 σ H)
    (hs : ∀ i c σ H, (TL.tl z)[i]? = some c → Pv i σ H → g (.str ⟨#[c]⟩) σ H fun σ2 H2 => tb { D with nx := Pv (i + 1), ct := Pv (i + 1), bk := D.nx } σ2 H2) (hd : ∀ σ H, Pv (TL.tl z).length σ H → D.nx σ H) :
    ∃ W : Nat → Nat → St → Hp → Prop, (∃ m, W 0 m σ H) ∧ ∀ i m σ H, W i m σ H →
      ((Its z).stop i H ∧ D.nx σ H) ∨ ((Its z).go i H ∧ ∃ N : St → Hp → Prop, (∀ σ' H', N σ' H' → ∃ m', m' < m ∧ W (i + 1) m' σ' H') ∧ ∀ x H', (Its z).yld i H x H' → g x σ H' fun σ2 H2 => tb { D with nx := N, ct := N, bk := D.nx } σ2 H2) := by
  have hl : (TL.tl z).length = z.cps.size := Array.length_toList
  refine ⟨fun i m σ H => m = (TL.tl z).length - i ∧ i ≤ (TL.tl z).length ∧ Pv i σ H, ⟨(TL.tl z).length, rfl, Nat.zero_le _, h0⟩, ?_⟩
  rintro i m σ H ⟨rfl, le1, pv1⟩
  by_cases lt1 : i < (TL.tl z).length
  · refine .inr ⟨(by show i < z.cps.size; omega), Pv (i + 1), fun σ' H' p' => ⟨(TL.tl z).length - (i + 1), by omega, rfl, lt1, p'⟩, fun x H' y => ?_⟩
    obtain ⟨e, c, hc, ex⟩ := y
    subst e
    subst ex
    exact hs i c σ H' (by rw [Array.getElem?_toList]; exact hc) pv1
  · have e : i = (TL.tl z).length := by omega
    subst e
    exact .inl ⟨(by show z.cps.size ≤ _; omega), hd σ H pv1⟩
end
/-! ### heaps -/
/-- all but what stands at p is as it was -/
def But (p : Addr) (H H' : Hp) : Prop := ∀ b o, H b = some o → b ≠ p → H' b = some o
theorem But.refl (p : Addr) (H : Hp) : But p H H := fun _ _ h _ => h
theorem But.trans {p : Addr} {H H1 H2 : Hp} (a : But p H H1) (b : But p H1 H2) : But p H H2 := fun c o h n => b c o (a c o h n) n
theorem But.of {p : Addr} {H H' : Hp} (a : Same H H') : But p H H' := fun c o h _ => a c o h
theorem same_new {H : Hp} {p : Addr} (h : H p = none) (o : HO) : Same H (upd H p o) := fun b u q => by rw [upd_ne (ne_of_none q h)]; exact q
theorem but_upd {H : Hp} {p : Addr} (o : HO) : But p H (upd H p o) := fun b u q n => by rw [upd_ne n]; exact q
theorem same_seqT {K : PySem.W.Frag} {H H' : Hp} {a : Addr} {xs : List V} (e : Same H H') (h : SqT K H a xs) : SqT K H' a xs := by
  rcases h with (h | ⟨o, h⟩) | h
  · exact .inl (.inl (e _ _ h))
  · exact .inl (.inr ⟨o, e _ _ h⟩)
  · exact .inr h
/-- tuples stay where only a list may change -/
theorem But.seqT {K : PySem.W.Frag} {H H' : Hp} {p a : Addr} {xs ys : List V} (e : But p H H') (hp : H p = some (.lst ys)) (h : SqT K H a xs) : SqT K H' a xs := by
  rcases h with (h | ⟨o, h⟩) | h
  · exact .inl (.inl (e _ _ h (ne_of h hp (by intro z; cases z))))
  · exact .inl (.inr ⟨o, e _ _ h (ne_of h hp (by intro z; cases z))⟩)
  · exact .inr h
theorem But.seqL {K : PySem.W.Frag} {H H' : Hp} {p a : Addr} {xs : List V} (e : But p H H') (hp : a ≠ p) (h : SqL K H a xs) : SqL K H' a xs := by
  rcases h with (h | ⟨o, h⟩) | h
  · exact .inl (.inl (e _ _ h hp))
  · exact .inl (.inr ⟨o, e _ _ h hp⟩)
  · exact .inr h
end Mus

set_option maxRecDepth 100000
set_option maxHeartbeats 4000000
/-! Plain data of any kind in the heap, beside one list (the bag, at p) that changes. -/
namespace Mus
open PySem L2
theorem sl : sizeLine = 16777216 := sizeLine_eq
theorem dT {p : Prop} [Decidable p] {A B : Prop} (h : p) (a : A) : if decide p = true then A else B := by
  rw [decide_eq_true h]; exact iteT a
theorem dF {p : Prop} [Decidable p] {A B : Prop} (h : ¬ p) (b : B) : if decide p = true then A else B := by
  rw [decide_eq_false h]; exact iteF b
theorem nT {p : Prop} [Decidable p] {A B : Prop} (h : ¬ p) (a : A) : if (!decide p) = true then A else B := by
  rw [decide_eq_false h]; exact iteT a
theorem nF {p : Prop} [Decidable p] {A B : Prop} (h : p) (b : B) : if (!decide p) = true then A else B := by
  rw [decide_eq_true h]; exact iteF b
theorem at_int {α : Type} {xs : List α} {i : Int} {v : α} (h0 : 0 ≤ i) (h : xs[i.toNat]? = some v) : atI xs i = some v := by
  have e : i = ((i.toNat : Nat) : Int) := by omega
  rw [e]
  exact atI_nat h
theorem pe_const {X : Cx} {x : Str} {i : Int} {pos : Pos} (hm : ∃ t, X.mg x = some (.int i t)) (hg : Gl X x := by rfl) (hd : (x == ("__debug__" : Str)) = false := by decide) : PE X (.Name x pos) (tC (.int i)) := by
  obtain ⟨t, h⟩ := hm
  exact pe_glob hg h ⟨t, rfl⟩ hd
theorem pe_ty {X : Cx} {x : Str} {pos : Pos} (n : String) (hm : X.mg x = none) (hv : bootBuiltins x = some (.type n) := by decide +kernel) (hg : Gl X x := by rfl) (hn : x ≠ "__name__" := by decide) (hd : (x == ("__debug__" : Str)) = false := by decide) : PE X (.Name x pos) (tC (.ty n)) := pe_bltn hg hm hv rfl hn hd
theorem pe_cls {X : Cx} {x : Str} {C : Addr} {pos : Pos} (hm : X.mg x = some (.ref C)) (hg : Gl X x := by rfl) (hd : (x == ("__debug__" : Str)) = false := by decide) : PE X (.Name x pos) (tC (.ref C)) := pe_glob (v := .ref C) hg hm rfl hd
mutual
/-- the value v stands for the data d, all of it tracked and none of it at p -/
inductive Rp (p : Addr) (H : Hp) : V → PyData → Prop
  | non : Rp p H .non .none
  | bl (b : Bool) : Rp p H (.bl b) (.bool b)
  | int (i : Int) : Rp p H (.int i) (.int i)
  | str (x : Str) : Rp p H (.str x) (.str x)
  | lst {a : Addr} {xs : List V} {ds : List PyData} : H a = some (.lst xs) → a ≠ p → Rps p H xs ds → Rp p H (.ref a) (.list ds)
  | tup {a : Addr} {xs : List V} {ds : List PyData} : H a = some (.tup xs) → a ≠ p → xs.length ≤ 100000 → Rps p H xs ds → Rp p H (.ref a) (.tuple ds)
inductive Rps (p : Addr) (H : Hp) : List V → List PyData → Prop
  | nil : Rps p H [] []
  | cons {v : V} {vs : List V} {d : PyData} {ds : List PyData} : Rp p H v d → Rps p H vs ds → Rps p H (v :: vs) (d :: ds)
end
mutual
theorem Rp.mono {p : Addr} {H H' : Hp} (k : But p H H') : ∀ {v : V} {d : PyData}, Rp p H v d → Rp p H' v d
  | _, _, .non => .non
  | _, _, .bl b => .bl b
  | _, _, .int i => .int i
  | _, _, .str x => .str x
  | _, _, .lst h n r => .lst (k _ _ h n) n (Rps.mono k r)
  | _, _, .tup h n l r => .tup (k _ _ h n) n l (Rps.mono k r)
theorem Rps.mono {p : Addr} {H H' : Hp} (k : But p H H') : ∀ {vs : List V} {ds : List PyData}, Rps p H vs ds → Rps p H' vs ds
  | _, _, .nil => .nil
  | _, _, .cons a b => .cons (Rp.mono k a) (Rps.mono k b)
end
mutual
theorem Rp.dp {p : Addr} {K : PySem.W.Frag} {H : Hp} : ∀ {v : V} {d : PyData}, Rp p H v d → Dp K H v d
  | _, _, .non => .non
  | _, _, .bl b => .bl b
  | _, _, .int i => .int i
  | _, _, .str x => .str x
  | _, _, .lst h n r => .lst (SqL.of h) (Rps.dp r)
  | _, _, .tup h n _ r => .tup (SqT.of h) (Rps.dp r)
theorem Rps.dp {p : Addr} {K : PySem.W.Frag} {H : Hp} : ∀ {vs : List V} {ds : List PyData}, Rps p H vs ds → DpAll K H vs ds
  | _, _, .nil => .nil
  | _, _, .cons a b => .cons (Rp.dp a) (Rps.dp b)
end
theorem Rp.same {p : Addr} {H H' : Hp} {v : V} {d : PyData} (k : Same H H') (h : Rp p H v d) : Rp p H' v d := h.mono (But.of k)
theorem Rps.same {p : Addr} {H H' : Hp} {vs : List V} {ds : List PyData} (k : Same H H') (h : Rps p H vs ds) : Rps p H' vs ds := h.mono (But.of k)
theorem Rps.length {p : Addr} {H : Hp} : ∀ {vs : List V} {ds : List PyData}, Rps p H vs ds → vs.length = ds.length
  | _, _, .nil => rfl
  | _, _, .cons _ r => by rw [List.length_cons, List.length_cons, Rps.length r]
theorem Rps.at {p : Addr} {H : Hp} : ∀ {vs : List V} {ds : List PyData} {i : Nat} {v : V}, Rps p H vs ds → vs[i]? = some v → ∃ d, ds[i]? = some d ∧ Rp p H v d
  | _, _, i, v, .nil, h => by simp at h
  | _, _, 0, v, .cons a _, h => by cases h; exact ⟨_, rfl, a⟩
  | _, _, i + 1, v, .cons _ r, h => Rps.at (i := i) r (by simpa using h)
theorem Rps.get {p : Addr} {H : Hp} : ∀ {vs : List V} {ds : List PyData} {i : Nat} {d : PyData}, Rps p H vs ds → ds[i]? = some d → ∃ v, vs[i]? = some v ∧ Rp p H v d
  | _, _, i, v, .nil, h => by simp at h
  | _, _, 0, v, .cons a _, h => by cases h; exact ⟨_, rfl, a⟩
  | _, _, i + 1, v, .cons _ r, h => Rps.get (i := i) r (by simpa using h)
theorem Rps.append {p : Addr} {H : Hp} : ∀ {vs ws : List V} {ds es : List PyData}, Rps p H vs ds → Rps p H ws es → Rps p H (vs ++ ws) (ds ++ es)
  | _, _, _, _, .nil, r => r
  | _, _, _, _, .cons a q, r => .cons a (Rps.append q r)
theorem Rps.take {p : Addr} {H : Hp} : ∀ {vs : List V} {ds : List PyData} (n : Nat), Rps p H vs ds → Rps p H (vs.take n) (ds.take n)
  | _, _, 0, _ => .nil
  | _, _, n + 1, .nil => .nil
  | _, _, n + 1, .cons a q => .cons a (Rps.take n q)
theorem Rps.drop {p : Addr} {H : Hp} : ∀ {vs : List V} {ds : List PyData} (n : Nat), Rps p H vs ds → Rps p H (vs.drop n) (ds.drop n)
  | _, _, 0, r => r
  | _, _, n + 1, .nil => .nil
  | _, _, n + 1, .cons a q => Rps.drop n q
/-! ### classes of data -/
def tyD : PyData → Value
  | .none => .type "NoneType" | .bool _ => .type "bool" | .int _ => .type "int" | .str _ => .type "str" | .list _ => .type "list" | .tuple _ => .type "tuple" | .dict _ => .type "dict"
theorem Rp.ty {p : Addr} {K : PySem.W.Frag} {H : Hp} {v : V} {d : PyData} (h : Rp p H v d) : TyX K H v (tyD d) := by
  cases h with
  | non => exact .base .non
  | bl b => exact .base (.bl b)
  | int i => exact .base (.int i)
  | str x => exact .base (.str x)
  | lst h _ _ => exact .base (.lst h)
  | tup h _ _ _ => exact .base (.tup h)
def dInt : PyData → Bool
  | .int _ => true | .bool _ => true | _ => false
def dBool : PyData → Bool
  | .bool _ => true | _ => false
def dStr : PyData → Bool
  | .str _ => true | _ => false
def dTup : PyData → Bool
  | .tuple _ => true | _ => false
theorem kit_int {K : PySem.W.Frag} : ∀ d : PyData, PySem.W.kitOne K (tyD d) (.type "int") = some (dInt d)
  | .none => kit_ty (r := false) (by decide +kernel)
  | .bool _ => kit_ty (r := true) (by decide +kernel)
  | .int _ => kit_ty (r := true) (by decide +kernel)
  | .str _ => kit_ty (r := false) (by decide +kernel)
  | .list _ => kit_ty (r := false) (by decide +kernel)
  | .tuple _ => kit_ty (r := false) (by decide +kernel)
  | .dict _ => kit_ty (r := false) (by decide +kernel)
theorem kit_bool {K : PySem.W.Frag} : ∀ d : PyData, PySem.W.kitOne K (tyD d) (.type "bool") = some (dBool d)
  | .none => kit_ty (r := false) (by decide +kernel)
  | .bool _ => kit_ty (r := true) (by decide +kernel)
  | .int _ => kit_ty (r := false) (by decide +kernel)
  | .str _ => kit_ty (r := false) (by decide +kernel)
  | .list _ => kit_ty (r := false) (by decide +kernel)
  | .tuple _ => kit_ty (r := false) (by decide +kernel)
  | .dict _ => kit_ty (r := false) (by decide +kernel)
theorem kit_str {K : PySem.W.Frag} : ∀ d : PyData, PySem.W.kitOne K (tyD d) (.type "str") = some (dStr d)
  | .none => kit_ty (r := false) (by decide +kernel)
  | .bool _ => kit_ty (r := false) (by decide +kernel)
  | .int _ => kit_ty (r := false) (by decide +kernel)
  | .str _ => kit_ty (r := true) (by decide +kernel)
  | .list _ => kit_ty (r := false) (by decide +kernel)
  | .tuple _ => kit_ty (r := false) (by decide +kernel)
  | .dict _ => kit_ty (r := false) (by decide +kernel)
theorem kit_tup {K : PySem.W.Frag} : ∀ d : PyData, PySem.W.kitOne K (tyD d) (.type "tuple") = some (dTup d)
  | .none => kit_ty (r := false) (by decide +kernel)
  | .bool _ => kit_ty (r := false) (by decide +kernel)
  | .int _ => kit_ty (r := false) (by decide +kernel)
  | .str _ => kit_ty (r := false) (by decide +kernel)
  | .list _ => kit_ty (r := false) (by decide +kernel)
  | .tuple _ => kit_ty (r := true) (by decide +kernel)
  | .dict _ => kit_ty (r := false) (by decide +kernel)
end Mus
namespace Mus
open PySem L2
/-! ### members and view ids, as functions of data -/
def isInt (d : PyData) (a b : Int) : Bool := match d with | .int i => decide (a ≤ i) && decide (i ≤ b) | _ => false
def isProc (c d : PyData) : Bool := match c with | .int n => (decide (1 ≤ n) && decide (n ≤ 12)) && isInt d 0 (n - 1) | _ => false
def isMem (c : PyData) : PyData → Bool
  | .tuple [x, y] => isProc c x && isInt y 1 1000000000000
  | _ => false
def isVid (c : PyData) : PyData → Bool
  | .tuple [x, y] => isInt x 0 1000000000000 && isMem c y
  | _ => false
def procOf : PyData → Int
  | .tuple (.int i :: _) => i
  | _ => 0
def memsFrom (c : PyData) : Int → List PyData → Bool
  | _, [] => true
  | l, d :: ds => isMem c d && decide (l < procOf d) && memsFrom c (procOf d) ds
def isMems (c : PyData) : PyData → Bool
  | .tuple ds => !ds.isEmpty && memsFrom c (-1) ds
  | _ => false
theorem isProc_int {c d : PyData} (h : isProc c d = true) : ∃ n i, c = .int n ∧ d = .int i ∧ 1 ≤ n ∧ n ≤ 12 ∧ 0 ≤ i ∧ i < n := by
  cases c <;> try (simp [isProc] at h; done)
  rename_i n
  cases d <;> try (simp [isProc, isInt] at h; done)
  rename_i i
  simp [isProc, isInt] at h
  exact ⟨n, i, rfl, rfl, by omega, by omega, by omega, by omega⟩
theorem isInt_int {d : PyData} {a b : Int} (h : isInt d a b = true) : ∃ i, d = .int i ∧ a ≤ i ∧ i ≤ b := by
  cases d <;> try (simp [isInt] at h; done)
  rename_i i
  simp [isInt] at h
  exact ⟨i, rfl, h.1, h.2⟩
theorem isMem_int {c d : PyData} (h : isMem c d = true) : ∃ n i l, c = .int n ∧ d = .tuple [.int i, .int l] ∧ 1 ≤ n ∧ n ≤ 12 ∧ 0 ≤ i ∧ i < n ∧ 1 ≤ l ∧ l ≤ 1000000000000 := by
  unfold isMem at h
  split at h
  · rename_i x y
    rw [Bool.and_eq_true] at h
    obtain ⟨n, i, rfl, rfl, h1, h2, h3, h4⟩ := isProc_int h.1
    obtain ⟨l, rfl, h5, h6⟩ := isInt_int h.2
    exact ⟨n, i, l, rfl, rfl, h1, h2, h3, h4, h5, h6⟩
  · cases h
/-! ### promises: a truth told of data, nothing changed -/
def spI : Sp := fun vs H Q _ => ∃ (p : Addr) (v : V) (d : PyData) (a b : Int), vs = [v, .int a, .int b] ∧ Rp p H v d ∧ Q (.bl (isInt d a b)) H
def spB1 (f : PyData → Bool) : Sp := fun vs H Q _ => ∃ (p : Addr) (v : V) (d : PyData), vs = [v] ∧ Rp p H v d ∧ Q (.bl (f d)) H
def spB2 (f : PyData → PyData → Bool) : Sp := fun vs H Q _ => ∃ (p : Addr) (u v : V) (c d : PyData), vs = [u, v] ∧ Rp p H u c ∧ Rp p H v d ∧ Q (.bl (f c d)) H
/-- the same where new things may have come -/
def spS1 (f : PyData → Bool) : Sp := fun vs H Q _ => ∃ (p : Addr) (v : V) (d : PyData), vs = [v] ∧ Rp p H v d ∧ ∀ H', Same H H' → Q (.bl (f d)) H'
def spS2 (f : PyData → PyData → Bool) : Sp := fun vs H Q _ => ∃ (p : Addr) (u v : V) (c d : PyData), vs = [u, v] ∧ Rp p H u c ∧ Rp p H v d ∧ ∀ H', Same H H' → Q (.bl (f c d)) H'
theorem ansB {Q : VK} {H : Hp} {b c : Bool} (q : Q (.bl b) H) (e : b = c) : Q (.bl c) H := e ▸ q
theorem iB {A B : Prop} {b : Bool} (h1 : b = true → A) (h2 : b = false → B) : if b = true then A else B := by
  cases b
  · exact iteF (h2 rfl)
  · exact iteT (h1 rfl)
theorem vint_ne {a b : Int} (h : a ≠ b) : ¬ V.int a = V.int b := fun e => h (V.int.inj e)
theorem drop_cons {α : Type} {xs : List α} {i : Nat} {x : α} (h : xs[i]? = some x) : xs.drop i = x :: xs.drop (i + 1) := by
  obtain ⟨hi, e⟩ := List.getElem?_eq_some_iff.mp h
  rw [List.drop_eq_getElem_cons hi, e]
section
variable {P : Program} {w : World} {K : PySem.W.Frag} {mg : Str → Option Value} {base : Heap}
theorem no_call {CX : CXT} {k : Nat} {f : Addr} {fd : FuncData} {ps : List Str} {sp : Sp} (no : ∀ vs H Q E, ¬ sp vs H Q E) : FnOk P w K mg base CX k f fd ps sp :=
  ⟨fun vs H Q E h => absurd h (no vs H Q E), fun A outer s H args us vs Q E _ _ _ _ h => absurd h (no vs H Q E)⟩
end
end Mus

set_option maxRecDepth 100000
set_option maxHeartbeats 4000000
/-! The bag of a law's draws, new things beside it, displays of data, tuples cut and joined. -/
namespace Mus
open PySem L2
def Bag (p : Addr) (c : Int) (H : Hp) : Prop := ∃ x y : Int, H p = some (.lst [.int x, .int y, .int c])
theorem Bag.seqT {K : PySem.W.Frag} {p : Addr} {c : Int} {H H' : Hp} (g : Bag p c H) (b : But p H H') {a : Addr} {xs : List V} (h : SqT K H a xs) : SqT K H' a xs := by
  obtain ⟨x, y, hp⟩ := g
  exact b.seqT hp h
theorem Bag.ne {p D : Addr} {c : Int} {H : Hp} (g : Bag p c H) (h : H D = none) : p ≠ D := by
  obtain ⟨x, y, hp⟩ := g
  exact ne_of_none hp h
theorem Bag.upd {p D : Addr} {c : Int} {H : Hp} {o : HO} (g : Bag p c H) (h : p ≠ D) : Bag p c (upd H D o) := by
  obtain ⟨x, y, hp⟩ := g
  exact ⟨x, y, by rw [upd_ne h]; exact hp⟩
theorem Bag.new {p D : Addr} {c : Int} {H : Hp} {o : HO} (g : Bag p c H) (h : H D = none) : Bag p c (L2.upd H D o) := g.upd (g.ne h)
theorem Bag.same {p : Addr} {c : Int} {H H' : Hp} (g : Bag p c H) (s : Same H H') : Bag p c H' := by
  obtain ⟨x, y, hp⟩ := g
  exact ⟨x, y, s _ _ hp⟩
/-- a new thing -/
theorem But.new {p D : Addr} {H H' : Hp} {o : HO} (b : But p H H') (h : H' D = none) : But p H (L2.upd H' D o) := fun a u e n => by
  have z := b a u e n
  rw [upd_ne (ne_of_none z h)]; exact z
/-- a change at what was not there at first -/
theorem But.later {p D : Addr} {H H' : Hp} {o : HO} (b : But p H H') (h : H D = none) : But p H (L2.upd H' D o) := fun a u e n => by
  rw [upd_ne (ne_of_none e h)]; exact b a u e n
theorem But.free {p D : Addr} {H H' : Hp} (b : But p H H') (h : H' D = none) (n : D ≠ p) : H D = none := by
  cases e : H D with
  | none => rfl
  | some o =>
    have z := b D o e n
    rw [h] at z; cases z
/-! ### displays -/
/-- the expression gives the int i, and that is all -/
def DI (te : TE) (σ : St) (i : Int) : Prop := ∀ (H : Hp) (Q : VK), Q (.int i) H → te σ H Q
/-- the expression gives the data d, new things beside what was -/
def DE (p : Addr) (te : TE) (σ : St) (d : PyData) : Prop := ∀ (c : Int) (H : Hp) (Q : VK), Bag p c H → (∀ v H', Same H H' → Bag p c H' → Rp p H' v d → Q v H') → te σ H Q
def DEs (p : Addr) (ta : TA) (σ : St) (ds : List PyData) : Prop := ∀ (c : Int) (H : Hp) (Q : List V → Hp → Prop), Bag p c H → (∀ vs H', Same H H' → Bag p c H' → Rps p H' vs ds → Q vs H') → ta σ H Q
section
variable {p : Addr} {σ : St} {te ta1 tb1 : TE} {ta : TA} {i j : Int} {d : PyData} {ds : List PyData}
theorem Same.rfl' (H : Hp) : Same H H := fun _ _ h => h
theorem di_c : DI (tC (.int i)) σ i := fun _ _ q => q
theorem di_v {n : Nat} (h : σ[n]? = some (some (.int i))) : DI (tVar n) σ i := fun _ _ q => ⟨_, h, q⟩
theorem di_op {f : Int → Int → Int} (h1 : DI ta1 σ i) (h2 : DI tb1 σ j) : DI (tOp (rI0 fun i j => .int (f i j)) ta1 tb1) σ (f i j) := fun H Q q => h1 H _ (h2 H _ ⟨i, j, rfl, rfl, q⟩)
theorem di_opC {C : Int → Int → Prop} {f : Int → Int → Int} (h1 : DI ta1 σ i) (h2 : DI tb1 σ j) (hc : C i j) : DI (tOp (rI C fun i j => .int (f i j)) ta1 tb1) σ (f i j) := fun H Q q => h1 H _ (h2 H _ ⟨i, j, rfl, rfl, hc, q⟩)
theorem di_neg (h1 : DI te σ i) : DI (tUn (rU fun i => .int (-i)) te) σ (-i) := fun H Q q => h1 H _ ⟨i, rfl, q⟩
theorem de_i (h : DI te σ i) : DE p te σ (.int i) := fun c H Q g q => h H Q (q _ H (Same.rfl' H) g (.int i))
theorem de_bl {b : Bool} : DE p (tC (.bl b)) σ (.bool b) := fun c H Q g q => q _ H (Same.rfl' H) g (.bl b)
theorem de_str {z : Str} : DE p (tC (.str z)) σ (.str z) := fun c H Q g q => q _ H (Same.rfl' H) g (.str z)
theorem de_non : DE p (tC .non) σ .none := fun c H Q g q => q _ H (Same.rfl' H) g .non
theorem des_nil : DEs p tNil σ [] := fun c H Q g q => q [] H (Same.rfl' H) g .nil
theorem des_cons (h1 : DE p te σ d) (h2 : DEs p ta σ ds) : DEs p (tCons te ta) σ (d :: ds) := fun c H Q g q =>
  h1 c H _ g fun v H1 s1 g1 r1 => h2 c H1 _ g1 fun vs H2 s2 g2 r2 => q _ H2 (s1.trans s2) g2 (.cons (r1.same s2) r2)
theorem de_tup (h : DEs p ta σ ds) (hl : ds.length ≤ 1000) : DE p (tTup ta) σ (.tuple ds) := fun c H Q g q =>
  h c H _ g fun vs H1 s1 g1 r1 => ⟨by have := r1.length; have := sl; omega, fun a na => q _ _ (s1.trans (same_new na _)) (g1.new na) (.tup upd_same (g1.ne na).symm (by have := r1.length; omega) (r1.same (same_new na _)))⟩
theorem de_lst (h : DEs p ta σ ds) (hl : ds.length ≤ 1000) : DE p (tLst ta) σ (.list ds) := fun c H Q g q =>
  h c H _ g fun vs H1 s1 g1 r1 => ⟨by have := r1.length; have := sl; omega, fun a na => q _ _ (s1.trans (same_new na _)) (g1.new na) (.lst upd_same (g1.ne na).symm (r1.same (same_new na _)))⟩
theorem de_lstN (n : Nat) (R : PyData → Prop) {c : Int} {H : Hp} {Q : VK} (h : ∃ ds, DEs p ta σ ds ∧ ds.length = n ∧ ∀ d ∈ ds, R d) (hn : n ≤ 1000) (g : Bag p c H)
    (q : ∀ ds v H', ds.length = n → (∀ d ∈ ds, R d) → Same H H' → Bag p c H' → Rp p H' v (.list ds) → Q v H') : tLst ta σ H Q := by
  obtain ⟨ds, h1, h2, h3⟩ := h
  exact de_lst h1 (by omega) c H Q g fun v H' => q ds v H' h2 h3
theorem de_cat {es : List PyData} (h1 : DE p ta1 σ (.list ds)) (h2 : DE p tb1 σ (.list es)) (hl : ds.length + es.length ≤ 1000) : DE p (tOp rCat ta1 tb1) σ (.list (ds ++ es)) := fun c H Q g q =>
  h1 c H _ g fun v H1 s1 g1 r1 => h2 c H1 _ g1 fun u H2 s2 g2 r2 => by
    obtain _ | _ | _ | _ | @⟨a, xs, _, ha, na, hr⟩ | _ := r1.same s2
    obtain _ | _ | _ | _ | @⟨b, ys, _, hb, nb, hr2⟩ | _ := r2
    refine ⟨a, b, xs, ys, rfl, rfl, ha, hb, ?_, fun t nt => q _ _ (s1.trans (s2.trans (same_new nt _))) (g2.new nt) (.lst upd_same (g2.ne nt).symm ((hr.append hr2).same (same_new nt _)))⟩
    have := hr.length; have := hr2.length; have := sl; omega
theorem de_varD {n : Nat} {v : V} (h : σ[n]? = some (some v)) (hd : ∀ H, Rp p H v d) : DE p (tVar n) σ d := fun c H Q g q => ⟨_, h, q _ H (Same.rfl' H) g (hd H)⟩
end
/-! ### tuples cut and joined -/
def cutD (ds : List PyData) (lo hi : Option Int) : List PyData := (ds.drop (HT.sIx ds.length 0 lo)).take (HT.sIx ds.length ds.length hi - HT.sIx ds.length 0 lo)
theorem Rps.cut {p : Addr} {H : Hp} {vs : List V} {ds : List PyData} (r : Rps p H vs ds) (lo hi : Option Int) : Rps p H (cutV vs lo hi) (cutD ds lo hi) := by
  unfold cutV cutD
  rw [r.length]
  exact (r.drop _).take _
theorem cutD_len (ds : List PyData) (lo hi : Option Int) : (cutD ds lo hi).length ≤ ds.length := by
  unfold cutD
  rw [List.length_take, List.length_drop]; omega
theorem cutD_mem {ds : List PyData} {lo hi : Option Int} {d : PyData} (h : d ∈ cutD ds lo hi) : d ∈ ds := List.mem_of_mem_drop (List.mem_of_mem_take h)
theorem cut_whole {xs : List V} {lo hi : Option Int} (h : HT.sIx xs.length 0 lo = 0 ∧ HT.sIx xs.length xs.length hi = xs.length) : cutV xs lo hi = xs := by
  unfold cutV
  rw [h.1, h.2, List.drop_zero, Nat.sub_zero, List.take_length]
section
variable {K : PySem.W.Frag} {p : Addr} {c : Int} {H : Hp} {Q : VK}
theorem rd_cut {a : Addr} {ds : List PyData} {lo hi : Option Int} (r : Rp p H (.ref a) (.tuple ds)) (g : Bag p c H)
    (q : ∀ b H', Same H H' → Bag p c H' → Rp p H' (.ref b) (.tuple (cutD ds lo hi)) → Q (.ref b) H') : rSlA K (.ref a) lo hi H Q := by
  obtain _ | _ | _ | _ | _ | @⟨_, xs, _, ha, na, hw, hr⟩ := r
  refine ⟨a, xs, rfl, SqT.of ha, fun w => ?_, fun w b nb => ?_⟩
  · refine q _ _ (Same.rfl' H) g (.tup ha na hw ?_)
    have z := hr.cut lo hi
    rw [cut_whole w] at z
    exact z
  · exact q _ _ (same_new nb _) (g.new nb) (.tup upd_same (g.ne nb).symm (Nat.le_trans (cutV_length _ _ _) hw) ((hr.cut lo hi).same (same_new nb _)))
theorem rd_cat {a b : Addr} {ds es : List PyData} (r1 : Rp p H (.ref a) (.tuple ds)) (r2 : Rp p H (.ref b) (.tuple es)) (g : Bag p c H) (hl : ds.length + es.length ≤ 100000)
    (q : ∀ t H', Same H H' → Bag p c H' → Rp p H' (.ref t) (.tuple (ds ++ es)) → Q (.ref t) H') : rCatA K (.ref a) (.ref b) H Q := by
  have k2 := r2
  have k1 := r1
  obtain _ | _ | _ | _ | _ | @⟨_, xs, _, ha, na, hw, hr⟩ := r1
  obtain _ | _ | _ | _ | _ | @⟨_, ys, _, hb, nb, hw2, hr2⟩ := r2
  have l1 := hr.length
  have l2 := hr2.length
  have hs := sl
  refine ⟨a, b, xs, ys, rfl, rfl, SqT.of ha, SqT.of hb, by omega, fun e => ?_, fun _ e => ?_, fun _ _ t nt => ?_⟩
  · subst e
    cases ds with
    | nil => exact q _ _ (Same.rfl' H) g k2
    | cons _ _ => cases l1
  · subst e
    cases es with
    | nil => rw [List.append_nil] at q; exact q _ _ (Same.rfl' H) g k1
    | cons _ _ => cases l2
  · exact q _ _ (same_new nt _) (g.new nt) (.tup upd_same (g.ne nt).symm (by rw [List.length_append]; omega) ((hr.append hr2).same (same_new nt _)))
end
/-! ### how deep and wide, what its texts are -/
def fit : Nat → PyData → Prop
  | 0, .tuple _ => False
  | n + 1, .tuple ds => ds.length ≤ 3000 ∧ ∀ d ∈ ds, fit n d
  | _, _ => True
inductive Her (P : Str → Prop) : PyData → Prop
  | tup {ds : List PyData} : (∀ d ∈ ds, Her P d) → Her P (.tuple ds)
  | str {z : Str} : P z → Her P (.str z)
  | non : Her P .none
  | bl (b : Bool) : Her P (.bool b)
  | int (i : Int) : Her P (.int i)
  | lst (ds : List PyData) : Her P (.list ds)
theorem Her.mem {P : Str → Prop} {ds : List PyData} (h : Her P (.tuple ds)) : ∀ d ∈ ds, Her P d := by
  cases h with
  | tup h => exact h
theorem Her.cut {P : Str → Prop} {ds : List PyData} (h : Her P (.tuple ds)) (lo hi : Option Int) : Her P (.tuple (cutD ds lo hi)) := .tup fun d m => h.mem d (cutD_mem m)
theorem Her.app {P : Str → Prop} {ds es : List PyData} (h : Her P (.tuple ds)) (k : Her P (.tuple es)) : Her P (.tuple (ds ++ es)) := .tup fun d m => by
  rcases List.mem_append.mp m with m | m
  · exact h.mem d m
  · exact k.mem d m
theorem Her.one {P : Str → Prop} {d : PyData} (h : Her P d) : Her P (.tuple [d]) := .tup fun e m => by rw [List.mem_singleton.mp m]; exact h
/-- one level less, if there is one -/
def spv (sp : Nat → Sp) (n : Nat) : Sp := fun vs H Q E => ∃ m, n = m + 1 ∧ sp m vs H Q E
/-- a thing spoilt: some data, its texts from the two -/
def sp_spoilt (n : Nat) : Sp := fun vs H Q _ => ∃ (p : Addr) (c : Int) (v o : V) (d e : PyData), vs = [.ref p, v, o] ∧ Bag p c H ∧ Rp p H v d ∧ Rp p H o e ∧ fit n d ∧
  ∀ v' d' H', Rp p H' v' d' → (∀ P, Her P d → Her P e → Her P d') → But p H H' → Bag p c H' → Q v' H'
def sp_bag (K : PySem.W.Frag) : Sp := fun vs H Q _ => ∃ (a : Addr) (ns : List Int) (k : Nat), vs = [.ref a, .int k] ∧ SqL K H a (ns.map V.int) ∧ ∀ p H', H p = none → Same H H' → Bag p k H' → Q (.ref p) H'
def sp_draw : Sp := fun vs H Q _ => ∃ (p : Addr) (c m : Int), vs = [.ref p, .int m] ∧ Bag p c H ∧ 0 < m ∧ m.natAbs < 2 ^ 100 ∧ ∀ r H', 0 ≤ r → r < m → But p H H' → Bag p c H' → Q (.int r) H'
/-- an int at least 1 and at most 10 ** 12 -/
def sp_pos : Sp := fun vs H Q _ => ∃ (p : Addr) (c : Int), vs = [.ref p] ∧ Bag p c H ∧ ∀ r H', 1 ≤ r → r ≤ 1000000000000 → But p H H' → Bag p c H' → Q (.int r) H'
end Mus
namespace Mus
open PySem L2
/-- no list in it -/
inductive NoL : PyData → Prop
  | tup {ds : List PyData} : (∀ d ∈ ds, NoL d) → NoL (.tuple ds)
  | str (z : Str) : NoL (.str z)
  | non : NoL .none
  | bl (b : Bool) : NoL (.bool b)
  | int (i : Int) : NoL (.int i)
theorem NoL.mem {ds : List PyData} (h : NoL (.tuple ds)) : ∀ d ∈ ds, NoL d := by
  cases h with
  | tup h => exact h
theorem NoL.two {a b : PyData} (h : NoL a) (k : NoL b) : NoL (.tuple [a, b]) := .tup fun d m => by
  rcases List.mem_cons.mp m with rfl | m
  · exact h
  · rw [List.mem_singleton.mp m]; exact k
theorem NoL.three {a b c : PyData} (h : NoL a) (k : NoL b) (l : NoL c) : NoL (.tuple [a, b, c]) := .tup fun d m => by
  rcases List.mem_cons.mp m with rfl | m
  · exact h
  · rcases List.mem_cons.mp m with rfl | m
    · exact k
    · rw [List.mem_singleton.mp m]; exact l
mutual
theorem Rp.upL {p D : Addr} {H H' : Hp} {ys : List V} (hD : H D = some (.lst ys)) (k : ∀ b o, H b = some o → b ≠ p → b ≠ D → H' b = some o) : ∀ {v : V} {d : PyData}, Rp p H v d → NoL d → Rp p H' v d
  | _, _, .non, _ => .non
  | _, _, .bl b, _ => .bl b
  | _, _, .int i, _ => .int i
  | _, _, .str x, _ => .str x
  | _, _, .lst h n r, z => nomatch z
  | _, _, .tup h n l r, z => .tup (k _ _ h n (ne_of h hD (by intro z; cases z))) n l (Rps.upL hD k r z.mem)
theorem Rps.upL {p D : Addr} {H H' : Hp} {ys : List V} (hD : H D = some (.lst ys)) (k : ∀ b o, H b = some o → b ≠ p → b ≠ D → H' b = some o) : ∀ {vs : List V} {ds : List PyData}, Rps p H vs ds → (∀ d ∈ ds, NoL d) → Rps p H' vs ds
  | _, _, .nil, _ => .nil
  | _, _, .cons a b, z => .cons (Rp.upL hD k a (z _ List.mem_cons_self)) (Rps.upL hD k b fun d m => z d (List.mem_cons_of_mem _ m))
end
/-- a change at the list at D -/
theorem Rps.updL {p D : Addr} {H : Hp} {ys : List V} {o : HO} (hD : H D = some (.lst ys)) {vs : List V} {ds : List PyData} (r : Rps p H vs ds) (z : ∀ d ∈ ds, NoL d) : Rps p (upd H D o) vs ds :=
  r.upL hD (fun b o h _ n => by rw [upd_ne n]; exact h) z
theorem Rp.updL {p D : Addr} {H : Hp} {ys : List V} {o : HO} (hD : H D = some (.lst ys)) {v : V} {d : PyData} (r : Rp p H v d) (z : NoL d) : Rp p (upd H D o) v d :=
  r.upL hD (fun b o h _ n => by rw [upd_ne n]; exact h) z
end Mus

set_option maxRecDepth 100000
set_option maxHeartbeats 4000000
/-! Methods and makers of own classes, as DefOk is for defs. -/
namespace Mus
open PySem L2
structure MethOk (P : Program) (w : World) (K : PySem.W.Frag) (mg : Str → Option Value) (base : Heap) (CX : CXT) (C : Addr) (x : Str) (ps : List Str) (k : Nat) (sp : Sp) where
  f : Addr
  fd : FuncData
  G : FnOk P w K mg base CX k f fd ps sp
  m : Meth K C x f
  b : Binds K fd ps []
structure MethAt (K : PySem.W.Frag) (C : Addr) (x qual : Str) (ps : List Str) (st : Stmt) where
  f : Addr
  fd : FuncData
  F : Fun K x qual st f fd
  m : Meth K C x f
  b : Binds K fd ps []
def MethAt.ok {P : Program} {w : World} {K : PySem.W.Frag} {mg : Str → Option Value} {base : Heap} {CX : CXT} {C : Addr} {x qual : Str} {ps : List Str} {st : Stmt} {k : Nat} {sp : Sp} (d : MethAt K C x qual ps st) (h : ∀ {f : Addr} {fd : FuncData}, Fun K x qual st f fd → FnOk P w K mg base CX k f fd ps sp) : MethOk P w K mg base CX C x ps k sp :=
  ⟨d.f, d.fd, h d.F, d.m, d.b⟩
/-- a class whose __init__ keeps the promise -/
structure MkOk (P : Program) (w : World) (K : PySem.W.Frag) (mg : Str → Option Value) (base : Heap) (C : Addr) (x : Str) (ps : List Str) (k : Nat) (sp : Sp) where
  f : Addr
  fd : FuncData
  G : FnOk P w K mg base CX0 k f fd ps sp
  M : Mk K C f
  g : mg x = some (.ref C)
  b : Binds K fd ps []
def MethAt.mk' {P : Program} {w : World} {K : PySem.W.Frag} {mg : Str → Option Value} {base : Heap} {C : Addr} {x : Str} {qual : Str} {ps : List Str} {st : Stmt} {k : Nat} {sp : Sp} (d : MethAt K C "__init__" qual ps st) (hm : PySem.W.makesIn K C = true) (hk : PySem.W.keepIn K (.ref C) = true) (g : mg x = some (.ref C))
    (h : ∀ {f : Addr} {fd : FuncData}, Fun K "__init__" qual st f fd → FnOk P w K mg base CX0 k f fd ps sp) : MkOk P w K mg base C x ps k sp :=
  ⟨d.f, d.fd, h d.F, ⟨hm, d.m.at_, d.m.fn, hk⟩, g, d.b⟩
section
variable {X : Cx} {C : Addr} {x m : Str} {ps : List Str} {j k : Nat} {sp : Sp} {o e : Expr} {es : List Expr} {to : TE} {t : TA} {p pos apos : Pos}
theorem pmeth {pl : Sem Bool} (c : MethOk X.prog X.w X.K X.mg X.base CX0 C m ps j sp) (cl : Cls X.K C) (ho : PE X o to) (hr : Room k X.A) (ha : PA X (e :: es) t) (hj : j ≤ k := by first | decide | omega)
    (st0 : starEach (e :: es) X.env = (false, eval e X.env) :: starEach es X.env := by rfl) (pl0 : (backTo pos (starEach es X.env)).any (·.1) = false := by rfl)
    (ht : eval (.Call (.Attribute o m apos) (e :: es) [] pos) X.env = (do
      let v ← eval o X.env; standAt apos.atName; let (f, one) ← holding [v] (getMethod v m pl)
      callWith pos f one (backTo pos (starEach (e :: es) X.env)) (backToKw pos (keywordEach [] X.env))) := by rfl) :
    PE X (.Call (.Attribute o m apos) (e :: es) [] pos) (tMeth C m sp [] E0 to t) := pe_meth ho cl c.m c.G (hr.mono hj) c.b .nil pass0 ha st0 pl0 ht
theorem pmeth0 {pl : Sem Bool} (c : MethOk X.prog X.w X.K X.mg X.base CX0 C m ps j sp) (cl : Cls X.K C) (ho : PE X o to) (hr : Room k X.A) (hj : j ≤ k := by first | decide | omega)
    (ht : eval (.Call (.Attribute o m apos) [] [] pos) X.env = (do
      let v ← eval o X.env; standAt apos.atName; let (f, one) ← holding [v] (getMethod v m pl)
      callWith pos f one (backTo pos (starEach [] X.env)) (backToKw pos (keywordEach [] X.env))) := by rfl) :
    PE X (.Call (.Attribute o m apos) [] [] pos) (tMeth C m sp [] E0 to tNil) := pe_meth0 ho cl c.m c.G (hr.mono hj) c.b .nil pass0 ht
theorem pmake (c : MkOk X.prog X.w X.K X.mg X.base C x ps j sp) (hr : Room k X.A) (ha : PA X (e :: es) t) (hj : j + 1 ≤ k := by first | decide | omega) (hg : Gl X x := by rfl)
    (d0 : (x == ("__debug__" : Str)) = false := by decide) (st0 : starEach (e :: es) X.env = (false, eval e X.env) :: starEach es X.env := by rfl) (pl0 : (backTo pos (starEach es X.env)).any (·.1) = false := by rfl) :
    PE X (.Call (.Name x p) (e :: es) [] pos) (tMake C sp [] E0 t) := pe_make c.M c.G (hr.mono hj) hg c.g c.b .nil pass0 ha d0 st0 pl0
theorem pmake0 (c : MkOk X.prog X.w X.K X.mg X.base C x ps j sp) (hr : Room k X.A) (hj : j + 1 ≤ k := by first | decide | omega) (hg : Gl X x := by rfl) (d0 : (x == ("__debug__" : Str)) = false := by decide) :
    PE X (.Call (.Name x p) [] [] pos) (tMake C sp [] E0 tNil) := pe_make0 c.M c.G (hr.mono hj) hg c.g c.b .nil pass0 d0
end
end Mus

set_option maxRecDepth 100000
set_option maxHeartbeats 4000000
/-! Data stand where a thing that is no list and no tuple changes. -/
namespace Mus
open PySem L2
mutual
theorem Rp.upN {p D : Addr} {H : Hp} {o : HO} (h1 : ∀ xs, H D ≠ some (.lst xs)) (h2 : ∀ xs, H D ≠ some (.tup xs)) : ∀ {v : V} {d : PyData}, Rp p H v d → Rp p (upd H D o) v d
  | _, _, .non => .non
  | _, _, .bl b => .bl b
  | _, _, .int i => .int i
  | _, _, .str x => .str x
  | _, _, .lst h n r => .lst (by rw [upd_ne fun z => h1 _ (by rw [← z]; exact h)]; exact h) n (Rps.upN h1 h2 r)
  | _, _, .tup h n l r => .tup (by rw [upd_ne fun z => h2 _ (by rw [← z]; exact h)]; exact h) n l (Rps.upN h1 h2 r)
theorem Rps.upN {p D : Addr} {H : Hp} {o : HO} (h1 : ∀ xs, H D ≠ some (.lst xs)) (h2 : ∀ xs, H D ≠ some (.tup xs)) : ∀ {vs : List V} {ds : List PyData}, Rps p H vs ds → Rps p (upd H D o) vs ds
  | _, _, .nil => .nil
  | _, _, .cons a b => .cons (Rp.upN h1 h2 a) (Rps.upN h1 h2 b)
end
theorem rp_tup {p t : Addr} {c : Int} {H : Hp} {vs : List V} {ds : List PyData} (g : Bag p c H) (nt : H t = none) (r : Rps p H vs ds) (hl : vs.length ≤ 100000 := by exact Nat.le_of_ble_eq_true rfl) : Rp p (upd H t (.tup vs)) (.ref t) (.tuple ds) :=
  .tup upd_same (g.ne nt).symm hl (r.same (same_new nt _))
theorem atI_intsU {ns : List Int} {r : Int} (h0 : 0 ≤ r) (h1 : r < ns.length) : ∃ x, x ∈ ns ∧ atI (ns.map V.int) r = some (.int x) := by
  have hi : r.toNat < ns.length := by omega
  refine ⟨ns[r.toNat], List.getElem_mem _, at_int h0 ?_⟩
  rw [List.getElem?_map, List.getElem?_eq_getElem hi]; rfl
/-- one of the listed values -/
theorem atI_mem {xs : List V} {r : Int} (h0 : 0 ≤ r) (h1 : r < xs.length) : ∃ x, x ∈ xs ∧ atI xs r = some x := by
  have hi : r.toNat < xs.length := by omega
  exact ⟨xs[r.toNat], List.getElem_mem _, at_int h0 (List.getElem?_eq_getElem hi)⟩
end Mus

set_option maxRecDepth 100000
set_option maxHeartbeats 4000000
/-! Errors of the program's own: made without arguments, let out by methods. -/
namespace Mus
open PySem PySem.Spec PyProof.Rows L2
section
variable {X : Cx} {C : Addr} {bmB : List Value} {B newId initId : String}
theorem pmk_own0 {x : Str} {p pos : Pos} (F : ExcBaseFacts B newId initId bmB) (q : PySem.W.excIn X.K C bmB newId = true) (gC : X.mg x = some (.ref C)) (kC : PySem.W.keepIn X.K (.ref C) = true) (r : Raises X (.ref C)) (hg : Gl X x := by rfl)
    (hdb : (x == ("__debug__" : Str)) = false := by decide) : PMk X (.Call (.Name x p) [] [] pos) (fun _ H Q => Q (.ref C) none H) := by
  intro pins s σ H Q I h
  refine wpAny_Call_Name_kw (ld_glob I hg gC ?_ hdb)
  refine PySem.W.callWith_K0 I.kIn kC ?_
  show wpAny _ _ (call (.ref C) []) _ _ _
  obtain ⟨mem, g, dw, tn, io⟩ := s
  obtain ⟨chain, N, nm0, qn, bs, hdct, sn, sub, ab, col, dd, k0, k1, k2, k3, k5, mN, cC, hN, hni, T⟩ := exc_obj I.kIn q
  exact wpAny_call_exc_subT F T cC hN hni (fun h' a hm => mk_of I hm r h (I.hok.gone hm.new)) (by show 0 ≤ sizeLine; rw [sizeLine_eq]; omega)
end
section
variable {X : Cx} {C : Addr} {x m : Str} {ps : List Str} {j k : Nat} {sp : Sp} {o e : Expr} {es : List Expr} {to : TE} {t : TA} {p pos apos : Pos} {W : WX} {E : XK}
/-- o.m(e, ..), what it lets out leaves this def, too -/
theorem pmethE {pl : Sem Bool} (c : MethOk X.prog X.w X.K X.mg X.base (L2.CX X.prog X.w) C m ps j sp) (cl : Cls X.K C) (tk : Takes X W) (hW : ∀ cls d σ H, E cls d H → W cls d σ H) (ho : PE X o to) (hr : Room k X.A) (ha : PA X (e :: es) t) (hj : j ≤ k := by first | decide | omega)
    (st0 : starEach (e :: es) X.env = (false, eval e X.env) :: starEach es X.env := by rfl) (pl0 : (backTo pos (starEach es X.env)).any (·.1) = false := by rfl)
    (ht : eval (.Call (.Attribute o m apos) (e :: es) [] pos) X.env = (do
      let v ← eval o X.env; standAt apos.atName; let (f, one) ← holding [v] (getMethod v m pl)
      callWith pos f one (backTo pos (starEach (e :: es) X.env)) (backToKw pos (keywordEach [] X.env))) := by rfl) :
    PE X (.Call (.Attribute o m apos) (e :: es) [] pos) (tMeth C m sp [] E to t) := pe_meth ho cl c.m c.G (hr.mono hj) c.b .nil (passes_call tk hW) ha st0 pl0 ht
theorem pmethE0 {pl : Sem Bool} (c : MethOk X.prog X.w X.K X.mg X.base (L2.CX X.prog X.w) C m ps j sp) (cl : Cls X.K C) (tk : Takes X W) (hW : ∀ cls d σ H, E cls d H → W cls d σ H) (ho : PE X o to) (hr : Room k X.A) (hj : j ≤ k := by first | decide | omega)
    (ht : eval (.Call (.Attribute o m apos) [] [] pos) X.env = (do
      let v ← eval o X.env; standAt apos.atName; let (f, one) ← holding [v] (getMethod v m pl)
      callWith pos f one (backTo pos (starEach [] X.env)) (backToKw pos (keywordEach [] X.env))) := by rfl) :
    PE X (.Call (.Attribute o m apos) [] [] pos) (tMeth C m sp [] E to tNil) := pe_meth0 ho cl c.m c.G (hr.mono hj) c.b .nil (passes_call tk hW) ht
/-- f(e, ..), the same of a def -/
theorem pcallE (c : DefOk X.prog X.w X.K X.mg X.base (L2.CX X.prog X.w) x ps j sp) (tk : Takes X W) (hW : ∀ cls d σ H, E cls d H → W cls d σ H) (hr : Room k X.A) (ha : PA X (e :: es) t) (hj : j ≤ k := by first | decide | omega) (hg : Gl X x := by rfl)
    (db0 : (x == ("__debug__" : Str)) = false := by decide) (st0 : starEach (e :: es) X.env = (false, eval e X.env) :: starEach es X.env := by rfl) (pl0 : (backTo pos (starEach es X.env)).any (·.1) = false := by rfl) :
    PE X (.Call (.Name x p) (e :: es) [] pos) (tCall sp [] E t) := pe_call c.G (hr.mono hj) hg c.m c.kp c.b .nil (passes_call tk hW) ha db0 st0 pl0
end
end Mus

set_option maxRecDepth 100000
set_option maxHeartbeats 4000000
/-! Calls whose errors are caught where the slots stand. -/
namespace Mus
open PySem PySem.Spec PyProof.Rows L2
/-! ### calls in a try's body -/
def tMethA (C : Addr) (m : Str) (sp : Sp) (E : L2.St → XK) (ta : TE) (t : TA) : TE := fun σ H Q => ta σ H fun x H1 => ∃ a dx fs, x = .ref a ∧ H1 a = some (.ins C dx fs) ∧ fs.lookup m = none ∧ t σ H1 fun vs H2 => sp (x :: vs) H2 Q (E σ)
section
variable {X : Cx} {C : Addr} {x m : Str} {ps : List Str} {j k : Nat} {sp : Sp} {o e : Expr} {es : List Expr} {to : TE} {t : TA} {p pos apos : Pos} {W : WX}
theorem pmethA {pl : Sem Bool} (c : MethOk X.prog X.w X.K X.mg X.base (L2.CX X.prog X.w) C m ps j sp) (cl : Cls X.K C) (tk : Takes X W) (ho : PE X o to) (hr : Room k X.A) (ha : PA X (e :: es) t) (hj : j ≤ k := by first | decide | omega)
    (st0 : starEach (e :: es) X.env = (false, eval e X.env) :: starEach es X.env := by rfl) (pl0 : (backTo pos (starEach es X.env)).any (·.1) = false := by rfl)
    (ht : eval (.Call (.Attribute o m apos) (e :: es) [] pos) X.env = (do
      let v ← eval o X.env; standAt apos.atName; let (f, one) ← holding [v] (getMethod v m pl)
      callWith pos f one (backTo pos (starEach (e :: es) X.env)) (backToKw pos (keywordEach [] X.env))) := by rfl) :
    PE X (.Call (.Attribute o m apos) (e :: es) [] pos) (tMethA C m sp (WE W) to t) := by
  refine ⟨fun pins s σ H Q I h => ?_⟩
  refine PySem.W.methodCall_KW (pl := pl) (thn (ho.run pins s σ H _ I h) fun u s1 ⟨x, H1, I1, rx, a, dx, fs, ex, ea, l, q⟩ => ?_) ht
  subst ex
  obtain rfl : u = Value.ref a := rx
  refine getmeth_ok I1 ea cl c.m l ?_
  refine PySem.W.callWith_K (first := [.ref a]) (h₀ := X.base) I.ok.mod.kin c.m.kp (thn (ha.run pos pins s1 σ H1 _ I1 q) fun us s2 ⟨vs, H2, I2, r, q2⟩ => ⟨I2.kIn, ?_⟩) st0 pl0
  exact run_fnS (us := .ref a :: us) (vs := .ref a :: vs) c.G (hr.mono hj) c.b (passAt tk σ) I2 (.cons rfl r) q2
theorem pmethA0 {pl : Sem Bool} (c : MethOk X.prog X.w X.K X.mg X.base (L2.CX X.prog X.w) C m ps j sp) (cl : Cls X.K C) (tk : Takes X W) (ho : PE X o to) (hr : Room k X.A) (hj : j ≤ k := by first | decide | omega)
    (ht : eval (.Call (.Attribute o m apos) [] [] pos) X.env = (do
      let v ← eval o X.env; standAt apos.atName; let (f, one) ← holding [v] (getMethod v m pl)
      callWith pos f one (backTo pos (starEach [] X.env)) (backToKw pos (keywordEach [] X.env))) := by rfl) :
    PE X (.Call (.Attribute o m apos) [] [] pos) (tMethA C m sp (WE W) to tNil) := by
  refine ⟨fun pins s σ H Q I h => ?_⟩
  refine PySem.W.methodCall_KW (pl := pl) (thn (ho.run pins s σ H _ I h) fun u s1 ⟨x, H1, I1, rx, a, dx, fs, ex, ea, l, q⟩ => ?_) ht
  subst ex
  obtain rfl : u = Value.ref a := rx
  refine getmeth_ok I1 ea cl c.m l ?_
  refine PySem.W.callWith_K0 (first := [.ref a]) I1.kIn c.m.kp ?_
  exact run_fnS (us := [.ref a]) (vs := [.ref a]) c.G (hr.mono hj) c.b (passAt tk σ) I1 (.cons rfl .nil) q
theorem pcallA (c : DefOk X.prog X.w X.K X.mg X.base (L2.CX X.prog X.w) x ps j sp) (tk : Takes X W) (hr : Room k X.A) (ha : PA X (e :: es) t) (hj : j ≤ k := by first | decide | omega) (hg : Gl X x := by rfl)
    (db0 : (x == ("__debug__" : Str)) = false := by decide) (st0 : starEach (e :: es) X.env = (false, eval e X.env) :: starEach es X.env := by rfl) (pl0 : (backTo pos (starEach es X.env)).any (·.1) = false := by rfl) :
    PE X (.Call (.Name x p) (e :: es) [] pos) (tCallS sp (WE W) t) := pe_callS c.G (hr.mono hj) hg c.m c.kp c.b (fun σ => passAt tk σ) ha db0 st0 pl0
end
end Mus

set_option maxRecDepth 100000
set_option maxHeartbeats 4000000
/-! The same rules, so that Lean finds the inner readings: they may name what they don't depend on. -/
namespace Mus
open PySem PySem.Spec PyProof.Rows L2
def s00 : Shared := {}
def h00 : Hp := fun _ => none
def o00 : Obj := default
def x00 : Value → Shared → Prop := fun _ _ => False
section
variable {X : Cx} {x n : Str} {c : Value} {i : Nat} {body suite : List Stmt} {b₀ : Stmt} {np pos pos' : Pos} {tb : WX → List (Addr × Obj) → (Value → Shared → Prop) → TS} {ts : Addr → Obj → Value → Option Addr → List (Addr × Obj) → TS} {Wout : WX}
theorem ps_tryAs (hs : X.stack = X.env :: X.outer) (hf : X.env.frame = some X.env.locals) (hN : X.N.Nodup) (hi : X.N[i]? = some n) (hln : X.env.kindOf n = some .local) (hc : Names X x c) (tk : Takes X Wout)
    (hb : ∀ W pn xe, Takes (X.tr pn xe) W → PassesOwn (model X.prog X.w) X.A X.env xe → PSs (X.tr pn xe) body (tb W pn xe)) (hsu : ∀ a oe cls d pn, Zc cls d oe → (∃ vs, oe.data = .fields vs) → PSs (X.suite a ((a, oe) :: pn)) (b₀ :: suite) (ts a oe cls d pn))
    (i1 : ∀ W pn xe, tb W pn xe = tb W [] x00 := by intros; rfl) (i2 : ∀ a oe cls d pn, ts a oe cls d pn = ts a o00 cls d [] := by intros; rfl) :
    PS X (.Try body [.ExceptHandler (some (.Name x np)) (some n) (b₀ :: suite) pos'] [] [] pos) (fun D σ H => tb (wAs X.K c i (fun a cls d => ts a o00 cls d []) Wout D) [] x00 D σ H) :=
  ps_try_as (tb := fun W => tb W [] x00) hs hf hN hi hln hc tk (fun W pn xe t p => i1 W pn xe ▸ hb W pn xe t p) fun a oe cls d pn z f => i2 a oe cls d pn ▸ hsu a oe cls d pn z f
end
section
variable {X : Cx} {body : List Stmt} {h₀ : ExceptHandler} {hds : List ExceptHandler} {l : List (Value × (Addr → Value → Option Addr → TS))} {pos : Pos} {tb : WX → List (Addr × Obj) → (Value → Shared → Prop) → TS} {Wout : WX}
theorem ps_tryX (hs : X.stack = X.env :: X.outer) (hf : X.env.frame = some X.env.locals) (tk : Takes X Wout)
    (hb : ∀ W pn xe, Takes (X.tr pn xe) W → PassesOwn (model X.prog X.w) X.A X.env xe → PSs (X.tr pn xe) body (tb W pn xe)) (hh : HdsOk X (h₀ :: hds) l) (i1 : ∀ W pn xe, tb W pn xe = tb W [] x00 := by intros; rfl) :
    PS X (.Try body (h₀ :: hds) [] [] pos) (fun D σ H => tb (wMany X.K Wout D l) [] x00 D σ H) :=
  ps_try_many (tb := fun W => tb W [] x00) hs hf tk (fun W pn xe t p => i1 W pn xe ▸ hb W pn xe t p) hh
theorem hd_one {x : Str} {c : Value} {ts : Addr → Obj → Value → Option Addr → List (Addr × Obj) → TS} {b₀ : Stmt} {suite : List Stmt} {np pos' : Pos} (hc : Names X x c)
    (hsu : ∀ a oe cls d pn, Zc cls d oe → (∃ vs, oe.data = .fields vs) → PSs (X.suite a ((a, oe) :: pn)) (b₀ :: suite) (ts a oe cls d pn)) (r : HdsOk X hds l) (i2 : ∀ a oe cls d pn, ts a oe cls d pn = ts a o00 cls d [] := by intros; rfl) :
    HdsOk X (.ExceptHandler (some (.Name x np)) none (b₀ :: suite) pos' :: hds) ((c, fun a cls d => ts a o00 cls d []) :: l) :=
  .cons hc (fun a oe cls d pn z f => i2 a oe cls d pn ▸ hsu a oe cls d pn z f) r
end
section
variable {X : Cx} {elt tg iter : Expr} {ifs : List Expr} {scope : Scope} {own : List (Str × Nat)} {pos : Pos} {wi : TI} {g : Shared → Hp → Addr → List (Str × Addr) → List Addr → TG} {tt : Shared → Hp → Addr → List (Str × Addr) → List Addr → TT} {te : Shared → Hp → Addr → List (Str × Addr) → List Addr → TE}
theorem pe_lcX (hc : X.calm = true) (hN : X.N.Nodup) (hi : PI X tg iter wi) (ok : BlkOk X.N X.env.scope scope own)
    (hg : ∀ (s : Shared) (H : Hp) (C : Addr) (cl : List (Str × Addr)) (fp : List Addr), PG (X.blk s H scope (compEnvC scope cl C X.env) fp) tg (g s H C cl fp)) (ht : ∀ (s : Shared) (H : Hp) (C : Addr) (cl : List (Str × Addr)) (fp : List Addr), PTs (X.blk s H scope (compEnvC scope cl C X.env) fp) ifs (tt s H C cl fp))
    (he : ∀ (s : Shared) (H : Hp) (C : Addr) (cl : List (Str × Addr)) (fp : List Addr), PE (X.blk s H scope (compEnvC scope cl C X.env) fp) elt (te s H C cl fp)) (hs : ∀ x, foldedSetIterable iter X.env x = pure x := by intro _; rfl)
    (i1 : ∀ s H C cl fp, g s H C cl fp = g s00 h00 0 [] [] := by intros; rfl) (i2 : ∀ s H C cl fp, tt s H C cl fp = tt s00 h00 0 [] [] := by intros; rfl) (i3 : ∀ s H C cl fp, te s H C cl fp = te s00 h00 0 [] [] := by intros; rfl) :
    PE X (.ListComp elt [⟨tg, iter, ifs, 0⟩] scope pos) (tLc wi (g s00 h00 0 [] []) (tt s00 h00 0 [] []) (te s00 h00 0 [] []) (own.map (·.2))) :=
  pe_lc hc hN hi ok (fun s H C cl fp => i1 s H C cl fp ▸ hg s H C cl fp) (fun s H C cl fp => i2 s H C cl fp ▸ ht s H C cl fp) (fun s H C cl fp => i3 s H C cl fp ▸ he s H C cl fp) hs
theorem ps_setLcX {i : Nat} {y : Str} {py : Pos} {spos : Pos} (hc : X.calm = true) (hN : X.N.Nodup) (hy : X.N[i]? = some y) (hyl : X.env.scope.names.lookup y = some .local)
    (hsw : swapsWith (.ListComp elt [⟨tg, iter, ifs, 0⟩] scope pos) (some (.Name y py)) spos.line X.env = pure true) (hi : PI X tg iter wi) (ok : BlkOk X.N X.env.scope scope own)
    (hg : ∀ (s : Shared) (H : Hp) (C : Addr) (cl : List (Str × Addr)) (fp : List Addr), PG (X.blk s H scope (compEnvC scope cl C X.env) fp) tg (g s H C cl fp)) (ht : ∀ (s : Shared) (H : Hp) (C : Addr) (cl : List (Str × Addr)) (fp : List Addr), PTs (X.blk s H scope (compEnvC scope cl C X.env) fp) ifs (tt s H C cl fp))
    (he : ∀ (s : Shared) (H : Hp) (C : Addr) (cl : List (Str × Addr)) (fp : List Addr), PE (X.blk s H scope (compEnvC scope cl C X.env) fp) elt (te s H C cl fp)) (hs : ∀ x, foldedSetIterable iter X.env x = pure x := by intro _; rfl)
    (i1 : ∀ s H C cl fp, g s H C cl fp = g s00 h00 0 [] [] := by intros; rfl) (i2 : ∀ s H C cl fp, tt s H C cl fp = tt s00 h00 0 [] [] := by intros; rfl) (i3 : ∀ s H C cl fp, te s H C cl fp = te s00 h00 0 [] [] := by intros; rfl) :
    PS X (.Assign [.Name y py] (.ListComp elt [⟨tg, iter, ifs, 0⟩] scope pos) spos) (tAsg (tLc wi (g s00 h00 0 [] []) (tt s00 h00 0 [] []) (te s00 h00 0 [] []) (own.map (·.2))) (gName i)) :=
  ps_setLc hc hN hy hyl hsw hi ok (fun s H C cl fp => i1 s H C cl fp ▸ hg s H C cl fp) (fun s H C cl fp => i2 s H C cl fp ▸ ht s H C cl fp) (fun s H C cl fp => i3 s H C cl fp ▸ he s H C cl fp) hs
end
end Mus

set_option maxRecDepth 100000
set_option maxHeartbeats 4000000
/-! comprehensions with two sources; their readings are found by Lean. -/
namespace Mus
open PySem PySem.Spec PyProof.Rows L2
section
variable {X : Cx} {elt tg iter tg1 iter1 : Expr} {ifs ifs1 : List Expr} {scope : Scope} {own : List (Str × Nat)} {vs1 : List Nat} {pos : Pos} {wi : TI} {g g1 : Shared → Hp → Addr → List (Str × Addr) → List Addr → TG} {tt tt1 : Shared → Hp → Addr → List (Str × Addr) → List Addr → TT} {te : Shared → Hp → Addr → List (Str × Addr) → List Addr → TE} {wi1 : Shared → Hp → Addr → List (Str × Addr) → List Addr → TI}
theorem pe_lc2X (hc : X.calm = true) (hN : X.N.Nodup) (hi : PI X tg iter wi) (ok : BlkOk X.N X.env.scope scope own) (hv : ∀ i ∈ vs1, i ∈ own.map (·.2))
    (hg : ∀ (s : Shared) (H : Hp) (C : Addr) (cl : List (Str × Addr)) (fp : List Addr), PG (X.blk s H scope (compEnvC scope cl C X.env) fp) tg (g s H C cl fp)) (ht : ∀ (s : Shared) (H : Hp) (C : Addr) (cl : List (Str × Addr)) (fp : List Addr), PTs (X.blk s H scope (compEnvC scope cl C X.env) fp) ifs (tt s H C cl fp))
    (hi1 : ∀ (s : Shared) (H : Hp) (C : Addr) (cl : List (Str × Addr)) (fp : List Addr), PI (X.blk s H scope (compEnvC scope cl C X.env) fp) tg1 iter1 (wi1 s H C cl fp))
    (hg1 : ∀ (s : Shared) (H : Hp) (C : Addr) (cl : List (Str × Addr)) (fp : List Addr), PG (X.blk s H scope (compEnvC scope cl C X.env) fp) tg1 (g1 s H C cl fp)) (ht1 : ∀ (s : Shared) (H : Hp) (C : Addr) (cl : List (Str × Addr)) (fp : List Addr), PTs (X.blk s H scope (compEnvC scope cl C X.env) fp) ifs1 (tt1 s H C cl fp))
    (he : ∀ (s : Shared) (H : Hp) (C : Addr) (cl : List (Str × Addr)) (fp : List Addr), PE (X.blk s H scope (compEnvC scope cl C X.env) fp) elt (te s H C cl fp)) (hs : ∀ x, foldedSetIterable iter X.env x = pure x := by intro _; rfl) (hs1 : ∀ env x, foldedSetIterable iter1 env x = pure x := by intro _ _; rfl)
    (i1 : ∀ s H C cl fp, g s H C cl fp = g s00 h00 0 [] [] := by intros; rfl) (i2 : ∀ s H C cl fp, tt s H C cl fp = tt s00 h00 0 [] [] := by intros; rfl) (i3 : ∀ s H C cl fp, te s H C cl fp = te s00 h00 0 [] [] := by intros; rfl)
    (i4 : ∀ s H C cl fp, wi1 s H C cl fp = wi1 s00 h00 0 [] [] := by intros; rfl) (i5 : ∀ s H C cl fp, g1 s H C cl fp = g1 s00 h00 0 [] [] := by intros; rfl) (i6 : ∀ s H C cl fp, tt1 s H C cl fp = tt1 s00 h00 0 [] [] := by intros; rfl) :
    PE X (.ListComp elt [⟨tg, iter, ifs, 0⟩, ⟨tg1, iter1, ifs1, 0⟩] scope pos) (tLc2 wi (g s00 h00 0 [] []) (tt s00 h00 0 [] []) (wi1 s00 h00 0 [] []) (g1 s00 h00 0 [] []) (tt1 s00 h00 0 [] []) (te s00 h00 0 [] []) (own.map (·.2)) vs1) :=
  pe_lc2 hc hN hi ok hv (fun s H C cl fp => i1 s H C cl fp ▸ hg s H C cl fp) (fun s H C cl fp => i2 s H C cl fp ▸ ht s H C cl fp) (fun s H C cl fp => i4 s H C cl fp ▸ hi1 s H C cl fp) (fun s H C cl fp => i5 s H C cl fp ▸ hg1 s H C cl fp) (fun s H C cl fp => i6 s H C cl fp ▸ ht1 s H C cl fp) (fun s H C cl fp => i3 s H C cl fp ▸ he s H C cl fp) hs hs1
end
end Mus

set_option maxRecDepth 100000
set_option maxHeartbeats 4000000
/-! An own error class with two fields: raised, caught by name, its fields read. -/
namespace Mus
open PySem PySem.Spec PyProof.Rows L2
structure ExOk (P : Program) (w : World) (K : PySem.W.Frag) (mg : Str → Option Value) (base : Heap) (C : Addr) (x : Str) (ps : List Str) (k : Nat) (sp : Sp) where
  f : Addr
  fd : FuncData
  G : FnOk P w K mg base CX0 k f fd ps sp
  o : OexC K C
  i : PySem.W.findIn K (.ref C) "__init__" = some (some (.ref f))
  t : PySem.W.typeIn K (.ref f) = some (.type "function")
  m : mg x = some (.ref C)
  b : Binds K fd ps []
section
variable {X : Cx} {C : Addr} {x : Str} {ps : List Str} {j k : Nat} {sp : Sp} {e : Expr} {es : List Expr} {ta : TA} {p pos pos' : Pos} {W : WX}
theorem praise (c : ExOk X.prog X.w X.K X.mg X.base C x ps j sp) (tk : Takes X W) (hr : Room k X.A) (ha : PA X (e :: es) ta) (hc : X.calm = true := by rfl) (hj : j + 1 ≤ k := by first | decide | omega) (hg : Gl X x := by rfl)
    (hdb : (x == ("__debug__" : Str)) = false := by decide) (he : starEach (e :: es) X.env = (false, eval e X.env) :: starEach es X.env := by rfl) (hpl : (backTo pos (starEach es X.env)).any (·.1) = false := by rfl) :
    PS X (.Raise (some (.Call (.Name x p) (e :: es) [] pos)) none pos') (fun _ σ H => tMkO C sp [] ta σ H fun cls d H' => W cls d σ H') :=
  ps_raise hc tk (pmk_oex c.o c.i c.t c.G (hr.mono hj) c.b .nil pass0 hg c.m ha hdb he hpl)
end
/-- the __init__ of BadSchedule: two fields, the line first -/
def sp_bs (C : Addr) : Sp := fun vs H Q _ => ∃ (a : Addr) (u v : V), vs = [.ref a, u, v] ∧ H a = some (exo a C none) ∧ ∀ d H', H d = none → (∀ b o, H b = some o → b ≠ a → H' b = some o) → H' a = some (exo a C (some d)) → H' d = some (exd d [("reason", v), ("line", u)]) → Q .non H'
def bsF (u v : V) : List (Str × V) := [("reason", v), ("line", u)]
theorem rd_bs {C : Addr} {ta tb : TE} {u v : V} {σ : L2.St} {H : Hp} {Q : XK} (h1 : ∀ R : VK, R u H → ta σ H R) (h2 : ∀ R : VK, R v H → tb σ H R) (q : ∀ d H', H d = none → Same H H' → H' d = some (.xd (bsF u v)) → Q (.ref C) (some d) H') :
    tMkO C (sp_bs C) [] (tCons ta (tCons tb tNil)) σ H Q := by
  refine h1 _ (h2 _ ⟨by show 2 ≤ 1000; decide, fun a na => ⟨a, u, v, rfl, upd_same, fun d H' nd fr ha hd => ⟨rfl, d, _, ha, hd, ?_, ?_⟩⟩⟩)
  · have da : d ≠ a := fun z => by rw [z, upd_same] at nd; cases nd
    rwa [upd_ne da] at nd
  · have da : d ≠ a := fun z => by rw [z, upd_same] at nd; cases nd
    have nd' : H d = none := by rwa [upd_ne da] at nd
    refine q d _ nd' (fun b o hb => ?_) upd_same
    have hbd : b ≠ d := ne_of_none hb nd'
    have hba : b ≠ a := ne_of_none hb na
    rw [upd_ne hbd, del_ne hba]
    exact fr b o (by rw [upd_ne hba]; exact hb) hba
end Mus

set_option maxRecDepth 100000
set_option maxHeartbeats 4000000
/-! sorted(x), x a list or a tuple of data of one shape. -/
namespace PySem.W
open PySem PySem.Calls PyProof.Rows
section
variable {prog : Program} {w : World} {A : Around} {E : Value → Shared → Prop} {s : Shared}
/-- the items of a tuple, in a list of their own -/
theorem mus_collect {a : Addr} {vs : List Value} {Q : List Value → Shared → Prop} (ht : s.heap.IsTuple a vs.toArray) (hz : vs.length ≤ sizeLine)
    (h : Q vs { s with heap := (s.heap.push (seqObj "list" #[] 0)).update s.heap.objs.size (Obj.mapSeq (· ++ vs.toArray)) }) : wpAny (model prog w) A (collect (.ref a)) Q E s := by
  obtain ⟨o, e1, e2, n, e3⟩ := id ht
  have f1 : (s.heap.push (seqObj "list" #[] 0)).get? a = some o := Heap.get?_push_of_some _ e1
  have f2 : (s.heap.push (seqObj "list" #[] 0)).get? s.heap.objs.size = some (seqObj "list" #[] 0) := Heap.get?_push_size _ rfl
  have k1 : (Value.type "tuple" == Value.type "list") = false := by decide +kernel
  have k2 : (Value.type "tuple" == Value.type "tuple") = true := by decide +kernel
  unfold collect
  refine wpAny_bind (wpAny_runValue (codeAny_builtin entry_proto_collect' ?_))
  refine wpAny_bind (wpAny_newList (wpAny_pure ⟨Code.quiet_builtin _ (by decide +kernel), codeAny_builtin entry_list_iadd' ?_⟩))
  show wpAny _ _ (Builtin.List.listExtendWith (.ref s.heap.objs.size) (.ref a) (.ref s.heap.objs.size)) _ _ { s with heap := s.heap.push (seqObj "list" #[] 0) }
  unfold Builtin.List.listExtendWith
  refine wpAny_bind (wpAny_typeOf (T := "tuple") ⟨o, f1, e2⟩ ?_)
  rw [if_pos (by rw [k1, k2]; simp)]
  refine wpAny_bind (listItems_at f1 e3 (wpAny_bind (listItems_at (xs := #[]) (n := 0) f2 rfl ?_)))
  rw [if_neg (by simp)]
  refine wpAny_bind (listUpdate_at (xs := #[]) (n := 0) f2 rfl (wpAny_pure ?_) (Nat.zero_le _) (by simp only [Array.size_append, List.size_toArray, List.length_nil]; omega))
  refine wpAny_bind (wpAny_load (get?_update_seq f2 _) ?_)
  have e : ((#[] : Array Value) ++ vs.toArray).toList = vs := by simp
  show wpAny _ _ (pure ((#[] : Array Value) ++ vs.toArray).toList) Q E _
  rw [e]
  exact wpAny_pure h
theorem mus_sortedT {a : Addr} {vs : List Value} {Q : Value → Shared → Prop} (ht : s.heap.IsTuple a vs.toArray) (hL : vs.length ≤ sizeLine)
    (body : ∀ E' : Value → Shared → Prop, wpAny (model prog w) A.in1.in1 (Builtin.«list.sort» ⟨[.ref (s.heap.objs.size + 1)], []⟩) (fun f s' => f = .done (.ret .none) ∧ Q (.ref (s.heap.objs.size + 1)) s') E' { s with heap := copyHeap s.heap vs }) :
    wpAny (model prog w) A (call (.builtin "sorted") [.ref a]) Q E s := by
  have z : ((s.heap.push (seqObj "list" #[] 0)).update s.heap.objs.size (Obj.mapSeq (· ++ vs.toArray))).objs.size = s.heap.objs.size + 1 := (Heap.size_update ..).trans (size_push' ..)
  refine call_function_entry_kw kind_sorted plain_sorted entry_sorted (args_sorted1 _) ?_
  unfold Builtin.«sorted»
  refine wpAny_bind (m := checkCount "sorted" 1 1 _) (wpAny_pure (wpAny_bind (mus_collect ht hL (wpAny_bind (wpAny_newList ?_ hL)))))
  show wpAny _ _ _ _ _ { s with heap := copyHeap s.heap vs }
  rw [z]
  refine wpAny_bind (wpAny_holding (wpAny_call_entry_kw slot_list_sort ⟨_, copyHeap_at s.heap vs, rfl⟩ entry_list_sort ?sorts (args_list_sort _)))
  case sorts =>
    refine wpAny_mono (body _) (fun f s' q => ?_) fun _ _ e => e
    obtain ⟨rfl, q⟩ := q
    exact ⟨_, rfl, wpAny_pure ⟨_, rfl, q⟩⟩
theorem mus_sorted {β : Type} {R : Value → β → Prop} {enc : β → PyData} {bs : List β} {a : Addr} {vs : List Value} {Q : Value → Shared → Prop} (ht : s.heap.IsTuple a vs.toArray) (e : EachIs R vs bs) (er : EachIs (fun v b => ∃ as, Reads s.heap v (enc b) as) vs bs) (hal : AllAlike (bs.map enc)) (hk : Sortable (bs.map enc)) (hL : bs.length ≤ sizeLine)
    (hu : ∀ b, b ∈ bs → A.units + 2 + (enc b).depth < cLine) (h : ∀ out, out.length = bs.length → EachIs R out (bs.mergeSort (dataLe false enc)) → Q (.ref (s.heap.objs.size + 1)) { s with heap := sortedAll s.heap vs (List.toArray out) }) :
    wpAny (model prog w) A (call (.builtin "sorted") [.ref a]) Q E s := by
  have lv : vs.length ≤ sizeLine := e.length ▸ hL
  have er' : EachIs (fun v b => ∃ as, Reads (sortingHeap (copyHeap s.heap vs) (s.heap.objs.size + 1) vs) v (enc b) as) vs bs := er.mono fun _ _ ⟨as, r⟩ => ⟨as, PyProof.Rows.Reads.keeps (fun _ _ => sorting_copy_old) r⟩
  have S := SortsAt.data (prog := prog) (w := w) (A := A.in1.in1) (s := { s with heap := sortingHeap (copyHeap s.heap vs) (s.heap.objs.size + 1) vs }) (each_map (R := fun v d => ∃ as, Reads (sortingHeap (copyHeap s.heap vs) (s.heap.objs.size + 1) vs) v d as) enc er') hal hk (bound_map hu)
  exact mus_sortedT ht lv fun _ => list_sort_vals (s := { s with heap := copyHeap s.heap vs }) (copyHeap_at s.heap vs) S lv ⟨rfl, h _ (by rw [sortVals_length false rfl]; exact e.length) (sortVals_data false e er' hal)⟩
end
end PySem.W
namespace Mus
open PySem PySem.Spec PyProof.Rows L2
def rSortedD (K : PySem.W.Frag) : List V → Hp → VK → Prop := fun vs H Q => ∃ (a : Addr) (xs : List V) (ds : List PyData), vs = [V.ref a] ∧ (SqL K H a xs ∨ SqT K H a xs) ∧ DpAll K H xs ds ∧ PySem.W.AllAlike ds ∧ PySem.W.Sortable ds ∧ (∀ d ∈ ds, d.depth ≤ 20) ∧
  ∀ (ps : List (V × PyData)) p, ps = (xs.zip ds).mergeSort (PySem.W.dataLe false (·.2)) → H p = none → Q (.ref p) (upd H p (.lst (ps.map (·.1))))
theorem each_zip {h : Heap} : ∀ {xs : List V} {ds : List PyData} {vs : List Value}, Vals xs vs → xs.length = ds.length → PySem.W.EachIs (fun v (b : V × PyData) => RelV b.1 v) vs (xs.zip ds)
  | [], [], _, .nil, _ => .nil
  | x :: xs, d :: ds, _, .cons r rs, hl => .cons r (each_zip (h := h) rs (by simpa using hl))
  | [], _ :: _, _, _, hl => by cases hl
  | _ :: _, [], _, _, hl => by cases hl
theorem each_reads {h : Heap} : ∀ {xs : List V} {ds : List PyData} {vs : List Value} {as : List Addr}, xs.length = ds.length → ReadsAll h vs ds as → vs.length = xs.length → PySem.W.EachIs (fun v (b : V × PyData) => ∃ as, Reads h v b.2 as) vs (xs.zip ds)
  | [], [], _, _, _, .nil, _ => .nil
  | x :: xs, d :: ds, _, _, hl, .cons r rs, h2 => .cons ⟨_, r⟩ (each_reads (by simpa using hl) rs (by simpa using h2))
  | [], _ :: _, _, _, hl, _, _ => by cases hl
  | _ :: _, [], _, _, hl, _, _ => by cases hl
theorem vals_of_each : ∀ {ps : List (V × PyData)} {out : List Value}, PySem.W.EachIs (fun v (b : V × PyData) => RelV b.1 v) out ps → Vals (ps.map (·.1)) out
  | _, _, .nil => .nil
  | _, _, .cons r rs => .cons r (vals_of_each rs)
theorem dpAll_len {K : PySem.W.Frag} {H : Hp} : ∀ {xs : List V} {ds : List PyData}, DpAll K H xs ds → xs.length = ds.length
  | _, _, .nil => rfl
  | _, _, .cons _ r => congrArg (· + 1) (dpAll_len r)
section
variable {X : Cx}
theorem cr_sortedD (hu : X.A.units + 64 < cLine) : CallR X (.builtin "sorted") (rSortedD X.K) := by
  intro pins s σ H vs us Q I r h
  obtain ⟨a, xs, ds, rfl, hs, hd, hal, hk, hdep, q⟩ := h
  obtain ⟨u, rfl, ru⟩ := vals1 r
  obtain rfl : u = Value.ref a := ru
  have ll := dpAll_len hd
  have lz : (xs.zip ds).length = ds.length := by rw [List.length_zip, ll, Nat.min_self]
  have em : (xs.zip ds).map (·.2) = ds := List.map_snd_zip (by omega)
  have hu' : ∀ b ∈ xs.zip ds, X.A.units + 2 + b.2.depth < cLine := fun b hb => by
    have := hdep b.2 (by rw [← em]; exact List.mem_map.mpr ⟨b, hb, rfl⟩)
    omega
  have fin : ∀ {vs : List Value}, Vals xs vs → ∀ out, out.length = (xs.zip ds).length → PySem.W.EachIs (fun v (b : V × PyData) => RelV b.1 v) out ((xs.zip ds).mergeSort (PySem.W.dataLe false (·.2))) → EP X pins σ Q (.ref (s.heap.objs.size + 1)) { s with heap := sortedAll s.heap vs (List.toArray out) } := fun {vs} rv out hl he => by
    obtain ⟨n, hn⟩ := sortedAll_at s.heap vs (List.toArray out)
    have nd : H (s.heap.objs.size + 1) = none := I.hok.fresh (Nat.le_succ _)
    have hz : ((xs.zip ds).mergeSort (PySem.W.dataLe false (·.2))).length ≤ sizeLine := by
      rw [List.length_mergeSort, lz, ← ll]
      rcases hs with hs | hs
      · obtain ⟨_, _, _, hz⟩ := I.list hs; exact hz
      · obtain ⟨_, _, _, hz⟩ := I.tuple hs; exact hz
    exact ⟨.ref (s.heap.objs.size + 1), _, I.laid (t' := s.toks) (o := .lst (((xs.zip ds).mergeSort (PySem.W.dataLe false (·.2))).map (·.1))) (fun b o e => sortedAll_old e) (Nat.le_succ _) ⟨by rw [List.length_map]; exact hz, out, n, vals_of_each he, hn⟩, rfl, q _ _ rfl nd⟩
  rcases hs with hs | hs
  · obtain ⟨its, rv, hl, hz⟩ := I.list hs
    obtain ⟨as, ra⟩ := Dp.readsAll I ds xs its hd rv
    exact PySem.W.sorted_data hl.isList (each_zip (h := s.heap) rv ll) (each_reads ll ra rv.length.symm) (by rw [em]; exact hal) (by rw [em]; exact hk) (by rw [lz, ← ll]; exact hz) hu' (fin rv)
  · obtain ⟨its, rv, hl, hz⟩ := I.tuple hs
    obtain ⟨as, ra⟩ := Dp.readsAll I ds xs its hd rv
    exact PySem.W.mus_sorted hl (each_zip (h := s.heap) rv ll) (each_reads ll ra rv.length.symm) (by rw [em]; exact hal) (by rw [em]; exact hk) (by rw [lz, ← ll]; exact hz) hu' (fin rv)
end
end Mus

set_option maxRecDepth 100000
set_option maxHeartbeats 4000000
namespace Mus
open PySem L2
local macro_rules | `(tactic| walk_at "rd") => `(tactic| first
  | refine ⟨_, rfl, ?_⟩ | refine ⟨(True.intro : True), ?_⟩
  | refine ⟨_, _, rfl, rfl, (⟨by decide, by decide, by decide⟩ : CPow _ _), ?_⟩
  | refine ⟨_, _, rfl, rfl, (⟨by decide, by decide⟩ : CDiv _ _), ?_⟩
  | refine ⟨_, _, rfl, rfl, (by show (0 : Int) < _; decide), ?_⟩
  | refine ⟨_, _, rfl, rfl, ?_⟩ | refine ⟨rfl, ?_⟩ | refine iteT ?_ | refine iteF ?_ | refine ⟨_, _, rfl, ?_⟩ | refine .inl ⟨_, rfl, ?_⟩
  | refine ⟨_, _, _, _, _, rfl, (by assumption), (by assumption), (by assumption), rfl, ?_⟩ | refine ⟨_, _, _, _, rfl, rfl, SqT.of (by assumption), rfl, ?_⟩ | refine ⟨_, _, rfl, SqT.of (by assumption), rfl, ?_⟩
  | refine ⟨_, _, _, _, _, rfl, .ty _, Rp.ty (by assumption), kit_int _, ?_⟩ | refine ⟨_, _, _, _, _, rfl, .ty _, Rp.ty (by assumption), kit_bool _, ?_⟩
  | refine ⟨_, _, _, _, _, rfl, .ty _, Rp.ty (by assumption), kit_str _, ?_⟩ | refine ⟨_, _, _, _, _, rfl, .ty _, Rp.ty (by assumption), kit_tup _, ?_⟩)
local macro_rules | `(tactic| walk_at "cal") => `(tactic| first
  | refine ⟨_, _, _, _, _, rfl, (by assumption), ?_⟩ | refine ⟨_, _, _, _, _, rfl, (by assumption), (by assumption), ?_⟩)
local macro_rules | `(tactic| walk_at "sq") => `(tactic| first
  | refine ⟨_, _, rfl, Or.inr (SqT.of (by assumption)), ?_⟩ | refine ⟨_, _, _, _, rfl, rfl, SqT.of (by assumption), rfl, ?_⟩)
local macro_rules | `(tactic| walk_at "rds") => `(tactic| repeat first | walk_at "rd" | walk_at "cal" | walk_at "sq")
local macro_rules | `(tactic| walk_at "ze") => `(tactic| repeat first
  | exact zes_nil | exact ze_bl | exact ze_str | exact ze_non | apply zes_cons | apply ze_tup | apply ze_lst | apply ze_cat | exact di_c | exact di_v rfl | apply di_opC | apply di_op | apply di_neg | apply ze_i | (refine (⟨?_, ?_, ?_⟩ : CPow _ _) <;> decide) | exact Nat.le_of_ble_eq_true rfl | exact ze_varD rfl (by assumption))
local macro_rules | `(tactic| walk_at "rdz") => `(tactic| repeat (fail_if_success (first | show tLst _ _ _ _ | show tAsg (tLst _) _ _ _ _ | show tSeq (tAsg (tLst _) _) _ _ _ _)); first | walk_at "rd" | walk_at "cal" | walk_at "sq")
def top (i : Nat) : Stmt := PySem.Challenge.pw_mustercall_k50_net_of_packets.main.body.getD i (.Pass ⟨0, 0, 0, 0⟩)
structure Tx (K : PySem.W.Frag) (mg : Str → Option Value) (CN CB : Addr) : Prop where
  b_len : mg "len" = none
  b_isinstance : mg "isinstance" = none
  b_int : mg "int" = none
  b_bool : mg "bool" = none
  b_tuple : mg "tuple" = none
  b_list : mg "list" = none
  b_range : mg "range" = none
  b_sorted : mg "sorted" = none
  c_MOST_PROCESSES : ∃ t, mg "MOST_PROCESSES" = some (.int 12 t)
  g_Net : mg "Net" = some (.ref CN)
  cl_Net : L2.Cls K CN
  n_Net__count : NoAttr K CN "_count"
  n_Net__packets : NoAttr K CN "_packets"
  n_Net__groups : NoAttr K CN "_groups"
  g_BadSchedule : mg "BadSchedule" = some (.ref CB)
  o_BadSchedule : OexC K CB
  f_BadSchedule : XfC K CB
  n_line : PySem.W.findIn K (.ref CB) "line" = some none
  n_reason : PySem.W.findIn K (.ref CB) "reason" = some none
  m_BB : PySem.W.exmOne K (.ref CB) (.ref CB) = some true
section
variable {P : Program} {w : World} {K : PySem.W.Frag} {mg : Str → Option Value} {base : Heap} {CN CB : Addr}
abbrev s_BadSchedule___init__ : Stmt := inClass (top 3) 0
abbrev N_BadSchedule___init__ : List Str := ["self", "line", "reason"]
abbrev P_BadSchedule___init__ : List Str := ["self", "line", "reason"]
theorem sc_BadSchedule___init__ : FnScope N_BadSchedule___init__ P_BadSchedule___init__ (defScope s_BadSchedule___init__) := ⟨rfl, rfl, rfl, by decide +kernel, rfl, by decide +kernel, by decide +kernel⟩
theorem ok_bs {f : Addr} {fd : FuncData} (T : Tx K mg CN CB) (F : Fun K "__init__" "BadSchedule.__init__" s_BadSchedule___init__ f fd) : FnOk P w K mg base CX0 1 f fd P_BadSchedule___init__ (sp_bs CB) := by
  have nd := sc_BadSchedule___init__.nd
  refine F.ok sc_BadSchedule___init__ (fun vs H Q E h => ?_) (fun cdv A outer s H vs Q E hr h => ?_)
  · obtain ⟨_, _, _, rfl, _⟩ := h
    rfl
  · obtain ⟨a, u, v, rfl, ha, q⟩ := h
    refine ⟨_, (pss_cons (ps_ost (pv 0) (pv 1))
      (pss_one (ps_ost (pv 0) (pv 2)))), ?_⟩
    refine ⟨_, rfl, _, rfl, a, CB, rfl, T.o_BadSchedule, T.n_line, .inl ⟨ha, fun d nd hne => ?_⟩⟩
    refine ⟨_, rfl, _, rfl, a, CB, rfl, T.o_BadSchedule, T.n_reason, .inr ⟨d, [("line", u)], upd_same, by rw [upd_ne hne, upd_same], by show 1 ≤ 900; decide, ?_⟩⟩
    refine q d _ nd (fun b o h hb => ?_) ?_ upd_same
    · have hbd : b ≠ d := ne_of_none h nd
      rw [upd_ne hbd, upd_ne hb, upd_ne hbd]; exact h
    · rw [upd_ne hne.symm, upd_same]
abbrev s_is_integer : Stmt := top 6
abbrev N_is_integer : List Str := ["value", "least", "greatest"]
abbrev P_is_integer : List Str := ["value", "least", "greatest"]
theorem sc_is_integer : FnScope N_is_integer P_is_integer (defScope s_is_integer) := ⟨rfl, rfl, rfl, by decide +kernel, rfl, by decide +kernel, by decide +kernel⟩
theorem ok_is_integer {f : Addr} {fd : FuncData} (T : Tx K mg CN CB) (F : Fun K "is_integer" "is_integer" s_is_integer f fd) : FnOk P w K mg base CX0 (1) f fd P_is_integer (spI) := by
  have nd := sc_is_integer.nd
  refine F.ok sc_is_integer (fun vs H Q E h => ?_) (fun cdv A outer s H vs Q E hr h => ?_)
  · obtain ⟨_, _, _, _, _, rfl, _⟩ := h
    rfl
  · obtain ⟨p, v, d, a, b, rfl, hd, q⟩ := h
    refine ⟨_, (pss_cons (ps_if (PW.pt (pw_or (pt_not (pt_val (pe_callB call_isi (by rfl) T.b_isinstance (by decide +kernel) (pa_cons (pv 0) (pa_cons (pe_ty "int" T.b_int) pa_nil))))) (pw_or1 (pt_val (pe_callB call_isi (by rfl) T.b_isinstance (by decide +kernel) (pa_cons (pv 0) (pa_cons (pe_ty "bool" T.b_bool) pa_nil)))))))
        (pss_one (ps_ret pe_bl))
        pss_nil)
      (pss_one (ps_ret (pe_chain op_le op_le (pv 1) (pv 0) (pv 2))))), ?_⟩
    have hd' := hd
    cases hd <;> walk_at "rds"
    case int =>
      refine iB (fun h => ?_) (fun h => ?_)
      · walk_at "rds"
        exact ansB q (by simp [isInt, h])
      · exact ansB q (by simp [isInt, h])
    all_goals exact q
abbrev s_is_process : Stmt := top 8
abbrev N_is_process : List Str := ["count", "value"]
abbrev P_is_process : List Str := ["count", "value"]
theorem sc_is_process : FnScope N_is_process P_is_process (defScope s_is_process) := ⟨rfl, rfl, rfl, by decide +kernel, rfl, by decide +kernel, by decide +kernel⟩
theorem ok_is_process {f : Addr} {fd : FuncData} (T : Tx K mg CN CB) (c_is_integer : DefOk P w K mg base CX0 "is_integer" P_is_integer 1 (spI))(F : Fun K "is_process" "is_process" s_is_process f fd) : FnOk P w K mg base CX0 (2) f fd P_is_process (spB2 isProc) := by
  have nd := sc_is_process.nd
  refine F.ok sc_is_process (fun vs H Q E h => ?_) (fun cdv A outer s H vs Q E hr h => ?_)
  · obtain ⟨_, _, _, _, _, rfl, _⟩ := h
    rfl
  · obtain ⟨p, u, v, c, d, rfl, hc, hd, q⟩ := h
    refine ⟨_, (pss_one (ps_ret (pe_and (pcall c_is_integer hr (pa_cons (pv 0) (pa_cons pe_int (pa_cons (pe_const T.c_MOST_PROCESSES) pa_nil)))) (pe_one (pcall c_is_integer hr (pa_cons (pv 1) (pa_cons pe_int (pa_cons (pe_op op_sub (pv 0) pe_int) pa_nil)))))))), ?_⟩
    walk_at "rds"
    refine iB (fun h => ?_) (fun h => ?_)
    · obtain ⟨n, rfl, h1, h2⟩ := isInt_int h
      cases hc
      walk_at "rds"
      exact ansB q (by simp [isProc, h1, h2])
    · refine ansB q ?_
      cases c <;> first | rfl | (rename_i n; have h0 : (decide (1 ≤ n) && decide (n ≤ 12)) = false := h; simp only [isProc, h0, Bool.false_and])
/-! ### groups -/
/-- no group, or one of one process -/
def GAt (H : Hp) (n : Int) (xs : List V) : Prop := xs = [] ∨ ∃ (g : Addr) (x : Int), xs = [.ref g] ∧ H g = some (.tup [.int x]) ∧ 0 ≤ x ∧ x < n
theorem GAt.same {H H' : Hp} {n : Int} {xs : List V} (g : GAt H n xs) (s : Same H H') : GAt H' n xs := by
  rcases g with g | ⟨a, x, h1, h2, h3⟩
  · exact .inl g
  · exact .inr ⟨a, x, h1, s _ _ h2, h3⟩
def sp_groups : Sp := fun vs H Q _ => ∃ (a : Addr) (n : Int) (xs : List V), vs = [.int n, .ref a] ∧ H a = some (.tup xs) ∧ GAt H n xs ∧ 1 ≤ n ∧ n ≤ 12 ∧ ∀ H', Same H H' → Q (.bl true) H'
abbrev s_is_groups : Stmt := top 10
abbrev N_is_groups : List Str := ["count", "value", "found", "group", "process"]
abbrev P_is_groups : List Str := ["count", "value"]
theorem sc_is_groups : FnScope N_is_groups P_is_groups (defScope s_is_groups) := ⟨rfl, rfl, rfl, by decide +kernel, rfl, by decide +kernel, by decide +kernel⟩
theorem ok_is_groups {f : Addr} {fd : FuncData} (T : Tx K mg CN CB) (c_is_process : DefOk P w K mg base CX0 "is_process" P_is_process 2 (spB2 isProc))(F : Fun K "is_groups" "is_groups" s_is_groups f fd) : FnOk P w K mg base CX0 (3) f fd P_is_groups (sp_groups) := by
  have nd := sc_is_groups.nd
  refine F.ok sc_is_groups (fun vs H Q E h => ?_) (fun cdv A outer s H vs Q E hr h => ?_)
  · obtain ⟨_, _, _, rfl, _⟩ := h
    rfl
  · obtain ⟨a, n, xs, rfl, ha, hg, n1, n2, q⟩ := h
    have hu := hu_of hr
    have hs := sl
    refine ⟨_, (pss_cons (ps_if (pt_not (pt_val (pe_callB call_isi (by rfl) T.b_isinstance (by decide +kernel) (pa_cons (pv 1) (pa_cons (pe_ty "tuple" T.b_tuple) pa_nil)))))
        (pss_one (ps_ret pe_bl))
        pss_nil)
      (pss_cons (ps_set (i := 2) nd rfl (Or.inl rfl) pe_dnewK)
      (pss_cons (ps_for PassesOwn.never rfl (pi_tup (pv 1)) (pg_name (i := 3) nd rfl (Or.inl rfl))
        (pss_cons (ps_if (PW.pt (pw_or (pt_not (pt_val (pe_callB call_isi (by rfl) T.b_isinstance (by decide +kernel) (pa_cons (pv 3) (pa_cons (pe_ty "tuple" T.b_tuple) pa_nil))))) (pw_or1 (pt_cmpR op_eq (pe_callB call_len_seq (by rfl) T.b_len (by decide +kernel) (pa_cons (pv 3) pa_nil)) pe_int (nomark _)))))
          (pss_one (ps_ret pe_bl))
          pss_nil)
        (pss_one (ps_for PassesOwn.never rfl (pi_tup (pv 3)) (pg_name (i := 4) nd rfl (Or.inl rfl))
          (pss_cons (ps_if (PW.pt (pw_or (pt_not (pt_val (pcall c_is_process hr (pa_cons (pv 0) (pa_cons (pv 4) pa_nil))))) (pw_or1 (pt_cmp (pc_din hu (pv 4) (pv 2))))))
            (pss_one (ps_ret pe_bl))
            pss_nil)
          (pss_one (ps_dput hu (pv 2) (pv 4) pe_bl rfl)))))))
      (pss_one (ps_ret pe_bl))))), ?_⟩
    have dt : ∀ (H' : Hp) (b : Addr) (ys : List V) (R : Prop), H' b = some (.tup ys) → True := fun _ _ _ _ _ => trivial
    walk_at "rds"
    refine ⟨_, _, _, _, true, rfl, .ty _, .base (.tup ha), kit_ty (by decide +kernel), ?_⟩
    walk_at "rds"
    intro d nd
    have sd := same_new nd (.dK [])
    refine ⟨_, rfl, a, rfl, ⟨_, SqT.of (sd _ _ ha)⟩, for_tup (K := K) (a := a) (xs := xs) (fun i σ H' => ∃ (kvs : List (Key × V)) (x3 x4 : Option V), σ = [some (.int n), some (.ref a), some (.ref d), x3, x4] ∧ Same H H' ∧ H' d = some (.dK kvs) ∧ (i = 0 → kvs = [])) ?_ ?_ ?_ ?_⟩
    · exact ⟨[], _, _, rfl, sd, upd_same, fun _ => rfl⟩
    · rintro i σ H' _ ⟨_, _, _, rfl, s1, _⟩
      exact SqT.of (s1 _ _ ha)
    · rintro i v σ H1 hx ⟨kvs, x3, x4, rfl, s1, hd, hk⟩
      rcases hg with rfl | ⟨g, x, rfl, hg1, x0, x1⟩
      · cases hx
      have i0 : i = 0 := by have := (List.getElem?_eq_some_iff.mp hx).1; simp at this; exact this
      subst i0
      cases hx
      rw [hk rfl] at hd
      have hg2 := s1 _ _ hg1
      walk_at "rds"
      refine ⟨_, _, _, _, true, rfl, .ty _, .base (.tup hg2), kit_ty (by decide +kernel), ?_⟩
      walk_at "rds"
      refine ⟨⟨_, SqT.of hg2⟩, for_tup (K := K) (a := g) (xs := [.int x]) (fun j σ H' => ∃ (kvs : List (Key × V)) (x4 : Option V), σ = [some (.int n), some (.ref a), some (.ref d), some (.ref g), x4] ∧ Same H H' ∧ H' d = some (.dK kvs) ∧ (j = 0 → kvs = [])) ?_ ?_ ?_ ?_⟩
      · exact ⟨[], _, rfl, s1, hd, fun _ => rfl⟩
      · rintro j σ H' _ ⟨_, _, rfl, s2, _⟩
        exact SqT.of (s2 _ _ hg1)
      · rintro j v σ H2 hy ⟨kvs2, x5, rfl, s2, hd2, hk2⟩
        have j0 : j = 0 := by have := (List.getElem?_eq_some_iff.mp hy).1; simp at this; exact this
        subst j0
        cases hy
        rw [hk2 rfl] at hd2
        refine ⟨_, rfl, _, rfl, ?_⟩
        refine ⟨a, .int n, .int x, .int n, .int x, rfl, .int n, .int x, ?_⟩
        rw [show isProc (.int n) (.int x) = true by simp [isProc, isInt, n1, n2, x0, show x ≤ n - 1 by omega]]
        walk_at "rds"
        refine ⟨d, none, rfl, DGet.k (k := Sum.inl x) hd2, ?_⟩
        walk_at "rds"
        refine ⟨d, _, rfl, DPut.k (k := Sum.inl x) hd2 (by show 0 < _; omega), ?_⟩
        refine ⟨_, _, rfl, fun b o hb => ?_, upd_same, fun z => by cases z⟩
        rw [upd_ne (ne_of_none hb nd)]; exact s2 b o hb
      · rintro σ H2 ⟨kvs2, x5, rfl, s2, hd2, _⟩
        exact ⟨_, _, _, rfl, s2, hd2, fun z => by cases z⟩
    · rintro σ H1 ⟨kvs, x3, x4, rfl, s1, hd, _⟩
      exact q _ s1
/-! ### the net -/
def nf (n : Int) (lp : Addr) (g : V) : List (Str × V) := [("_count", .int n), ("_packets", .ref lp), ("_groups", g)]
structure NAt (CN : Addr) (H : Hp) (p lp : Addr) (n : Int) (vs : List V) : Prop where
  ob : ∃ dx g, H p = some (.ins CN dx (nf n lp g))
  hl : H lp = some (.lst vs)
theorem NAt.same {CN : Addr} {H H' : Hp} {p lp : Addr} {n : Int} {vs : List V} (h : NAt CN H p lp n vs) (s : Same H H') : NAt CN H' p lp n vs := by
  obtain ⟨⟨dx, g, h1⟩, h2⟩ := h
  exact ⟨⟨dx, g, s _ _ h1⟩, s _ _ h2⟩
/-- the list at l is xs, all else as it was -/
def Put (l : Addr) (H H' : Hp) (xs : List V) : Prop := H' l = some (.lst xs) ∧ ∀ b, b ≠ l → H' b = H b
theorem put_upd (l : Addr) (H : Hp) (xs : List V) : Put l H (upd H l (.lst xs)) xs := ⟨upd_same, fun b n => upd_ne n⟩
theorem Put.upd {l : Addr} {H H' : Hp} {xs ys : List V} (h : Put l H H' xs) : Put l H (upd H' l (.lst ys)) ys := ⟨upd_same, fun b n => (upd_ne n).trans (h.2 b n)⟩
def sp_ninit (CN : Addr) : Sp := fun vs H Q _ => ∃ (p dx : Addr) (n : Int), vs = [.ref p, .int n] ∧ H p = some (.ins CN dx []) ∧ 1 ≤ n ∧ n ≤ 12 ∧ ∀ lp H', H lp = none → NAt CN H' p lp n [] → (∀ b o, H b = some o → b ≠ p → H' b = some o) → Q .non H'
abbrev s_Net___init__ : Stmt := inClass (top 11) 0
abbrev N_Net___init__ : List Str := ["self", "count"]
abbrev P_Net___init__ : List Str := ["self", "count"]
theorem sc_Net___init__ : FnScope N_Net___init__ P_Net___init__ (defScope s_Net___init__) := ⟨rfl, rfl, rfl, by decide +kernel, rfl, by decide +kernel, by decide +kernel⟩
theorem ok_ninit {f : Addr} {fd : FuncData} (T : Tx K mg CN CB) (F : Fun K "__init__" "Net.__init__" s_Net___init__ f fd) : FnOk P w K mg base CX0 1 f fd P_Net___init__ (sp_ninit CN) := by
  have nd := sc_Net___init__.nd
  refine F.ok sc_Net___init__ (fun vs H Q E h => ?_) (fun cdv A outer s H vs Q E hr h => ?_)
  · obtain ⟨_, _, _, rfl, _⟩ := h
    rfl
  · obtain ⟨p, dx, n, rfl, hp, n1, n2, q⟩ := h
    have hs := sl
    refine ⟨_, (pss_cons (ps_fld (pv 0) (pv 1) rfl)
      (pss_cons (ps_fld (pv 0) (pe_lst pa_nil) rfl)
      (pss_one (ps_fld (pv 0) (pe_tup (pa_cons (pe_tupRg rfl (by rfl) T.b_tuple (prg_1 (by rfl) T.b_range (pv 1))) pa_nil)) rfl)))), ?_⟩
    refine ⟨_, rfl, _, rfl, p, CN, dx, [], rfl, hp, T.cl_Net, T.n_Net__count, (by decide), ?_⟩
    refine ⟨by show 0 ≤ sizeLine; omega, fun l nl => ?_⟩
    have pl : p ≠ l := ne_of_none upd_same nl
    have nl0 : H l = none := by rwa [upd_ne pl.symm] at nl
    refine ⟨_, rfl, p, CN, dx, _, rfl, (by rw [upd_ne pl]; exact upd_same), T.cl_Net, T.n_Net__packets, (by show 1 < 1000; decide), ?_⟩
    refine ⟨_, rfl, n, rfl, by unfold RgOk; omega, fun t nt => ?_⟩
    have tp : p ≠ t := ne_of_none upd_same nt
    have tl' : l ≠ t := ne_of_none (by rw [upd_ne pl.symm]; exact upd_same) nt
    refine ⟨by show 1 ≤ sizeLine; omega, fun t2 nt2 => ?_⟩
    have tp2 : p ≠ t2 := ne_of_none (by rw [upd_ne tp]; exact upd_same) nt2
    have tl2 : l ≠ t2 := ne_of_none (by rw [upd_ne tl', upd_ne pl.symm]; exact upd_same) nt2
    refine ⟨_, rfl, p, CN, dx, _, rfl, (by rw [upd_ne tp2, upd_ne tp]; exact upd_same), T.cl_Net, T.n_Net__groups, (by show 2 < 1000; decide), ?_⟩
    refine q l _ nl0 ⟨⟨dx, _, upd_same⟩, by rw [upd_ne pl.symm, upd_ne tl2, upd_ne tl', upd_ne pl.symm, upd_same]⟩ fun b o hb nb => ?_
    have bl : b ≠ l := ne_of_none hb nl0
    have e1 : (upd (upd H p (HO.ins CN dx (putF "_count" (V.int n) []))) l (HO.lst [])) b = some o := by rw [upd_ne bl, upd_ne nb]; exact hb
    have bt : b ≠ t := ne_of_none (by rw [upd_ne nb]; exact e1) nt
    have bt2 : b ≠ t2 := ne_of_none (by rw [upd_ne bt, upd_ne nb]; exact e1) nt2
    rw [upd_ne nb, upd_ne bt2, upd_ne bt, upd_ne nb]; exact e1
abbrev s_Net_send : Stmt := inClass (top 11) 1
abbrev N_Net_send : List Str := ["self", "sender", "receiver", "letter"]
abbrev P_Net_send : List Str := ["self", "sender", "receiver", "letter"]
theorem sc_Net_send : FnScope N_Net_send P_Net_send (defScope s_Net_send) := ⟨rfl, rfl, rfl, by decide +kernel, rfl, by decide +kernel, by decide +kernel⟩
def sp_send (CN : Addr) : Sp := fun vs H Q _ => ∃ (p lp : Addr) (n : Int) (ws : List V) (x y z : V), vs = [.ref p, x, y, z] ∧ NAt CN H p lp n ws ∧ ws.length ≤ 1000 ∧ ∀ t, H t = none → Q .non (upd (upd H t (.tup [x, y, z])) lp (.lst (ws ++ [.ref t])))
theorem ok_send {f : Addr} {fd : FuncData} (T : Tx K mg CN CB) (F : Fun K "send" "Net.send" s_Net_send f fd) : FnOk P w K mg base CX0 1 f fd P_Net_send (sp_send CN) := by
  have nd := sc_Net_send.nd
  refine F.ok sc_Net_send (fun vs H Q E h => ?_) (fun cdv A outer s H vs Q E hr h => ?_)
  · obtain ⟨_, _, _, _, _, _, _, rfl, _⟩ := h
    rfl
  · obtain ⟨p, lp, n, ws, x, y, z, rfl, hn, hl, q⟩ := h
    have hs := sl
    obtain ⟨⟨dx, g, h1⟩, h2⟩ := id hn
    refine ⟨_, (pss_one (ps_expr (pe_bm PySem.F.plainAttrs_list PySem.F.slot_list_append PySem.F.type_list_append mt_append (pe_fld (pv 0) (by rfl)) (pa_cons (pe_tup (pa_cons (pv 1) (pa_cons (pv 2) (pa_cons (pv 3) pa_nil)))) pa_nil)))), ?_⟩
    have c1 := T.cl_Net
    have n1 := T.n_Net__packets
    walk_at "rds"
    refine ⟨.inl ⟨rfl, _, SqL.of h2⟩, ?_⟩
    refine ⟨_, rfl, _, rfl, _, rfl, by show 3 ≤ sizeLine; omega, fun t nt => ?_⟩
    have st := same_new nt (.tup [x, y, z])
    walk_at "rds"
    refine ⟨lp, _, _, rfl, rfl, st _ _ h2, by omega, q t nt⟩
abbrev s_Net_packets : Stmt := inClass (top 11) 5
abbrev N_Net_packets : List Str := ["self"]
abbrev P_Net_packets : List Str := ["self"]
theorem sc_Net_packets : FnScope N_Net_packets P_Net_packets (defScope s_Net_packets) := ⟨rfl, rfl, rfl, by decide +kernel, rfl, by decide +kernel, by decide +kernel⟩
def sp_packs (CN : Addr) : Sp := fun vs H Q _ => ∃ (p lp : Addr) (n : Int) (ws : List V), vs = [.ref p] ∧ NAt CN H p lp n ws ∧ ∀ a, H a = none → Q (.ref a) (upd H a (.lst ws))
theorem ok_packs {f : Addr} {fd : FuncData} (T : Tx K mg CN CB) (F : Fun K "packets" "Net.packets" s_Net_packets f fd) : FnOk P w K mg base CX0 1 f fd P_Net_packets (sp_packs CN) := by
  have nd := sc_Net_packets.nd
  refine F.ok sc_Net_packets (fun vs H Q E h => ?_) (fun cdv A outer s H vs Q E hr h => ?_)
  · obtain ⟨_, _, _, _, rfl, _⟩ := h
    rfl
  · obtain ⟨p, lp, n, ws, rfl, hn, q⟩ := h
    obtain ⟨⟨dx, g, h1⟩, h2⟩ := id hn
    refine ⟨_, (pss_one (ps_ret (pe_callTy call_list_of (by rfl) T.b_list (by decide +kernel) (pa_cons (pe_fld (pv 0) (by rfl)) pa_nil)))), ?_⟩
    have c1 := T.cl_Net
    have n1 := T.n_Net__packets
    walk_at "rds"
    refine ⟨lp, _, rfl, .inl (SqL.of h2), fun a na => q a na⟩
/-! ### by position -/
def okPos (i : Int) (ws : List V) : Bool := decide (0 ≤ i) && decide (i < ws.length)
def sp_check (CN CB : Addr) : Sp := fun vs H Q E => ∃ (p lp : Addr) (n : Int) (ws : List V) (i : Int), vs = [.ref p, .int i] ∧ NAt CN H p lp n ws ∧ ws.length ≤ 1000 ∧ (okPos i ws = false → ∀ e H', Same H H' → H' e = some (.xd (bsF (.int 0) (.str "position"))) → E (.ref CB) (some e) H') ∧ (okPos i ws = true → Q .non H)
abbrev s_Net__check_position : Stmt := inClass (top 11) 10
abbrev N_Net__check_position : List Str := ["self", "position"]
abbrev P_Net__check_position : List Str := ["self", "position"]
theorem sc_Net__check_position : FnScope N_Net__check_position P_Net__check_position (defScope s_Net__check_position) := ⟨rfl, rfl, rfl, by decide +kernel, rfl, by decide +kernel, by decide +kernel⟩
theorem ok_check {f : Addr} {fd : FuncData} (T : Tx K mg CN CB) (x_BadSchedule : ExOk P w K mg base CB "BadSchedule" P_BadSchedule___init__ 1 (sp_bs CB)) (c_is_integer : DefOk P w K mg base CX0 "is_integer" P_is_integer 1 (spI)) (F : Fun K "_check_position" "Net._check_position" s_Net__check_position f fd) : FnOk P w K mg base (L2.CX P w) 3 f fd P_Net__check_position (sp_check CN CB) := by
  have nd := sc_Net__check_position.nd
  refine F.okX sc_Net__check_position (fun vs H Q E h => ?_) (fun cdv A outer s H vs Q E hr h => ?_)
  · obtain ⟨_, _, _, _, _, rfl, _⟩ := h
    rfl
  · obtain ⟨p, lp, n, ws, i, rfl, hn, hl, q1, q2⟩ := h
    have hs := sl
    obtain ⟨⟨dx, g, h1⟩, h2⟩ := id hn
    refine ⟨_, (pss_one (ps_if (pt_not (pt_val (pcall c_is_integer hr (pa_cons (pv 1) (pa_cons pe_int (pa_cons (pe_op op_sub (pe_callB call_len_seq (by rfl) T.b_len (by decide +kernel) (pa_cons (pe_fld (pv 0) (by rfl)) pa_nil)) pe_int) pa_nil))))))
        (pss_one (praise x_BadSchedule (takes_of rfl rfl rfl rfl) hr (pa_cons pe_int (pa_cons pe_str pa_nil))))
        pss_nil)), ?_⟩
    have c1 := T.cl_Net
    have n1 := T.n_Net__packets
    walk_at "rds"
    refine ⟨lp, _, rfl, .inl (SqL.of h2), ?_⟩
    refine ⟨_, _, rfl, rfl, lp, .int i, .int i, _, _, rfl, .int i, ?_⟩
    have e : isInt (.int i) 0 ((ws.length : Nat) - 1) = okPos i ws := by
      show (decide (0 ≤ i) && decide (i ≤ (ws.length : Int) - 1)) = _
      unfold okPos
      congr 1
      exact decide_eq_decide.mpr ⟨fun h => by omega, fun h => by omega⟩
    rw [e]
    walk_at "rds"
    refine iB (fun h => ?_) (fun h => ?_)
    · refine rd_bs (fun R r => r) (fun R r => r) fun e H' _ s1 he => q1 (by simpa using h) e H' s1 he
    · exact q2 (by simpa using h)
/-! taking, doubling, moving -/
theorem okPos_at {i : Int} {ws : List V} (h : okPos i ws = true) : ∃ y, ws[i.toNat]? = some y ∧ atI ws i = some y ∧ 0 ≤ i ∧ i < ws.length := by
  unfold okPos at h
  rw [Bool.and_eq_true, decide_eq_true_eq, decide_eq_true_eq] at h
  have hi : i.toNat < ws.length := by omega
  exact ⟨_, List.getElem?_eq_getElem hi, at_int h.1 (List.getElem?_eq_getElem hi), h.1, h.2⟩
theorem seq_at {i : Int} {n : Nat} (h0 : 0 ≤ i) (h1 : i < n) : seqIndex? i n = some i.toNat := by
  unfold seqIndex?
  simp only [show ¬ i < 0 by omega, if_false]
  rw [if_pos (by simp; omega)]
def sp_byp (CN CB : Addr) (after : List V → Nat → V → List V) (ans : V → V) : Sp := fun vs H Q E => ∃ (p lp : Addr) (n : Int) (ws : List V) (i : Int), vs = [.ref p, .int i] ∧ NAt CN H p lp n ws ∧ ws.length ≤ 1000 ∧ (okPos i ws = false → ∀ e H', Same H H' → H' e = some (.xd (bsF (.int 0) (.str "position"))) → E (.ref CB) (some e) H') ∧
  (∀ y, okPos i ws = true → ws[i.toNat]? = some y → ∀ H', Put lp H H' (after ws i.toNat y) → Q (ans y) H')
abbrev aTake : List V → Nat → V → List V := fun ws i _ => ws.eraseIdx i
abbrev aDouble : List V → Nat → V → List V := fun ws _ y => ws ++ [y]
abbrev aMove : List V → Nat → V → List V := fun ws i y => ws.eraseIdx i ++ [y]
abbrev s_Net_take : Stmt := inClass (top 11) 2
abbrev N_Net_take : List Str := ["self", "position"]
abbrev P_Net_take : List Str := ["self", "position"]
theorem sc_Net_take : FnScope N_Net_take P_Net_take (defScope s_Net_take) := ⟨rfl, rfl, rfl, by decide +kernel, rfl, by decide +kernel, by decide +kernel⟩
theorem ok_take {f : Addr} {fd : FuncData} (T : Tx K mg CN CB) (m_Net__check_position : MethOk P w K mg base (L2.CX P w) CN "_check_position" P_Net__check_position 3 (sp_check CN CB)) (F : Fun K "take" "Net.take" s_Net_take f fd) : FnOk P w K mg base (L2.CX P w) 4 f fd P_Net_take (sp_byp CN CB aTake id) := by
  have nd := sc_Net_take.nd
  refine F.okX sc_Net_take (fun vs H Q E h => ?_) (fun cdv A outer s H vs Q E hr h => ?_)
  · obtain ⟨_, _, _, _, _, rfl, _⟩ := h
    rfl
  · obtain ⟨p, lp, n, ws, i, rfl, hn, hl, q1, q2⟩ := h
    have hs := sl
    obtain ⟨⟨dx, g, h1⟩, h2⟩ := id hn
    refine ⟨_, (pss_cons (ps_expr (pmethE m_Net__check_position T.cl_Net (takes_of rfl rfl rfl rfl) (fun _ _ _ _ h => h) (pv 0) hr (pa_cons (pv 1) pa_nil)))
      (pss_one (ps_ret (pe_bm PySem.F.plainAttrs_list PySem.F.slot_list_pop PySem.F.type_list_pop mt_popAt (pe_fld (pv 0) (by rfl)) (pa_cons (pv 1) pa_nil))))), ?_⟩
    have c1 := T.cl_Net
    have n1 := T.n_Net__packets
    walk_at "rds"
    refine ⟨p, dx, _, rfl, h1, rfl, ?_⟩
    refine ⟨_, rfl, p, lp, n, ws, i, rfl, hn, hl, q1, fun ho => ?_⟩
    obtain ⟨y, hy, _, i0, i1⟩ := okPos_at ho
    walk_at "rds"
    refine ⟨.inl ⟨rfl, _, SqL.of h2⟩, ?_⟩
    walk_at "rds"
    refine ⟨lp, ws, i, i.toNat, y, rfl, rfl, h2, by omega, by omega, seq_at i0 i1, hy, ?_⟩
    exact q2 y ho hy _ (put_upd _ _ _)
abbrev s_Net_double : Stmt := inClass (top 11) 3
abbrev N_Net_double : List Str := ["self", "position"]
abbrev P_Net_double : List Str := ["self", "position"]
theorem sc_Net_double : FnScope N_Net_double P_Net_double (defScope s_Net_double) := ⟨rfl, rfl, rfl, by decide +kernel, rfl, by decide +kernel, by decide +kernel⟩
theorem ok_double {f : Addr} {fd : FuncData} (T : Tx K mg CN CB) (m_Net__check_position : MethOk P w K mg base (L2.CX P w) CN "_check_position" P_Net__check_position 3 (sp_check CN CB)) (F : Fun K "double" "Net.double" s_Net_double f fd) : FnOk P w K mg base (L2.CX P w) 4 f fd P_Net_double (sp_byp CN CB aDouble fun _ => .non) := by
  have nd := sc_Net_double.nd
  refine F.okX sc_Net_double (fun vs H Q E h => ?_) (fun cdv A outer s H vs Q E hr h => ?_)
  · obtain ⟨_, _, _, _, _, rfl, _⟩ := h
    rfl
  · obtain ⟨p, lp, n, ws, i, rfl, hn, hl, q1, q2⟩ := h
    have hs := sl
    obtain ⟨⟨dx, g, h1⟩, h2⟩ := id hn
    refine ⟨_, (pss_cons (ps_expr (pmethE m_Net__check_position T.cl_Net (takes_of rfl rfl rfl rfl) (fun _ _ _ _ h => h) (pv 0) hr (pa_cons (pv 1) pa_nil)))
      (pss_one (ps_expr (pe_bm PySem.F.plainAttrs_list PySem.F.slot_list_append PySem.F.type_list_append mt_append (pe_fld (pv 0) (by rfl)) (pa_cons (pe_ix ix_list (pe_fld (pv 0) (by rfl)) (pv 1) (fun _ _ => rfl)) pa_nil))))), ?_⟩
    have c1 := T.cl_Net
    have n1 := T.n_Net__packets
    walk_at "rds"
    refine ⟨p, dx, _, rfl, h1, rfl, ?_⟩
    refine ⟨_, rfl, p, lp, n, ws, i, rfl, hn, hl, q1, fun ho => ?_⟩
    obtain ⟨y, hy, ha, i0, i1⟩ := okPos_at ho
    walk_at "rds"
    refine ⟨.inl ⟨rfl, _, SqL.of h2⟩, ?_⟩
    walk_at "rds"
    refine ⟨lp, _, _, y, rfl, rfl, SqL.of h2, ha, ?_⟩
    refine ⟨lp, _, _, rfl, rfl, h2, by omega, q2 y ho hy _ (put_upd _ _ _)⟩
abbrev s_Net_move : Stmt := inClass (top 11) 4
abbrev N_Net_move : List Str := ["self", "position"]
abbrev P_Net_move : List Str := ["self", "position"]
theorem sc_Net_move : FnScope N_Net_move P_Net_move (defScope s_Net_move) := ⟨rfl, rfl, rfl, by decide +kernel, rfl, by decide +kernel, by decide +kernel⟩
theorem ok_move {f : Addr} {fd : FuncData} (T : Tx K mg CN CB) (m_Net_take : MethOk P w K mg base (L2.CX P w) CN "take" P_Net_take 4 (sp_byp CN CB aTake id)) (F : Fun K "move" "Net.move" s_Net_move f fd) : FnOk P w K mg base (L2.CX P w) 5 f fd P_Net_move (sp_byp CN CB aMove fun _ => .non) := by
  have nd := sc_Net_move.nd
  refine F.okX sc_Net_move (fun vs H Q E h => ?_) (fun cdv A outer s H vs Q E hr h => ?_)
  · obtain ⟨_, _, _, _, _, rfl, _⟩ := h
    rfl
  · obtain ⟨p, lp, n, ws, i, rfl, hn, hl, q1, q2⟩ := h
    have hs := sl
    obtain ⟨⟨dx, g, h1⟩, h2⟩ := id hn
    refine ⟨_, (pss_one (ps_expr (pe_bm PySem.F.plainAttrs_list PySem.F.slot_list_append PySem.F.type_list_append mt_append (pe_fld (pv 0) (by rfl)) (pa_cons (pmethE m_Net_take T.cl_Net (takes_of rfl rfl rfl rfl) (fun _ _ _ _ h => h) (pv 0) hr (pa_cons (pv 1) pa_nil)) pa_nil)))), ?_⟩
    have c1 := T.cl_Net
    have n1 := T.n_Net__packets
    walk_at "rds"
    refine ⟨.inl ⟨rfl, _, SqL.of h2⟩, ?_⟩
    walk_at "rds"
    refine ⟨p, dx, _, rfl, h1, rfl, ?_⟩
    refine ⟨_, rfl, p, lp, n, ws, i, rfl, hn, hl, q1, fun y ho hy H' hp => ?_⟩
    walk_at "rds"
    refine ⟨lp, _, _, rfl, rfl, hp.1, ?_, q2 y ho hy _ hp.upd⟩
    have := List.length_eraseIdx_le ws i.toNat
    show (ws.eraseIdx i.toNat).length < sizeLine
    omega
end
end Mus

set_option maxRecDepth 100000
set_option maxHeartbeats 4000000
namespace Mus
open PySem L2
local macro_rules | `(tactic| walk_at "rd") => `(tactic| first
  | refine ⟨_, rfl, ?_⟩ | refine ⟨(True.intro : True), ?_⟩
  | refine ⟨_, _, rfl, rfl, (⟨by decide, by decide, by decide⟩ : CPow _ _), ?_⟩
  | refine ⟨_, _, rfl, rfl, (⟨by decide, by decide⟩ : CDiv _ _), ?_⟩
  | refine ⟨_, _, rfl, rfl, (by show (0 : Int) < _; decide), ?_⟩
  | refine ⟨_, _, rfl, rfl, ?_⟩ | refine ⟨rfl, ?_⟩ | refine iteT ?_ | refine iteF ?_ | refine ⟨_, _, rfl, ?_⟩ | refine .inl ⟨_, rfl, ?_⟩
  | refine ⟨_, _, _, _, _, rfl, (by assumption), (by assumption), (by assumption), rfl, ?_⟩ | refine ⟨_, _, _, _, rfl, rfl, SqT.of (by assumption), rfl, ?_⟩ | refine ⟨_, _, rfl, SqT.of (by assumption), rfl, ?_⟩
  | refine ⟨_, _, _, _, _, rfl, .ty _, Rp.ty (by assumption), kit_int _, ?_⟩ | refine ⟨_, _, _, _, _, rfl, .ty _, Rp.ty (by assumption), kit_bool _, ?_⟩
  | refine ⟨_, _, _, _, _, rfl, .ty _, Rp.ty (by assumption), kit_str _, ?_⟩ | refine ⟨_, _, _, _, _, rfl, .ty _, Rp.ty (by assumption), kit_tup _, ?_⟩)
local macro_rules | `(tactic| walk_at "cal") => `(tactic| first
  | refine ⟨_, _, _, _, _, rfl, (by assumption), ?_⟩ | refine ⟨_, _, _, _, _, rfl, (by assumption), (by assumption), ?_⟩)
local macro_rules | `(tactic| walk_at "sq") => `(tactic| first
  | refine ⟨_, _, rfl, Or.inr (SqT.of (by assumption)), ?_⟩ | refine ⟨_, _, _, _, rfl, rfl, SqT.of (by assumption), rfl, ?_⟩)
local macro_rules | `(tactic| walk_at "rds") => `(tactic| repeat first | walk_at "rd" | walk_at "cal" | walk_at "sq")
local macro_rules | `(tactic| walk_at "ze") => `(tactic| repeat first
  | exact zes_nil | exact ze_bl | exact ze_str | exact ze_non | apply zes_cons | apply ze_tup | apply ze_lst | apply ze_cat | exact di_c | exact di_v rfl | apply di_opC | apply di_op | apply di_neg | apply ze_i | (refine (⟨?_, ?_, ?_⟩ : CPow _ _) <;> decide) | exact Nat.le_of_ble_eq_true rfl | exact ze_varD rfl (by assumption))
local macro_rules | `(tactic| walk_at "rdz") => `(tactic| repeat (fail_if_success (first | show tLst _ _ _ _ | show tAsg (tLst _) _ _ _ _ | show tSeq (tAsg (tLst _) _) _ _ _ _)); first | walk_at "rd" | walk_at "cal" | walk_at "sq")
/-- tuples of whole numbers, each of one at least -/
inductive Prt (H : Hp) : List V → List PyData → Prop
  | nil : Prt H [] []
  | cons {b : Addr} {x : Int} {is : List Int} {vs : List V} {ds : List PyData} : H b = some (.tup ((x :: is).map V.int)) → Prt H vs ds → Prt H (.ref b :: vs) (.tuple ((x :: is).map .int) :: ds)
theorem Prt.mono {H H' : Hp} (k : ∀ b xs, H b = some (.tup xs) → H' b = some (.tup xs)) : ∀ {vs : List V} {ds : List PyData}, Prt H vs ds → Prt H' vs ds
  | _, _, .nil => .nil
  | _, _, .cons h r => .cons (k _ _ h) (r.mono k)
theorem Prt.append {H : Hp} {b : Addr} {x : Int} {is : List Int} (h : H b = some (.tup ((x :: is).map V.int))) : ∀ {vs : List V} {ds : List PyData}, Prt H vs ds → Prt H (vs ++ [.ref b]) (ds ++ [.tuple ((x :: is).map .int)])
  | _, _, .nil => .cons h .nil
  | _, _, .cons h' r => .cons h' (Prt.append h r)
theorem dp_ints {K : PySem.W.Frag} {H : Hp} : ∀ is : List Int, DpAll K H (is.map V.int) (is.map PyData.int)
  | [] => .nil
  | i :: is => .cons (.int i) (dp_ints is)
theorem Prt.dp {K : PySem.W.Frag} {H : Hp} : ∀ {vs : List V} {ds : List PyData}, Prt H vs ds → DpAll K H vs ds
  | _, _, .nil => .nil
  | _, _, .cons h r => .cons (.tup (SqT.of h) (dp_ints _)) r.dp
theorem Prt.mem {H : Hp} : ∀ {vs : List V} {ds : List PyData}, Prt H vs ds → ∀ d ∈ ds, ∃ (x : Int) (is : List Int), d = .tuple ((x :: is).map .int)
  | _, _, .nil => fun d h => by cases h
  | _, _, .cons h r => fun d hd => by
    rcases List.mem_cons.mp hd with rfl | hd
    · exact ⟨_, _, rfl⟩
    · exact r.mem d hd
theorem alike_ints : ∀ is js : List Int, PySem.W.alikeAll (is.map PyData.int) (js.map PyData.int) = true
  | [], js => by simp [PySem.W.alikeAll]
  | i :: is, [] => by simp [PySem.W.alikeAll]
  | i :: is, j :: js => by simp [PySem.W.alikeAll, PySem.W.alike, alike_ints is js]
theorem depth_ints : ∀ is : List Int, PyData.depthAll (is.map PyData.int) ≤ 1
  | [] => by simp [PyData.depthAll]
  | i :: is => by have := depth_ints is; simp [PyData.depthAll, PyData.depth] at this ⊢; omega
theorem Prt.sorts {H : Hp} {vs : List V} {ds : List PyData} (r : Prt H vs ds) : PySem.W.AllAlike ds ∧ PySem.W.Sortable ds ∧ ∀ d ∈ ds, d.depth ≤ 20 := by
  refine ⟨fun d hd e he => ?_, .inl fun d hd => ?_, fun d hd => ?_⟩
  · obtain ⟨x, is, rfl⟩ := r.mem d hd
    obtain ⟨y, js, rfl⟩ := r.mem e he
    show PySem.W.alikeAll _ _ = true
    exact alike_ints _ _
  · obtain ⟨x, is, rfl⟩ := r.mem d hd
    exact ⟨_, _, rfl⟩
  · obtain ⟨x, is, rfl⟩ := r.mem d hd
    have := depth_ints (x :: is)
    show PyData.depthAll _ + 1 ≤ 20
    omega
theorem lc2_grp {K : PySem.W.Frag} {a D : Addr} {H1 : Hp} {n : Int} {xs : List V} {s0 s1 s2 s3 s4 : Option V} {Qd : Hp → Prop} (ha : H1 a = some (.tup xs)) (hg : GAt H1 n xs) (nD : H1 D = none) (hd : ∀ js : List Int, Qd (upd H1 D (.lst (js.map V.int)))) :
    ∃ W : Nat → Nat → Hp → Prop, (∃ m, W 0 m (upd H1 D (.lst []))) ∧ ∀ i m H, W i m H →
      ((Itt K a).stop i H ∧ Qd H) ∨ ((Itt K a).go i H ∧ ∃ Nx : Hp → Prop, (∀ H', Nx H' → ∃ m', m' < m ∧ W (i + 1) m' H') ∧ ∀ x H', (Itt K a).yld i H x H' → gName 5 x (wipe [s0, s1, s2, s3, s4, none, none] [5, 6]) H' fun σ2 H2 => wipe σ2 [5, 6] = wipe [s0, s1, s2, s3, s4, none, none] [5, 6] ∧ tYes σ2 H2 fun b H3 =>
        if b = true then iTup K (tVar 5) σ2 H3 fun J1 H4 => ∃ W1 : Nat → Nat → Hp → Prop, (∃ m, W1 0 m H4) ∧ ∀ j k H, W1 j k H →
          (J1.stop j H ∧ Nx H) ∨ (J1.go j H ∧ ∃ Nx1 : Hp → Prop, (∀ H', Nx1 H' → ∃ k', k' < k ∧ W1 (j + 1) k' H') ∧ ∀ x H', J1.yld j H x H' → gName 6 x (wipe σ2 [6]) H' fun σ3 H5 => wipe σ3 [6] = wipe σ2 [6] ∧ tYes σ3 H5 fun b H6 =>
            if b = true then tVar 6 σ3 H6 fun y H7 => ∃ acc, H7 D = some (.lst acc) ∧ acc.length < sizeLine ∧ Nx1 (upd H7 D (.lst (acc ++ [y]))) else Nx1 H6)
        else Nx H3) := by
  have aD : a ≠ D := ne_of_none ha nD
  have hs := sl
  rcases hg with rfl | ⟨g, x, rfl, hg1, x0, x1⟩
  · refine ⟨fun i m H => i = 0 ∧ H = upd H1 D (.lst []), ⟨0, rfl, rfl⟩, ?_⟩
    rintro _ m _ ⟨rfl, rfl⟩
    exact .inl ⟨⟨[], SqT.of (by rw [upd_ne aD]; exact ha), Nat.le_refl _⟩, hd []⟩
  · have gD : g ≠ D := ne_of_none hg1 nD
    have ag : ∀ o, (upd H1 D o) a = some (.tup [.ref g]) := fun o => by rw [upd_ne aD]; exact ha
    have gg : ∀ o, (upd H1 D o) g = some (.tup [.int x]) := fun o => by rw [upd_ne gD]; exact hg1
    refine ⟨fun i m H => (i = 0 ∧ m = 1 ∧ H = upd H1 D (.lst [])) ∨ (i = 1 ∧ m = 0 ∧ H = upd H1 D (.lst [.int x])), ⟨1, .inl ⟨rfl, rfl, rfl⟩⟩, ?_⟩
    rintro i m H (⟨rfl, rfl, rfl⟩ | ⟨rfl, rfl, rfl⟩)
    · refine .inr ⟨⟨_, _, SqT.of (ag _), rfl⟩, fun H' => H' = upd H1 D (.lst [.int x]), fun H' e => ⟨0, by decide, .inr ⟨rfl, rfl, e⟩⟩, fun y H' yl => ?_⟩
      obtain ⟨rfl, yl⟩ := yl
      have yl := yl _ (SqT.of (ag _))
      cases yl
      refine ⟨rfl, ?_⟩
      simp only [tYes, if_true]
      refine ⟨_, rfl, g, rfl, ⟨_, SqT.of (gg _)⟩, ?_⟩
      refine ⟨fun j k H => (j = 0 ∧ k = 1 ∧ H = upd H1 D (.lst [])) ∨ (j = 1 ∧ k = 0 ∧ H = upd H1 D (.lst [.int x])), ⟨1, .inl ⟨rfl, rfl, rfl⟩⟩, ?_⟩
      rintro j k H (⟨rfl, rfl, rfl⟩ | ⟨rfl, rfl, rfl⟩)
      · refine .inr ⟨⟨_, _, SqT.of (gg _), rfl⟩, fun H' => H' = upd H1 D (.lst [.int x]), fun H' e => ⟨0, by decide, .inr ⟨rfl, rfl, e⟩⟩, fun y H' yl => ?_⟩
        obtain ⟨rfl, yl⟩ := yl
        have yl := yl _ (SqT.of (gg _))
        cases yl
        refine ⟨rfl, ?_⟩
        simp only [tYes, if_true]
        refine ⟨_, rfl, [], upd_same, by show 0 < _; omega, ?_⟩
        funext b
        by_cases hb : b = D
        · rw [hb, upd_same, upd_same]; rfl
        · rw [upd_ne hb, upd_ne hb, upd_ne hb]
      · exact .inl ⟨⟨_, SqT.of (gg _), Nat.le_refl _⟩, rfl⟩
    · exact .inl ⟨⟨_, SqT.of (ag _), Nat.le_refl _⟩, hd [x]⟩
section
variable {P : Program} {w : World} {K : PySem.W.Frag} {mg : Str → Option Value} {base : Heap} {CN CB : Addr}
/-! ### parting -/
def sp_part (CN : Addr) : Sp := fun vs H Q _ => ∃ (p lp a : Addr) (n : Int) (ws xs : List V), vs = [.ref p, .ref a] ∧ NAt CN H p lp n ws ∧ H a = some (.tup xs) ∧ GAt H n xs ∧ 1 ≤ n ∧ n ≤ 12 ∧ ∀ H', NAt CN H' p lp n ws → (∀ b o, H b = some o → b ≠ p → H' b = some o) → Q .non H'
abbrev s_Net_part : Stmt := inClass (top 11) 6
abbrev N_Net_part : List Str := ["self", "groups", "named", "rest", "parts", "group", "process"]
abbrev P_Net_part : List Str := ["self", "groups"]
theorem sc_Net_part : FnScope N_Net_part P_Net_part (defScope s_Net_part) := ⟨rfl, rfl, rfl, by decide +kernel, rfl, by decide +kernel, by decide +kernel⟩
theorem ok_part {f : Addr} {fd : FuncData} (T : Tx K mg CN CB) (c_is_groups : DefOk P w K mg base CX0 "is_groups" P_is_groups 3 (sp_groups)) (F : Fun K "part" "Net.part" s_Net_part f fd) : FnOk P w K mg base CX0 4 f fd P_Net_part (sp_part CN) := by
  have nd := sc_Net_part.nd
  refine F.ok sc_Net_part (fun vs H Q E h => ?_) (fun cdv A outer s H vs Q E hr h => ?_)
  · obtain ⟨_, _, _, _, _, _, rfl, _⟩ := h
    rfl
  · obtain ⟨p, lp, a, n, ws, xs, rfl, hn, ha, hg, n1, n2, q⟩ := h
    have hs := sl
    obtain ⟨⟨dx, g, h1⟩, h2⟩ := id hn
    refine ⟨_, (pss_cons (ps_if (pt_not (pt_val (pcall c_is_groups hr (pa_cons (pe_fld (pv 0) (by rfl)) (pa_cons (pv 1) pa_nil)))))
        (pss_one ps_never)
        pss_nil)
      (pss_cons (ps_set (i := 2) nd rfl (Or.inr rfl) (pe_lc2X (own := [("group", 5), ("process", 6)]) (vs1 := [6]) rfl nd (pi_tup (pv 1)) (blkOk_by (own := [("group", 5), ("process", 6)]) (N := N_Net_part) (sc := defScope s_Net_part) (by decide +kernel)) (by decide) (fun _ _ _ _ _ => (pg_name (i := 5) nd rfl (Or.inl rfl))) (fun _ _ _ _ _ => pts_nil) (fun _ _ _ _ _ => (pi_tup (pv 5))) (fun _ _ _ _ _ => (pg_name (i := 6) nd rfl (Or.inl rfl))) (fun _ _ _ _ _ => pts_nil) (fun _ _ _ _ _ => (pv 6))))
      (pss_cons (ps_setLcX (i := 3) (own := [("process", 6)]) rfl nd rfl rfl (sw_true rfl rfl rfl (by decide +kernel)) (pi_range1 (by rfl) T.b_range (pa_cons (pe_fld (pv 0) (by rfl)) pa_nil)) (blkOk_by (own := [("process", 6)]) (N := N_Net_part) (sc := defScope s_Net_part) (by decide +kernel)) (fun _ _ _ _ _ => (pg_name (i := 6) nd rfl (Or.inl rfl))) (fun _ _ _ _ _ => (pts_one (pt_cmpR op_notIn_seq (pv 6) (pv 2) (by rfl)))) (fun _ _ _ _ _ => (pv 6)))
      (pss_cons (ps_setLcX (i := 4) (own := [("group", 5)]) rfl nd rfl rfl (sw_true rfl rfl rfl (by decide +kernel)) (pi_tup (pv 1)) (blkOk_by (own := [("group", 5)]) (N := N_Net_part) (sc := defScope s_Net_part) (by decide +kernel)) (fun _ _ _ _ _ => (pg_name (i := 5) nd rfl (Or.inl rfl))) (fun _ _ _ _ _ => pts_nil) (fun _ _ _ _ _ => (pe_callTy call_tuple_of (by rfl) T.b_tuple (by decide +kernel) (pa_cons (pe_callB (cr_sortedD hr.units) (by rfl) T.b_sorted (by decide +kernel) (pa_cons (pv 5) pa_nil)) pa_nil))))
      (pss_cons (ps_if (pt_cmpR op_gt (pe_callB call_len_seq (by rfl) T.b_len (by decide +kernel) (pa_cons (pv 3) pa_nil)) pe_int (nomark _))
        (pss_one (ps_expr (pe_bm PySem.F.plainAttrs_list PySem.F.slot_list_append PySem.F.type_list_append mt_append (pv 4) (pa_cons (pe_callTy call_tuple_of (by rfl) T.b_tuple (by decide +kernel) (pa_cons (pv 3) pa_nil)) pa_nil))))
        pss_nil)
      (pss_one (ps_fld (pv 0) (pe_callTy call_tuple_of (by rfl) T.b_tuple (by decide +kernel) (pa_cons (pe_callB (cr_sortedD hr.units) (by rfl) T.b_sorted (by decide +kernel) (pa_cons (pv 4) pa_nil)) pa_nil)) rfl))))))), ?_⟩
    have c1 := T.cl_Net
    have m1 := T.n_Net__count
    walk_at "rds"
    refine ⟨a, n, xs, rfl, ha, hg, n1, n2, fun H1 s1 => ?_⟩
    walk_at "rds"
    have ha1 := s1 _ _ ha
    have hg1 := hg.same s1
    refine ⟨⟨_, SqT.of ha1⟩, fun D nD => ?_⟩
    refine lc2_grp (K := K) (s0 := some (.ref p)) (s1 := some (.ref a)) ha1 hg1 nD fun js => ?_
    have s2 : Same H (upd H1 D (.lst (js.map V.int))) := s1.trans (same_new nD _)
    have hN2 : (upd H1 D (.lst (js.map V.int))) D = some (.lst (js.map V.int)) := upd_same
    generalize upd H1 D (.lst (js.map V.int)) = H2 at *
    have a2 := s2 _ _ h1
    refine ⟨_, rfl, p, CN, dx, _, _, rfl, a2, c1, m1, rfl, ?_⟩
    refine ⟨n, rfl, by omega, by omega, fun D2 nD2 => lc_range (fun i H' => ∃ ks : List Int, H' = upd H2 D2 (.lst (ks.map V.int)) ∧ ks.length ≤ i) ?_ ?_ ?_⟩
    · exact ⟨[], rfl, Nat.le_refl _⟩
    · rintro i _ hi ⟨ks, rfl, hk⟩
      have DD : D ≠ D2 := ne_of_none hN2 nD2
      have hN3 : (upd H2 D2 (.lst (ks.map V.int))) D = some (.lst (js.map V.int)) := by rw [upd_ne DD]; exact hN2
      refine ⟨rfl, ?_⟩
      refine ⟨_, rfl, _, rfl, D, _, rfl, .inl (SqL.of hN3), rfl, by simp [List.all_eq_true, flatV], ?_⟩
      refine ⟨_, rfl, ?_⟩
      refine ite2 (fun _ => ?_) (fun _ => ?_)
      · refine ⟨_, rfl, ks.map V.int, upd_same, by rw [List.length_map]; omega, ks ++ [0 + (i : Int)], ?_, by rw [List.length_append]; show _ + 1 ≤ _; omega⟩
        rw [List.map_append, upd_upd]; rfl
      · exact ⟨ks, rfl, by omega⟩
    · rintro _ ⟨ks, rfl, hk⟩
      have s3 := s2.trans (same_new nD2 (.lst (ks.map V.int)))
      have hR : (upd H2 D2 (.lst (ks.map V.int))) D2 = some (.lst (ks.map V.int)) := upd_same
      generalize upd H2 D2 (.lst (ks.map V.int)) = H3 at *
      have ha3 := s3 _ _ ha
      have hg3 := hg.same s3
      refine ⟨_, rfl, a, rfl, ⟨_, SqT.of ha3⟩, fun D3 nD3 => ?_⟩
      have aD3 : a ≠ D3 := ne_of_none ha3 nD3
      refine lc_tup (xs := xs) (fun i H' => ∃ (ws : List V) (ds : List PyData), H' D3 = some (.lst ws) ∧ Prt H' ws ds ∧ ws.length ≤ i ∧ Same H3 H') ?_ ?_ ?_ ?_
      · exact ⟨[], [], upd_same, .nil, Nat.le_refl _, same_new nD3 _⟩
      · rintro i H' _ ⟨_, _, _, _, _, s4⟩
        exact SqT.of (s4 _ _ ha3)
      · rintro i v H' hx ⟨ws, ds, hD, hP, hl, s4⟩
        rcases hg3 with rfl | ⟨g', x, rfl, hg1, x0, x1⟩
        · cases hx
        have i0 : i = 0 := by have := (List.getElem?_eq_some_iff.mp hx).1; simp at this; exact this
        subst i0
        cases hx
        refine ⟨rfl, ?_⟩
        refine ⟨_, rfl, g', [.int x], [.int x], rfl, .inr (SqT.of (s4 _ _ hg1)), .cons (.int x) .nil, ?_, ?_, ?_, fun ps q1 hps nq => ?_⟩
        · intro d hd e he
          rw [List.mem_singleton.mp hd, List.mem_singleton.mp he]; rfl
        · refine .inr fun d hd => ?_
          have e := List.mem_singleton.mp hd
          subst e
          exact ⟨(fun z => by cases z), (fun _ z => by cases z)⟩
        · intro d hd
          rw [List.mem_singleton.mp hd]; simp [PyData.depth]
        · have hps : ps = [(V.int x, PyData.int x)] := by rw [hps]; simp
          subst hps
          refine ⟨q1, [.int x], rfl, .inl ⟨SqL.of upd_same, fun t nt => ?_⟩⟩
          have s5 := (same_new nq (.lst [V.int x])).trans (same_new nt (.tup [V.int x]))
          have tD : D3 ≠ t := ne_of_none (same_new nq (.lst [V.int x]) _ _ hD) nt
          refine ⟨ws, s5 _ _ hD, by omega, ws ++ [.ref t], ds ++ [.tuple [.int x]], upd_same, ?_, by rw [List.length_append]; show _ + 1 ≤ _; omega, fun b o hb => ?_⟩
          · refine Prt.append (x := x) (is := []) (by rw [upd_ne tD.symm]; exact upd_same) (hP.mono fun b xs hb => ?_)
            rw [upd_ne (fun z => by rw [z, hD] at hb; cases hb)]
            exact s5 _ _ hb
          · rw [upd_ne (ne_of_none hb nD3)]
            exact s5 _ _ (s4 _ _ hb)
      · rintro H4 ⟨ws, ds, hD, hP, hl, s4⟩
        have s40 := s3.trans s4
        have hR4 := s4 _ _ hR
        have lk : (ks.map V.int).length = ks.length := List.length_map _
        have lw : ws.length ≤ 1 := Nat.le_trans hl (by rcases hg3 with rfl | ⟨_, _, rfl, _⟩ <;> simp)
        have hD0 : H D3 = none := by
          cases e : H D3 with
          | none => rfl
          | some o => rw [s3 _ _ e] at nD3; cases nD3
        refine ⟨_, rfl, D2, _, rfl, .inl (SqL.of hR4), ?_⟩
        walk_at "rds"
        refine ite2 (fun h0 => ?_) (fun h0 => ?_)
        case' refine_1 =>
          have h0 : 0 < ks.length := by have := of_decide_eq_true h0; omega
          obtain ⟨k0, ks, rfl⟩ : ∃ k0 ks', ks = k0 :: ks' := by
            cases ks with
            | nil => cases h0
            | cons k0 ks => exact ⟨k0, ks, rfl⟩
          have aux : True := trivial
          refine ⟨_, rfl, .inl ⟨rfl, _, SqL.of hD⟩, ?_⟩
          refine ⟨_, rfl, D2, _, rfl, .inl ⟨SqL.of hR4, fun t nt => ?_⟩⟩
          have tD : D3 ≠ t := ne_of_none hD nt
          have st := same_new nt (.tup ((k0 :: ks).map V.int))
          refine ⟨D3, ws, _, rfl, rfl, st _ _ hD, by omega, ?_⟩
          have hP5 : Prt (upd (upd H4 t (.tup ((k0 :: ks).map V.int))) D3 (.lst (ws ++ [.ref t]))) (ws ++ [.ref t]) (ds ++ [.tuple ((k0 :: ks).map .int)]) := Prt.append (by rw [upd_ne tD.symm]; exact upd_same) (hP.mono fun b xs hb => by
            rw [upd_ne (fun z => by rw [z, hD] at hb; cases hb)]
            exact st _ _ hb)
          have hD5 : (upd (upd H4 t (.tup ((k0 :: ks).map V.int))) D3 (.lst (ws ++ [.ref t]))) D3 = some (.lst (ws ++ [.ref t])) := upd_same
          have s5 : Same H (upd (upd H4 t (.tup ((k0 :: ks).map V.int))) D3 (.lst (ws ++ [.ref t]))) := fun b o hb => by
            rw [upd_ne (ne_of_none hb hD0)]
            exact st _ _ (s40 _ _ hb)
          revert hP5 hD5 s5
          generalize upd (upd H4 t (.tup ((k0 :: ks).map V.int))) D3 (.lst (ws ++ [.ref t])) = H5
          generalize ws ++ [.ref t] = ws5
          generalize ds ++ [.tuple ((k0 :: ks).map .int)] = ds5
          intro hP5 hD5 s5
        case' refine_2 =>
          have hP5 := hP
          have hD5 := hD
          have s5 := s40
          revert hP5 hD5 s5
          generalize hH : H4 = H5
          generalize hW : ws = ws5
          generalize hDs : ds = ds5
          intro hP5 hD5 s5
        all_goals
          have pl : lp ≠ p := ne_of h2 h1 (by intro z; cases z)
          obtain ⟨k1, k2, k3⟩ := hP5.sorts
          refine ⟨_, rfl, D3, ws5, ds5, rfl, .inl (SqL.of hD5), hP5.dp, k1, k2, k3, fun ps q2 _ nq => ?_⟩
          refine ⟨q2, _, rfl, .inl ⟨SqL.of upd_same, fun t nt => ?_⟩⟩
          have s6 := s5.trans ((same_new nq (.lst (ps.map (·.1)))).trans (same_new nt (.tup (ps.map (·.1)))))
          refine ⟨_, rfl, p, CN, dx, _, rfl, s6 _ _ h1, c1, T.n_Net__groups, (by show 3 < 1000; decide), ?_⟩
          exact q _ ⟨⟨dx, _, upd_same⟩, by rw [upd_ne pl]; exact s6 _ _ h2⟩ fun b o hb nb => by rw [upd_ne nb]; exact s6 _ _ hb
abbrev s_Net_heal : Stmt := inClass (top 11) 7
abbrev N_Net_heal : List Str := ["self"]
abbrev P_Net_heal : List Str := ["self"]
theorem sc_Net_heal : FnScope N_Net_heal P_Net_heal (defScope s_Net_heal) := ⟨rfl, rfl, rfl, by decide +kernel, rfl, by decide +kernel, by decide +kernel⟩
def sp_heal (CN : Addr) : Sp := fun vs H Q _ => ∃ (p lp : Addr) (n : Int) (ws : List V), vs = [.ref p] ∧ NAt CN H p lp n ws ∧ 1 ≤ n ∧ n ≤ 12 ∧ ∀ H', NAt CN H' p lp n ws → (∀ b o, H b = some o → b ≠ p → H' b = some o) → Q .non H'
theorem ok_heal {f : Addr} {fd : FuncData} (T : Tx K mg CN CB) (m_Net_part : MethOk P w K mg base CX0 CN "part" P_Net_part 4 (sp_part CN)) (F : Fun K "heal" "Net.heal" s_Net_heal f fd) : FnOk P w K mg base CX0 5 f fd P_Net_heal (sp_heal CN) := by
  have nd := sc_Net_heal.nd
  refine F.ok sc_Net_heal (fun vs H Q E h => ?_) (fun cdv A outer s H vs Q E hr h => ?_)
  · obtain ⟨_, _, _, _, rfl, _⟩ := h
    rfl
  · obtain ⟨p, lp, n, ws, rfl, hn, n1, n2, q⟩ := h
    have hs := sl
    obtain ⟨⟨dx, g, h1⟩, h2⟩ := id hn
    refine ⟨_, (pss_one (ps_expr (pmeth m_Net_part T.cl_Net (pv 0) hr (pa_cons (pe_tup pa_nil) pa_nil)))), ?_⟩
    have c1 := T.cl_Net
    walk_at "rds"
    refine ⟨p, dx, _, rfl, h1, rfl, ?_⟩
    trace_state
    refine ⟨by show 0 ≤ sizeLine; omega, fun t nt => ?_⟩
    have st := same_new nt (.tup [])
    refine ⟨p, lp, t, n, ws, [], rfl, hn.same st, upd_same, .inl rfl, n1, n2, fun H' hn' k => ?_⟩
    exact q H' hn' fun b o hb nb => k _ _ (st _ _ hb) nb
end
end Mus

set_option maxRecDepth 100000
set_option maxHeartbeats 4000000
namespace Mus
open PySem L2
local macro_rules | `(tactic| walk_at "rd") => `(tactic| first
  | refine ⟨_, rfl, ?_⟩ | refine ⟨(True.intro : True), ?_⟩
  | refine ⟨_, _, rfl, rfl, (⟨by decide, by decide, by decide⟩ : CPow _ _), ?_⟩
  | refine ⟨_, _, rfl, rfl, (⟨by decide, by decide⟩ : CDiv _ _), ?_⟩
  | refine ⟨_, _, rfl, rfl, (by show (0 : Int) < _; decide), ?_⟩
  | refine ⟨_, _, rfl, rfl, ?_⟩ | refine ⟨rfl, ?_⟩ | refine iteT ?_ | refine iteF ?_ | refine ⟨_, _, rfl, ?_⟩ | refine .inl ⟨_, rfl, ?_⟩
  | refine ⟨_, _, _, _, _, rfl, (by assumption), (by assumption), (by assumption), rfl, ?_⟩ | refine ⟨_, _, _, _, rfl, rfl, SqT.of (by assumption), rfl, ?_⟩ | refine ⟨_, _, rfl, SqT.of (by assumption), rfl, ?_⟩
  | refine ⟨_, _, _, _, _, rfl, .ty _, Rp.ty (by assumption), kit_int _, ?_⟩ | refine ⟨_, _, _, _, _, rfl, .ty _, Rp.ty (by assumption), kit_bool _, ?_⟩
  | refine ⟨_, _, _, _, _, rfl, .ty _, Rp.ty (by assumption), kit_str _, ?_⟩ | refine ⟨_, _, _, _, _, rfl, .ty _, Rp.ty (by assumption), kit_tup _, ?_⟩)
local macro_rules | `(tactic| walk_at "cal") => `(tactic| first
  | refine ⟨_, _, _, _, _, rfl, (by assumption), ?_⟩ | refine ⟨_, _, _, _, _, rfl, (by assumption), (by assumption), ?_⟩)
local macro_rules | `(tactic| walk_at "sq") => `(tactic| first
  | refine ⟨_, _, rfl, Or.inr (SqT.of (by assumption)), ?_⟩ | refine ⟨_, _, _, _, rfl, rfl, SqT.of (by assumption), rfl, ?_⟩)
local macro_rules | `(tactic| walk_at "rds") => `(tactic| repeat first | walk_at "rd" | walk_at "cal" | walk_at "sq")
local macro_rules | `(tactic| walk_at "ze") => `(tactic| repeat first
  | exact zes_nil | exact ze_bl | exact ze_str | exact ze_non | apply zes_cons | apply ze_tup | apply ze_lst | apply ze_cat | exact di_c | exact di_v rfl | apply di_opC | apply di_op | apply di_neg | apply ze_i | (refine (⟨?_, ?_, ?_⟩ : CPow _ _) <;> decide) | exact Nat.le_of_ble_eq_true rfl | exact ze_varD rfl (by assumption))
local macro_rules | `(tactic| walk_at "rdz") => `(tactic| repeat (fail_if_success (first | show tLst _ _ _ _ | show tAsg (tLst _) _ _ _ _ | show tSeq (tAsg (tLst _) _) _ _ _ _)); first | walk_at "rd" | walk_at "cal" | walk_at "sq")
/-! ### data of tuples -/
mutual
inductive TD (H : Hp) : V → PyData → Prop
  | non : TD H .non .none
  | int (i : Int) : TD H (.int i) (.int i)
  | str (x : Str) : TD H (.str x) (.str x)
  | tup {a : Addr} {xs : List V} {ds : List PyData} : H a = some (.tup xs) → TDs H xs ds → TD H (.ref a) (.tuple ds)
inductive TDs (H : Hp) : List V → List PyData → Prop
  | nil : TDs H [] []
  | cons {v : V} {vs : List V} {d : PyData} {ds : List PyData} : TD H v d → TDs H vs ds → TDs H (v :: vs) (d :: ds)
end
mutual
theorem TD.mono {H H' : Hp} (k : ∀ b xs, H b = some (.tup xs) → H' b = some (.tup xs)) : ∀ {v : V} {d : PyData}, TD H v d → TD H' v d
  | _, _, .non => .non
  | _, _, .int i => .int i
  | _, _, .str x => .str x
  | _, _, .tup h r => .tup (k _ _ h) (r.mono k)
theorem TDs.mono {H H' : Hp} (k : ∀ b xs, H b = some (.tup xs) → H' b = some (.tup xs)) : ∀ {vs : List V} {ds : List PyData}, TDs H vs ds → TDs H' vs ds
  | _, _, .nil => .nil
  | _, _, .cons a r => .cons (a.mono k) (r.mono k)
end
mutual
theorem TD.dp {K : PySem.W.Frag} {H : Hp} : ∀ {v : V} {d : PyData}, TD H v d → Dp K H v d
  | _, _, .non => .non
  | _, _, .int i => .int i
  | _, _, .str x => .str x
  | _, _, .tup h r => .tup (SqT.of h) r.dp
theorem TDs.dp {K : PySem.W.Frag} {H : Hp} : ∀ {vs : List V} {ds : List PyData}, TDs H vs ds → DpAll K H vs ds
  | _, _, .nil => .nil
  | _, _, .cons a r => .cons a.dp r.dp
end
theorem TDs.length {H : Hp} : ∀ {vs : List V} {ds : List PyData}, TDs H vs ds → vs.length = ds.length
  | _, _, .nil => rfl
  | _, _, .cons _ r => congrArg (· + 1) r.length
theorem TDs.append {H : Hp} : ∀ {vs : List V} {ds : List PyData} {us : List V} {es : List PyData}, TDs H vs ds → TDs H us es → TDs H (vs ++ us) (ds ++ es)
  | _, _, _, _, .nil, r => r
  | _, _, _, _, .cons a b, r => .cons a (b.append r)
theorem TDs.at {H : Hp} : ∀ {vs : List V} {ds : List PyData} {i : Nat} {y : V}, TDs H vs ds → vs[i]? = some y → ∃ d, ds[i]? = some d ∧ TD H y d
  | _, _, _, _, .nil, h => by cases h
  | _, _, 0, _, .cons a b, h => by cases h; exact ⟨_, rfl, a⟩
  | _, _, i + 1, _, .cons a b, h => b.at (i := i) h
theorem TDs.erase {H : Hp} : ∀ {vs : List V} {ds : List PyData} (i : Nat), TDs H vs ds → TDs H (vs.eraseIdx i) (ds.eraseIdx i)
  | _, _, _, .nil => .nil
  | _, _, 0, .cons a b => b
  | _, _, i + 1, .cons a b => .cons a (b.erase i)
def Gd (d : PyData) : Prop := (∃ ds, d = .tuple ds) ∧ d.canLay0 = true ∧ d.depth ≤ 10
theorem gd_one {d : PyData} (h : Gd d) : SeqAt.shaped d = true ∧ PyData.eqv d d = true := by
  obtain ⟨_, h1, h2⟩ := h
  refine ⟨?_, SeqAt.eqv_refl _ h1⟩
  unfold SeqAt.shaped
  rw [Bool.and_eq_true, decide_eq_true_eq]
  exact ⟨h1, by omega⟩
theorem gd_list {ds : List PyData} (h : ∀ d ∈ ds, Gd d) : SeqAt.shaped (.list ds) = true ∧ PyData.eqv (.list ds) (.list ds) = true := by
  have h1 : PyData.canLayAll0 ds = true ∧ PyData.depthAll ds ≤ 10 := by
    induction ds with
    | nil => simp [PyData.canLayAll0, PyData.depthAll]
    | cons d ds ih =>
      obtain ⟨i1, i2⟩ := ih fun x hx => h x (List.mem_cons_of_mem _ hx)
      obtain ⟨_, g1, g2⟩ := h d List.mem_cons_self
      simp [PyData.canLayAll0, PyData.depthAll, g1, i1]
      omega
  refine ⟨?_, SeqAt.eqv_refl _ (by simp [PyData.canLay0, h1.1])⟩
  unfold SeqAt.shaped
  rw [Bool.and_eq_true, decide_eq_true_eq]
  refine ⟨by simp [PyData.canLay0, h1.1], ?_⟩
  have := h1.2
  simp [PyData.depth]
  omega
/-! ### the law's parts -/
def Three (z : Str) : Prop := z = "take" ∨ z = "double" ∨ z = "move"
/-- what taking, doubling or moving at i gives for the list ws at l -/
structure Res (l : Addr) (ws : List V) (z : Str) (i : Int) (H : Hp) (Q : V → Hp → Prop) : Prop where
  no : okPos i ws = false → ∀ t H', Same H H' → H' t = some (.tup [.str "refused", .int 0, .str "position"]) → Q (.ref t) H'
  take : ∀ y, okPos i ws = true → ws[i.toNat]? = some y → z = "take" → ∀ H', Put l H H' (aTake ws i.toNat y) → Q y H'
  double : ∀ y, okPos i ws = true → ws[i.toNat]? = some y → z = "double" → ∀ H', Put l H H' (aDouble ws i.toNat y) → Q .non H'
  move : ∀ y, okPos i ws = true → ws[i.toNat]? = some y → z = "move" → ∀ H', Put l H H' (aMove ws i.toNat y) → Q .non H'
section
variable {P : Program} {w : World} {K : PySem.W.Frag} {mg : Str → Option Value} {base : Heap} {CN CB : Addr}
abbrev s__law_bag : Stmt := top 13
abbrev N__law_bag : List Str := ["script", "k", "cell"]
abbrev P__law_bag : List Str := ["script", "k"]
theorem sc__law_bag : FnScope N__law_bag P__law_bag (defScope s__law_bag) := ⟨rfl, rfl, rfl, by decide +kernel, rfl, by decide +kernel, by decide +kernel⟩
theorem ok__law_bag {f : Addr} {fd : FuncData} (T : Tx K mg CN CB) (F : Fun K "_law_bag" "_law_bag" s__law_bag f fd) : FnOk P w K mg base CX0 (1) f fd P__law_bag (sp_bag K) := by
  have nd := sc__law_bag.nd
  refine F.ok sc__law_bag (fun vs H Q E h => ?_) (fun cdv A outer s H vs Q E hr h => ?_)
  · obtain ⟨_, _, _, rfl, _⟩ := h
    rfl
  · obtain ⟨a, ns, k, rfl, hS, q⟩ := h
    have hs := sl
    refine ⟨_, (pss_cons (ps_set (i := 2) nd rfl (Or.inl rfl) pe_int)
      (pss_cons (ps_if (pt_cmpR op_lt (pv 1) (pe_callB call_len_seq (by rfl) T.b_len (by decide +kernel) (pa_cons (pv 0) pa_nil)) (nomark _))
        (pss_one (ps_set (i := 2) nd rfl (Or.inl rfl) (pe_callTy call_int1 (by rfl) T.b_int (by decide +kernel) (pa_cons (pe_ix ix_list (pv 0) (pv 1) (fun _ _ => rfl)) pa_nil))))
        pss_nil)
      (pss_cons (ps_if (pt_cmpR op_ge (pv 2) (pe_op op_pow pe_int pe_int) (nomark _))
        (pss_one (ps_ret (pe_lst (pa_cons (pv 2) (pa_cons (pv 2) (pa_cons (pv 1) pa_nil))))))
        pss_nil)
      (pss_one (ps_ret (pe_lst (pa_cons pe_int (pa_cons (pv 2) (pa_cons (pv 1) pa_nil))))))))), ?_⟩
    have hl : (ns.map V.int).length = ns.length := List.length_map _
    have fin : ∀ x y : Int, ∀ p, H p = none → Q (.ref p) (upd H p (.lst [.int x, .int y, .int k])) := fun x y p np => q p _ np (same_new np _) ⟨x, y, upd_same⟩
    refine ⟨_, rfl, _, rfl, a, _, rfl, .inl hS, _, _, rfl, rfl, _, rfl, ?_⟩
    by_cases hk : (k : Int) < (((ns.map V.int).length : Nat) : Int)
    · refine dT hk ?_
      have hk2 : k < ns.length := by omega
      refine ⟨_, rfl, _, rfl, a, _, _, .int ns[k], rfl, rfl, hS, atI_nat (by rw [List.getElem?_map, List.getElem?_eq_getElem hk2]; rfl), .inl ⟨_, rfl, ?_⟩⟩
      refine ⟨_, rfl, _, _, rfl, rfl, ⟨by decide, by decide, by decide⟩, _, _, rfl, rfl, _, rfl, ?_⟩
      refine ite2 (fun _ => ?_) (fun _ => ?_)
      · exact ⟨_, rfl, _, rfl, _, rfl, by show 3 ≤ sizeLine; omega, fun p np => fin _ _ p np⟩
      · exact ⟨_, rfl, _, rfl, by show 3 ≤ sizeLine; omega, fun p np => fin _ _ p np⟩
    · refine dF hk ?_
      refine ⟨_, rfl, _, _, rfl, rfl, ⟨by decide, by decide, by decide⟩, _, _, rfl, rfl, _, rfl, ?_⟩
      refine ite2 (fun _ => ?_) (fun _ => ?_)
      · exact ⟨_, rfl, _, rfl, _, rfl, by show 3 ≤ sizeLine; omega, fun p np => fin _ _ p np⟩
      · exact ⟨_, rfl, _, rfl, by show 3 ≤ sizeLine; omega, fun p np => fin _ _ p np⟩
abbrev s__law_draw : Stmt := top 14
abbrev N__law_draw : List Str := ["bag", "many", "seed", "rest"]
abbrev P__law_draw : List Str := ["bag", "many"]
theorem sc__law_draw : FnScope N__law_draw P__law_draw (defScope s__law_draw) := ⟨rfl, rfl, rfl, by decide +kernel, rfl, by decide +kernel, by decide +kernel⟩
theorem ok__law_draw {f : Addr} {fd : FuncData} (T : Tx K mg CN CB) (F : Fun K "_law_draw" "_law_draw" s__law_draw f fd) : FnOk P w K mg base CX0 (1) f fd P__law_draw (sp_draw) := by
  have nd := sc__law_draw.nd
  refine F.ok sc__law_draw (fun vs H Q E h => ?_) (fun cdv A outer s H vs Q E hr h => ?_)
  · obtain ⟨_, _, _, rfl, _⟩ := h
    rfl
  · obtain ⟨p, c, m, rfl, ⟨x, y, hp⟩, hm, hm2, q⟩ := h
    refine ⟨_, (pss_cons (ps_if (pt_cmpR op_eq (pe_ix ix_list (pv 0) pe_int (fun _ _ => rfl)) pe_int (nomark _))
        (pss_cons (ps_set (i := 2) nd rfl (Or.inl rfl) (pe_op op_mod (pe_callTy call_int1 (by rfl) T.b_int (by decide +kernel) (pa_cons (pe_op op_add (pe_op op_add (pe_op op_mul (pe_ix ix_list (pv 0) pe_int (fun _ _ => rfl)) pe_int) (pe_op op_mul (pe_ix ix_list (pv 0) pe_int (fun _ _ => rfl)) pe_int)) pe_int) pa_nil)) pe_int))
        (pss_cons (ps_asg (pe_op op_add (pe_op op_mul (pv 2) pe_int) (pe_op op_mod (pe_callTy call_int1 (by rfl) T.b_int (by decide +kernel) (pa_cons (pe_op op_add (pe_op op_mul (pv 2) (pv 2)) (pe_op op_mul (pe_ix ix_list (pv 0) pe_int (fun _ _ => rfl)) pe_int)) pa_nil)) pe_int)) (pg_sub (pv 0) pe_int set_list))
        (pss_one (ps_asg (pv 2) (pg_sub (pv 0) pe_int set_list)))))
        pss_nil)
      (pss_cons (ps_set (i := 3) nd rfl (Or.inl rfl) (pe_ix ix_list (pv 0) pe_int (fun _ _ => rfl)))
      (pss_cons (ps_asg (pe_op op_fdivW (pv 3) (pv 1)) (pg_sub (pv 0) pe_int set_list))
      (pss_one (ps_ret (pe_op op_mod (pe_callTy call_int1 (by rfl) T.b_int (by decide +kernel) (pa_cons (pv 3) pa_nil)) (pv 1))))))), ?_⟩
    have wd : CDivW 0 m := wide_div (i := 0) hm hm2 (by omega) (by omega)
    refine ⟨_, rfl, p, _, _, _, rfl, rfl, SqL.of hp, rfl, rfl, _, rfl, ?_⟩
    by_cases h0 : x = 0
    · subst h0
      refine dT rfl ?_
      refine ⟨_, rfl, p, _, _, _, rfl, rfl, SqL.of hp, rfl, _, _, rfl, rfl, .inr ⟨by decide, by decide⟩, ?_⟩
      refine ⟨_, rfl, p, _, _, _, rfl, rfl, SqL.of hp, rfl, _, _, rfl, rfl, .inr ⟨by decide, by decide⟩, _, _, rfl, rfl, _, _, rfl, rfl, .inl ⟨_, rfl, _, _, rfl, rfl, (by show (0 : Int) < 2147483647; decide), ?_⟩⟩
      have b0 : 0 ≤ (y * 48271 + c * 69621 + 11) % 2147483647 := Int.emod_nonneg _ (by decide)
      have b1 : (y * 48271 + c * 69621 + 11) % 2147483647 < 2147483647 := Int.emod_lt_of_pos _ (by decide)
      have bb : -(2 ^ 64) < (y * 48271 + c * 69621 + 11) % 2147483647 ∧ (y * 48271 + c * 69621 + 11) % 2147483647 < 2 ^ 64 := ⟨by omega, by omega⟩
      refine ⟨_, rfl, _, _, rfl, rfl, .inl bb, _, rfl, _, rfl, _, _, rfl, rfl, .inl bb, _, rfl, p, _, _, _, rfl, rfl, SqL.of hp, rfl, _, _, rfl, rfl, .inr ⟨by decide, by decide⟩, _, _, rfl, rfl, .inl ⟨_, rfl, _, _, rfl, rfl, (by show (0 : Int) < 2147483629; decide), _, _, rfl, rfl, ?_⟩⟩
      refine ⟨_, rfl, p, _, _, 0, rfl, rfl, hp, rfl, ?_⟩
      refine ⟨_, rfl, _, rfl, p, _, _, 1, rfl, rfl, upd_same, rfl, ?_⟩
      refine ⟨_, rfl, p, _, _, _, rfl, rfl, SqL.of upd_same, rfl, ?_⟩
      refine ⟨_, rfl, _, rfl, _, _, rfl, rfl, wd, _, rfl, p, _, _, 0, rfl, rfl, upd_same, rfl, ?_⟩
      refine ⟨_, rfl, .inl ⟨_, rfl, _, rfl, _, _, rfl, rfl, hm, ?_⟩⟩
      exact q _ _ (Int.emod_nonneg _ (by omega)) (Int.emod_lt_of_pos _ hm) ((but_upd _).trans ((but_upd _).trans (but_upd _))) ⟨_, _, upd_same⟩
    · refine dF (by intro z; cases z; exact h0 rfl) ?_
      refine ⟨_, rfl, p, _, _, _, rfl, rfl, SqL.of hp, rfl, ?_⟩
      refine ⟨_, rfl, _, rfl, _, _, rfl, rfl, wd, _, rfl, p, _, _, 0, rfl, rfl, hp, rfl, ?_⟩
      refine ⟨_, rfl, .inl ⟨_, rfl, _, rfl, _, _, rfl, rfl, hm, ?_⟩⟩
      exact q _ _ (Int.emod_nonneg _ (by omega)) (Int.emod_lt_of_pos _ hm) (but_upd _) ⟨_, _, upd_same⟩

def sp_call (CN : Addr) : Sp := fun vs H Q _ => ∃ (p lp : Addr) (n : Int) (ws : List V) (z : Str) (i : Int), vs = [.ref p, .str z, .int i] ∧ NAt CN H p lp n ws ∧ ws.length ≤ 1000 ∧ Three z ∧ Res lp ws z i H Q
def sp_due : Sp := fun vs H Q _ => ∃ (l : Addr) (ws : List V) (z : Str) (i : Int), vs = [.ref l, .str z, .int i] ∧ H l = some (.lst ws) ∧ ws.length ≤ 1000 ∧ Three z ∧ Res l ws z i H Q
abbrev s__law_call : Stmt := top 15
abbrev N__law_call : List Str := ["net", "verb", "at", "e"]
abbrev P__law_call : List Str := ["net", "verb", "at"]
theorem sc__law_call : FnScope N__law_call P__law_call (defScope s__law_call) := ⟨rfl, rfl, rfl, by decide +kernel, rfl, by decide +kernel, by decide +kernel⟩
theorem ok__law_call {f : Addr} {fd : FuncData} (T : Tx K mg CN CB) (m_Net_take : MethOk P w K mg base (L2.CX P w) CN "take" P_Net_take 4 (sp_byp CN CB aTake id)) (m_Net_double : MethOk P w K mg base (L2.CX P w) CN "double" P_Net_double 4 (sp_byp CN CB aDouble fun _ => .non))
    (m_Net_move : MethOk P w K mg base (L2.CX P w) CN "move" P_Net_move 5 (sp_byp CN CB aMove fun _ => .non)) (F : Fun K "_law_call" "_law_call" s__law_call f fd) : FnOk P w K mg base CX0 6 f fd P__law_call (sp_call CN) := by
  have nd := sc__law_call.nd
  refine F.ok sc__law_call (fun vs H Q E h => ?_) (fun cdv A outer s H vs Q E hr h => ?_)
  · obtain ⟨_, _, _, _, _, _, rfl, _⟩ := h
    rfl
  · obtain ⟨p, lp, n, ws, z, i, rfl, hn, hl, h3, R⟩ := h
    have hs := sl
    have c1 := T.cl_Net
    obtain ⟨⟨dx, g, h1⟩, h2⟩ := id hn
    refine ⟨_, (pss_one (ps_tryAs (i := 3) rfl rfl nd rfl rfl ⟨rfl, by decide, .inl T.g_BadSchedule⟩ takes0 (fun W pn xe tk _ => (pss_cons (ps_if (pt_cmpR op_eq (pv 1) pe_str (nomark _))
          (pss_one (ps_ret (pmethA m_Net_take T.cl_Net tk (pv 0) hr (pa_cons (pv 2) pa_nil))))
          pss_nil)
        (pss_cons (ps_if (pt_cmpR op_eq (pv 1) pe_str (nomark _))
          (pss_one (ps_ret (pmethA m_Net_double T.cl_Net tk (pv 0) hr (pa_cons (pv 2) pa_nil))))
          pss_nil)
        (pss_one (ps_ret (pmethA m_Net_move T.cl_Net tk (pv 0) hr (pa_cons (pv 2) pa_nil)))))))
        (fun a oe cls d pn hz hf => (pss_one (ps_ret (pe_tup (pa_cons pe_str (pa_cons (pe_xf T.f_BadSchedule T.n_line hz hf (pv 3)) (pa_cons (pe_xf T.f_BadSchedule T.n_reason hz hf (pv 3)) pa_nil))))))))), ?_⟩
    have bad : okPos i ws = false → ∀ (e : Addr) (H' : Hp), Same H H' → H' e = some (.xd (bsF (.int 0) (.str "position"))) → ∀ σ0 : L2.St, σ0[3]? = some (some (.ref e)) → True := fun _ _ _ _ _ _ _ => trivial
    rcases h3 with rfl | rfl | rfl
    · walk_at "rds"
      refine ⟨p, dx, _, rfl, h1, rfl, _, rfl, p, lp, n, ws, i, rfl, hn, hl, fun ho e H' s1 he => ?_, fun y ho hy H' hp => R.take y ho hy rfl H' hp⟩
      refine ⟨true, T.m_BB, fun _ a na => ?_, fun h => by cases h⟩
      walk_at "rds"
      refine ⟨e, _, .int 0, rfl, he, rfl, ?_⟩
      walk_at "rds"
      refine ⟨e, _, .str "position", rfl, he, rfl, ?_⟩
      exact ⟨by show 3 ≤ sizeLine; omega, fun t nt => R.no ho t _ (s1.trans (same_new nt _)) upd_same⟩
    · walk_at "rds"
      refine ⟨p, dx, _, rfl, h1, rfl, _, rfl, p, lp, n, ws, i, rfl, hn, hl, fun ho e H' s1 he => ?_, fun y ho hy H' hp => R.double y ho hy rfl H' hp⟩
      refine ⟨true, T.m_BB, fun _ a na => ?_, fun h => by cases h⟩
      walk_at "rds"
      refine ⟨e, _, .int 0, rfl, he, rfl, ?_⟩
      walk_at "rds"
      refine ⟨e, _, .str "position", rfl, he, rfl, ?_⟩
      exact ⟨by show 3 ≤ sizeLine; omega, fun t nt => R.no ho t _ (s1.trans (same_new nt _)) upd_same⟩
    · walk_at "rds"
      refine ⟨p, dx, _, rfl, h1, rfl, _, rfl, p, lp, n, ws, i, rfl, hn, hl, fun ho e H' s1 he => ?_, fun y ho hy H' hp => R.move y ho hy rfl H' hp⟩
      refine ⟨true, T.m_BB, fun _ a na => ?_, fun h => by cases h⟩
      walk_at "rds"
      refine ⟨e, _, .int 0, rfl, he, rfl, ?_⟩
      walk_at "rds"
      refine ⟨e, _, .str "position", rfl, he, rfl, ?_⟩
      exact ⟨by show 3 ≤ sizeLine; omega, fun t nt => R.no ho t _ (s1.trans (same_new nt _)) upd_same⟩
abbrev s__law_due : Stmt := top 16
abbrev N__law_due : List Str := ["model", "verb", "at", "packet"]
abbrev P__law_due : List Str := ["model", "verb", "at"]
theorem sc__law_due : FnScope N__law_due P__law_due (defScope s__law_due) := ⟨rfl, rfl, rfl, by decide +kernel, rfl, by decide +kernel, by decide +kernel⟩
theorem ok__law_due {f : Addr} {fd : FuncData} (T : Tx K mg CN CB) (F : Fun K "_law_due" "_law_due" s__law_due f fd) : FnOk P w K mg base CX0 (1) f fd P__law_due (sp_due) := by
  have nd := sc__law_due.nd
  refine F.ok sc__law_due (fun vs H Q E h => ?_) (fun cdv A outer s H vs Q E hr h => ?_)
  · obtain ⟨_, _, _, _, rfl, _⟩ := h
    rfl
  · obtain ⟨l, ws, z, i, rfl, h2, hl, h3, R⟩ := h
    have hs := sl
    refine ⟨_, (pss_cons (ps_if (PW.pt (pw_or (pt_cmpR op_lt (pv 2) pe_int (nomark _)) (pw_or1 (pt_cmpR op_ge (pv 2) (pe_callB call_len_seq (by rfl) T.b_len (by decide +kernel) (pa_cons (pv 0) pa_nil)) (nomark _)))))
        (pss_one (ps_ret (pe_tup (pa_cons pe_str (pa_cons pe_int (pa_cons pe_str pa_nil))))))
        pss_nil)
      (pss_cons (ps_if (pt_cmpR op_eq (pv 1) pe_str (nomark _))
        (pss_cons (ps_expr (pe_bm PySem.F.plainAttrs_list PySem.F.slot_list_append PySem.F.type_list_append mt_append (pv 0) (pa_cons (pe_ix ix_list (pv 0) (pv 2) (fun _ _ => rfl)) pa_nil)))
        (pss_one (ps_ret pe_non)))
        pss_nil)
      (pss_cons (ps_set (i := 3) nd rfl (Or.inl rfl) (pe_bm PySem.F.plainAttrs_list PySem.F.slot_list_pop PySem.F.type_list_pop mt_popAt (pv 0) (pa_cons (pv 2) pa_nil)))
      (pss_cons (ps_if (pt_cmpR op_eq (pv 1) pe_str (nomark _))
        (pss_cons (ps_expr (pe_bm PySem.F.plainAttrs_list PySem.F.slot_list_append PySem.F.type_list_append mt_append (pv 0) (pa_cons (pv 3) pa_nil)))
        (pss_one (ps_ret pe_non)))
        pss_nil)
      (pss_one (ps_ret (pv 3))))))), ?_⟩
    walk_at "rds"
    have nope : okPos i ws = false → [V.str "refused", V.int 0, V.str "position"].length ≤ sizeLine ∧ ∀ t, H t = none → Q (.ref t) (upd H t (.tup [.str "refused", .int 0, .str "position"])) := fun ho => ⟨by show 3 ≤ sizeLine; omega, fun t nt => R.no ho t _ (same_new nt _) upd_same⟩
    refine iB (fun h => ?_) (fun h => ?_)
    · have h : i < 0 := of_decide_eq_true h
      walk_at "rds"
      exact nope (by unfold okPos; rw [decide_eq_false (by omega)]; rfl)
    · have h : ¬ i < 0 := of_decide_eq_false h
      walk_at "rds"
      refine ⟨l, _, rfl, .inl (SqL.of h2), ?_⟩
      walk_at "rds"
      refine iB (fun h' => ?_) (fun h' => ?_)
      · have h' : (ws.length : Int) ≤ i := by have := of_decide_eq_true h'; omega
        walk_at "rds"
        exact nope (by unfold okPos; rw [decide_eq_false (show ¬ i < (ws.length : Int) by omega), Bool.and_false])
      · have h' : ¬ (ws.length : Int) ≤ i := by have := of_decide_eq_false h'; omega
        have ho : okPos i ws = true := by unfold okPos; rw [decide_eq_true (by omega), decide_eq_true (by omega)]; rfl
        obtain ⟨y, hy, ha, i0, i1⟩ := okPos_at ho
        have le := List.length_eraseIdx_le ws i.toNat
        rcases h3 with rfl | rfl | rfl
        · walk_at "rds"
          refine ⟨.inl ⟨rfl, _, SqL.of h2⟩, ?_⟩
          walk_at "rds"
          refine ⟨l, ws, i, i.toNat, y, rfl, rfl, h2, by omega, by omega, seq_at i0 i1, hy, ?_⟩
          walk_at "rds"
          exact R.take y ho hy rfl _ (put_upd _ _ _)
        · walk_at "rds"
          refine ⟨.inl ⟨rfl, _, SqL.of h2⟩, ?_⟩
          walk_at "rds"
          refine ⟨l, _, _, y, rfl, rfl, SqL.of h2, ha, ?_⟩
          walk_at "rds"
          refine ⟨l, _, _, rfl, rfl, h2, by omega, ?_⟩
          exact R.double y ho hy rfl _ (put_upd _ _ _)
        · walk_at "rds"
          refine ⟨.inl ⟨rfl, _, SqL.of h2⟩, ?_⟩
          walk_at "rds"
          refine ⟨l, ws, i, i.toNat, y, rfl, rfl, h2, by omega, by omega, seq_at i0 i1, hy, ?_⟩
          walk_at "rds"
          refine ⟨.inl ⟨rfl, _, SqL.of upd_same⟩, ?_⟩
          walk_at "rds"
          refine ⟨l, _, _, rfl, rfl, upd_same, by omega, ?_⟩
          exact R.move y ho hy rfl _ (put_upd _ _ _).upd
def sp_lpos : Sp := fun vs H Q _ => ∃ (p : Addr) (c n : Int), vs = [.ref p, .int n] ∧ Bag p c H ∧ 0 ≤ n ∧ n ≤ 1000 ∧ ∀ r H', But p H H' → Bag p c H' → Q (.int r) H'
abbrev s__law_position : Stmt := top 17
abbrev N__law_position : List Str := ["bag", "size", "choice"]
abbrev P__law_position : List Str := ["bag", "size"]
theorem sc__law_position : FnScope N__law_position P__law_position (defScope s__law_position) := ⟨rfl, rfl, rfl, by decide +kernel, rfl, by decide +kernel, by decide +kernel⟩
theorem ok__law_position {f : Addr} {fd : FuncData} (T : Tx K mg CN CB) (c__law_draw : DefOk P w K mg base CX0 "_law_draw" P__law_draw 1 (sp_draw))(F : Fun K "_law_position" "_law_position" s__law_position f fd) : FnOk P w K mg base CX0 (2) f fd P__law_position (sp_lpos) := by
  have nd := sc__law_position.nd
  refine F.ok sc__law_position (fun vs H Q E h => ?_) (fun cdv A outer s H vs Q E hr h => ?_)
  · obtain ⟨_, _, _, rfl, _⟩ := h
    rfl
  · obtain ⟨p, c, n, rfl, g, n0, n1, q⟩ := h
    have hs := sl
    refine ⟨_, (pss_cons (ps_set (i := 2) nd rfl (Or.inl rfl) (pcall c__law_draw hr (pa_cons (pv 0) (pa_cons pe_int pa_nil))))
      (pss_cons (ps_if (pt_cmpR op_eq (pv 2) pe_int (nomark _))
        (pss_one (ps_ret (pe_ix ix_list (pe_lst (pa_cons (pe_un un_neg pe_int) (pa_cons (pv 1) (pa_cons (pe_op op_add (pv 1) pe_int) (pa_cons (pe_op op_pow pe_int pe_int) (pa_cons (pe_op op_sub (pe_un un_neg pe_int) (pv 1)) (pa_cons (pe_un un_neg pe_int) pa_nil))))))) (pcall c__law_draw hr (pa_cons (pv 0) (pa_cons pe_int pa_nil))) (fun _ _ => rfl))))
        pss_nil)
      (pss_one (ps_ret (pcall c__law_draw hr (pa_cons (pv 0) (pa_cons (pe_op op_add (pv 1) pe_int) pa_nil))))))), ?_⟩
    refine ⟨_, rfl, p, c, _, rfl, g, by decide, by decide, fun r H1 r0 r1 b1 g1 => ?_⟩
    walk_at "rds"
    refine iB (fun _ => ?_) (fun _ => ?_)
    · walk_at "rds"
      refine ⟨by show 6 ≤ sizeLine; omega, fun t nt => ?_⟩
      have pt := g1.ne nt
      have g2 : Bag p c (upd H1 t (.lst [.int (-1), .int n, .int (n + 1), .int (10 ^ Int.toNat 12), .int (-1 - n), .int (-2)])) := g1.upd pt
      refine ⟨_, rfl, p, c, _, rfl, g2, by decide, by decide, fun r2 H2 s0 s1 b2 g3 => ?_⟩
      obtain ⟨x, _, hx⟩ := atI_intsU (ns := [-1, n, n + 1, 10 ^ Int.toNat 12, -1 - n, -2]) s0 (by show r2 < 6; omega)
      refine ⟨t, _, _, .int x, rfl, rfl, SqL.of (b2 _ _ upd_same pt.symm), hx, ?_⟩
      exact q _ _ ((b1.trans (.of (same_new nt _))).trans b2) g3
    · walk_at "rds"
      refine ⟨p, c, _, rfl, g1, by omega, by omega, fun r2 H2 s0 s1 b2 g2 => ?_⟩
      exact q _ _ (b1.trans b2) g2
/-- net and list agree -/
def sp_right (CN : Addr) : Sp := fun vs H Q _ => ∃ (p lp m : Addr) (n : Int) (us ws : List V) (ds : List PyData), vs = [.ref p, .ref m] ∧ NAt CN H p lp n us ∧ H m = some (.lst ws) ∧ TDs H us ds ∧ TDs H ws ds ∧ (∀ d ∈ ds, Gd d) ∧ ds.length ≤ 1000 ∧ ∀ H', Same H H' → Q (.bl true) H'
abbrev s__law_right : Stmt := top 18
abbrev N__law_right : List Str := ["net", "model", "packets"]
abbrev P__law_right : List Str := ["net", "model"]
theorem sc__law_right : FnScope N__law_right P__law_right (defScope s__law_right) := ⟨rfl, rfl, rfl, by decide +kernel, rfl, by decide +kernel, by decide +kernel⟩
theorem ok__law_right {f : Addr} {fd : FuncData} (T : Tx K mg CN CB) (m_Net_packets : MethOk P w K mg base CX0 CN "packets" P_Net_packets 1 (sp_packs CN)) (F : Fun K "_law_right" "_law_right" s__law_right f fd) : FnOk P w K mg base CX0 2 f fd P__law_right (sp_right CN) := by
  have nd := sc__law_right.nd
  refine F.ok sc__law_right (fun vs H Q E h => ?_) (fun cdv A outer s H vs Q E hr h => ?_)
  · obtain ⟨_, _, _, _, _, _, _, rfl, _⟩ := h
    rfl
  · obtain ⟨p, lp, m, n, us, ws, ds, rfl, hn, hm, tu, tw, gd, hl, q⟩ := h
    have hs := sl
    have hu := hu_of hr
    have c1 := T.cl_Net
    obtain ⟨⟨dx, g, h1⟩, h2⟩ := id hn
    obtain ⟨g1, g2⟩ := gd_list gd
    have lu := tu.length
    refine ⟨_, (pss_cons (ps_set (i := 2) nd rfl (Or.inl rfl) (pmeth0 m_Net_packets T.cl_Net (pv 0) hr))
      (pss_cons (ps_if (PW.pt (pw_or (pt_not (pt_val (pe_callB call_isi (by rfl) T.b_isinstance (by decide +kernel) (pa_cons (pv 2) (pa_cons (pe_ty "list" T.b_list) pa_nil))))) (pw_or1 (pt_cmpR (op_neD hr.units) (pv 2) (pv 1) (nomark _)))))
        (pss_one (ps_ret pe_bl))
        pss_nil)
      (pss_cons (ps_expr (pe_bm PySem.F.plainAttrs_list PySem.F.slot_list_append PySem.F.type_list_append mt_append (pv 2) (pa_cons pe_int pa_nil)))
      (pss_cons (ps_expr (pe_bm0 PySem.F.plainAttrs_list PySem.F.slot_list_reverse PySem.F.type_list_reverse mt_reverse (pv 2)))
      (pss_one (ps_ret (pe_cmpR (op_eqD hr.units) (pmeth0 m_Net_packets T.cl_Net (pv 0) hr) (pv 1) (nomark _)))))))), ?_⟩
    walk_at "rds"
    refine ⟨p, dx, _, rfl, h1, rfl, ?_⟩
    refine ⟨p, lp, n, us, rfl, hn, fun u nu => ?_⟩
    have su := same_new nu (.lst us)
    walk_at "rds"
    refine ⟨_, _, _, _, true, rfl, .ty _, .base (.lst upd_same), kit_ty (by decide +kernel), ?_⟩
    walk_at "rds"
    refine ⟨.list ds, .list ds, .lst (SqL.of upd_same) (tu.mono fun b xs h => su _ _ h).dp, .lst (SqL.of (su _ _ hm)) (tw.mono fun b xs h => su _ _ h).dp, g1, g1, ?_⟩
    rw [g2]
    walk_at "rds"
    refine ⟨.inl ⟨rfl, _, SqL.of upd_same⟩, ?_⟩
    walk_at "rds"
    refine ⟨u, _, _, rfl, rfl, upd_same, by omega, ?_⟩
    have s2 : Same H (upd (upd H u (.lst us)) u (.lst (us ++ [V.int 0]))) := by rw [upd_upd]; exact same_new nu _
    have e2 : (upd (upd H u (.lst us)) u (.lst (us ++ [V.int 0]))) u = some (.lst (us ++ [V.int 0])) := upd_same
    generalize upd (upd H u (.lst us)) u (.lst (us ++ [V.int 0])) = H2 at *
    walk_at "rds"
    refine ⟨.inl ⟨rfl, _, SqL.of e2⟩, ?_⟩
    walk_at "rds"
    refine ⟨u, _, rfl, rfl, e2, ?_⟩
    have s3 : Same H (upd H2 u (.lst (us ++ [V.int 0]).reverse)) := fun b o hb => by rw [upd_ne (ne_of_none hb nu)]; exact s2 _ _ hb
    generalize upd H2 u (.lst (us ++ [V.int 0]).reverse) = H3 at *
    walk_at "rds"
    refine ⟨p, dx, _, rfl, s3 _ _ h1, rfl, ?_⟩
    refine ⟨p, lp, n, us, rfl, hn.same s3, fun u2 nu2 => ?_⟩
    have s4 := s3.trans (same_new nu2 (.lst us))
    walk_at "rds"
    trace_state
    refine ⟨.list ds, .list ds, .lst (SqL.of upd_same) (tu.mono fun b xs h => s4 _ _ h).dp, .lst (SqL.of (s4 _ _ hm)) (tw.mono fun b xs h => s4 _ _ h).dp, g1, g1, ?_⟩
    rw [g2]
    exact q _ s4
end
end Mus

set_option maxRecDepth 100000
set_option maxHeartbeats 4000000
namespace Mus
open PySem L2
local macro_rules | `(tactic| walk_at "rd") => `(tactic| first
  | refine ⟨_, rfl, ?_⟩ | refine ⟨(True.intro : True), ?_⟩
  | refine ⟨_, _, rfl, rfl, (⟨by decide, by decide, by decide⟩ : CPow _ _), ?_⟩
  | refine ⟨_, _, rfl, rfl, (⟨by decide, by decide⟩ : CDiv _ _), ?_⟩
  | refine ⟨_, _, rfl, rfl, (by show (0 : Int) < _; decide), ?_⟩
  | refine ⟨_, _, rfl, rfl, ?_⟩ | refine ⟨rfl, ?_⟩ | refine iteT ?_ | refine iteF ?_ | refine ⟨_, _, rfl, ?_⟩ | refine .inl ⟨_, rfl, ?_⟩
  | refine ⟨_, _, _, _, _, rfl, (by assumption), (by assumption), (by assumption), rfl, ?_⟩ | refine ⟨_, _, _, _, rfl, rfl, SqT.of (by assumption), rfl, ?_⟩ | refine ⟨_, _, rfl, SqT.of (by assumption), rfl, ?_⟩
  | refine ⟨_, _, _, _, _, rfl, .ty _, Rp.ty (by assumption), kit_int _, ?_⟩ | refine ⟨_, _, _, _, _, rfl, .ty _, Rp.ty (by assumption), kit_bool _, ?_⟩
  | refine ⟨_, _, _, _, _, rfl, .ty _, Rp.ty (by assumption), kit_str _, ?_⟩ | refine ⟨_, _, _, _, _, rfl, .ty _, Rp.ty (by assumption), kit_tup _, ?_⟩)
local macro_rules | `(tactic| walk_at "cal") => `(tactic| first
  | refine ⟨_, _, _, _, _, rfl, (by assumption), ?_⟩ | refine ⟨_, _, _, _, _, rfl, (by assumption), (by assumption), ?_⟩)
local macro_rules | `(tactic| walk_at "sq") => `(tactic| first
  | refine ⟨_, _, rfl, Or.inr (SqT.of (by assumption)), ?_⟩ | refine ⟨_, _, _, _, rfl, rfl, SqT.of (by assumption), rfl, ?_⟩)
local macro_rules | `(tactic| walk_at "rds") => `(tactic| repeat first | walk_at "rd" | walk_at "cal" | walk_at "sq")
local macro_rules | `(tactic| walk_at "ze") => `(tactic| repeat first
  | exact zes_nil | exact ze_bl | exact ze_str | exact ze_non | apply zes_cons | apply ze_tup | apply ze_lst | apply ze_cat | exact di_c | exact di_v rfl | apply di_opC | apply di_op | apply di_neg | apply ze_i | (refine (⟨?_, ?_, ?_⟩ : CPow _ _) <;> decide) | exact Nat.le_of_ble_eq_true rfl | exact ze_varD rfl (by assumption))
local macro_rules | `(tactic| walk_at "rdz") => `(tactic| repeat (fail_if_success (first | show tLst _ _ _ _ | show tAsg (tLst _) _ _ _ _ | show tSeq (tAsg (tLst _) _) _ _ _ _)); first | walk_at "rd" | walk_at "cal" | walk_at "sq")
/-- the two nets and the two lists, the pair at (p, lp, m) first -/
structure Two (CN : Addr) (H0 H : Hp) (n : Int) (tn tm : Addr) (xs ys : List V) (k : Nat) (p lp m p' lp' m' : Addr) : Prop where
  s : Same H0 H
  f0 : H0 p = none
  f1 : H0 lp = none
  f2 : H0 m = none
  f3 : H0 p' = none
  f4 : H0 lp' = none
  f5 : H0 m' = none
  ht : H tn = some (.lst xs)
  hm : H tm = some (.lst ys)
  n0 : tn ≠ lp ∧ tn ≠ m ∧ tn ≠ lp' ∧ tn ≠ m' ∧ tm ≠ lp ∧ tm ≠ m ∧ tm ≠ lp' ∧ tm ≠ m'
  n1 : lp ≠ m ∧ lp ≠ lp' ∧ lp ≠ m' ∧ m ≠ lp' ∧ m ≠ m' ∧ lp' ≠ m' ∧ p ≠ p'
  a : ∃ us ws ds, NAt CN H p lp n us ∧ H m = some (.lst ws) ∧ TDs H us ds ∧ TDs H ws ds ∧ (∀ d ∈ ds, Gd d) ∧ ds.length ≤ k
  b : ∃ us ws ds, NAt CN H p' lp' n us ∧ H m' = some (.lst ws) ∧ TDs H us ds ∧ TDs H ws ds ∧ (∀ d ∈ ds, Gd d) ∧ ds.length ≤ k
theorem s_higher : PyData.strOk "higher" = true := by decide +kernel
theorem td_tup {H : Hp} {t : Addr} {vs : List V} {ds : List PyData} (nt : H t = none) (r : TDs H vs ds) : TD (upd H t (.tup vs)) (.ref t) (.tuple ds) :=
  .tup upd_same (r.mono fun _ _ h => same_new nt _ _ _ h)
theorem TD.same {H H' : Hp} (s : Same H H') {v : V} {d : PyData} (t : TD H v d) : TD H' v d := t.mono fun _ _ h => s _ _ h
theorem TD.but {H H' : Hp} {b : Addr} {c : Int} (g : Bag b c H) (k : But b H H') {v : V} {d : PyData} (t : TD H v d) : TD H' v d := t.mono fun e xs h => k _ _ h fun z => by
  obtain ⟨x, y, g⟩ := g
  rw [z, g] at h; cases h
def R0 : PyData := .tuple [.str "refused", .int 0, .str "position"]
theorem s_refused : PyData.strOk "refused" = true := by decide +kernel
theorem s_position : PyData.strOk "position" = true := by decide +kernel
theorem r0_gd : SeqAt.shaped R0 = true ∧ PyData.eqv R0 R0 = true := gd_one ⟨⟨_, rfl⟩, by simp [R0, PyData.canLay0, PyData.canLayAll0, s_refused, s_position], by simp [R0, PyData.depth, PyData.depthAll]⟩
theorem okPos_len {i : Int} {us ws : List V} (h : us.length = ws.length) : okPos i us = okPos i ws := by unfold okPos; rw [h]
theorem Put.tup {l : Addr} {H H' : Hp} {xs ys : List V} (h : Put l H H' xs) (hl : H l = some (.lst ys)) : ∀ c zs, H c = some (HO.tup zs) → H' c = some (.tup zs) := fun c zs hc => by
  rw [h.2 c (ne_of hc hl (by intro z; cases z))]; exact hc
theorem Two.swap {CN : Addr} {H0 H : Hp} {n : Int} {tn tm : Addr} {xs ys : List V} {k : Nat} {p lp m p' lp' m' : Addr} (t : Two CN H0 H n tn tm xs ys k p lp m p' lp' m') : Two CN H0 H n tn tm xs ys k p' lp' m' p lp m := by
  obtain ⟨s, f0, f1, f2, f3, f4, f5, ht, hm, ⟨a1, a2, a3, a4, a5, a6, a7, a8⟩, ⟨b1, b2, b3, b4, b5, b6, b7⟩, a, b⟩ := t
  exact ⟨s, f3, f4, f5, f0, f1, f2, ht, hm, ⟨a3, a4, a1, a2, a7, a8, a5, a6⟩, ⟨b6, b2.symm, b4.symm, b3.symm, b5.symm, b1, b7.symm⟩, b, a⟩
theorem Two.same {CN : Addr} {H0 H H' : Hp} {n : Int} {tn tm : Addr} {xs ys : List V} {k k' : Nat} {p lp m p' lp' m' : Addr} (t : Two CN H0 H n tn tm xs ys k p lp m p' lp' m') (s' : Same H H') (hk : k ≤ k') : Two CN H0 H' n tn tm xs ys k' p lp m p' lp' m' := by
  obtain ⟨s, f0, f1, f2, f3, f4, f5, ht, hm, n0, n1, ⟨us, ws, ds, a1, a2, a3, a4, a5, a6⟩, ⟨us', ws', ds', b1, b2, b3, b4, b5, b6⟩⟩ := t
  exact ⟨s.trans s', f0, f1, f2, f3, f4, f5, s' _ _ ht, s' _ _ hm, n0, n1, ⟨us, ws, ds, a1.same s', s' _ _ a2, a3.mono fun _ _ h => s' _ _ h, a4.mono fun _ _ h => s' _ _ h, a5, by omega⟩, ⟨us', ws', ds', b1.same s', s' _ _ b2, b3.mono fun _ _ h => s' _ _ h, b4.mono fun _ _ h => s' _ _ h, b5, by omega⟩⟩
/-- only the first pair has changed -/
theorem Two.put {CN : Addr} {H0 H H' : Hp} {n : Int} {tn tm : Addr} {xs ys : List V} {k k' : Nat} {p lp m p' lp' m' : Addr} {us ws : List V} {ds : List PyData} (t : Two CN H0 H n tn tm xs ys k p lp m p' lp' m') (hk : k ≤ k')
    (o : ∀ b o, H b = some o → b ≠ p → b ≠ lp → b ≠ m → H' b = some o) (hn : NAt CN H' p lp n us) (hm : H' m = some (.lst ws)) (tu : TDs H' us ds) (tw : TDs H' ws ds) (gd : ∀ d ∈ ds, Gd d) (hl : ds.length ≤ k') : Two CN H0 H' n tn tm xs ys k' p lp m p' lp' m' := by
  obtain ⟨s, f0, f1, f2, f3, f4, f5, ht, hm', ⟨a1, a2, a3, a4, a5, a6, a7, a8⟩, ⟨b1, b2, b3, b4, b5, b6, b7⟩, ⟨us0, ws0, ds0, ⟨⟨dx0, g0, q1⟩, q2⟩, q3, _⟩, ⟨us', ws', ds', ⟨⟨dx, g, c1⟩, c2⟩, c3, c4, c5, c6, c7⟩⟩ := t
  have nx : ∀ {b xs}, H b = some (.lst xs) → b ≠ p := fun h => ne_of h q1 (by intro z; cases z)
  have nt : ∀ {b xs}, H b = some (.tup xs) → b ≠ p ∧ b ≠ lp ∧ b ≠ m := fun h => ⟨ne_of h q1 (by intro z; cases z), ne_of h q2 (by intro z; cases z), ne_of h q3 (by intro z; cases z)⟩
  have ni : ∀ {b dx fs}, H b = some (.ins CN dx fs) → b ≠ lp ∧ b ≠ m := fun h => ⟨ne_of h q2 (by intro z; cases z), ne_of h q3 (by intro z; cases z)⟩
  have kt : ∀ b xs, H b = some (.tup xs) → H' b = some (.tup xs) := fun b xs h => o _ _ h (nt h).1 (nt h).2.1 (nt h).2.2
  refine ⟨fun b u hb => o _ _ (s _ _ hb) (ne_of_none hb f0) (ne_of_none hb f1) (ne_of_none hb f2), f0, f1, f2, f3, f4, f5, o _ _ ht (nx ht) a1 a2, o _ _ hm' (nx hm') a5 a6, ⟨a1, a2, a3, a4, a5, a6, a7, a8⟩, ⟨b1, b2, b3, b4, b5, b6, b7⟩, ⟨us, ws, ds, hn, hm, tu, tw, gd, hl⟩,
    ⟨us', ws', ds', ⟨⟨dx, g, o _ _ c1 b7.symm (ni c1).1 (ni c1).2⟩, o _ _ c2 (nx c2) b2.symm b4.symm⟩, o _ _ c3 (nx c3) b3.symm b5.symm, c4.mono kt, c5.mono kt, c6, by omega⟩⟩
def sp_law (K : PySem.W.Frag) : Sp := fun vs H Q _ => ∃ (a : Addr) (ns : List Int), vs = [.ref a] ∧ SqL K H a (ns.map V.int) ∧ ns.length ≤ 63 ∧ ∀ H', Q (.bl true) H'
section
variable {P : Program} {w : World} {K : PySem.W.Frag} {mg : Str → Option Value} {base : Heap} {CN CB : Addr}
abbrev s_law : Stmt := top 19
abbrev N_law : List Str := ["script", "first", "count", "nets", "models", "k", "bag", "number", "net", "model", "verb", "sender", "letter", "packet", "at", "due", "actual"]
abbrev P_law : List Str := ["script"]
theorem sc_law : FnScope N_law P_law (defScope s_law) := ⟨rfl, rfl, rfl, by decide +kernel, rfl, by decide +kernel, by decide +kernel⟩
theorem ok_law {f : Addr} {fd : FuncData} (T : Tx K mg CN CB) (k_Net : MkOk P w K mg base CN "Net" P_Net___init__ 1 (sp_ninit CN)) (m_Net_send : MethOk P w K mg base CX0 CN "send" P_Net_send 1 (sp_send CN)) (m_Net_part : MethOk P w K mg base CX0 CN "part" P_Net_part 4 (sp_part CN)) (m_Net_heal : MethOk P w K mg base CX0 CN "heal" P_Net_heal 5 (sp_heal CN))
    (c__law_bag : DefOk P w K mg base CX0 "_law_bag" P__law_bag 1 (sp_bag K)) (c__law_draw : DefOk P w K mg base CX0 "_law_draw" P__law_draw 1 (sp_draw)) (c__law_position : DefOk P w K mg base CX0 "_law_position" P__law_position 2 (sp_lpos)) (c__law_due : DefOk P w K mg base CX0 "_law_due" P__law_due 1 (sp_due)) (c__law_call : DefOk P w K mg base CX0 "_law_call" P__law_call 6 (sp_call CN)) (c__law_right : DefOk P w K mg base CX0 "_law_right" P__law_right 2 (sp_right CN)) (F : Fun K "law" "law" s_law f fd) : FnOk P w K mg base CX0 7 f fd P_law (sp_law K) := by
  have nd := sc_law.nd
  refine F.ok sc_law (fun vs H Q E h => ?_) (fun cdv A outer s H vs Q E hr h => ?_)
  · obtain ⟨_, _, rfl, _⟩ := h
    rfl
  · obtain ⟨a, ns, rfl, hS, hlen, q⟩ := h
    have hu := hu_of hr
    have hs := sl
    have c1 := T.cl_Net
    refine ⟨_, (pss_cons (ps_set (i := 1) nd rfl (Or.inl rfl) (pcall c__law_bag hr (pa_cons (pv 0) (pa_cons pe_int pa_nil))))
      (pss_cons (ps_set (i := 2) nd rfl (Or.inl rfl) (pe_op op_add pe_int (pcall c__law_draw hr (pa_cons (pv 1) (pa_cons pe_int pa_nil)))))
      (pss_cons (ps_set (i := 3) nd rfl (Or.inl rfl) (pe_lst (pa_cons (pmake k_Net hr (pa_cons (pv 2) pa_nil)) (pa_cons (pmake k_Net hr (pa_cons (pv 2) pa_nil)) pa_nil))))
      (pss_cons (ps_set (i := 4) nd rfl (Or.inl rfl) (pe_lst (pa_cons (pe_lst pa_nil) (pa_cons (pe_lst pa_nil) pa_nil))))
      (pss_cons (ps_for PassesOwn.never rfl (pi_range1 (by rfl) T.b_range (pa_cons (pe_callB call_len_seq (by rfl) T.b_len (by decide +kernel) (pa_cons (pv 0) pa_nil)) pa_nil)) (pg_name (i := 5) nd rfl (Or.inl rfl))
        (pss_cons (ps_set (i := 6) nd rfl (Or.inl rfl) (pcall c__law_bag hr (pa_cons (pv 0) (pa_cons (pv 5) pa_nil))))
        (pss_cons (ps_set (i := 7) nd rfl (Or.inl rfl) (pe_op op_mod (pcall c__law_draw hr (pa_cons (pv 6) (pa_cons pe_int pa_nil))) pe_int))
        (pss_cons (ps_set (i := 8) nd rfl (Or.inl rfl) (pe_ix ix_list (pv 3) (pv 7) (fun _ _ => rfl)))
        (pss_cons (ps_set (i := 9) nd rfl (Or.inl rfl) (pe_ix ix_list (pv 4) (pv 7) (fun _ _ => rfl)))
        (pss_cons (ps_set (i := 10) nd rfl (Or.inl rfl) (pe_ix ix_list (pe_lst (pa_cons pe_str (pa_cons pe_str (pa_cons pe_str (pa_cons pe_str (pa_cons pe_str (pa_cons pe_str (pa_cons pe_str (pa_cons pe_str (pa_cons pe_str pa_nil)))))))))) (pcall c__law_draw hr (pa_cons (pv 6) (pa_cons pe_int pa_nil))) (fun _ _ => rfl)))
        (C8.pss_cut (ps_if (pt_cmpR op_eq (pv 10) pe_str (nomark _))
          (pss_cons (ps_set (i := 11) nd rfl (Or.inl rfl) (pcall c__law_draw hr (pa_cons (pv 6) (pa_cons (pv 2) pa_nil))))
          (pss_cons (ps_set (i := 12) nd rfl (Or.inl rfl) (pe_tup (pa_cons pe_str (pa_cons (pe_tup (pa_cons (pv 11) (pa_cons (pe_op op_add pe_int (pv 5)) pa_nil))) (pa_cons (pe_tup (pa_cons (pv 5) (pa_cons (pe_tup (pa_cons (pv 11) (pa_cons pe_int pa_nil))) pa_nil))) (pa_cons (pe_tup (pa_cons (pe_op op_add (pv 5) pe_int) (pa_cons (pe_tup (pa_cons pe_int (pa_cons pe_int pa_nil))) pa_nil))) pa_nil))))))
          (pss_cons (ps_set (i := 13) nd rfl (Or.inl rfl) (pe_tup (pa_cons (pv 11) (pa_cons (pcall c__law_draw hr (pa_cons (pv 6) (pa_cons (pv 2) pa_nil))) (pa_cons (pv 12) pa_nil)))))
          (pss_cons (ps_if (pt_cmpR op_notN (pmeth m_Net_send T.cl_Net (pv 8) hr (pa_cons (pe_ix ix_tup (pv 13) pe_int (fun _ _ => rfl)) (pa_cons (pe_ix ix_tup (pv 13) pe_int (fun _ _ => rfl)) (pa_cons (pe_ix ix_tup (pv 13) pe_int (fun _ _ => rfl)) pa_nil)))) pe_non (nomark _))
            (pss_one (ps_ret pe_bl))
            pss_nil)
          (pss_one (ps_expr (pe_bm PySem.F.plainAttrs_list PySem.F.slot_list_append PySem.F.type_list_append mt_append (pv 9) (pa_cons (pv 13) pa_nil))))))))
          (pss_one (ps_if (pt_cmpR op_eq (pv 10) pe_str (nomark _))
            (pss_one (ps_expr (pmeth m_Net_part T.cl_Net (pv 8) hr (pa_cons (pe_tup (pa_cons (pe_tup (pa_cons (pcall c__law_draw hr (pa_cons (pv 6) (pa_cons (pv 2) pa_nil))) pa_nil)) pa_nil)) pa_nil))))
            (pss_one (ps_if (pt_cmpR op_eq (pv 10) pe_str (nomark _))
              (pss_one (ps_expr (pmeth0 m_Net_heal T.cl_Net (pv 8) hr)))
              (pss_cons (ps_set (i := 14) nd rfl (Or.inl rfl) (pcall c__law_position hr (pa_cons (pv 6) (pa_cons (pe_callB call_len_seq (by rfl) T.b_len (by decide +kernel) (pa_cons (pv 9) pa_nil)) pa_nil))))
              (pss_cons (ps_set (i := 15) nd rfl (Or.inl rfl) (pcall c__law_due hr (pa_cons (pv 9) (pa_cons (pv 10) (pa_cons (pv 14) pa_nil)))))
              (pss_cons (ps_set (i := 16) nd rfl (Or.inl rfl) (pcall c__law_call hr (pa_cons (pv 8) (pa_cons (pv 10) (pa_cons (pv 14) pa_nil)))))
              (pss_one (ps_if (PW.pt (pw_or (PW.pt (pw_and (pt_cmpR op_isN (pv 15) pe_non (nomark _)) (pw_and1 (pt_cmpR op_notN (pv 16) pe_non (nomark _))))) (pw_or (pt_cmpR (op_neD hr.units) (pv 16) (pv 15) (nomark _)) (pw_or1 (PW.pt (pw_and (pt_cmpR op_notN (pv 15) pe_non (nomark _)) (pw_and1 (pt_not (pt_val (pe_callB call_isi (by rfl) T.b_isinstance (by decide +kernel) (pa_cons (pv 16) (pa_cons (pe_ty "tuple" T.b_tuple) pa_nil))))))))))))
                (pss_one (ps_ret pe_bl))
                pss_nil))))))))))
        (pss_one (ps_if (PW.pt (pw_or (pt_not (pt_val (pcall c__law_right hr (pa_cons (pe_ix ix_list (pv 3) pe_int (fun _ _ => rfl)) (pa_cons (pe_ix ix_list (pv 4) pe_int (fun _ _ => rfl)) pa_nil))))) (pw_or1 (pt_not (pt_val (pcall c__law_right hr (pa_cons (pe_ix ix_list (pv 3) pe_int (fun _ _ => rfl)) (pa_cons (pe_ix ix_list (pv 4) pe_int (fun _ _ => rfl)) pa_nil))))))))
          (pss_one (ps_ret pe_bl))
          pss_nil)))))))))
      (pss_one (ps_ret pe_bl))))))), ?_⟩
    refine ⟨_, rfl, a, ns, 0, rfl, hS, fun b0 H1 nb0 s1 g1 => ?_⟩
    walk_at "rds"
    refine ⟨b0, _, 12, rfl, g1, by decide, by decide, fun r H2 r0 r1 b2 g2 => ?_⟩
    have s2 : Same H H2 := fun b o hb => b2 _ _ (s1 _ _ hb) (ne_of_none hb nb0)
    walk_at "rds"
    have n1 : 1 ≤ 1 + r := by omega
    have n2 : 1 + r ≤ 12 := by omega
    refine fun p1 dx1 np1 ndx1 ndp1 => ⟨p1, dx1, 1 + r, rfl, upd_same, n1, n2, fun l1 H3 nl1 hh1 fr1 => ⟨rfl, ?_⟩⟩
    have s3 : Same H2 H3 := fun b o hb => fr1 b o (by rw [upd_ne (ne_of_none hb np1), upd_ne (ne_of_none hb ndx1)]; exact hb) (ne_of_none hb np1)
    have nl1' : H2 l1 = none := by
      cases e : H2 l1 with
      | none => rfl
      | some o => rw [upd_ne (ne_of_none e np1), upd_ne (ne_of_none e ndx1), e] at nl1; cases nl1
    refine ⟨_, rfl, ?_⟩
    refine fun p2 dx2 np2 ndx2 ndp2 => ⟨p2, dx2, 1 + r, rfl, upd_same, n1, n2, fun l2 H4 nl2 hh2 fr2 => ⟨rfl, ?_⟩⟩
    have s4 : Same H3 H4 := fun b o hb => fr2 b o (by rw [upd_ne (ne_of_none hb np2), upd_ne (ne_of_none hb ndx2)]; exact hb) (ne_of_none hb np2)
    have nl2' : H3 l2 = none := by
      cases e : H3 l2 with
      | none => rfl
      | some o => rw [upd_ne (ne_of_none e np2), upd_ne (ne_of_none e ndx2), e] at nl2; cases nl2
    have free : ∀ {Ha Hb : Hp} {b : Addr}, Same Ha Hb → Hb b = none → Ha b = none := fun {Ha Hb b} s' h' => by
      cases e : Ha b with
      | none => rfl
      | some o => rw [s' _ _ e] at h'; cases h'
    refine ⟨by show 2 ≤ sizeLine; omega, fun tn ntn => ?_⟩
    refine ⟨by show 0 ≤ sizeLine; omega, fun m1 nm1 => ?_⟩
    refine ⟨by show 0 ≤ sizeLine; omega, fun m2 nm2 => ?_⟩
    refine ⟨by show 2 ≤ sizeLine; omega, fun tm ntm => ?_⟩
    have sA := same_new ntn (.lst [.ref p1, .ref p2])
    have sB := same_new nm1 (.lst [])
    have sC := same_new nm2 (.lst [])
    have sD := same_new ntm (.lst [.ref m1, .ref m2])
    have u1 : (upd H4 tn (.lst [.ref p1, .ref p2])) tn = some (.lst [.ref p1, .ref p2]) := upd_same
    revert sA sB sC sD u1
    have sAC : Same H4 (upd (upd (upd H4 tn (.lst [.ref p1, .ref p2])) m1 (.lst [])) m2 (.lst [])) := (same_new ntn _).trans ((same_new nm1 _).trans (same_new nm2 _))
    intro sA sB sC sD u1
    obtain ⟨dx', g', o1⟩ := hh1.ob
    obtain ⟨dx'', g'', o2⟩ := hh2.ob
    have hh1' := hh1.same s4
    have hm1 := (upd_same : (upd (upd H4 tn (.lst [.ref p1, .ref p2])) m1 (.lst [])) m1 = some (.lst []))
    have hm2 := (upd_same : (upd (upd (upd H4 tn (.lst [.ref p1, .ref p2])) m1 (.lst [])) m2 (.lst [])) m2 = some (.lst []))
    have Tw : Two CN H (upd (upd (upd (upd H4 tn (.lst [.ref p1, .ref p2])) m1 (.lst [])) m2 (.lst [])) tm (.lst [.ref m1, .ref m2])) (1 + r) tn tm [.ref p1, .ref p2] [.ref m1, .ref m2] 0 p1 l1 m1 p2 l2 m2 := by
      have s24 : Same H H4 := s2.trans (s3.trans s4)
      have s34 : Same H H3 := s2.trans s3
      refine ⟨s24.trans (sAC.trans sD), free s2 np1, free s2 nl1', free (s24.trans sA) nm1, free s34 np2, free s34 nl2', free (s24.trans (sA.trans sB)) nm2, sD _ _ (sC _ _ (sB _ _ u1)), upd_same, ⟨?_, ?_, ?_, ?_, ?_, ?_, ?_, ?_⟩, ⟨?_, ?_, ?_, ?_, ?_, ?_, ?_⟩, ⟨[], [], [], hh1'.same (sAC.trans sD), sD _ _ (sC _ _ hm1), .nil, .nil, (fun d h => by cases h), Nat.le_refl _⟩, ⟨[], [], [], hh2.same (sAC.trans sD), sD _ _ hm2, .nil, .nil, (fun d h => by cases h), Nat.le_refl _⟩⟩
      · exact (ne_of_none hh1'.hl ntn).symm
      · exact ne_of_none u1 nm1
      · exact (ne_of_none hh2.hl ntn).symm
      · exact ne_of_none (sB _ _ u1) nm2
      · exact (ne_of_none (sAC _ _ hh1'.hl) ntm).symm
      · exact (ne_of_none (sC _ _ hm1) ntm).symm
      · exact (ne_of_none (sAC _ _ hh2.hl) ntm).symm
      · exact (ne_of_none hm2 ntm).symm
      · exact ne_of_none (sA _ _ hh1'.hl) nm1
      · exact ne_of_none hh1.hl nl2'
      · exact ne_of_none (sB _ _ (sA _ _ hh1'.hl)) nm2
      · exact (ne_of_none (sA _ _ hh2.hl) nm1).symm
      · exact ne_of_none hm1 nm2
      · exact ne_of_none (sB _ _ (sA _ _ hh2.hl)) nm2
      · exact ne_of_none o1 np2
    clear sA sB sC sD u1 sAC hm1 hm2
    generalize upd (upd (upd (upd H4 tn (.lst [.ref p1, .ref p2])) m1 (.lst [])) m2 (.lst [])) tm (.lst [.ref m1, .ref m2]) = H5 at Tw ⊢
    have hl0 : (ns.map V.int).length = ns.length := List.length_map _
    refine ⟨_, rfl, a, _, rfl, .inl (Tw.s.seq hS), _, rfl, by omega, by omega, for_range (lo := 0) (n := (((ns.map V.int).length : Nat) : Int).toNat) (fun i σ H' => ∃ x5 x6 x7 x8 x9 x10 x11 x12 x13 x14 x15 x16 : Option V, σ = [some (.ref a), some (.ref b0), some (.int (1 + r)), some (.ref tn), some (.ref tm), x5, x6, x7, x8, x9, x10, x11, x12, x13, x14, x15, x16] ∧ Two CN H H' (1 + r) tn tm [.ref p1, .ref p2] [.ref m1, .ref m2] i p1 l1 m1 p2 l2 m2) ?_ ?_ ?_⟩
    · exact ⟨_, _, _, _, _, _, _, _, _, _, _, _, rfl, Tw⟩
    · rintro i σ H6 hi ⟨x5, x6, x7, x8, x9, x10, x11, x12, x13, x14, x15, x16, rfl, T6⟩
      have z0 : (0 + (i : Int)) = i := by omega
      rw [z0]
      have hi : i < 63 := by omega
      refine ⟨_, rfl, _, rfl, a, ns, i, rfl, T6.s.seq hS, fun b H7 nb s7 g7 => ?_⟩
      have lat : ∀ {Ha Hb : Hp}, Same H6 Ha → But b Ha Hb → Same H6 Hb := fun {Ha Hb} s' k' c o hc => k' _ _ (s' _ _ hc) (ne_of_none hc nb)
      walk_at "rds"
      refine ⟨b, _, 3, rfl, g7, by decide, by decide, fun r1 H8 q0 q1 b8 g8 => ?_⟩
      have s8 := lat s7 b8
      have T8 := T6.same s8 (Nat.le_refl _)
      walk_at "rds"
      obtain ⟨p, lp, m, p', lp', m', pk1, pk2, T6', back⟩ : ∃ p lp m p' lp' m' : Addr, atI [V.ref p1, .ref p2] (r1 % 2) = some (.ref p) ∧ atI [V.ref m1, .ref m2] (r1 % 2) = some (.ref m) ∧ Two CN H H6 (1 + r) tn tm [.ref p1, .ref p2] [.ref m1, .ref m2] i p lp m p' lp' m' ∧
          ∀ {H' : Hp}, Two CN H H' (1 + r) tn tm [.ref p1, .ref p2] [.ref m1, .ref m2] (i + 1) p lp m p' lp' m' → Two CN H H' (1 + r) tn tm [.ref p1, .ref p2] [.ref m1, .ref m2] (i + 1) p1 l1 m1 p2 l2 m2 := by
        have h2 : r1 % 2 = 0 ∨ r1 % 2 = 1 := by omega
        rcases h2 with e | e
        · rw [e]; exact ⟨p1, l1, m1, p2, l2, m2, rfl, rfl, T6, fun t => t⟩
        · rw [e]; exact ⟨p2, l2, m2, p1, l1, m1, rfl, rfl, T6.swap, fun t => t.swap⟩
      refine ⟨tn, _, _, _, rfl, rfl, SqL.of T8.ht, pk1, ?_⟩
      walk_at "rds"
      refine ⟨tm, _, _, _, rfl, rfl, SqL.of T8.hm, pk2, ?_⟩
      walk_at "rds"
      refine ⟨by show 9 ≤ sizeLine; omega, fun t nt => ?_⟩
      have s9 := s8.trans (same_new nt (.lst [V.str "send", .str "send", .str "send", .str "take", .str "double", .str "move", .str "move", .str "part", .str "heal"]))
      have hT : (upd H8 t (.lst [V.str "send", .str "send", .str "send", .str "take", .str "double", .str "move", .str "move", .str "part", .str "heal"])) t = _ := upd_same
      have g9 := g8.upd (o := .lst [V.str "send", .str "send", .str "send", .str "take", .str "double", .str "move", .str "move", .str "part", .str "heal"]) (g8.ne nt)
      have bt := g8.ne nt
      generalize upd H8 t _ = H9 at *
      walk_at "rds"
      refine ⟨b, _, 9, rfl, g9, by decide, by decide, fun r2 H10 q2 q3 b10 g10 => ?_⟩
      obtain ⟨kv, hk1, hk2⟩ := atI_mem (xs := [V.str "send", .str "send", .str "send", .str "take", .str "double", .str "move", .str "move", .str "part", .str "heal"]) (r := r2) q2 (by show r2 < 9; omega)
      refine ⟨t, _, _, kv, rfl, rfl, SqL.of (b10 _ _ hT bt.symm), hk2, ?_⟩
      have s10 := lat s9 b10
      have hk : kv = .str "send" ∨ kv = .str "part" ∨ kv = .str "heal" ∨ ∃ z, kv = .str z ∧ Three z := by
        simp only [List.mem_cons, List.not_mem_nil, or_false] at hk1
        rcases hk1 with h | h | h | h | h | h | h | h | h
        · exact .inl h
        · exact .inl h
        · exact .inl h
        · exact .inr (.inr (.inr ⟨_, h, .inl rfl⟩))
        · exact .inr (.inr (.inr ⟨_, h, .inr (.inl rfl)⟩))
        · exact .inr (.inr (.inr ⟨_, h, .inr (.inr rfl)⟩))
        · exact .inr (.inr (.inr ⟨_, h, .inr (.inr rfl)⟩))
        · exact .inr (.inl h)
        · exact .inr (.inr (.inl h))
      refine ⟨fun σ' H' => ∃ x6 x7 x8 x9 x10 x11 x12 x13 x14 x15 x16 : Option V, σ' = [some (.ref a), some (.ref b0), some (.int (1 + r)), some (.ref tn), some (.ref tm), some (.int i), x6, x7, x8, x9, x10, x11, x12, x13, x14, x15, x16] ∧ Two CN H H' (1 + r) tn tm [.ref p1, .ref p2] [.ref m1, .ref m2] (i + 1) p1 l1 m1 p2 l2 m2, ?_, ?_⟩
      · rcases hk with rfl | rfl | rfl | ⟨z, rfl, h3⟩
        · walk_at "rds"
          refine ⟨b, _, 1 + r, rfl, g10, by omega, by omega, fun sd H11 d0 d1 b11 g11 => ?_⟩
          walk_at "rds"
          refine ⟨by show 2 ≤ sizeLine; omega, fun t1 nt1 => ?_⟩
          have D1 : TD (upd H11 t1 (.tup [.int sd, .int (1 + (i : Int))])) (.ref t1) (.tuple [.int sd, .int (1 + (i : Int))]) := td_tup nt1 (.cons (.int _) (.cons (.int _) .nil))
          have S1 := same_new nt1 (.tup [.int sd, .int (1 + (i : Int))])
          generalize upd H11 t1 (.tup [.int sd, .int (1 + (i : Int))]) = Ha at D1 S1 ⊢
          walk_at "rds"
          refine ⟨by show 2 ≤ sizeLine; omega, fun t2 nt2 => ?_⟩
          have D2 : TD (upd Ha t2 (.tup [.int sd, .int 1])) (.ref t2) (.tuple [.int sd, .int 1]) := td_tup nt2 (.cons (.int _) (.cons (.int _) .nil))
          have S2 := same_new nt2 (.tup [.int sd, .int 1])
          generalize upd Ha t2 (.tup [.int sd, .int 1]) = Hb at D2 S2 ⊢
          replace D1 := TD.same S2 D1
          walk_at "rds"
          refine ⟨by show 2 ≤ sizeLine; omega, fun t3 nt3 => ?_⟩
          have D3 : TD (upd Hb t3 (.tup [.int (i : Int), .ref t2])) (.ref t3) (.tuple [.int (i : Int), .tuple [.int sd, .int 1]]) := td_tup nt3 (.cons (.int _) (.cons D2 .nil))
          have S3 := same_new nt3 (.tup [.int (i : Int), .ref t2])
          generalize upd Hb t3 (.tup [.int (i : Int), .ref t2]) = Hc at D3 S3 ⊢
          replace D1 := TD.same S3 D1
          walk_at "rds"
          refine ⟨by show 2 ≤ sizeLine; omega, fun t4 nt4 => ?_⟩
          have D4 : TD (upd Hc t4 (.tup [.int 0, .int 1])) (.ref t4) (.tuple [.int 0, .int 1]) := td_tup nt4 (.cons (.int _) (.cons (.int _) .nil))
          have S4 := same_new nt4 (.tup [.int 0, .int 1])
          generalize upd Hc t4 (.tup [.int 0, .int 1]) = Hd at D4 S4 ⊢
          replace D1 := TD.same S4 D1
          replace D3 := TD.same S4 D3
          walk_at "rds"
          refine ⟨by show 2 ≤ sizeLine; omega, fun t5 nt5 => ?_⟩
          have D5 : TD (upd Hd t5 (.tup [.int ((i : Int) + 1), .ref t4])) (.ref t5) (.tuple [.int ((i : Int) + 1), .tuple [.int 0, .int 1]]) := td_tup nt5 (.cons (.int _) (.cons D4 .nil))
          have S5 := same_new nt5 (.tup [.int ((i : Int) + 1), .ref t4])
          generalize upd Hd t5 (.tup [.int ((i : Int) + 1), .ref t4]) = He at D5 S5 ⊢
          replace D1 := TD.same S5 D1
          replace D3 := TD.same S5 D3
          walk_at "rds"
          refine ⟨by show 4 ≤ sizeLine; omega, fun t6 nt6 => ?_⟩
          have D6 : TD (upd He t6 (.tup [.str "higher", .ref t1, .ref t3, .ref t5])) (.ref t6) (.tuple [.str "higher", .tuple [.int sd, .int (1 + (i : Int))], .tuple [.int (i : Int), .tuple [.int sd, .int 1]], .tuple [.int ((i : Int) + 1), .tuple [.int 0, .int 1]]]) := td_tup nt6 (.cons (.str _) (.cons D1 (.cons D3 (.cons D5 .nil))))
          have S6 := same_new nt6 (.tup [.str "higher", .ref t1, .ref t3, .ref t5])
          generalize upd He t6 (.tup [.str "higher", .ref t1, .ref t3, .ref t5]) = Hf at D6 S6 ⊢
          walk_at "rds"
          have S16 := S1.trans (S2.trans (S3.trans (S4.trans (S5.trans S6))))
          have gf := g11.same S16
          refine ⟨b, _, 1 + r, rfl, gf, by omega, by omega, fun rc Hg e0 e1 bg gg => ?_⟩
          replace D6 := D6.but gf bg
          have s11 := lat s10 b11
          have sg : Same H6 Hg := lat (s11.trans S16) bg
          walk_at "rds"
          refine ⟨by show 3 ≤ sizeLine; omega, fun t7 nt7 => ?_⟩
          have D7 : TD (upd Hg t7 (.tup [.int sd, .int rc, .ref t6])) (.ref t7) (.tuple [.int sd, .int rc, .tuple [.str "higher", .tuple [.int sd, .int (1 + (i : Int))], .tuple [.int (i : Int), .tuple [.int sd, .int 1]], .tuple [.int ((i : Int) + 1), .tuple [.int 0, .int 1]]]]) := td_tup nt7 (.cons (.int _) (.cons (.int _) (.cons D6 .nil)))
          have S7 := same_new nt7 (.tup [.int sd, .int rc, .ref t6])
          have E7 : (upd Hg t7 (.tup [.int sd, .int rc, .ref t6])) t7 = some (.tup [.int sd, .int rc, .ref t6]) := upd_same
          replace D6 := TD.same S7 D6
          generalize upd Hg t7 (.tup [.int sd, .int rc, .ref t6]) = Hh at D7 S7 D6 E7 ⊢
          have sh := sg.trans S7
          obtain ⟨us, ws, ds, a1, a2, a3, a4, a5, a6⟩ := (T6'.same sh (Nat.le_refl _)).a
          obtain ⟨dx3, g3, o3⟩ := a1.ob
          have gdp : Gd (.tuple [.int sd, .int rc, .tuple [.str "higher", .tuple [.int sd, .int (1 + (i : Int))], .tuple [.int (i : Int), .tuple [.int sd, .int 1]], .tuple [.int ((i : Int) + 1), .tuple [.int 0, .int 1]]]]) := ⟨⟨_, rfl⟩, by simp [PyData.canLay0, PyData.canLayAll0, s_higher], by simp [PyData.depth, PyData.depthAll]⟩
          clear D1 D2 D3 D4 D5 S1 S2 S3 S4 S5 S6 S16 nt1 nt2 nt3 nt4 nt5 nt6
          dsimp only [gName, tSeq, tAsg]
          refine ⟨_, rfl, p, dx3, _, rfl, o3, rfl, ?_⟩
          have i0 : atI [V.int sd, .int rc, .ref t6] 0 = some (.int sd) := rfl
          have i1 : atI [V.int sd, .int rc, .ref t6] 1 = some (.int rc) := rfl
          have i2 : atI [V.int sd, .int rc, .ref t6] 2 = some (.ref t6) := rfl
          refine ⟨_, rfl, t7, _, _, _, rfl, rfl, SqT.of E7, i0, ?_⟩
          refine ⟨_, rfl, t7, _, _, _, rfl, rfl, SqT.of E7, i1, ?_⟩
          refine ⟨_, rfl, t7, _, _, _, rfl, rfl, SqT.of E7, i2, ?_⟩
          have lu := a3.length
          have lw := a4.length
          refine ⟨p, lp, 1 + r, us, _, _, _, rfl, a1, by omega, fun t8 nt8 => ?_⟩
          have S8 := same_new nt8 (.tup [.int sd, .int rc, .ref t6])
          have D8 : TD (upd Hh t8 (.tup [.int sd, .int rc, .ref t6])) (.ref t8) (.tuple [.int sd, .int rc, .tuple [.str "higher", .tuple [.int sd, .int (1 + (i : Int))], .tuple [.int (i : Int), .tuple [.int sd, .int 1]], .tuple [.int ((i : Int) + 1), .tuple [.int 0, .int 1]]]]) := td_tup nt8 (.cons (.int _) (.cons (.int _) (.cons D6 .nil)))
          generalize upd Hh t8 (.tup [.int sd, .int rc, .ref t6]) = Hi at D8 S8 ⊢
          have si := sh.trans S8
          have b1 := T6'.n1.1
          have hmi := S8 _ _ a2
          have hpi := S8 _ _ o3
          have hli := S8 _ _ a1.hl
          have pl : p ≠ lp := ne_of hpi hli (by intro z; cases z)
          have pm : p ≠ m := ne_of hpi hmi (by intro z; cases z)
          have kt : ∀ c xs, Hi c = some (.tup xs) → (upd (upd Hi lp (.lst (us ++ [.ref t8]))) m (.lst (ws ++ [.ref t7]))) c = some (.tup xs) := fun c xs hc => by
            rw [upd_ne (ne_of hc hmi (by intro z; cases z)), upd_ne (ne_of hc hli (by intro z; cases z))]; exact hc
          have fin : Two CN H (upd (upd Hi lp (.lst (us ++ [.ref t8]))) m (.lst (ws ++ [.ref t7]))) (1 + r) tn tm [.ref p1, .ref p2] [.ref m1, .ref m2] (i + 1) p lp m p' lp' m' := by
            refine T6'.put (Nat.le_succ _) (fun c o hc n1 n2 n3 => ?_) ⟨⟨dx3, g3, by rw [upd_ne pm, upd_ne pl]; exact hpi⟩, by rw [upd_ne b1, upd_same]⟩ upd_same ((a3.mono fun c xs hc => kt c xs (S8 _ _ hc)).append (.cons (D8.mono kt) .nil)) ((a4.mono fun c xs hc => kt c xs (S8 _ _ hc)).append (.cons ((TD.same S8 D7).mono kt) .nil)) (fun d hd => ?_) (by rw [List.length_append]; show _ + 1 ≤ _; omega)
            · rw [upd_ne n3, upd_ne n2]; exact si _ _ hc
            · rcases List.mem_append.mp hd with hd | hd
              · exact a5 d hd
              · rw [List.mem_singleton.mp hd]; exact gdp
          refine ⟨rfl, ?_⟩
          refine ⟨_, rfl, ?_⟩
          refine iteF ?_
          refine ⟨_, rfl, .inl ⟨rfl, _, SqL.of (by rw [upd_ne b1.symm]; exact hmi)⟩, ?_⟩
          refine ⟨_, rfl, m, ws, _, rfl, rfl, (by rw [upd_ne b1.symm]; exact hmi), by omega, ?_⟩
          exact ⟨_, _, _, _, _, _, _, _, _, _, _, rfl, back fin⟩
        · walk_at "rds"
          have T10 := T6'.same s10 (Nat.le_refl _)
          obtain ⟨us, ws, ds, a1, a2, a3, a4, a5, a6⟩ := T10.a
          obtain ⟨dx3, g3, o3⟩ := a1.ob
          refine ⟨p, dx3, _, rfl, o3, rfl, ?_⟩
          refine ⟨_, rfl, _, rfl, b, _, 1 + r, rfl, g10, by omega, by omega, fun x H11 x0 x1 b11 g11 => ?_⟩
          have s11 := lat s10 b11
          refine ⟨by show 1 ≤ sizeLine; omega, fun t1 nt1 => ?_⟩
          refine ⟨by show 1 ≤ sizeLine; omega, fun t2 nt2 => ?_⟩
          have S1 := same_new nt1 (.tup [.int x])
          have S2 := same_new nt2 (.tup [.ref t1])
          have s13 := s11.trans (S1.trans S2)
          obtain ⟨us, ws, ds, a1, a2, a3, a4, a5, a6⟩ := (T6'.same s13 (Nat.le_refl _)).a
          refine ⟨p, lp, t2, 1 + r, us, [.ref t1], rfl, a1, upd_same, .inr ⟨t1, x, rfl, S2 _ _ upd_same, x0, x1⟩, n1, n2, fun H' hn' k => ?_⟩
          obtain ⟨dx4, g4, o4⟩ := a1.ob
          have kt : ∀ c xs, _ = some (HO.tup xs) → H' c = some (.tup xs) := fun c xs hc => k c _ hc (ne_of hc o4 (by intro z; cases z))
          have fin : Two CN H H' (1 + r) tn tm [.ref p1, .ref p2] [.ref m1, .ref m2] (i + 1) p lp m p' lp' m' :=
            T6'.put (Nat.le_succ _) (fun c o hc n1 n2 n3 => k _ _ (s13 _ _ hc) n1) hn' (k _ _ a2 (ne_of a2 o4 (by intro z; cases z))) (a3.mono kt) (a4.mono kt) a5 (by omega)
          exact ⟨_, _, _, _, _, _, _, _, _, _, _, rfl, back fin⟩
        · walk_at "rds"
          obtain ⟨us, ws, ds, a1, a2, a3, a4, a5, a6⟩ := (T6'.same s10 (Nat.le_refl _)).a
          obtain ⟨dx3, g3, o3⟩ := a1.ob
          refine ⟨p, dx3, _, rfl, o3, rfl, ?_⟩
          refine ⟨p, lp, 1 + r, us, rfl, a1, n1, n2, fun H' hn' k => ?_⟩
          have kt : ∀ c xs, H10 c = some (HO.tup xs) → H' c = some (.tup xs) := fun c xs hc => k c _ hc (ne_of hc o3 (by intro z; cases z))
          have fin : Two CN H H' (1 + r) tn tm [.ref p1, .ref p2] [.ref m1, .ref m2] (i + 1) p lp m p' lp' m' :=
            T6'.put (Nat.le_succ _) (fun c o hc n1 n2 n3 => k _ _ (s10 _ _ hc) n1) hn' (k _ _ a2 (ne_of a2 o3 (by intro z; cases z))) (a3.mono kt) (a4.mono kt) a5 (by omega)
          exact ⟨_, _, _, _, _, _, _, _, _, _, _, rfl, back fin⟩
        · have z1 : V.str z ≠ .str "send" := fun h => by rcases h3 with rfl | rfl | rfl <;> exact absurd (V.str.inj h) (by decide +kernel)
          have z2 : V.str z ≠ .str "part" := fun h => by rcases h3 with rfl | rfl | rfl <;> exact absurd (V.str.inj h) (by decide +kernel)
          have z3 : V.str z ≠ .str "heal" := fun h => by rcases h3 with rfl | rfl | rfl <;> exact absurd (V.str.inj h) (by decide +kernel)
          walk_at "rds"
          refine dF z1 ?_
          walk_at "rds"
          refine dF z2 ?_
          walk_at "rds"
          refine dF z3 ?_
          walk_at "rds"
          obtain ⟨us, ws, ds, a1, a2, a3, a4, a5, a6⟩ := (T6'.same s10 (Nat.le_refl _)).a
          have lu := a3.length
          have lw := a4.length
          refine ⟨m, _, rfl, .inl (SqL.of a2), ?_⟩
          refine ⟨b, _, _, rfl, g10, by omega, by omega, fun pt H11 b11 g11 => ?_⟩
          have s11 := lat s10 b11
          clear a1 a2 a3 a4
          have T11 := T6'.same s11 (Nat.le_refl _)
          obtain ⟨us, ws, ds, a1, a2, a3, a4, a5, a6⟩ := T11.a
          have lu := a3.length
          have lw := a4.length
          have ok2 : okPos pt us = okPos pt ws := okPos_len (by omega)
          obtain ⟨dx3, g3, o3⟩ := a1.ob
          have b1 := T6'.n1.1
          have pl : p ≠ lp := ne_of o3 a1.hl (by intro z; cases z)
          have pm : p ≠ m := ne_of o3 a2 (by intro z; cases z)
          walk_at "rds"
          refine ⟨m, ws, z, pt, rfl, a2, by omega, h3, ⟨fun ho t1 H12 s12 ht => ?_, fun y ho hy hz H12 hp => ?_, fun y ho hy hz H12 hp => ?_, fun y ho hy hz H12 hp => ?_⟩⟩
          · walk_at "rds"
            refine ⟨p, lp, 1 + r, us, z, pt, rfl, a1.same s12, by omega, h3, ⟨fun _ t2 H13 s13 ht2 => ?_, fun y h => ?_, fun y h => ?_, fun y h => ?_⟩⟩
            · walk_at "rds"
              refine ⟨R0, R0, .tup (SqT.of ht2) (.cons (.str _) (.cons (.int _) (.cons (.str _) .nil))), .tup (SqT.of (s13 _ _ ht)) (.cons (.str _) (.cons (.int _) (.cons (.str _) .nil))), r0_gd.1, r0_gd.1, ?_⟩
              rw [r0_gd.2]
              walk_at "rds"
              refine ⟨_, _, _, _, true, rfl, .ty _, .base (.tup ht2), kit_ty (by decide +kernel), ?_⟩
              walk_at "rds"
              exact ⟨_, _, _, _, _, _, _, _, _, _, _, rfl, back (T6'.same (s11.trans (s12.trans s13)) (Nat.le_succ _))⟩
            all_goals rw [ok2, ho] at h; cases h
          · obtain ⟨d, e1, td⟩ := a4.at hy
            obtain ⟨y', e2⟩ : ∃ y', us[pt.toNat]? = some y' := ⟨us[pt.toNat]'(by have := (List.getElem?_eq_some_iff.mp hy).1; omega), List.getElem?_eq_getElem _⟩
            obtain ⟨d', e3, td'⟩ := a3.at e2
            have ed : d' = d := Option.some.inj (e3.symm.trans e1)
            subst ed
            have gd := a5 d' (List.mem_of_getElem? e1)
            have hl12 : H12 lp = some (.lst us) := by rw [hp.2 lp b1]; exact a1.hl
            have hn12 : NAt CN H12 p lp (1 + r) us := ⟨⟨dx3, g3, by rw [hp.2 p pm]; exact o3⟩, hl12⟩
            walk_at "rds"
            refine ⟨p, lp, 1 + r, us, z, pt, rfl, hn12, by omega, h3, ⟨fun ho' => (by rw [ok2, ho] at ho'; cases ho'), fun y2 _ hy2 _ H13 hp3 => ?_, fun y2 _ _ hz' => ?_, fun y2 _ _ hz' => ?_⟩⟩
            · have := Option.some.inj (e2.symm.trans hy2)
              subst this
              obtain ⟨k1, k2⟩ := gd_one gd
              obtain ⟨⟨es, rfl⟩, _⟩ := id gd
              cases td with
              | tup hz1 r1 =>
              cases td' with
              | tup hz2 r2 =>
              have kt : ∀ c zs, H11 c = some (HO.tup zs) → H13 c = some (.tup zs) := fun c zs hc => hp3.tup hl12 _ _ (hp.tup a2 _ _ hc)
              walk_at "rds"
              refine ⟨_, _, .tup (SqT.of (kt _ _ hz2)) (r2.mono kt).dp, .tup (SqT.of (kt _ _ hz1)) (r1.mono kt).dp, k1, k1, ?_⟩
              rw [k2]
              walk_at "rds"
              refine ⟨_, _, _, _, true, rfl, .ty _, .base (.tup (kt _ _ hz2)), kit_ty (by decide +kernel), ?_⟩
              walk_at "rds"
              refine ⟨_, _, _, _, _, _, _, _, _, _, _, rfl, back (T6'.put (Nat.le_succ _) (fun c o hc n1 n2 n3 => ?_) ⟨⟨dx3, g3, by rw [hp3.2 p pl]; exact hn12.ob.elim fun _ _ => (by rw [hp.2 p pm]; exact o3)⟩, hp3.1⟩ (by rw [hp3.2 m b1.symm]; exact hp.1) ((a3.mono kt).erase _) ((a4.mono kt).erase _) (fun d hd => a5 d (List.mem_of_mem_eraseIdx hd)) (by have := List.length_eraseIdx_le ds pt.toNat; omega))⟩
              rw [hp3.2 c n2, hp.2 c n3]; exact s11 _ _ hc
            all_goals exact absurd (hz.symm.trans hz') (by decide +kernel)
          · obtain ⟨d, e1, td⟩ := a4.at hy
            obtain ⟨y', e2⟩ : ∃ y', us[pt.toNat]? = some y' := ⟨us[pt.toNat]'(by have := (List.getElem?_eq_some_iff.mp hy).1; omega), List.getElem?_eq_getElem _⟩
            obtain ⟨d', e3, td'⟩ := a3.at e2
            have ed : d' = d := Option.some.inj (e3.symm.trans e1)
            subst ed
            have gd := a5 d' (List.mem_of_getElem? e1)
            have hl12 : H12 lp = some (.lst us) := by rw [hp.2 lp b1]; exact a1.hl
            have hn12 : NAt CN H12 p lp (1 + r) us := ⟨⟨dx3, g3, by rw [hp.2 p pm]; exact o3⟩, hl12⟩
            walk_at "rds"
            refine ⟨p, lp, 1 + r, us, z, pt, rfl, hn12, by omega, h3, ⟨fun ho' => (by rw [ok2, ho] at ho'; cases ho'), fun y2 _ _ hz' => ?_, fun y2 _ hy2 _ H13 hp3 => ?_, fun y2 _ _ hz' => ?_⟩⟩
            · exact absurd (hz.symm.trans hz') (by decide +kernel)
            · have := Option.some.inj (e2.symm.trans hy2)
              subst this
              have kt : ∀ c zs, H11 c = some (HO.tup zs) → H13 c = some (.tup zs) := fun c zs hc => hp3.tup hl12 _ _ (hp.tup a2 _ _ hc)
              have fin : Two CN H H13 (1 + r) tn tm [.ref p1, .ref p2] [.ref m1, .ref m2] (i + 1) p lp m p' lp' m' := by
                refine T6'.put (Nat.le_succ _) (fun c o hc n1 n2 n3 => ?_) ⟨⟨dx3, g3, by rw [hp3.2 p pl, hp.2 p pm]; exact o3⟩, hp3.1⟩ (by rw [hp3.2 m b1.symm]; exact hp.1) ((a3.mono kt).append (.cons (td'.mono kt) .nil)) ((a4.mono kt).append (.cons (td.mono kt) .nil)) (fun d hd => ?_) ?_
                · rw [hp3.2 c n2, hp.2 c n3]; exact s11 _ _ hc
                · rcases List.mem_append.mp hd with hd | hd
                  · exact a5 d hd
                  · rw [List.mem_singleton.mp hd]; exact gd
                · rw [List.length_append]
                  show _ + 1 ≤ i + 1
                  omega
              walk_at "rds"
              refine ⟨.none, .none, .non, .non, rfl, rfl, ?_⟩
              walk_at "rds"
              exact ⟨_, _, _, _, _, _, _, _, _, _, _, rfl, back fin⟩
            · exact absurd (hz.symm.trans hz') (by decide +kernel)
          · obtain ⟨d, e1, td⟩ := a4.at hy
            obtain ⟨y', e2⟩ : ∃ y', us[pt.toNat]? = some y' := ⟨us[pt.toNat]'(by have := (List.getElem?_eq_some_iff.mp hy).1; omega), List.getElem?_eq_getElem _⟩
            obtain ⟨d', e3, td'⟩ := a3.at e2
            have ed : d' = d := Option.some.inj (e3.symm.trans e1)
            subst ed
            have gd := a5 d' (List.mem_of_getElem? e1)
            have hl12 : H12 lp = some (.lst us) := by rw [hp.2 lp b1]; exact a1.hl
            have hn12 : NAt CN H12 p lp (1 + r) us := ⟨⟨dx3, g3, by rw [hp.2 p pm]; exact o3⟩, hl12⟩
            walk_at "rds"
            refine ⟨p, lp, 1 + r, us, z, pt, rfl, hn12, by omega, h3, ⟨fun ho' => (by rw [ok2, ho] at ho'; cases ho'), fun y2 _ _ hz' => ?_, fun y2 _ _ hz' => ?_, fun y2 _ hy2 _ H13 hp3 => ?_⟩⟩
            · exact absurd (hz.symm.trans hz') (by decide +kernel)
            · exact absurd (hz.symm.trans hz') (by decide +kernel)
            · have := Option.some.inj (e2.symm.trans hy2)
              subst this
              have kt : ∀ c zs, H11 c = some (HO.tup zs) → H13 c = some (.tup zs) := fun c zs hc => hp3.tup hl12 _ _ (hp.tup a2 _ _ hc)
              have fin : Two CN H H13 (1 + r) tn tm [.ref p1, .ref p2] [.ref m1, .ref m2] (i + 1) p lp m p' lp' m' := by
                refine T6'.put (Nat.le_succ _) (fun c o hc n1 n2 n3 => ?_) ⟨⟨dx3, g3, by rw [hp3.2 p pl, hp.2 p pm]; exact o3⟩, hp3.1⟩ (by rw [hp3.2 m b1.symm]; exact hp.1) (((a3.mono kt).erase _).append (.cons (td'.mono kt) .nil)) (((a4.mono kt).erase _).append (.cons (td.mono kt) .nil)) (fun d hd => ?_) ?_
                · rw [hp3.2 c n2, hp.2 c n3]; exact s11 _ _ hc
                · rcases List.mem_append.mp hd with hd | hd
                  · exact a5 d (List.mem_of_mem_eraseIdx hd)
                  · rw [List.mem_singleton.mp hd]; exact gd
                · rw [List.length_append]
                  have := List.length_eraseIdx_le ds pt.toNat
                  show _ + 1 ≤ i + 1
                  omega
              walk_at "rds"
              refine ⟨.none, .none, .non, .non, rfl, rfl, ?_⟩
              walk_at "rds"
              exact ⟨_, _, _, _, _, _, _, _, _, _, _, rfl, back fin⟩
      rintro _ H11 ⟨x6, x7, x8, x9, x10, x11, x12, x13, x14, x15, x16, rfl, T11⟩
      walk_at "rds"
      refine ⟨tn, _, _, .ref p1, rfl, rfl, SqL.of T11.ht, rfl, ?_⟩
      walk_at "rds"
      refine ⟨tm, _, _, .ref m1, rfl, rfl, SqL.of T11.hm, rfl, ?_⟩
      walk_at "rds"
      obtain ⟨us, ws, ds, a1, a2, a3, a4, a5, a6⟩ := T11.a
      refine ⟨p1, l1, m1, 1 + r, us, ws, ds, rfl, a1, a2, a3, a4, a5, by omega, fun H12 s12 => ?_⟩
      have T12 := T11.same s12 (Nat.le_refl _)
      walk_at "rds"
      refine ⟨tn, _, _, .ref p2, rfl, rfl, SqL.of T12.ht, rfl, ?_⟩
      walk_at "rds"
      refine ⟨tm, _, _, .ref m2, rfl, rfl, SqL.of T12.hm, rfl, ?_⟩
      walk_at "rds"
      obtain ⟨us, ws, ds, a1, a2, a3, a4, a5, a6⟩ := T12.b
      refine ⟨p2, l2, m2, 1 + r, us, ws, ds, rfl, a1, a2, a3, a4, a5, by omega, fun H13 s13 => ?_⟩
      have T13 := T12.same s13 (Nat.le_refl _)
      walk_at "rds"
      exact ⟨_, _, _, _, _, _, _, _, _, _, _, _, rfl, T13⟩
    · rintro σ H6 ⟨x5, x6, x7, x8, x9, x10, x11, x12, x13, x14, x15, x16, rfl, T6⟩
      exact q _
end
end Mus

set_option maxRecDepth 100000
set_option maxHeartbeats 4000000
namespace Mus
open PySem L2
def at_mk {K : PySem.W.Frag} {h : Heap} {mg : Str → Option Value} {x : Str} {ps : List Str} {st : Stmt} {f : Addr} {oc : Value} {od an : Option Addr} {osl : Array (Option Value)} {kV dc pm cd ct : Value} (X : K.In h) (G : h.Ns mainGlobals mg) (a : PySem.W.nsIn K mainGlobals x = some (some (.ref f)))
    (l : K.lookup f = some ⟨oc, od, .func (PySem.W.fnOf x x (defArgs st) (defBody st) (defScope st) .none kV dc pm an cd ct), osl⟩) (c : PySem.W.codeIn K cd x = true) (k : PySem.W.keepIn K (.ref f) = true)
    (hb : ∀ (kV doc pm : Value) (an : Option Addr) (cdv ct : Value) (us : List Value), us.length = ps.length → bindArgs (PySem.W.fnOf x x (defArgs st) (defBody st) (defScope st) .none kV doc pm an cdv ct) ⟨us, []⟩ = pure (ps.zip us)) : DefAt K mg x ps st :=
  ⟨f, _, fun_mk (st := st) l c k, PySem.W.mg_of X G a, (fun_mk (st := st) l c k).binds hb⟩
def meth_mk {K : PySem.W.Frag} {C : Addr} {x qual : Str} {ps : List Str} {st : Stmt} {f : Addr} {oc : Value} {od an : Option Addr} {osl : Array (Option Value)} {kV dc pm cd ct : Value} (a : PySem.W.findIn K (.ref C) x = some (some (.ref f))) (i : PySem.W.isFn K (.ref f) = true)
    (l : K.lookup f = some ⟨oc, od, .func (PySem.W.fnOf x qual (defArgs st) (defBody st) (defScope st) .none kV dc pm an cd ct), osl⟩) (c : PySem.W.codeIn K cd qual = true) (k : PySem.W.keepIn K (.ref f) = true)
    (hb : ∀ (kV doc pm : Value) (an : Option Addr) (cdv ct : Value) (us : List Value), us.length = ps.length → bindArgs (PySem.W.fnOf x qual (defArgs st) (defBody st) (defScope st) .none kV doc pm an cdv ct) ⟨us, []⟩ = pure (ps.zip us)) : MethAt K C x qual ps st :=
  ⟨f, _, fun_mk (st := st) l c k, ⟨a, i, k⟩, (fun_mk (st := st) l c k).binds hb⟩
theorem walk_ofX {l : PySem.W.OpenLaw} {n k : Nat} {q : Program} {loose : List Str} {XP : (Str → Option Value) → Heap → Prop} {YP : World → Heap → Prop} {d : DefRec} {K : Params → PySem.W.Frag} {sp : World → Sp} {x : Str}
    (most : l.most = some n) (few : n ≤ sizeLine) (nod : d.params.defaults = []) (room : Room k callerA) (kin : ∀ (w : World) (h : Heap), YP w h → (K w.params).In h)
    (F : ∀ (w : World) (mg : Str → Option Value) (at1 : Addr) (h : Heap), (K w.params).In h → h.Ns mainGlobals mg → XP mg h → mg d.name = some (.ref at1) →
      ∃ fd : FuncData, (∀ (s : Shared) (u : Value), BindsTo s fd ⟨[u], []⟩ [(x, u)]) ∧ ∀ base : Heap, (K w.params).In base → base.Ns mainGlobals mg → FnOk l.prog w (K w.params) mg base CX0 k at1 fd [x] (sp w))
    (hsp : ∀ (w : World) (H : Hp) (a : Addr) (ns : List Int), ns.length ≤ n → Only H → SqL (K w.params) H a (ns.map V.int) → sp w [.ref a] H (fun v _ => v = .bl true) fun _ _ _ => False) :
    PySem.W.WalkO q loose XP YP l.row.toRowW d [] (fun f vs => PySem.call f vs) := by
  refine Att.attach_call most nod fun w sb sc mg mB at1 o pm1 cd1 doc1 a vs ns G Y ho1 hd1 hc1 hm1 ob1 in1 ln1 hg1 => ?_
  have inK := kin w _ Y
  obtain ⟨fd, bnd, pr⟩ := F w mg at1 _ inK G.T.g G.X hm1
  exact law_call inK G.T.g G.T.b G.T.builtins G.T.nolimit hg1 ob1 in1 (Nat.le_trans ln1 few) room pr bnd (fun H hO hS => hsp w H a ns ln1 hO hS) fun H e s' z => z
theorem loose_int {n : Str} {i : Int} {mg : Str → Option Value} {h : Heap} (x : PySem.W.LooseAre [(n, PySem.W.WData.int i)] mg h) : ∃ t, mg n = some (.int i t) := by
  obtain ⟨v, h1, h2⟩ := x.val _ (List.mem_singleton.mpr rfl)
  cases h2
  exact ⟨_, h1⟩
theorem all_mk {l : PySem.W.OpenLaw} {w : World} {K : PySem.W.Frag} {h : Heap} {mg : Str → Option Value} {fa : Addr} (X : K.In h) (G : h.Ns mainGlobals mg) (hfa : mg "law" = some (.ref fa))
    {C_Net : Addr}
    {odx_Net___init__ anx_Net___init__ : Option Addr} {slx_Net___init__ : Array (Option Value)} {ocx_Net___init__ kVx_Net___init__ dcx_Net___init__ pmx_Net___init__ cdx_Net___init__ ctx_Net___init__ : Value} {fx_Net___init__ : Addr}
    {odx_Net_send anx_Net_send : Option Addr} {slx_Net_send : Array (Option Value)} {ocx_Net_send kVx_Net_send dcx_Net_send pmx_Net_send cdx_Net_send ctx_Net_send : Value} {fx_Net_send : Addr}
    {odx_Net_take anx_Net_take : Option Addr} {slx_Net_take : Array (Option Value)} {ocx_Net_take kVx_Net_take dcx_Net_take pmx_Net_take cdx_Net_take ctx_Net_take : Value} {fx_Net_take : Addr}
    {odx_Net_double anx_Net_double : Option Addr} {slx_Net_double : Array (Option Value)} {ocx_Net_double kVx_Net_double dcx_Net_double pmx_Net_double cdx_Net_double ctx_Net_double : Value} {fx_Net_double : Addr}
    {odx_Net_move anx_Net_move : Option Addr} {slx_Net_move : Array (Option Value)} {ocx_Net_move kVx_Net_move dcx_Net_move pmx_Net_move cdx_Net_move ctx_Net_move : Value} {fx_Net_move : Addr}
    {odx_Net_packets anx_Net_packets : Option Addr} {slx_Net_packets : Array (Option Value)} {ocx_Net_packets kVx_Net_packets dcx_Net_packets pmx_Net_packets cdx_Net_packets ctx_Net_packets : Value} {fx_Net_packets : Addr}
    {odx_Net_part anx_Net_part : Option Addr} {slx_Net_part : Array (Option Value)} {ocx_Net_part kVx_Net_part dcx_Net_part pmx_Net_part cdx_Net_part ctx_Net_part : Value} {fx_Net_part : Addr}
    {odx_Net_heal anx_Net_heal : Option Addr} {slx_Net_heal : Array (Option Value)} {ocx_Net_heal kVx_Net_heal dcx_Net_heal pmx_Net_heal cdx_Net_heal ctx_Net_heal : Value} {fx_Net_heal : Addr}
    {odx_Net__check_position anx_Net__check_position : Option Addr} {slx_Net__check_position : Array (Option Value)} {ocx_Net__check_position kVx_Net__check_position dcx_Net__check_position pmx_Net__check_position cdx_Net__check_position ctx_Net__check_position : Value} {fx_Net__check_position : Addr}
    {C_BadSchedule M_BadSchedule : Addr} {nm_BadSchedule q_BadSchedule : Str} {N_BadSchedule : Addr} {bs_BadSchedule : List Value} {sn_BadSchedule : List Str} {sub_BadSchedule : List Value} {ab_BadSchedule : Bool} {col_BadSchedule : Option Bool} {dd_BadSchedule : Option Addr} {m0_BadSchedule m1_BadSchedule m2_BadSchedule m3_BadSchedule m5_BadSchedule : Option Value}
    {odxIBadSchedule anxIBadSchedule : Option Addr} {slxIBadSchedule : Array (Option Value)} {ocxIBadSchedule kVxIBadSchedule dcxIBadSchedule pmxIBadSchedule cdxIBadSchedule ctxIBadSchedule : Value} {fxIBadSchedule : Addr}
    {odx_is_integer anx_is_integer : Option Addr} {slx_is_integer : Array (Option Value)} {ocx_is_integer kVx_is_integer dcx_is_integer pmx_is_integer cdx_is_integer ctx_is_integer : Value} {fx_is_integer : Addr}
    {odx_is_process anx_is_process : Option Addr} {slx_is_process : Array (Option Value)} {ocx_is_process kVx_is_process dcx_is_process pmx_is_process cdx_is_process ctx_is_process : Value} {fx_is_process : Addr}
    {odx_is_groups anx_is_groups : Option Addr} {slx_is_groups : Array (Option Value)} {ocx_is_groups kVx_is_groups dcx_is_groups pmx_is_groups cdx_is_groups ctx_is_groups : Value} {fx_is_groups : Addr}
    {odx__law_bag anx__law_bag : Option Addr} {slx__law_bag : Array (Option Value)} {ocx__law_bag kVx__law_bag dcx__law_bag pmx__law_bag cdx__law_bag ctx__law_bag : Value} {fx__law_bag : Addr}
    {odx__law_draw anx__law_draw : Option Addr} {slx__law_draw : Array (Option Value)} {ocx__law_draw kVx__law_draw dcx__law_draw pmx__law_draw cdx__law_draw ctx__law_draw : Value} {fx__law_draw : Addr}
    {odx__law_call anx__law_call : Option Addr} {slx__law_call : Array (Option Value)} {ocx__law_call kVx__law_call dcx__law_call pmx__law_call cdx__law_call ctx__law_call : Value} {fx__law_call : Addr}
    {odx__law_due anx__law_due : Option Addr} {slx__law_due : Array (Option Value)} {ocx__law_due kVx__law_due dcx__law_due pmx__law_due cdx__law_due ctx__law_due : Value} {fx__law_due : Addr}
    {odx__law_position anx__law_position : Option Addr} {slx__law_position : Array (Option Value)} {ocx__law_position kVx__law_position dcx__law_position pmx__law_position cdx__law_position ctx__law_position : Value} {fx__law_position : Addr}
    {odx__law_right anx__law_right : Option Addr} {slx__law_right : Array (Option Value)} {ocx__law_right kVx__law_right dcx__law_right pmx__law_right cdx__law_right ctx__law_right : Value} {fx__law_right : Addr}
    {odx_law anx_law : Option Addr} {slx_law : Array (Option Value)} {ocx_law kVx_law dcx_law pmx_law cdx_law ctx_law : Value} {fx_law : Addr}
    {tMOST_PROCESSES : Tok}
    (aC_Net : PySem.W.nsIn K mainGlobals "Net" = some (some (.ref C_Net)))
    (pg_Net : PySem.W.plainGet K C_Net Str.empty = true)
    (hd_Net : PySem.W.hasDictIn K C_Net = true)
    (po_Net : PySem.W.plainOver K C_Net = true)
    (sa_Net : PySem.W.findIn K (.ref C_Net) "__setattr__" = some (some (.builtin "object.__setattr__")))
    (mk_Net : PySem.W.makesIn K C_Net = true)
    (kc_Net : PySem.W.keepIn K (.ref C_Net) = true)
    (n_Net__count : PySem.W.findIn K (.ref C_Net) "_count" = some none)
    (n_Net__packets : PySem.W.findIn K (.ref C_Net) "_packets" = some none)
    (n_Net__groups : PySem.W.findIn K (.ref C_Net) "_groups" = some none)
    (ax_Net___init__ : PySem.W.findIn K (.ref C_Net) "__init__" = some (some (.ref fx_Net___init__)))
    (ix_Net___init__ : PySem.W.isFn K (.ref fx_Net___init__) = true)
    (lx_Net___init__ : K.lookup fx_Net___init__ = some ⟨ocx_Net___init__, odx_Net___init__, .func (PySem.W.fnOf "__init__" "Net.__init__" (defArgs s_Net___init__) (defBody s_Net___init__) (defScope s_Net___init__) .none kVx_Net___init__ dcx_Net___init__ pmx_Net___init__ anx_Net___init__ cdx_Net___init__ ctx_Net___init__), slx_Net___init__⟩)
    (cx_Net___init__ : PySem.W.codeIn K cdx_Net___init__ "Net.__init__" = true)
    (kx_Net___init__ : PySem.W.keepIn K (.ref fx_Net___init__) = true)
    (ax_Net_send : PySem.W.findIn K (.ref C_Net) "send" = some (some (.ref fx_Net_send)))
    (ix_Net_send : PySem.W.isFn K (.ref fx_Net_send) = true)
    (lx_Net_send : K.lookup fx_Net_send = some ⟨ocx_Net_send, odx_Net_send, .func (PySem.W.fnOf "send" "Net.send" (defArgs s_Net_send) (defBody s_Net_send) (defScope s_Net_send) .none kVx_Net_send dcx_Net_send pmx_Net_send anx_Net_send cdx_Net_send ctx_Net_send), slx_Net_send⟩)
    (cx_Net_send : PySem.W.codeIn K cdx_Net_send "Net.send" = true)
    (kx_Net_send : PySem.W.keepIn K (.ref fx_Net_send) = true)
    (ax_Net_take : PySem.W.findIn K (.ref C_Net) "take" = some (some (.ref fx_Net_take)))
    (ix_Net_take : PySem.W.isFn K (.ref fx_Net_take) = true)
    (lx_Net_take : K.lookup fx_Net_take = some ⟨ocx_Net_take, odx_Net_take, .func (PySem.W.fnOf "take" "Net.take" (defArgs s_Net_take) (defBody s_Net_take) (defScope s_Net_take) .none kVx_Net_take dcx_Net_take pmx_Net_take anx_Net_take cdx_Net_take ctx_Net_take), slx_Net_take⟩)
    (cx_Net_take : PySem.W.codeIn K cdx_Net_take "Net.take" = true)
    (kx_Net_take : PySem.W.keepIn K (.ref fx_Net_take) = true)
    (ax_Net_double : PySem.W.findIn K (.ref C_Net) "double" = some (some (.ref fx_Net_double)))
    (ix_Net_double : PySem.W.isFn K (.ref fx_Net_double) = true)
    (lx_Net_double : K.lookup fx_Net_double = some ⟨ocx_Net_double, odx_Net_double, .func (PySem.W.fnOf "double" "Net.double" (defArgs s_Net_double) (defBody s_Net_double) (defScope s_Net_double) .none kVx_Net_double dcx_Net_double pmx_Net_double anx_Net_double cdx_Net_double ctx_Net_double), slx_Net_double⟩)
    (cx_Net_double : PySem.W.codeIn K cdx_Net_double "Net.double" = true)
    (kx_Net_double : PySem.W.keepIn K (.ref fx_Net_double) = true)
    (ax_Net_move : PySem.W.findIn K (.ref C_Net) "move" = some (some (.ref fx_Net_move)))
    (ix_Net_move : PySem.W.isFn K (.ref fx_Net_move) = true)
    (lx_Net_move : K.lookup fx_Net_move = some ⟨ocx_Net_move, odx_Net_move, .func (PySem.W.fnOf "move" "Net.move" (defArgs s_Net_move) (defBody s_Net_move) (defScope s_Net_move) .none kVx_Net_move dcx_Net_move pmx_Net_move anx_Net_move cdx_Net_move ctx_Net_move), slx_Net_move⟩)
    (cx_Net_move : PySem.W.codeIn K cdx_Net_move "Net.move" = true)
    (kx_Net_move : PySem.W.keepIn K (.ref fx_Net_move) = true)
    (ax_Net_packets : PySem.W.findIn K (.ref C_Net) "packets" = some (some (.ref fx_Net_packets)))
    (ix_Net_packets : PySem.W.isFn K (.ref fx_Net_packets) = true)
    (lx_Net_packets : K.lookup fx_Net_packets = some ⟨ocx_Net_packets, odx_Net_packets, .func (PySem.W.fnOf "packets" "Net.packets" (defArgs s_Net_packets) (defBody s_Net_packets) (defScope s_Net_packets) .none kVx_Net_packets dcx_Net_packets pmx_Net_packets anx_Net_packets cdx_Net_packets ctx_Net_packets), slx_Net_packets⟩)
    (cx_Net_packets : PySem.W.codeIn K cdx_Net_packets "Net.packets" = true)
    (kx_Net_packets : PySem.W.keepIn K (.ref fx_Net_packets) = true)
    (ax_Net_part : PySem.W.findIn K (.ref C_Net) "part" = some (some (.ref fx_Net_part)))
    (ix_Net_part : PySem.W.isFn K (.ref fx_Net_part) = true)
    (lx_Net_part : K.lookup fx_Net_part = some ⟨ocx_Net_part, odx_Net_part, .func (PySem.W.fnOf "part" "Net.part" (defArgs s_Net_part) (defBody s_Net_part) (defScope s_Net_part) .none kVx_Net_part dcx_Net_part pmx_Net_part anx_Net_part cdx_Net_part ctx_Net_part), slx_Net_part⟩)
    (cx_Net_part : PySem.W.codeIn K cdx_Net_part "Net.part" = true)
    (kx_Net_part : PySem.W.keepIn K (.ref fx_Net_part) = true)
    (ax_Net_heal : PySem.W.findIn K (.ref C_Net) "heal" = some (some (.ref fx_Net_heal)))
    (ix_Net_heal : PySem.W.isFn K (.ref fx_Net_heal) = true)
    (lx_Net_heal : K.lookup fx_Net_heal = some ⟨ocx_Net_heal, odx_Net_heal, .func (PySem.W.fnOf "heal" "Net.heal" (defArgs s_Net_heal) (defBody s_Net_heal) (defScope s_Net_heal) .none kVx_Net_heal dcx_Net_heal pmx_Net_heal anx_Net_heal cdx_Net_heal ctx_Net_heal), slx_Net_heal⟩)
    (cx_Net_heal : PySem.W.codeIn K cdx_Net_heal "Net.heal" = true)
    (kx_Net_heal : PySem.W.keepIn K (.ref fx_Net_heal) = true)
    (ax_Net__check_position : PySem.W.findIn K (.ref C_Net) "_check_position" = some (some (.ref fx_Net__check_position)))
    (ix_Net__check_position : PySem.W.isFn K (.ref fx_Net__check_position) = true)
    (lx_Net__check_position : K.lookup fx_Net__check_position = some ⟨ocx_Net__check_position, odx_Net__check_position, .func (PySem.W.fnOf "_check_position" "Net._check_position" (defArgs s_Net__check_position) (defBody s_Net__check_position) (defScope s_Net__check_position) .none kVx_Net__check_position dcx_Net__check_position pmx_Net__check_position anx_Net__check_position cdx_Net__check_position ctx_Net__check_position), slx_Net__check_position⟩)
    (cx_Net__check_position : PySem.W.codeIn K cdx_Net__check_position "Net._check_position" = true)
    (kx_Net__check_position : PySem.W.keepIn K (.ref fx_Net__check_position) = true)
    (aC_BadSchedule : PySem.W.nsIn K mainGlobals "BadSchedule" = some (some (.ref C_BadSchedule)))
    (xL_BadSchedule : K.lookup C_BadSchedule = some (excClassObj nm_BadSchedule q_BadSchedule C_BadSchedule N_BadSchedule bs_BadSchedule [.ref M_BadSchedule, .type "ValueError", .type "Exception", .type "BaseException", .type "object"] true sn_BadSchedule sub_BadSchedule ab_BadSchedule col_BadSchedule dd_BadSchedule m0_BadSchedule m1_BadSchedule m2_BadSchedule m3_BadSchedule m5_BadSchedule "ValueError.__new__"))
    (sa_BadSchedule : PySem.W.findIn K (.ref C_BadSchedule) "__setattr__" = some (some (.builtin "object.__setattr__")))
    (ty_BadSchedule : PySem.W.typeIn K (.ref C_BadSchedule) = some (.type "type"))
    (hs_BadSchedule : PySem.W.subIn K (.ref C_BadSchedule) (.type "BaseException") = some true)
    (kC_BadSchedule : PySem.W.keepIn K (.ref C_BadSchedule) = true)
    (hg_BadSchedule : PySem.W.findIn K (.ref C_BadSchedule) "__getattribute__" = some (some (.builtin "BaseException.__getattribute__")))
    (hk_BadSchedule : PySem.W.findIn K (.ref C_BadSchedule) "__getattr__" = some none)
    (hd_BadSchedule : PySem.W.hasDictIn K C_BadSchedule = true)
    (n_BadSchedule_line : PySem.W.findIn K (.ref C_BadSchedule) "line" = some none)
    (n_BadSchedule_reason : PySem.W.findIn K (.ref C_BadSchedule) "reason" = some none)
    (iI_BadSchedule : PySem.W.findIn K (.ref C_BadSchedule) "__init__" = some (some (.ref fxIBadSchedule)))
    (lxIBadSchedule : K.lookup fxIBadSchedule = some ⟨ocxIBadSchedule, odxIBadSchedule, .func (PySem.W.fnOf "__init__" "BadSchedule.__init__" (defArgs s_BadSchedule___init__) (defBody s_BadSchedule___init__) (defScope s_BadSchedule___init__) .none kVxIBadSchedule dcxIBadSchedule pmxIBadSchedule anxIBadSchedule cdxIBadSchedule ctxIBadSchedule), slxIBadSchedule⟩)
    (cxIBadSchedule : PySem.W.codeIn K cdxIBadSchedule "BadSchedule.__init__" = true)
    (kxIBadSchedule : PySem.W.keepIn K (.ref fxIBadSchedule) = true)
    (tI_BadSchedule : PySem.W.typeIn K (.ref fxIBadSchedule) = some (.type "function"))
    (m_BB : PySem.W.exmOne K (.ref C_BadSchedule) (.ref C_BadSchedule) = some true)
    (ax_is_integer : PySem.W.nsIn K mainGlobals "is_integer" = some (some (.ref fx_is_integer)))
    (lx_is_integer : K.lookup fx_is_integer = some ⟨ocx_is_integer, odx_is_integer, .func (PySem.W.fnOf "is_integer" "is_integer" (defArgs s_is_integer) (defBody s_is_integer) (defScope s_is_integer) .none kVx_is_integer dcx_is_integer pmx_is_integer anx_is_integer cdx_is_integer ctx_is_integer), slx_is_integer⟩)
    (cx_is_integer : PySem.W.codeIn K cdx_is_integer "is_integer" = true)
    (kx_is_integer : PySem.W.keepIn K (.ref fx_is_integer) = true)
    (ax_is_process : PySem.W.nsIn K mainGlobals "is_process" = some (some (.ref fx_is_process)))
    (lx_is_process : K.lookup fx_is_process = some ⟨ocx_is_process, odx_is_process, .func (PySem.W.fnOf "is_process" "is_process" (defArgs s_is_process) (defBody s_is_process) (defScope s_is_process) .none kVx_is_process dcx_is_process pmx_is_process anx_is_process cdx_is_process ctx_is_process), slx_is_process⟩)
    (cx_is_process : PySem.W.codeIn K cdx_is_process "is_process" = true)
    (kx_is_process : PySem.W.keepIn K (.ref fx_is_process) = true)
    (ax_is_groups : PySem.W.nsIn K mainGlobals "is_groups" = some (some (.ref fx_is_groups)))
    (lx_is_groups : K.lookup fx_is_groups = some ⟨ocx_is_groups, odx_is_groups, .func (PySem.W.fnOf "is_groups" "is_groups" (defArgs s_is_groups) (defBody s_is_groups) (defScope s_is_groups) .none kVx_is_groups dcx_is_groups pmx_is_groups anx_is_groups cdx_is_groups ctx_is_groups), slx_is_groups⟩)
    (cx_is_groups : PySem.W.codeIn K cdx_is_groups "is_groups" = true)
    (kx_is_groups : PySem.W.keepIn K (.ref fx_is_groups) = true)
    (ax__law_bag : PySem.W.nsIn K mainGlobals "_law_bag" = some (some (.ref fx__law_bag)))
    (lx__law_bag : K.lookup fx__law_bag = some ⟨ocx__law_bag, odx__law_bag, .func (PySem.W.fnOf "_law_bag" "_law_bag" (defArgs s__law_bag) (defBody s__law_bag) (defScope s__law_bag) .none kVx__law_bag dcx__law_bag pmx__law_bag anx__law_bag cdx__law_bag ctx__law_bag), slx__law_bag⟩)
    (cx__law_bag : PySem.W.codeIn K cdx__law_bag "_law_bag" = true)
    (kx__law_bag : PySem.W.keepIn K (.ref fx__law_bag) = true)
    (ax__law_draw : PySem.W.nsIn K mainGlobals "_law_draw" = some (some (.ref fx__law_draw)))
    (lx__law_draw : K.lookup fx__law_draw = some ⟨ocx__law_draw, odx__law_draw, .func (PySem.W.fnOf "_law_draw" "_law_draw" (defArgs s__law_draw) (defBody s__law_draw) (defScope s__law_draw) .none kVx__law_draw dcx__law_draw pmx__law_draw anx__law_draw cdx__law_draw ctx__law_draw), slx__law_draw⟩)
    (cx__law_draw : PySem.W.codeIn K cdx__law_draw "_law_draw" = true)
    (kx__law_draw : PySem.W.keepIn K (.ref fx__law_draw) = true)
    (ax__law_call : PySem.W.nsIn K mainGlobals "_law_call" = some (some (.ref fx__law_call)))
    (lx__law_call : K.lookup fx__law_call = some ⟨ocx__law_call, odx__law_call, .func (PySem.W.fnOf "_law_call" "_law_call" (defArgs s__law_call) (defBody s__law_call) (defScope s__law_call) .none kVx__law_call dcx__law_call pmx__law_call anx__law_call cdx__law_call ctx__law_call), slx__law_call⟩)
    (cx__law_call : PySem.W.codeIn K cdx__law_call "_law_call" = true)
    (kx__law_call : PySem.W.keepIn K (.ref fx__law_call) = true)
    (ax__law_due : PySem.W.nsIn K mainGlobals "_law_due" = some (some (.ref fx__law_due)))
    (lx__law_due : K.lookup fx__law_due = some ⟨ocx__law_due, odx__law_due, .func (PySem.W.fnOf "_law_due" "_law_due" (defArgs s__law_due) (defBody s__law_due) (defScope s__law_due) .none kVx__law_due dcx__law_due pmx__law_due anx__law_due cdx__law_due ctx__law_due), slx__law_due⟩)
    (cx__law_due : PySem.W.codeIn K cdx__law_due "_law_due" = true)
    (kx__law_due : PySem.W.keepIn K (.ref fx__law_due) = true)
    (ax__law_position : PySem.W.nsIn K mainGlobals "_law_position" = some (some (.ref fx__law_position)))
    (lx__law_position : K.lookup fx__law_position = some ⟨ocx__law_position, odx__law_position, .func (PySem.W.fnOf "_law_position" "_law_position" (defArgs s__law_position) (defBody s__law_position) (defScope s__law_position) .none kVx__law_position dcx__law_position pmx__law_position anx__law_position cdx__law_position ctx__law_position), slx__law_position⟩)
    (cx__law_position : PySem.W.codeIn K cdx__law_position "_law_position" = true)
    (kx__law_position : PySem.W.keepIn K (.ref fx__law_position) = true)
    (ax__law_right : PySem.W.nsIn K mainGlobals "_law_right" = some (some (.ref fx__law_right)))
    (lx__law_right : K.lookup fx__law_right = some ⟨ocx__law_right, odx__law_right, .func (PySem.W.fnOf "_law_right" "_law_right" (defArgs s__law_right) (defBody s__law_right) (defScope s__law_right) .none kVx__law_right dcx__law_right pmx__law_right anx__law_right cdx__law_right ctx__law_right), slx__law_right⟩)
    (cx__law_right : PySem.W.codeIn K cdx__law_right "_law_right" = true)
    (kx__law_right : PySem.W.keepIn K (.ref fx__law_right) = true)
    (ax_law : PySem.W.nsIn K mainGlobals "law" = some (some (.ref fx_law)))
    (lx_law : K.lookup fx_law = some ⟨ocx_law, odx_law, .func (PySem.W.fnOf "law" "law" (defArgs s_law) (defBody s_law) (defScope s_law) .none kVx_law dcx_law pmx_law anx_law cdx_law ctx_law), slx_law⟩)
    (cx_law : PySem.W.codeIn K cdx_law "law" = true)
    (kx_law : PySem.W.keepIn K (.ref fx_law) = true)
    (vMOST_PROCESSES : PySem.W.nsIn K mainGlobals "MOST_PROCESSES" = some (some (.int 12 tMOST_PROCESSES)))
    (zlen : PySem.W.nsIn K mainGlobals "len" = some none)
    (zisinstance : PySem.W.nsIn K mainGlobals "isinstance" = some none)
    (zint : PySem.W.nsIn K mainGlobals "int" = some none)
    (zbool : PySem.W.nsIn K mainGlobals "bool" = some none)
    (ztuple : PySem.W.nsIn K mainGlobals "tuple" = some none)
    (zlist : PySem.W.nsIn K mainGlobals "list" = some none)
    (zrange : PySem.W.nsIn K mainGlobals "range" = some none)
    (zsorted : PySem.W.nsIn K mainGlobals "sorted" = some none) :
    ∃ fd : FuncData, (∀ (s : Shared) (v : Value), BindsTo s fd ⟨[v], []⟩ [("script", v)]) ∧ ∀ base : Heap, K.In base → base.Ns mainGlobals mg → FnOk l.prog w K mg base CX0 7 fa fd ["script"] (sp_law K) := by
  have e := hfa.symm.trans (PySem.W.mg_of X G ax_law)
  cases e
  have T : Tx K mg C_Net C_BadSchedule := {
    b_len := PySem.W.mg_none_of X G zlen
    b_isinstance := PySem.W.mg_none_of X G zisinstance
    b_int := PySem.W.mg_none_of X G zint
    b_bool := PySem.W.mg_none_of X G zbool
    b_tuple := PySem.W.mg_none_of X G ztuple
    b_list := PySem.W.mg_none_of X G zlist
    b_range := PySem.W.mg_none_of X G zrange
    b_sorted := PySem.W.mg_none_of X G zsorted
    c_MOST_PROCESSES := ⟨_, PySem.W.mg_of X G vMOST_PROCESSES⟩
    g_Net := PySem.W.mg_of X G aC_Net
    cl_Net := ⟨pg_Net, hd_Net, po_Net, sa_Net⟩
    n_Net__count := n_Net__count
    n_Net__packets := n_Net__packets
    n_Net__groups := n_Net__groups
    g_BadSchedule := PySem.W.mg_of X G aC_BadSchedule
    o_BadSchedule := { cls := ⟨nm_BadSchedule, q_BadSchedule, N_BadSchedule, bs_BadSchedule, _, sn_BadSchedule, sub_BadSchedule, ab_BadSchedule, col_BadSchedule, dd_BadSchedule, m0_BadSchedule, m1_BadSchedule, m2_BadSchedule, m3_BadSchedule, m5_BadSchedule, xL_BadSchedule, rfl⟩, sa := sa_BadSchedule, exC := hs_BadSchedule, tyC := ty_BadSchedule, kC := kC_BadSchedule }
    f_BadSchedule := ⟨hg_BadSchedule, hk_BadSchedule, hs_BadSchedule, hd_BadSchedule⟩
    n_line := n_BadSchedule_line
    n_reason := n_BadSchedule_reason
    m_BB := m_BB }
  have F_BadSchedule := fun_mk (st := s_BadSchedule___init__) lxIBadSchedule cxIBadSchedule kxIBadSchedule
  let a_Net___init__ : MethAt K C_Net "__init__" "Net.__init__" P_Net___init__ s_Net___init__ := meth_mk ax_Net___init__ ix_Net___init__ lx_Net___init__ cx_Net___init__ kx_Net___init__ fun _ _ _ _ _ _ us hl => match us, hl with | [_, _], _ => rfl
  let a_Net_send : MethAt K C_Net "send" "Net.send" P_Net_send s_Net_send := meth_mk ax_Net_send ix_Net_send lx_Net_send cx_Net_send kx_Net_send fun _ _ _ _ _ _ us hl => match us, hl with | [_, _, _, _], _ => rfl
  let a_Net_take : MethAt K C_Net "take" "Net.take" P_Net_take s_Net_take := meth_mk ax_Net_take ix_Net_take lx_Net_take cx_Net_take kx_Net_take fun _ _ _ _ _ _ us hl => match us, hl with | [_, _], _ => rfl
  let a_Net_double : MethAt K C_Net "double" "Net.double" P_Net_double s_Net_double := meth_mk ax_Net_double ix_Net_double lx_Net_double cx_Net_double kx_Net_double fun _ _ _ _ _ _ us hl => match us, hl with | [_, _], _ => rfl
  let a_Net_move : MethAt K C_Net "move" "Net.move" P_Net_move s_Net_move := meth_mk ax_Net_move ix_Net_move lx_Net_move cx_Net_move kx_Net_move fun _ _ _ _ _ _ us hl => match us, hl with | [_, _], _ => rfl
  let a_Net_packets : MethAt K C_Net "packets" "Net.packets" P_Net_packets s_Net_packets := meth_mk ax_Net_packets ix_Net_packets lx_Net_packets cx_Net_packets kx_Net_packets fun _ _ _ _ _ _ us hl => match us, hl with | [_], _ => rfl
  let a_Net_part : MethAt K C_Net "part" "Net.part" P_Net_part s_Net_part := meth_mk ax_Net_part ix_Net_part lx_Net_part cx_Net_part kx_Net_part fun _ _ _ _ _ _ us hl => match us, hl with | [_, _], _ => rfl
  let a_Net_heal : MethAt K C_Net "heal" "Net.heal" P_Net_heal s_Net_heal := meth_mk ax_Net_heal ix_Net_heal lx_Net_heal cx_Net_heal kx_Net_heal fun _ _ _ _ _ _ us hl => match us, hl with | [_], _ => rfl
  let a_Net__check_position : MethAt K C_Net "_check_position" "Net._check_position" P_Net__check_position s_Net__check_position := meth_mk ax_Net__check_position ix_Net__check_position lx_Net__check_position cx_Net__check_position kx_Net__check_position fun _ _ _ _ _ _ us hl => match us, hl with | [_, _], _ => rfl
  let a_is_integer : DefAt K mg "is_integer" P_is_integer s_is_integer := at_mk X G ax_is_integer lx_is_integer cx_is_integer kx_is_integer fun _ _ _ _ _ _ us hl => match us, hl with | [_, _, _], _ => rfl
  let a_is_process : DefAt K mg "is_process" P_is_process s_is_process := at_mk X G ax_is_process lx_is_process cx_is_process kx_is_process fun _ _ _ _ _ _ us hl => match us, hl with | [_, _], _ => rfl
  let a_is_groups : DefAt K mg "is_groups" P_is_groups s_is_groups := at_mk X G ax_is_groups lx_is_groups cx_is_groups kx_is_groups fun _ _ _ _ _ _ us hl => match us, hl with | [_, _], _ => rfl
  let a__law_bag : DefAt K mg "_law_bag" P__law_bag s__law_bag := at_mk X G ax__law_bag lx__law_bag cx__law_bag kx__law_bag fun _ _ _ _ _ _ us hl => match us, hl with | [_, _], _ => rfl
  let a__law_draw : DefAt K mg "_law_draw" P__law_draw s__law_draw := at_mk X G ax__law_draw lx__law_draw cx__law_draw kx__law_draw fun _ _ _ _ _ _ us hl => match us, hl with | [_, _], _ => rfl
  let a__law_call : DefAt K mg "_law_call" P__law_call s__law_call := at_mk X G ax__law_call lx__law_call cx__law_call kx__law_call fun _ _ _ _ _ _ us hl => match us, hl with | [_, _, _], _ => rfl
  let a__law_due : DefAt K mg "_law_due" P__law_due s__law_due := at_mk X G ax__law_due lx__law_due cx__law_due kx__law_due fun _ _ _ _ _ _ us hl => match us, hl with | [_, _, _], _ => rfl
  let a__law_position : DefAt K mg "_law_position" P__law_position s__law_position := at_mk X G ax__law_position lx__law_position cx__law_position kx__law_position fun _ _ _ _ _ _ us hl => match us, hl with | [_, _], _ => rfl
  let a__law_right : DefAt K mg "_law_right" P__law_right s__law_right := at_mk X G ax__law_right lx__law_right cx__law_right kx__law_right fun _ _ _ _ _ _ us hl => match us, hl with | [_, _], _ => rfl
  have F_law := fun_mk (st := s_law) lx_law cx_law kx_law
  refine ⟨PySem.W.fnOf "law" "law" (defArgs s_law) (defBody s_law) (defScope s_law) .none kVx_law dcx_law pmx_law anx_law cdx_law ctx_law, fun s v => .of_eq rfl, fun base _ _ => ?_⟩
  let x_BadSchedule : ExOk l.prog w K mg base C_BadSchedule "BadSchedule" P_BadSchedule___init__ 1 (sp_bs C_BadSchedule) := ⟨_, _, ok_bs T F_BadSchedule, T.o_BadSchedule, iI_BadSchedule, tI_BadSchedule, T.g_BadSchedule, F_BadSchedule.binds (ps := P_BadSchedule___init__) fun _ _ _ _ _ _ us hl => match us, hl with | [_, _, _], _ => rfl⟩
  let k_Net : MkOk l.prog w K mg base C_Net "Net" P_Net___init__ 1 (sp_ninit C_Net) := a_Net___init__.mk' mk_Net kc_Net T.g_Net fun F => ok_ninit T F
  let c_is_integer : DefOk l.prog w K mg base CX0 "is_integer" P_is_integer 1 (spI) := a_is_integer.ok fun F => ok_is_integer T  F
  let c_is_process : DefOk l.prog w K mg base CX0 "is_process" P_is_process 2 (spB2 isProc) := a_is_process.ok fun F => ok_is_process T c_is_integer F
  let c_is_groups : DefOk l.prog w K mg base CX0 "is_groups" P_is_groups 3 (sp_groups) := a_is_groups.ok fun F => ok_is_groups T c_is_process F
  let m_Net_send : MethOk l.prog w K mg base (CX0) C_Net "send" P_Net_send 1 (sp_send C_Net) := a_Net_send.ok fun F => ok_send T  F
  let m_Net_packets : MethOk l.prog w K mg base (CX0) C_Net "packets" P_Net_packets 1 (sp_packs C_Net) := a_Net_packets.ok fun F => ok_packs T  F
  let m_Net__check_position : MethOk l.prog w K mg base (L2.CX l.prog w) C_Net "_check_position" P_Net__check_position 3 (sp_check C_Net C_BadSchedule) := a_Net__check_position.ok fun F => ok_check T x_BadSchedule c_is_integer F
  let m_Net_take : MethOk l.prog w K mg base (L2.CX l.prog w) C_Net "take" P_Net_take 4 (sp_byp C_Net C_BadSchedule aTake id) := a_Net_take.ok fun F => ok_take T m_Net__check_position F
  let m_Net_double : MethOk l.prog w K mg base (L2.CX l.prog w) C_Net "double" P_Net_double 4 (sp_byp C_Net C_BadSchedule aDouble fun _ => .non) := a_Net_double.ok fun F => ok_double T m_Net__check_position F
  let m_Net_move : MethOk l.prog w K mg base (L2.CX l.prog w) C_Net "move" P_Net_move 5 (sp_byp C_Net C_BadSchedule aMove fun _ => .non) := a_Net_move.ok fun F => ok_move T m_Net_take F
  let m_Net_part : MethOk l.prog w K mg base (CX0) C_Net "part" P_Net_part 4 (sp_part C_Net) := a_Net_part.ok fun F => ok_part T c_is_groups F
  let m_Net_heal : MethOk l.prog w K mg base (CX0) C_Net "heal" P_Net_heal 5 (sp_heal C_Net) := a_Net_heal.ok fun F => ok_heal T m_Net_part F
  let c__law_bag : DefOk l.prog w K mg base CX0 "_law_bag" P__law_bag 1 (sp_bag K) := a__law_bag.ok fun F => ok__law_bag T  F
  let c__law_draw : DefOk l.prog w K mg base CX0 "_law_draw" P__law_draw 1 (sp_draw) := a__law_draw.ok fun F => ok__law_draw T  F
  let c__law_position : DefOk l.prog w K mg base CX0 "_law_position" P__law_position 2 (sp_lpos) := a__law_position.ok fun F => ok__law_position T c__law_draw F
  let c__law_due : DefOk l.prog w K mg base CX0 "_law_due" P__law_due 1 (sp_due) := a__law_due.ok fun F => ok__law_due T  F
  let c__law_call : DefOk l.prog w K mg base CX0 "_law_call" P__law_call 6 (sp_call C_Net) := a__law_call.ok fun F => ok__law_call T m_Net_take m_Net_double m_Net_move F
  let c__law_right : DefOk l.prog w K mg base CX0 "_law_right" P__law_right 2 (sp_right C_Net) := a__law_right.ok fun F => ok__law_right T m_Net_packets F
  exact ok_law T k_Net m_Net_send m_Net_part m_Net_heal c__law_bag c__law_draw c__law_position c__law_due c__law_call c__law_right F_law
end Mus
open PySem PySem.W PyProof.Rows
set_option maxRecDepth 100000 in
set_option maxHeartbeats 0 in
theorem PySem.Challenge.cw_mustercall_k50_net_of_packets_holds : PySem.Challenge.rw_mustercall_k50_net_of_packets.Holds := by
  w_on; o_law; k_head; (case hw => w_witness2)
  k_fill
  refine Mus.walk_ofX (l := PySem.Challenge.rw_mustercall_k50_net_of_packets) (n := 63) (k := 7) (x := "script") (sp := fun w => Mus.sp_law (_ : PySem.W.Frag)) rfl (by decide) rfl ⟨rfl, by decide, by decide⟩ (fun w h Y => PySem.W.kIn_of Y) ?F (fun _ _ a ns hl _ hS => ⟨a, ns, rfl, hS, hl, fun _ => rfl⟩)
  case F =>
    intro w mg fa h KX G XX hmg
    refine' Mus.all_mk KX G hmg ?aC_Net ?pg_Net ?hd_Net ?po_Net ?sa_Net ?mk_Net ?kc_Net ?n_Net__count ?n_Net__packets ?n_Net__groups ?ax_Net___init__ ?ix_Net___init__ ?lx_Net___init__ ?cx_Net___init__ ?kx_Net___init__ ?ax_Net_send ?ix_Net_send ?lx_Net_send ?cx_Net_send ?kx_Net_send ?ax_Net_take ?ix_Net_take ?lx_Net_take ?cx_Net_take ?kx_Net_take ?ax_Net_double ?ix_Net_double ?lx_Net_double ?cx_Net_double ?kx_Net_double ?ax_Net_move ?ix_Net_move ?lx_Net_move ?cx_Net_move ?kx_Net_move ?ax_Net_packets ?ix_Net_packets ?lx_Net_packets ?cx_Net_packets ?kx_Net_packets ?ax_Net_part ?ix_Net_part ?lx_Net_part ?cx_Net_part ?kx_Net_part ?ax_Net_heal ?ix_Net_heal ?lx_Net_heal ?cx_Net_heal ?kx_Net_heal ?ax_Net__check_position ?ix_Net__check_position ?lx_Net__check_position ?cx_Net__check_position ?kx_Net__check_position ?aC_BadSchedule ?xL_BadSchedule ?sa_BadSchedule ?ty_BadSchedule ?hs_BadSchedule ?kC_BadSchedule ?hg_BadSchedule ?hk_BadSchedule ?hd_BadSchedule ?n_BadSchedule_line ?n_BadSchedule_reason ?iI_BadSchedule ?lxIBadSchedule ?cxIBadSchedule ?kxIBadSchedule ?tI_BadSchedule ?m_BB ?ax_is_integer ?lx_is_integer ?cx_is_integer ?kx_is_integer ?ax_is_process ?lx_is_process ?cx_is_process ?kx_is_process ?ax_is_groups ?lx_is_groups ?cx_is_groups ?kx_is_groups ?ax__law_bag ?lx__law_bag ?cx__law_bag ?kx__law_bag ?ax__law_draw ?lx__law_draw ?cx__law_draw ?kx__law_draw ?ax__law_call ?lx__law_call ?cx__law_call ?kx__law_call ?ax__law_due ?lx__law_due ?cx__law_due ?kx__law_due ?ax__law_position ?lx__law_position ?cx__law_position ?kx__law_position ?ax__law_right ?lx__law_right ?cx__law_right ?kx__law_right ?ax_law ?lx_law ?cx_law ?kx_law ?vMOST_PROCESSES ?zlen ?zisinstance ?zint ?zbool ?ztuple ?zlist ?zrange ?zsorted
    (case aC_Net => first | k_is | rfl)
    (case pg_Net => first | k_is | rfl)
    (case hd_Net => first | k_is | rfl)
    (case po_Net => first | k_is | rfl)
    (case sa_Net => first | k_is | rfl)
    (case mk_Net => first | k_is | rfl)
    (case kc_Net => first | k_is | rfl)
    (case n_Net__count => first | k_is | rfl)
    (case n_Net__packets => first | k_is | rfl)
    (case n_Net__groups => first | k_is | rfl)
    (case ax_Net___init__ => first | k_is | rfl)
    (case ix_Net___init__ => first | k_is | rfl)
    (case lx_Net___init__ => first | k_is | rfl)
    (case cx_Net___init__ => first | k_is | rfl)
    (case kx_Net___init__ => first | k_is | rfl)
    (case ax_Net_send => first | k_is | rfl)
    (case ix_Net_send => first | k_is | rfl)
    (case lx_Net_send => first | k_is | rfl)
    (case cx_Net_send => first | k_is | rfl)
    (case kx_Net_send => first | k_is | rfl)
    (case ax_Net_take => first | k_is | rfl)
    (case ix_Net_take => first | k_is | rfl)
    (case lx_Net_take => first | k_is | rfl)
    (case cx_Net_take => first | k_is | rfl)
    (case kx_Net_take => first | k_is | rfl)
    (case ax_Net_double => first | k_is | rfl)
    (case ix_Net_double => first | k_is | rfl)
    (case lx_Net_double => first | k_is | rfl)
    (case cx_Net_double => first | k_is | rfl)
    (case kx_Net_double => first | k_is | rfl)
    (case ax_Net_move => first | k_is | rfl)
    (case ix_Net_move => first | k_is | rfl)
    (case lx_Net_move => first | k_is | rfl)
    (case cx_Net_move => first | k_is | rfl)
    (case kx_Net_move => first | k_is | rfl)
    (case ax_Net_packets => first | k_is | rfl)
    (case ix_Net_packets => first | k_is | rfl)
    (case lx_Net_packets => first | k_is | rfl)
    (case cx_Net_packets => first | k_is | rfl)
    (case kx_Net_packets => first | k_is | rfl)
    (case ax_Net_part => first | k_is | rfl)
    (case ix_Net_part => first | k_is | rfl)
    (case lx_Net_part => first | k_is | rfl)
    (case cx_Net_part => first | k_is | rfl)
    (case kx_Net_part => first | k_is | rfl)
    (case ax_Net_heal => first | k_is | rfl)
    (case ix_Net_heal => first | k_is | rfl)
    (case lx_Net_heal => first | k_is | rfl)
    (case cx_Net_heal => first | k_is | rfl)
    (case kx_Net_heal => first | k_is | rfl)
    (case ax_Net__check_position => first | k_is | rfl)
    (case ix_Net__check_position => first | k_is | rfl)
    (case lx_Net__check_position => first | k_is | rfl)
    (case cx_Net__check_position => first | k_is | rfl)
    (case kx_Net__check_position => first | k_is | rfl)
    (case aC_BadSchedule => first | k_is | rfl)
    (case xL_BadSchedule => first | k_is | rfl)
    (case sa_BadSchedule => first | k_is | rfl)
    (case ty_BadSchedule => first | k_is | rfl)
    (case hs_BadSchedule => first | k_is | rfl)
    (case kC_BadSchedule => first | k_is | rfl)
    (case hg_BadSchedule => first | k_is | rfl)
    (case hk_BadSchedule => first | k_is | rfl)
    (case hd_BadSchedule => first | k_is | rfl)
    (case n_BadSchedule_line => first | k_is | rfl)
    (case n_BadSchedule_reason => first | k_is | rfl)
    (case iI_BadSchedule => first | k_is | rfl)
    (case lxIBadSchedule => first | k_is | rfl)
    (case cxIBadSchedule => first | k_is | rfl)
    (case kxIBadSchedule => first | k_is | rfl)
    (case tI_BadSchedule => first | k_is | rfl)
    (case m_BB => first | k_is | rfl)
    (case ax_is_integer => first | k_is | rfl)
    (case lx_is_integer => first | k_is | rfl)
    (case cx_is_integer => first | k_is | rfl)
    (case kx_is_integer => first | k_is | rfl)
    (case ax_is_process => first | k_is | rfl)
    (case lx_is_process => first | k_is | rfl)
    (case cx_is_process => first | k_is | rfl)
    (case kx_is_process => first | k_is | rfl)
    (case ax_is_groups => first | k_is | rfl)
    (case lx_is_groups => first | k_is | rfl)
    (case cx_is_groups => first | k_is | rfl)
    (case kx_is_groups => first | k_is | rfl)
    (case ax__law_bag => first | k_is | rfl)
    (case lx__law_bag => first | k_is | rfl)
    (case cx__law_bag => first | k_is | rfl)
    (case kx__law_bag => first | k_is | rfl)
    (case ax__law_draw => first | k_is | rfl)
    (case lx__law_draw => first | k_is | rfl)
    (case cx__law_draw => first | k_is | rfl)
    (case kx__law_draw => first | k_is | rfl)
    (case ax__law_call => first | k_is | rfl)
    (case lx__law_call => first | k_is | rfl)
    (case cx__law_call => first | k_is | rfl)
    (case kx__law_call => first | k_is | rfl)
    (case ax__law_due => first | k_is | rfl)
    (case lx__law_due => first | k_is | rfl)
    (case cx__law_due => first | k_is | rfl)
    (case kx__law_due => first | k_is | rfl)
    (case ax__law_position => first | k_is | rfl)
    (case lx__law_position => first | k_is | rfl)
    (case cx__law_position => first | k_is | rfl)
    (case kx__law_position => first | k_is | rfl)
    (case ax__law_right => first | k_is | rfl)
    (case lx__law_right => first | k_is | rfl)
    (case cx__law_right => first | k_is | rfl)
    (case kx__law_right => first | k_is | rfl)
    (case ax_law => first | k_is | rfl)
    (case lx_law => first | k_is | rfl)
    (case cx_law => first | k_is | rfl)
    (case kx_law => first | k_is | rfl)
    (case vMOST_PROCESSES => first | k_is | rfl)
    (case zlen => first | k_is | rfl)
    (case zisinstance => first | k_is | rfl)
    (case zint => first | k_is | rfl)
    (case zbool => first | k_is | rfl)
    (case ztuple => first | k_is | rfl)
    (case zlist => first | k_is | rfl)
    (case zrange => first | k_is | rfl)
    (case zsorted => first | k_is | rfl)

