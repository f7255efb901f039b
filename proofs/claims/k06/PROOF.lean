import PyProof.Rows.All
import Wide.All
import OpenK.AllK
import Wide.FinOn
import HandS.Base
import HandS.Call
import HandS.List
import HandS.Comp
import HandS.Ends
import HandS.Iter
import HandS.Text
import HandS.Words
import HandS.WordsList
import HandS.Wide
import HandS.IsInst
import HandS.TupAny
import HandS.Dict
import HandS.WordsDict
import HandS.Conv
import HandS.More
import HandS.Codes
import HandS.SortRule
import HandS.Walk
import HandS.FStr
import HandS.StrMore
import KE.GoesEnum
import HandS.Exc
import HandS.ExcOwn
import HandS.TryOnly
import HandS.WordsExc
import HandS.TryMany
import HandS.ExcIs
import HandS.TupLe
import PySem.Challenge.RW_mustercall_k06_logs_and_pending_casts
set_option Elab.async false
set_option linter.all false
set_option maxRecDepth 100000
set_option maxHeartbeats 4000000
/-! What my proofs share: a def with its promise as one thing, small rules, heaps. -/
namespace Mus
open PySem L2
/-- a def of the text that keeps a promise, and all that a call of it asks -/
structure DefOk (P : Program) (w : World) (K : PySem.W.Frag) (mg : Str → Option Value) (base : Heap) (CX : CXT) (x : Str) (ps : List Str) (k : Nat) (sp : Sp) where
  f : Addr
  fd : FuncData
  G : FnOk P w K mg base CX k f fd ps sp
  m : mg x = some (.ref f)
  kp : PySem.W.keepIn K (.ref f) = true
  b : Binds K fd ps []
def DefOk.mono {P : Program} {w : World} {K : PySem.W.Frag} {mg : Str → Option Value} {base : Heap} {CX : CXT} {x : Str} {ps : List Str} {j k : Nat} {sp : Sp} (c : DefOk P w K mg base CX x ps j sp) (h : j ≤ k) : DefOk P w K mg base CX x ps k sp :=
  ⟨c.f, c.fd, c.G.mono h, c.m, c.kp, c.b⟩
/-- a def of the text as the top left it: no promise yet -/
structure DefAt (K : PySem.W.Frag) (mg : Str → Option Value) (x : Str) (ps : List Str) (st : Stmt) where
  f : Addr
  fd : FuncData
  F : Fun K x x st f fd
  m : mg x = some (.ref f)
  b : Binds K fd ps []
def DefAt.ok {P : Program} {w : World} {K : PySem.W.Frag} {mg : Str → Option Value} {base : Heap} {CX : CXT} {x : Str} {ps : List Str} {st : Stmt} {k : Nat} {sp : Sp} (d : DefAt K mg x ps st) (h : ∀ {f : Addr} {fd : FuncData}, Fun K x x st f fd → FnOk P w K mg base CX k f fd ps sp) : DefOk P w K mg base CX x ps k sp :=
  ⟨d.f, d.fd, h d.F, d.m, d.F.kp, d.b⟩
section
variable {X : Cx}
theorem pcall {x : Str} {ps : List Str} {j k : Nat} {sp : Sp} {e : Expr} {es : List Expr} {t : TA} {p pos : Pos} (c : DefOk X.prog X.w X.K X.mg X.base CX0 x ps j sp) (hr : Room k X.A) (ha : PA X (e :: es) t) (hj : j ≤ k := by first | decide | omega) (hg : Gl X x := by rfl)
    (db0 : (x == ("__debug__" : Str)) = false := by decide) (st0 : starEach (e :: es) X.env = (false, eval e X.env) :: starEach es X.env := by rfl) (pl0 : (backTo pos (starEach es X.env)).any (·.1) = false := by rfl) :
    PE X (.Call (.Name x p) (e :: es) [] pos) (tCall sp [] E0 t) := pe_call c.G (hr.mono hj) hg c.m c.kp c.b .nil pass0 ha db0 st0 pl0
/-- a text n times -/
theorem op_mul_str : OpR X (binaryOp .Mult) (fun x y H Q => ∃ (z : Str) (n : Int), x = .str z ∧ y = .int n ∧ 2 ≤ n ∧ n ≤ 1000 ∧ 1 ≤ z.length ∧ z.length ≤ 1000 ∧ ∀ r : Str, TL.tl r = (List.replicate n.toNat (TL.tl z)).flatten → Q (.str r) H) := by
  intro pins s σ H x y v u Q I rx ry h
  obtain ⟨z, n, rfl, rfl, h2, h3, h4, h5, q⟩ := h
  obtain ⟨t, rfl⟩ := rx
  obtain ⟨t', rfl⟩ := ry
  have n1 : ¬ n < 1 := by omega
  have n2 : ¬ (n == 1 || z.length == 0) = true := by
    rw [Bool.or_eq_true, beq_iff_eq, beq_iff_eq]; omega
  have hr : (decide (n < -(2 ^ 63 : Int)) || decide (n ≥ 2 ^ 63)) = false := by
    rw [decide_eq_false (by omega), decide_eq_false (by omega)]; rfl
  have hm : z.length * n.toNat ≤ 1000 * 1000 := Nat.mul_le_mul h5 (by omega)
  have hl : Builtin.Str.tooLong (z.length * n.toNat) = false := by
    unfold Builtin.Str.tooLong
    have e : sizeLine = 16777216 := sizeLine_eq
    rw [decide_eq_false (by omega)]
  have hb : ¬ ((z.length : Int) > (2 ^ 63 - 1) / n) := by
    have : (1000 : Int) ≤ (2 ^ 63 - 1) / n := by
      rw [Int.le_ediv_iff_mul_le (by omega)]
      omega
    omega
  refine PySem.P.mul_str hr (fun _ _ => hb) (fun _ _ => hl) ?_
  rw [if_neg n1, if_neg n2]
  have hf : ∀ (k : Nat) (acc : Array Nat), ((List.replicate k z.cps).foldl (· ++ ·) acc).toList = acc.toList ++ (List.replicate k z.cps.toList).flatten := by
    intro k
    induction k with
    | zero => intro acc; simp
    | succ k ih =>
      intro acc
      rw [List.replicate_succ, List.foldl_cons, ih, List.replicate_succ, List.flatten_cons, Array.toList_append, List.append_assoc]
  have hr : TL.tl (⟨(List.replicate n.toNat z.cps).foldl (· ++ ·) #[]⟩ : Str) = (List.replicate n.toNat (TL.tl z)).flatten := by
    show ((List.replicate n.toNat z.cps).foldl (· ++ ·) #[]).toList = _
    rw [hf]; rfl
  have hlen : (⟨(List.replicate n.toNat z.cps).foldl (· ++ ·) #[]⟩ : Str).length ≤ sizeLine := by
    rw [TL.len_tl, hr]
    have e : sizeLine = 16777216 := sizeLine_eq
    have z2 : ((List.replicate n.toNat (TL.tl z)).flatten).length = z.length * n.toNat := by
      rw [TL.len_tl]
      generalize n.toNat = k
      induction k with
      | zero => rfl
      | succ k ih => rw [List.replicate_succ, List.flatten_cons, List.length_append, ih, Nat.mul_succ, Nat.add_comm]
    omega
  exact ⟨hlen, .str _, H, I.tok _, ⟨_, rfl⟩, q _ hr⟩
/-- for c in a text -/
theorem for_str {z : Str} {g : TG} {tb : TS} {D : Ends} {σ : St} {H : Hp} (Pv : Nat → St → Hp → Prop) (h0 : Pv 0 σ H)
    (hs : ∀ i c σ H, (TL.tl z)[i]? = some c → Pv i σ H → g (.str ⟨#[c]⟩) σ H fun σ2 H2 => tb { D with nx := Pv (i + 1), ct := Pv (i + 1), bk := D.nx } σ2 H2) (hd : ∀ σ H, Pv (TL.tl z).length σ H → D.nx σ H) :
    ∃ W : Nat → Nat → St → Hp → Prop, (∃ m, W 0 m σ H) ∧ ∀ i m σ H, W i m σ H →
      ((Its z).stop i H ∧ D.nx σ H) ∨ ((Its z).go i H ∧ ∃ N : St → Hp → Prop, (∀ σ' H', N σ' H' → ∃ m', m' < m ∧ W (i + 1) m' σ' H') ∧ ∀ x H', (Its z).yld i H x H' → g x σ H' fun σ2 H2 => tb { D with nx := N, ct := N, bk := D.nx } σ2 H2) := by
  have hl : (TL.tl z).length = z.cps.size := Array.length_toList
  refine ⟨fun i m σ H => m = (TL.tl z).length - i ∧ i ≤ (TL.tl z).length ∧ Pv i σ H, ⟨(TL.tl z).length, rfl, Nat.zero_le _, h0⟩, ?_⟩
  rintro i m σ H ⟨rfl, le1, pv1⟩
  by_cases lt1 : i < (TL.tl z).length
  · refine .inr ⟨(by show i < z.cps.size; omega), Pv (i + 1), fun σ' H' p' => ⟨(TL.tl z).length - (i + 1), by omega, rfl, lt1, p'⟩, fun x H' y => ?_⟩
    obtain ⟨e, c, hc, ex⟩ := y
    subst e
    subst ex
    exact hs i c σ H' (by rw [Array.getElem?_toList]; exact hc) pv1
  · have e : i = (TL.tl z).length := by omega
    subst e
    exact .inl ⟨(by show z.cps.size ≤ _; omega), hd σ H pv1⟩
end
/-! ### heaps -/
/-- all but what stands at p is as it was -/
def But (p : Addr) (H H' : Hp) : Prop := ∀ b o, H b = some o → b ≠ p → H' b = some o
theorem But.refl (p : Addr) (H : Hp) : But p H H := fun _ _ h _ => h
theorem But.trans {p : Addr} {H H1 H2 : Hp} (a : But p H H1) (b : But p H1 H2) : But p H H2 := fun c o h n => b c o (a c o h n) n
theorem But.of {p : Addr} {H H' : Hp} (a : Same H H') : But p H H' := fun c o h _ => a c o h
theorem same_new {H : Hp} {p : Addr} (h : H p = none) (o : HO) : Same H (upd H p o) := fun b u q => by rw [upd_ne (ne_of_none q h)]; exact q
theorem but_upd {H : Hp} {p : Addr} (o : HO) : But p H (upd H p o) := fun b u q n => by rw [upd_ne n]; exact q
theorem same_seqT {K : PySem.W.Frag} {H H' : Hp} {a : Addr} {xs : List V} (e : Same H H') (h : SqT K H a xs) : SqT K H' a xs := by
  rcases h with (h | ⟨o, h⟩) | h
  · exact .inl (.inl (e _ _ h))
  · exact .inl (.inr ⟨o, e _ _ h⟩)
  · exact .inr h
/-- tuples stay where only a list may change -/
theorem But.seqT {K : PySem.W.Frag} {H H' : Hp} {p a : Addr} {xs ys : List V} (e : But p H H') (hp : H p = some (.lst ys)) (h : SqT K H a xs) : SqT K H' a xs := by
  rcases h with (h | ⟨o, h⟩) | h
  · exact .inl (.inl (e _ _ h (ne_of h hp (by intro z; cases z))))
  · exact .inl (.inr ⟨o, e _ _ h (ne_of h hp (by intro z; cases z))⟩)
  · exact .inr h
theorem But.seqL {K : PySem.W.Frag} {H H' : Hp} {p a : Addr} {xs : List V} (e : But p H H') (hp : a ≠ p) (h : SqL K H a xs) : SqL K H' a xs := by
  rcases h with (h | ⟨o, h⟩) | h
  · exact .inl (.inl (e _ _ h hp))
  · exact .inl (.inr ⟨o, e _ _ h hp⟩)
  · exact .inr h
end Mus

set_option maxRecDepth 100000
set_option maxHeartbeats 4000000
/-! Plain data of any kind in the heap, beside one list (the bag, at p) that changes. -/
namespace Mus
open PySem L2
theorem sl : sizeLine = 16777216 := sizeLine_eq
theorem dT {p : Prop} [Decidable p] {A B : Prop} (h : p) (a : A) : if decide p = true then A else B := by
  rw [decide_eq_true h]; exact iteT a
theorem dF {p : Prop} [Decidable p] {A B : Prop} (h : ¬ p) (b : B) : if decide p = true then A else B := by
  rw [decide_eq_false h]; exact iteF b
theorem nT {p : Prop} [Decidable p] {A B : Prop} (h : ¬ p) (a : A) : if (!decide p) = true then A else B := by
  rw [decide_eq_false h]; exact iteT a
theorem nF {p : Prop} [Decidable p] {A B : Prop} (h : p) (b : B) : if (!decide p) = true then A else B := by
  rw [decide_eq_true h]; exact iteF b
theorem at_int {α : Type} {xs : List α} {i : Int} {v : α} (h0 : 0 ≤ i) (h : xs[i.toNat]? = some v) : atI xs i = some v := by
  have e : i = ((i.toNat : Nat) : Int) := by omega
  rw [e]
  exact atI_nat h
theorem pe_const {X : Cx} {x : Str} {i : Int} {pos : Pos} (hm : ∃ t, X.mg x = some (.int i t)) (hg : Gl X x := by rfl) (hd : (x == ("__debug__" : Str)) = false := by decide) : PE X (.Name x pos) (tC (.int i)) := by
  obtain ⟨t, h⟩ := hm
  exact pe_glob hg h ⟨t, rfl⟩ hd
theorem pe_ty {X : Cx} {x : Str} {pos : Pos} (n : String) (hm : X.mg x = none) (hv : bootBuiltins x = some (.type n) := by decide +kernel) (hg : Gl X x := by rfl) (hn : x ≠ "__name__" := by decide) (hd : (x == ("__debug__" : Str)) = false := by decide) : PE X (.Name x pos) (tC (.ty n)) := pe_bltn hg hm hv rfl hn hd
theorem pe_cls {X : Cx} {x : Str} {C : Addr} {pos : Pos} (hm : X.mg x = some (.ref C)) (hg : Gl X x := by rfl) (hd : (x == ("__debug__" : Str)) = false := by decide) : PE X (.Name x pos) (tC (.ref C)) := pe_glob (v := .ref C) hg hm rfl hd
mutual
/-- the value v stands for the data d, all of it tracked and none of it at p -/
inductive Rp (p : Addr) (H : Hp) : V → PyData → Prop
  | non : Rp p H .non .none
  | bl (b : Bool) : Rp p H (.bl b) (.bool b)
  | int (i : Int) : Rp p H (.int i) (.int i)
  | str (x : Str) : Rp p H (.str x) (.str x)
  | lst {a : Addr} {xs : List V} {ds : List PyData} : H a = some (.lst xs) → a ≠ p → Rps p H xs ds → Rp p H (.ref a) (.list ds)
  | tup {a : Addr} {xs : List V} {ds : List PyData} : H a = some (.tup xs) → a ≠ p → xs.length ≤ 100000 → Rps p H xs ds → Rp p H (.ref a) (.tuple ds)
inductive Rps (p : Addr) (H : Hp) : List V → List PyData → Prop
  | nil : Rps p H [] []
  | cons {v : V} {vs : List V} {d : PyData} {ds : List PyData} : Rp p H v d → Rps p H vs ds → Rps p H (v :: vs) (d :: ds)
end
mutual
theorem Rp.mono {p : Addr} {H H' : Hp} (k : But p H H') : ∀ {v : V} {d : PyData}, Rp p H v d → Rp p H' v d
  | _, _, .non => .non
  | _, _, .bl b => .bl b
  | _, _, .int i => .int i
  | _, _, .str x => .str x
  | _, _, .lst h n r => .lst (k _ _ h n) n (Rps.mono k r)
  | _, _, .tup h n l r => .tup (k _ _ h n) n l (Rps.mono k r)
theorem Rps.mono {p : Addr} {H H' : Hp} (k : But p H H') : ∀ {vs : List V} {ds : List PyData}, Rps p H vs ds → Rps p H' vs ds
  | _, _, .nil => .nil
  | _, _, .cons a b => .cons (Rp.mono k a) (Rps.mono k b)
end
mutual
theorem Rp.dp {p : Addr} {K : PySem.W.Frag} {H : Hp} : ∀ {v : V} {d : PyData}, Rp p H v d → Dp K H v d
  | _, _, .non => .non
  | _, _, .bl b => .bl b
  | _, _, .int i => .int i
  | _, _, .str x => .str x
  | _, _, .lst h n r => .lst (SqL.of h) (Rps.dp r)
  | _, _, .tup h n _ r => .tup (SqT.of h) (Rps.dp r)
theorem Rps.dp {p : Addr} {K : PySem.W.Frag} {H : Hp} : ∀ {vs : List V} {ds : List PyData}, Rps p H vs ds → DpAll K H vs ds
  | _, _, .nil => .nil
  | _, _, .cons a b => .cons (Rp.dp a) (Rps.dp b)
end
theorem Rp.same {p : Addr} {H H' : Hp} {v : V} {d : PyData} (k : Same H H') (h : Rp p H v d) : Rp p H' v d := h.mono (But.of k)
theorem Rps.same {p : Addr} {H H' : Hp} {vs : List V} {ds : List PyData} (k : Same H H') (h : Rps p H vs ds) : Rps p H' vs ds := h.mono (But.of k)
theorem Rps.length {p : Addr} {H : Hp} : ∀ {vs : List V} {ds : List PyData}, Rps p H vs ds → vs.length = ds.length
  | _, _, .nil => rfl
  | _, _, .cons _ r => by rw [List.length_cons, List.length_cons, Rps.length r]
theorem Rps.at {p : Addr} {H : Hp} : ∀ {vs : List V} {ds : List PyData} {i : Nat} {v : V}, Rps p H vs ds → vs[i]? = some v → ∃ d, ds[i]? = some d ∧ Rp p H v d
  | _, _, i, v, .nil, h => by simp at h
  | _, _, 0, v, .cons a _, h => by cases h; exact ⟨_, rfl, a⟩
  | _, _, i + 1, v, .cons _ r, h => Rps.at (i := i) r (by simpa using h)
theorem Rps.get {p : Addr} {H : Hp} : ∀ {vs : List V} {ds : List PyData} {i : Nat} {d : PyData}, Rps p H vs ds → ds[i]? = some d → ∃ v, vs[i]? = some v ∧ Rp p H v d
  | _, _, i, v, .nil, h => by simp at h
  | _, _, 0, v, .cons a _, h => by cases h; exact ⟨_, rfl, a⟩
  | _, _, i + 1, v, .cons _ r, h => Rps.get (i := i) r (by simpa using h)
theorem Rps.append {p : Addr} {H : Hp} : ∀ {vs ws : List V} {ds es : List PyData}, Rps p H vs ds → Rps p H ws es → Rps p H (vs ++ ws) (ds ++ es)
  | _, _, _, _, .nil, r => r
  | _, _, _, _, .cons a q, r => .cons a (Rps.append q r)
theorem Rps.take {p : Addr} {H : Hp} : ∀ {vs : List V} {ds : List PyData} (n : Nat), Rps p H vs ds → Rps p H (vs.take n) (ds.take n)
  | _, _, 0, _ => .nil
  | _, _, n + 1, .nil => .nil
  | _, _, n + 1, .cons a q => .cons a (Rps.take n q)
theorem Rps.drop {p : Addr} {H : Hp} : ∀ {vs : List V} {ds : List PyData} (n : Nat), Rps p H vs ds → Rps p H (vs.drop n) (ds.drop n)
  | _, _, 0, r => r
  | _, _, n + 1, .nil => .nil
  | _, _, n + 1, .cons a q => Rps.drop n q
/-! ### classes of data -/
def tyD : PyData → Value
  | .none => .type "NoneType" | .bool _ => .type "bool" | .int _ => .type "int" | .str _ => .type "str" | .list _ => .type "list" | .tuple _ => .type "tuple" | .dict _ => .type "dict"
theorem Rp.ty {p : Addr} {K : PySem.W.Frag} {H : Hp} {v : V} {d : PyData} (h : Rp p H v d) : TyX K H v (tyD d) := by
  cases h with
  | non => exact .base .non
  | bl b => exact .base (.bl b)
  | int i => exact .base (.int i)
  | str x => exact .base (.str x)
  | lst h _ _ => exact .base (.lst h)
  | tup h _ _ _ => exact .base (.tup h)
def dInt : PyData → Bool
  | .int _ => true | .bool _ => true | _ => false
def dBool : PyData → Bool
  | .bool _ => true | _ => false
def dStr : PyData → Bool
  | .str _ => true | _ => false
def dTup : PyData → Bool
  | .tuple _ => true | _ => false
theorem kit_int {K : PySem.W.Frag} : ∀ d : PyData, PySem.W.kitOne K (tyD d) (.type "int") = some (dInt d)
  | .none => kit_ty (r := false) (by decide +kernel)
  | .bool _ => kit_ty (r := true) (by decide +kernel)
  | .int _ => kit_ty (r := true) (by decide +kernel)
  | .str _ => kit_ty (r := false) (by decide +kernel)
  | .list _ => kit_ty (r := false) (by decide +kernel)
  | .tuple _ => kit_ty (r := false) (by decide +kernel)
  | .dict _ => kit_ty (r := false) (by decide +kernel)
theorem kit_bool {K : PySem.W.Frag} : ∀ d : PyData, PySem.W.kitOne K (tyD d) (.type "bool") = some (dBool d)
  | .none => kit_ty (r := false) (by decide +kernel)
  | .bool _ => kit_ty (r := true) (by decide +kernel)
  | .int _ => kit_ty (r := false) (by decide +kernel)
  | .str _ => kit_ty (r := false) (by decide +kernel)
  | .list _ => kit_ty (r := false) (by decide +kernel)
  | .tuple _ => kit_ty (r := false) (by decide +kernel)
  | .dict _ => kit_ty (r := false) (by decide +kernel)
theorem kit_str {K : PySem.W.Frag} : ∀ d : PyData, PySem.W.kitOne K (tyD d) (.type "str") = some (dStr d)
  | .none => kit_ty (r := false) (by decide +kernel)
  | .bool _ => kit_ty (r := false) (by decide +kernel)
  | .int _ => kit_ty (r := false) (by decide +kernel)
  | .str _ => kit_ty (r := true) (by decide +kernel)
  | .list _ => kit_ty (r := false) (by decide +kernel)
  | .tuple _ => kit_ty (r := false) (by decide +kernel)
  | .dict _ => kit_ty (r := false) (by decide +kernel)
theorem kit_tup {K : PySem.W.Frag} : ∀ d : PyData, PySem.W.kitOne K (tyD d) (.type "tuple") = some (dTup d)
  | .none => kit_ty (r := false) (by decide +kernel)
  | .bool _ => kit_ty (r := false) (by decide +kernel)
  | .int _ => kit_ty (r := false) (by decide +kernel)
  | .str _ => kit_ty (r := false) (by decide +kernel)
  | .list _ => kit_ty (r := false) (by decide +kernel)
  | .tuple _ => kit_ty (r := true) (by decide +kernel)
  | .dict _ => kit_ty (r := false) (by decide +kernel)
end Mus
namespace Mus
open PySem L2
/-! ### members and view ids, as functions of data -/
def isInt (d : PyData) (a b : Int) : Bool := match d with | .int i => decide (a ≤ i) && decide (i ≤ b) | _ => false
def isProc (c d : PyData) : Bool := match c with | .int n => (decide (1 ≤ n) && decide (n ≤ 12)) && isInt d 0 (n - 1) | _ => false
def isMem (c : PyData) : PyData → Bool
  | .tuple [x, y] => isProc c x && isInt y 1 1000000000000
  | _ => false
def isVid (c : PyData) : PyData → Bool
  | .tuple [x, y] => isInt x 0 1000000000000 && isMem c y
  | _ => false
def procOf : PyData → Int
  | .tuple (.int i :: _) => i
  | _ => 0
def memsFrom (c : PyData) : Int → List PyData → Bool
  | _, [] => true
  | l, d :: ds => isMem c d && decide (l < procOf d) && memsFrom c (procOf d) ds
def isMems (c : PyData) : PyData → Bool
  | .tuple ds => !ds.isEmpty && memsFrom c (-1) ds
  | _ => false
theorem isProc_int {c d : PyData} (h : isProc c d = true) : ∃ n i, c = .int n ∧ d = .int i ∧ 1 ≤ n ∧ n ≤ 12 ∧ 0 ≤ i ∧ i < n := by
  cases c <;> try (simp [isProc] at h; done)
  rename_i n
  cases d <;> try (simp [isProc, isInt] at h; done)
  rename_i i
  simp [isProc, isInt] at h
  exact ⟨n, i, rfl, rfl, by omega, by omega, by omega, by omega⟩
theorem isInt_int {d : PyData} {a b : Int} (h : isInt d a b = true) : ∃ i, d = .int i ∧ a ≤ i ∧ i ≤ b := by
  cases d <;> try (simp [isInt] at h; done)
  rename_i i
  simp [isInt] at h
  exact ⟨i, rfl, h.1, h.2⟩
theorem isMem_int {c d : PyData} (h : isMem c d = true) : ∃ n i l, c = .int n ∧ d = .tuple [.int i, .int l] ∧ 1 ≤ n ∧ n ≤ 12 ∧ 0 ≤ i ∧ i < n ∧ 1 ≤ l ∧ l ≤ 1000000000000 := by
  unfold isMem at h
  split at h
  · rename_i x y
    rw [Bool.and_eq_true] at h
    obtain ⟨n, i, rfl, rfl, h1, h2, h3, h4⟩ := isProc_int h.1
    obtain ⟨l, rfl, h5, h6⟩ := isInt_int h.2
    exact ⟨n, i, l, rfl, rfl, h1, h2, h3, h4, h5, h6⟩
  · cases h
/-! ### promises: a truth told of data, nothing changed -/
def spI : Sp := fun vs H Q _ => ∃ (p : Addr) (v : V) (d : PyData) (a b : Int), vs = [v, .int a, .int b] ∧ Rp p H v d ∧ Q (.bl (isInt d a b)) H
def spB1 (f : PyData → Bool) : Sp := fun vs H Q _ => ∃ (p : Addr) (v : V) (d : PyData), vs = [v] ∧ Rp p H v d ∧ Q (.bl (f d)) H
def spB2 (f : PyData → PyData → Bool) : Sp := fun vs H Q _ => ∃ (p : Addr) (u v : V) (c d : PyData), vs = [u, v] ∧ Rp p H u c ∧ Rp p H v d ∧ Q (.bl (f c d)) H
/-- the same where new things may have come -/
def spS1 (f : PyData → Bool) : Sp := fun vs H Q _ => ∃ (p : Addr) (v : V) (d : PyData), vs = [v] ∧ Rp p H v d ∧ ∀ H', Same H H' → Q (.bl (f d)) H'
def spS2 (f : PyData → PyData → Bool) : Sp := fun vs H Q _ => ∃ (p : Addr) (u v : V) (c d : PyData), vs = [u, v] ∧ Rp p H u c ∧ Rp p H v d ∧ ∀ H', Same H H' → Q (.bl (f c d)) H'
theorem ansB {Q : VK} {H : Hp} {b c : Bool} (q : Q (.bl b) H) (e : b = c) : Q (.bl c) H := e ▸ q
theorem iB {A B : Prop} {b : Bool} (h1 : b = true → A) (h2 : b = false → B) : if b = true then A else B := by
  cases b
  · exact iteF (h2 rfl)
  · exact iteT (h1 rfl)
theorem vint_ne {a b : Int} (h : a ≠ b) : ¬ V.int a = V.int b := fun e => h (V.int.inj e)
theorem drop_cons {α : Type} {xs : List α} {i : Nat} {x : α} (h : xs[i]? = some x) : xs.drop i = x :: xs.drop (i + 1) := by
  obtain ⟨hi, e⟩ := List.getElem?_eq_some_iff.mp h
  rw [List.drop_eq_getElem_cons hi, e]
section
variable {P : Program} {w : World} {K : PySem.W.Frag} {mg : Str → Option Value} {base : Heap}
theorem no_call {CX : CXT} {k : Nat} {f : Addr} {fd : FuncData} {ps : List Str} {sp : Sp} (no : ∀ vs H Q E, ¬ sp vs H Q E) : FnOk P w K mg base CX k f fd ps sp :=
  ⟨fun vs H Q E h => absurd h (no vs H Q E), fun A outer s H args us vs Q E _ _ _ _ h => absurd h (no vs H Q E)⟩
end
end Mus

set_option maxRecDepth 100000
set_option maxHeartbeats 4000000
/-! The bag of a law's draws, new things beside it, displays of data, tuples cut and joined. -/
namespace Mus
open PySem L2
def Bag (p : Addr) (c : Int) (H : Hp) : Prop := ∃ x y : Int, H p = some (.lst [.int x, .int y, .int c])
theorem Bag.seqT {K : PySem.W.Frag} {p : Addr} {c : Int} {H H' : Hp} (g : Bag p c H) (b : But p H H') {a : Addr} {xs : List V} (h : SqT K H a xs) : SqT K H' a xs := by
  obtain ⟨x, y, hp⟩ := g
  exact b.seqT hp h
theorem Bag.ne {p D : Addr} {c : Int} {H : Hp} (g : Bag p c H) (h : H D = none) : p ≠ D := by
  obtain ⟨x, y, hp⟩ := g
  exact ne_of_none hp h
theorem Bag.upd {p D : Addr} {c : Int} {H : Hp} {o : HO} (g : Bag p c H) (h : p ≠ D) : Bag p c (upd H D o) := by
  obtain ⟨x, y, hp⟩ := g
  exact ⟨x, y, by rw [upd_ne h]; exact hp⟩
theorem Bag.new {p D : Addr} {c : Int} {H : Hp} {o : HO} (g : Bag p c H) (h : H D = none) : Bag p c (L2.upd H D o) := g.upd (g.ne h)
theorem Bag.same {p : Addr} {c : Int} {H H' : Hp} (g : Bag p c H) (s : Same H H') : Bag p c H' := by
  obtain ⟨x, y, hp⟩ := g
  exact ⟨x, y, s _ _ hp⟩
/-- a new thing -/
theorem But.new {p D : Addr} {H H' : Hp} {o : HO} (b : But p H H') (h : H' D = none) : But p H (L2.upd H' D o) := fun a u e n => by
  have z := b a u e n
  rw [upd_ne (ne_of_none z h)]; exact z
/-- a change at what was not there at first -/
theorem But.later {p D : Addr} {H H' : Hp} {o : HO} (b : But p H H') (h : H D = none) : But p H (L2.upd H' D o) := fun a u e n => by
  rw [upd_ne (ne_of_none e h)]; exact b a u e n
theorem But.free {p D : Addr} {H H' : Hp} (b : But p H H') (h : H' D = none) (n : D ≠ p) : H D = none := by
  cases e : H D with
  | none => rfl
  | some o =>
    have z := b D o e n
    rw [h] at z; cases z
/-! ### displays -/
/-- the expression gives the int i, and that is all -/
def DI (te : TE) (σ : St) (i : Int) : Prop := ∀ (H : Hp) (Q : VK), Q (.int i) H → te σ H Q
/-- the expression gives the data d, new things beside what was -/
def DE (p : Addr) (te : TE) (σ : St) (d : PyData) : Prop := ∀ (c : Int) (H : Hp) (Q : VK), Bag p c H → (∀ v H', Same H H' → Bag p c H' → Rp p H' v d → Q v H') → te σ H Q
def DEs (p : Addr) (ta : TA) (σ : St) (ds : List PyData) : Prop := ∀ (c : Int) (H : Hp) (Q : List V → Hp → Prop), Bag p c H → (∀ vs H', Same H H' → Bag p c H' → Rps p H' vs ds → Q vs H') → ta σ H Q
section
variable {p : Addr} {σ : St} {te ta1 tb1 : TE} {ta : TA} {i j : Int} {d : PyData} {ds : List PyData}
theorem Same.rfl' (H : Hp) : Same H H := fun _ _ h => h
theorem di_c : DI (tC (.int i)) σ i := fun _ _ q => q
theorem di_v {n : Nat} (h : σ[n]? = some (some (.int i))) : DI (tVar n) σ i := fun _ _ q => ⟨_, h, q⟩
theorem di_op {f : Int → Int → Int} (h1 : DI ta1 σ i) (h2 : DI tb1 σ j) : DI (tOp (rI0 fun i j => .int (f i j)) ta1 tb1) σ (f i j) := fun H Q q => h1 H _ (h2 H _ ⟨i, j, rfl, rfl, q⟩)
theorem di_opC {C : Int → Int → Prop} {f : Int → Int → Int} (h1 : DI ta1 σ i) (h2 : DI tb1 σ j) (hc : C i j) : DI (tOp (rI C fun i j => .int (f i j)) ta1 tb1) σ (f i j) := fun H Q q => h1 H _ (h2 H _ ⟨i, j, rfl, rfl, hc, q⟩)
theorem di_neg (h1 : DI te σ i) : DI (tUn (rU fun i => .int (-i)) te) σ (-i) := fun H Q q => h1 H _ ⟨i, rfl, q⟩
theorem de_i (h : DI te σ i) : DE p te σ (.int i) := fun c H Q g q => h H Q (q _ H (Same.rfl' H) g (.int i))
theorem de_bl {b : Bool} : DE p (tC (.bl b)) σ (.bool b) := fun c H Q g q => q _ H (Same.rfl' H) g (.bl b)
theorem de_str {z : Str} : DE p (tC (.str z)) σ (.str z) := fun c H Q g q => q _ H (Same.rfl' H) g (.str z)
theorem de_non : DE p (tC .non) σ .none := fun c H Q g q => q _ H (Same.rfl' H) g .non
theorem des_nil : DEs p tNil σ [] := fun c H Q g q => q [] H (Same.rfl' H) g .nil
theorem des_cons (h1 : DE p te σ d) (h2 : DEs p ta σ ds) : DEs p (tCons te ta) σ (d :: ds) := fun c H Q g q =>
  h1 c H _ g fun v H1 s1 g1 r1 => h2 c H1 _ g1 fun vs H2 s2 g2 r2 => q _ H2 (s1.trans s2) g2 (.cons (r1.same s2) r2)
theorem de_tup (h : DEs p ta σ ds) (hl : ds.length ≤ 1000) : DE p (tTup ta) σ (.tuple ds) := fun c H Q g q =>
  h c H _ g fun vs H1 s1 g1 r1 => ⟨by have := r1.length; have := sl; omega, fun a na => q _ _ (s1.trans (same_new na _)) (g1.new na) (.tup upd_same (g1.ne na).symm (by have := r1.length; omega) (r1.same (same_new na _)))⟩
theorem de_lst (h : DEs p ta σ ds) (hl : ds.length ≤ 1000) : DE p (tLst ta) σ (.list ds) := fun c H Q g q =>
  h c H _ g fun vs H1 s1 g1 r1 => ⟨by have := r1.length; have := sl; omega, fun a na => q _ _ (s1.trans (same_new na _)) (g1.new na) (.lst upd_same (g1.ne na).symm (r1.same (same_new na _)))⟩
theorem de_lstN (n : Nat) (R : PyData → Prop) {c : Int} {H : Hp} {Q : VK} (h : ∃ ds, DEs p ta σ ds ∧ ds.length = n ∧ ∀ d ∈ ds, R d) (hn : n ≤ 1000) (g : Bag p c H)
    (q : ∀ ds v H', ds.length = n → (∀ d ∈ ds, R d) → Same H H' → Bag p c H' → Rp p H' v (.list ds) → Q v H') : tLst ta σ H Q := by
  obtain ⟨ds, h1, h2, h3⟩ := h
  exact de_lst h1 (by omega) c H Q g fun v H' => q ds v H' h2 h3
theorem de_cat {es : List PyData} (h1 : DE p ta1 σ (.list ds)) (h2 : DE p tb1 σ (.list es)) (hl : ds.length + es.length ≤ 1000) : DE p (tOp rCat ta1 tb1) σ (.list (ds ++ es)) := fun c H Q g q =>
  h1 c H _ g fun v H1 s1 g1 r1 => h2 c H1 _ g1 fun u H2 s2 g2 r2 => by
    obtain _ | _ | _ | _ | @⟨a, xs, _, ha, na, hr⟩ | _ := r1.same s2
    obtain _ | _ | _ | _ | @⟨b, ys, _, hb, nb, hr2⟩ | _ := r2
    refine ⟨a, b, xs, ys, rfl, rfl, ha, hb, ?_, fun t nt => q _ _ (s1.trans (s2.trans (same_new nt _))) (g2.new nt) (.lst upd_same (g2.ne nt).symm ((hr.append hr2).same (same_new nt _)))⟩
    have := hr.length; have := hr2.length; have := sl; omega
theorem de_varD {n : Nat} {v : V} (h : σ[n]? = some (some v)) (hd : ∀ H, Rp p H v d) : DE p (tVar n) σ d := fun c H Q g q => ⟨_, h, q _ H (Same.rfl' H) g (hd H)⟩
end
/-! ### tuples cut and joined -/
def cutD (ds : List PyData) (lo hi : Option Int) : List PyData := (ds.drop (HT.sIx ds.length 0 lo)).take (HT.sIx ds.length ds.length hi - HT.sIx ds.length 0 lo)
theorem Rps.cut {p : Addr} {H : Hp} {vs : List V} {ds : List PyData} (r : Rps p H vs ds) (lo hi : Option Int) : Rps p H (cutV vs lo hi) (cutD ds lo hi) := by
  unfold cutV cutD
  rw [r.length]
  exact (r.drop _).take _
theorem cutD_len (ds : List PyData) (lo hi : Option Int) : (cutD ds lo hi).length ≤ ds.length := by
  unfold cutD
  rw [List.length_take, List.length_drop]; omega
theorem cutD_mem {ds : List PyData} {lo hi : Option Int} {d : PyData} (h : d ∈ cutD ds lo hi) : d ∈ ds := List.mem_of_mem_drop (List.mem_of_mem_take h)
theorem cut_whole {xs : List V} {lo hi : Option Int} (h : HT.sIx xs.length 0 lo = 0 ∧ HT.sIx xs.length xs.length hi = xs.length) : cutV xs lo hi = xs := by
  unfold cutV
  rw [h.1, h.2, List.drop_zero, Nat.sub_zero, List.take_length]
section
variable {K : PySem.W.Frag} {p : Addr} {c : Int} {H : Hp} {Q : VK}
theorem rd_cut {a : Addr} {ds : List PyData} {lo hi : Option Int} (r : Rp p H (.ref a) (.tuple ds)) (g : Bag p c H)
    (q : ∀ b H', Same H H' → Bag p c H' → Rp p H' (.ref b) (.tuple (cutD ds lo hi)) → Q (.ref b) H') : rSlA K (.ref a) lo hi H Q := by
  obtain _ | _ | _ | _ | _ | @⟨_, xs, _, ha, na, hw, hr⟩ := r
  refine ⟨a, xs, rfl, SqT.of ha, fun w => ?_, fun w b nb => ?_⟩
  · refine q _ _ (Same.rfl' H) g (.tup ha na hw ?_)
    have z := hr.cut lo hi
    rw [cut_whole w] at z
    exact z
  · exact q _ _ (same_new nb _) (g.new nb) (.tup upd_same (g.ne nb).symm (Nat.le_trans (cutV_length _ _ _) hw) ((hr.cut lo hi).same (same_new nb _)))
theorem rd_cat {a b : Addr} {ds es : List PyData} (r1 : Rp p H (.ref a) (.tuple ds)) (r2 : Rp p H (.ref b) (.tuple es)) (g : Bag p c H) (hl : ds.length + es.length ≤ 100000)
    (q : ∀ t H', Same H H' → Bag p c H' → Rp p H' (.ref t) (.tuple (ds ++ es)) → Q (.ref t) H') : rCatA K (.ref a) (.ref b) H Q := by
  have k2 := r2
  have k1 := r1
  obtain _ | _ | _ | _ | _ | @⟨_, xs, _, ha, na, hw, hr⟩ := r1
  obtain _ | _ | _ | _ | _ | @⟨_, ys, _, hb, nb, hw2, hr2⟩ := r2
  have l1 := hr.length
  have l2 := hr2.length
  have hs := sl
  refine ⟨a, b, xs, ys, rfl, rfl, SqT.of ha, SqT.of hb, by omega, fun e => ?_, fun _ e => ?_, fun _ _ t nt => ?_⟩
  · subst e
    cases ds with
    | nil => exact q _ _ (Same.rfl' H) g k2
    | cons _ _ => cases l1
  · subst e
    cases es with
    | nil => rw [List.append_nil] at q; exact q _ _ (Same.rfl' H) g k1
    | cons _ _ => cases l2
  · exact q _ _ (same_new nt _) (g.new nt) (.tup upd_same (g.ne nt).symm (by rw [List.length_append]; omega) ((hr.append hr2).same (same_new nt _)))
end
/-! ### how deep and wide, what its texts are -/
def fit : Nat → PyData → Prop
  | 0, .tuple _ => False
  | n + 1, .tuple ds => ds.length ≤ 3000 ∧ ∀ d ∈ ds, fit n d
  | _, _ => True
inductive Her (P : Str → Prop) : PyData → Prop
  | tup {ds : List PyData} : (∀ d ∈ ds, Her P d) → Her P (.tuple ds)
  | str {z : Str} : P z → Her P (.str z)
  | non : Her P .none
  | bl (b : Bool) : Her P (.bool b)
  | int (i : Int) : Her P (.int i)
  | lst (ds : List PyData) : Her P (.list ds)
theorem Her.mem {P : Str → Prop} {ds : List PyData} (h : Her P (.tuple ds)) : ∀ d ∈ ds, Her P d := by
  cases h with
  | tup h => exact h
theorem Her.cut {P : Str → Prop} {ds : List PyData} (h : Her P (.tuple ds)) (lo hi : Option Int) : Her P (.tuple (cutD ds lo hi)) := .tup fun d m => h.mem d (cutD_mem m)
theorem Her.app {P : Str → Prop} {ds es : List PyData} (h : Her P (.tuple ds)) (k : Her P (.tuple es)) : Her P (.tuple (ds ++ es)) := .tup fun d m => by
  rcases List.mem_append.mp m with m | m
  · exact h.mem d m
  · exact k.mem d m
theorem Her.one {P : Str → Prop} {d : PyData} (h : Her P d) : Her P (.tuple [d]) := .tup fun e m => by rw [List.mem_singleton.mp m]; exact h
/-- one level less, if there is one -/
def spv (sp : Nat → Sp) (n : Nat) : Sp := fun vs H Q E => ∃ m, n = m + 1 ∧ sp m vs H Q E
/-- a thing spoilt: some data, its texts from the two -/
def sp_spoilt (n : Nat) : Sp := fun vs H Q _ => ∃ (p : Addr) (c : Int) (v o : V) (d e : PyData), vs = [.ref p, v, o] ∧ Bag p c H ∧ Rp p H v d ∧ Rp p H o e ∧ fit n d ∧
  ∀ v' d' H', Rp p H' v' d' → (∀ P, Her P d → Her P e → Her P d') → But p H H' → Bag p c H' → Q v' H'
def sp_bag (K : PySem.W.Frag) : Sp := fun vs H Q _ => ∃ (a : Addr) (ns : List Int) (k : Nat), vs = [.ref a, .int k] ∧ SqL K H a (ns.map V.int) ∧ ∀ p H', H p = none → Same H H' → Bag p k H' → Q (.ref p) H'
def sp_draw : Sp := fun vs H Q _ => ∃ (p : Addr) (c m : Int), vs = [.ref p, .int m] ∧ Bag p c H ∧ 0 < m ∧ m.natAbs < 2 ^ 100 ∧ ∀ r H', 0 ≤ r → r < m → But p H H' → Bag p c H' → Q (.int r) H'
/-- an int at least 1 and at most 10 ** 12 -/
def sp_pos : Sp := fun vs H Q _ => ∃ (p : Addr) (c : Int), vs = [.ref p] ∧ Bag p c H ∧ ∀ r H', 1 ≤ r → r ≤ 1000000000000 → But p H H' → Bag p c H' → Q (.int r) H'
end Mus
namespace Mus
open PySem L2
/-- no list in it -/
inductive NoL : PyData → Prop
  | tup {ds : List PyData} : (∀ d ∈ ds, NoL d) → NoL (.tuple ds)
  | str (z : Str) : NoL (.str z)
  | non : NoL .none
  | bl (b : Bool) : NoL (.bool b)
  | int (i : Int) : NoL (.int i)
theorem NoL.mem {ds : List PyData} (h : NoL (.tuple ds)) : ∀ d ∈ ds, NoL d := by
  cases h with
  | tup h => exact h
theorem NoL.two {a b : PyData} (h : NoL a) (k : NoL b) : NoL (.tuple [a, b]) := .tup fun d m => by
  rcases List.mem_cons.mp m with rfl | m
  · exact h
  · rw [List.mem_singleton.mp m]; exact k
theorem NoL.three {a b c : PyData} (h : NoL a) (k : NoL b) (l : NoL c) : NoL (.tuple [a, b, c]) := .tup fun d m => by
  rcases List.mem_cons.mp m with rfl | m
  · exact h
  · rcases List.mem_cons.mp m with rfl | m
    · exact k
    · rw [List.mem_singleton.mp m]; exact l
mutual
theorem Rp.upL {p D : Addr} {H H' : Hp} {ys : List V} (hD : H D = some (.lst ys)) (k : ∀ b o, H b = some o → b ≠ p → b ≠ D → H' b = some o) : ∀ {v : V} {d : PyData}, Rp p H v d → NoL d → Rp p H' v d
  | _, _, .non, _ => .non
  | _, _, .bl b, _ => .bl b
  | _, _, .int i, _ => .int i
  | _, _, .str x, _ => .str x
  | _, _, .lst h n r, z => nomatch z
  | _, _, .tup h n l r, z => .tup (k _ _ h n (ne_of h hD (by intro z; cases z))) n l (Rps.upL hD k r z.mem)
theorem Rps.upL {p D : Addr} {H H' : Hp} {ys : List V} (hD : H D = some (.lst ys)) (k : ∀ b o, H b = some o → b ≠ p → b ≠ D → H' b = some o) : ∀ {vs : List V} {ds : List PyData}, Rps p H vs ds → (∀ d ∈ ds, NoL d) → Rps p H' vs ds
  | _, _, .nil, _ => .nil
  | _, _, .cons a b, z => .cons (Rp.upL hD k a (z _ List.mem_cons_self)) (Rps.upL hD k b fun d m => z d (List.mem_cons_of_mem _ m))
end
/-- a change at the list at D -/
theorem Rps.updL {p D : Addr} {H : Hp} {ys : List V} {o : HO} (hD : H D = some (.lst ys)) {vs : List V} {ds : List PyData} (r : Rps p H vs ds) (z : ∀ d ∈ ds, NoL d) : Rps p (upd H D o) vs ds :=
  r.upL hD (fun b o h _ n => by rw [upd_ne n]; exact h) z
theorem Rp.updL {p D : Addr} {H : Hp} {ys : List V} {o : HO} (hD : H D = some (.lst ys)) {v : V} {d : PyData} (r : Rp p H v d) (z : NoL d) : Rp p (upd H D o) v d :=
  r.upL hD (fun b o h _ n => by rw [upd_ne n]; exact h) z
end Mus

set_option maxRecDepth 100000
set_option maxHeartbeats 4000000
/-! Methods and makers of own classes, as DefOk is for defs. -/
namespace Mus
open PySem L2
structure MethOk (P : Program) (w : World) (K : PySem.W.Frag) (mg : Str → Option Value) (base : Heap) (CX : CXT) (C : Addr) (x : Str) (ps : List Str) (k : Nat) (sp : Sp) where
  f : Addr
  fd : FuncData
  G : FnOk P w K mg base CX k f fd ps sp
  m : Meth K C x f
  b : Binds K fd ps []
structure MethAt (K : PySem.W.Frag) (C : Addr) (x qual : Str) (ps : List Str) (st : Stmt) where
  f : Addr
  fd : FuncData
  F : Fun K x qual st f fd
  m : Meth K C x f
  b : Binds K fd ps []
def MethAt.ok {P : Program} {w : World} {K : PySem.W.Frag} {mg : Str → Option Value} {base : Heap} {CX : CXT} {C : Addr} {x qual : Str} {ps : List Str} {st : Stmt} {k : Nat} {sp : Sp} (d : MethAt K C x qual ps st) (h : ∀ {f : Addr} {fd : FuncData}, Fun K x qual st f fd → FnOk P w K mg base CX k f fd ps sp) : MethOk P w K mg base CX C x ps k sp :=
  ⟨d.f, d.fd, h d.F, d.m, d.b⟩
/-- a class whose __init__ keeps the promise -/
structure MkOk (P : Program) (w : World) (K : PySem.W.Frag) (mg : Str → Option Value) (base : Heap) (C : Addr) (x : Str) (ps : List Str) (k : Nat) (sp : Sp) where
  f : Addr
  fd : FuncData
  G : FnOk P w K mg base CX0 k f fd ps sp
  M : Mk K C f
  g : mg x = some (.ref C)
  b : Binds K fd ps []
def MethAt.mk' {P : Program} {w : World} {K : PySem.W.Frag} {mg : Str → Option Value} {base : Heap} {C : Addr} {x : Str} {qual : Str} {ps : List Str} {st : Stmt} {k : Nat} {sp : Sp} (d : MethAt K C "__init__" qual ps st) (hm : PySem.W.makesIn K C = true) (hk : PySem.W.keepIn K (.ref C) = true) (g : mg x = some (.ref C))
    (h : ∀ {f : Addr} {fd : FuncData}, Fun K "__init__" qual st f fd → FnOk P w K mg base CX0 k f fd ps sp) : MkOk P w K mg base C x ps k sp :=
  ⟨d.f, d.fd, h d.F, ⟨hm, d.m.at_, d.m.fn, hk⟩, g, d.b⟩
section
variable {X : Cx} {C : Addr} {x m : Str} {ps : List Str} {j k : Nat} {sp : Sp} {o e : Expr} {es : List Expr} {to : TE} {t : TA} {p pos apos : Pos}
theorem pmeth {pl : Sem Bool} (c : MethOk X.prog X.w X.K X.mg X.base CX0 C m ps j sp) (cl : Cls X.K C) (ho : PE X o to) (hr : Room k X.A) (ha : PA X (e :: es) t) (hj : j ≤ k := by first | decide | omega)
    (st0 : starEach (e :: es) X.env = (false, eval e X.env) :: starEach es X.env := by rfl) (pl0 : (backTo pos (starEach es X.env)).any (·.1) = false := by rfl)
    (ht : eval (.Call (.Attribute o m apos) (e :: es) [] pos) X.env = (do
      let v ← eval o X.env; standAt apos.atName; let (f, one) ← holding [v] (getMethod v m pl)
      callWith pos f one (backTo pos (starEach (e :: es) X.env)) (backToKw pos (keywordEach [] X.env))) := by rfl) :
    PE X (.Call (.Attribute o m apos) (e :: es) [] pos) (tMeth C m sp [] E0 to t) := pe_meth ho cl c.m c.G (hr.mono hj) c.b .nil pass0 ha st0 pl0 ht
theorem pmeth0 {pl : Sem Bool} (c : MethOk X.prog X.w X.K X.mg X.base CX0 C m ps j sp) (cl : Cls X.K C) (ho : PE X o to) (hr : Room k X.A) (hj : j ≤ k := by first | decide | omega)
    (ht : eval (.Call (.Attribute o m apos) [] [] pos) X.env = (do
      let v ← eval o X.env; standAt apos.atName; let (f, one) ← holding [v] (getMethod v m pl)
      callWith pos f one (backTo pos (starEach [] X.env)) (backToKw pos (keywordEach [] X.env))) := by rfl) :
    PE X (.Call (.Attribute o m apos) [] [] pos) (tMeth C m sp [] E0 to tNil) := pe_meth0 ho cl c.m c.G (hr.mono hj) c.b .nil pass0 ht
theorem pmake (c : MkOk X.prog X.w X.K X.mg X.base C x ps j sp) (hr : Room k X.A) (ha : PA X (e :: es) t) (hj : j + 1 ≤ k := by first | decide | omega) (hg : Gl X x := by rfl)
    (d0 : (x == ("__debug__" : Str)) = false := by decide) (st0 : starEach (e :: es) X.env = (false, eval e X.env) :: starEach es X.env := by rfl) (pl0 : (backTo pos (starEach es X.env)).any (·.1) = false := by rfl) :
    PE X (.Call (.Name x p) (e :: es) [] pos) (tMake C sp [] E0 t) := pe_make c.M c.G (hr.mono hj) hg c.g c.b .nil pass0 ha d0 st0 pl0
theorem pmake0 (c : MkOk X.prog X.w X.K X.mg X.base C x ps j sp) (hr : Room k X.A) (hj : j + 1 ≤ k := by first | decide | omega) (hg : Gl X x := by rfl) (d0 : (x == ("__debug__" : Str)) = false := by decide) :
    PE X (.Call (.Name x p) [] [] pos) (tMake C sp [] E0 tNil) := pe_make0 c.M c.G (hr.mono hj) hg c.g c.b .nil pass0 d0
end
end Mus

set_option maxRecDepth 100000
set_option maxHeartbeats 4000000
namespace Mus
open PySem L2
/-! ### a dict of ints by ints -/
def KvI (n m : Int) (kvs : List (Key × V)) : Prop := ∀ kv ∈ kvs, ∃ i l : Int, kv = (Sum.inl i, V.int l) ∧ 0 ≤ i ∧ i < n ∧ 1 ≤ l ∧ l ≤ m
theorem mem_putK {κ : Type} [DecidableEq κ] {kvs : List (κ × V)} {k : κ} {v : V} {kv : κ × V} (h : kv ∈ putK kvs k v) : kv = (k, v) ∨ kv ∈ kvs := by
  unfold putK at h
  split at h
  · obtain ⟨q, hq, e⟩ := List.mem_map.mp h
    by_cases hk : q.1 = k
    · rw [if_pos hk] at e
      exact .inl (by rw [← e, hk])
    · rw [if_neg hk] at e
      exact .inr (e ▸ hq)
  · rcases List.mem_append.mp h with h | h
    · exact .inr h
    · exact .inl (List.mem_singleton.mp h)
theorem putK_ne {κ : Type} [DecidableEq κ] (kvs : List (κ × V)) (k : κ) (v : V) : putK kvs k v ≠ [] := by
  unfold putK
  split
  · intro e
    cases kvs with
    | nil => rename_i h; simp at h
    | cons a r => simp at e
  · simp
theorem putK_le {κ : Type} [DecidableEq κ] (c : List (κ × V)) (k : κ) (x : V) : (putK c k x).length ≤ c.length + 1 := by
  unfold putK
  split
  · rw [List.length_map]; omega
  · rw [List.length_append, List.length_singleton]; omega
theorem KvI.put {n m i l : Int} {kvs : List (Key × V)} (h : KvI n m kvs) (h0 : 0 ≤ i) (h1 : i < n) (h2 : 1 ≤ l) (h3 : l ≤ m) : KvI n m (putK kvs (Sum.inl i) (.int l)) := fun kv hk => by
  rcases mem_putK hk with e | e
  · exact ⟨i, l, e, h0, h1, h2, h3⟩
  · exact h kv e
def keyI : Key → Int
  | .inl i => i
  | .inr _ => 0
theorem KvI.keys {n m : Int} {kvs : List (Key × V)} (h : KvI n m kvs) : kvs.map (·.1) = (kvs.map fun kv => keyI kv.1).map Sum.inl := by
  rw [List.map_map]
  refine List.map_congr_left fun kv hk => ?_
  obtain ⟨i, l, rfl, _⟩ := h kv hk
  rfl
theorem valV_mem {κ : Type} [DecidableEq κ] : ∀ {kvs : List (κ × V)} {k : κ}, k ∈ kvs.map (·.1) → ∃ v, valV kvs k = some v ∧ (k, v) ∈ kvs
  | [], k, h => by simp at h
  | (a, b) :: r, k, h => by
    by_cases e : a = k
    · subst e
      exact ⟨b, valV_pos rfl, List.mem_cons_self⟩
    · rw [valV_neg e]
      have h2 : k ∈ r.map (·.1) := by
        rcases List.mem_cons.mp h with h | h
        · exact absurd h.symm e
        · exact h
      obtain ⟨v, h3, h4⟩ := valV_mem h2
      exact ⟨v, h3, List.mem_cons_of_mem _ h4⟩
/-- members of a group of n processes, lives at most m, as data -/
def Mems (n : Int) (ds : List PyData) : Prop := ∀ d ∈ ds, ∃ i l : Int, d = .tuple [.int i, .int l] ∧ 0 ≤ i ∧ i < n ∧ 1 ≤ l ∧ l ≤ 1000000000000
theorem Mems.noL {n : Int} {ds : List PyData} (h : Mems n ds) : ∀ d ∈ ds, NoL d := fun d hd => by
  obtain ⟨i, l, rfl, _⟩ := h d hd
  exact .two (.int _) (.int _)
/-- _law_members -/
def sp_mems : Sp := fun vs H Q _ => ∃ (p : Addr) (c n : Int), vs = [.ref p, .int n] ∧ Bag p c H ∧ 0 < n ∧ n ≤ 12 ∧ ∀ a H' ds, Rp p H' (.ref a) (.tuple ds) → Mems n ds → 0 < ds.length → ds.length ≤ 5 → But p H H' → Bag p c H' → Q (.ref a) H'
end Mus

set_option maxRecDepth 100000
set_option maxHeartbeats 4000000
/-! The texts of lives, as lists of signs. -/
namespace Mus
open PySem L2 TL PySem.NumText
def allD (l : List Nat) : Bool := l.all fun c => decide (48 ≤ c) && decide (c ≤ 57)
theorem allD_iff {l : List Nat} : allD l = true ↔ AllDigits l := by
  unfold allD AllDigits
  rw [List.all_eq_true]
  constructor
  · intro h c hc
    have := h c hc
    rw [Bool.and_eq_true, decide_eq_true_eq, decide_eq_true_eq] at this
    exact this
  · intro h c hc
    rw [Bool.and_eq_true, decide_eq_true_eq, decide_eq_true_eq]
    exact h c hc
/-- the text of a life -/
def lifeT (n : Nat) : List Nat := numL n ++ 61 :: numL n
/-- the life of a text, or 0 -/
def lifeF (l : List Nat) : Nat :=
  if (l.takeWhile fun c => decide (c ≠ 61)).length ≤ 13 ∧ allD (l.takeWhile fun c => decide (c ≠ 61)) = true ∧ (l.takeWhile fun c => decide (c ≠ 61)) ≠ [] then
    (if 1 ≤ digitsVal (l.takeWhile fun c => decide (c ≠ 61)) ∧ digitsVal (l.takeWhile fun c => decide (c ≠ 61)) ≤ 1000000000000 ∧ lifeT (digitsVal (l.takeWhile fun c => decide (c ≠ 61))) = l then digitsVal (l.takeWhile fun c => decide (c ≠ 61)) else 0)
  else 0
theorem lifeF_ne {l : List Nat} (h : lifeF l ≠ 0) : ∃ n, l = lifeT n ∧ 1 ≤ n ∧ n ≤ 1000000000000 ∧ lifeF l = n := by
  unfold lifeF at h ⊢
  by_cases h1 : (l.takeWhile fun c => decide (c ≠ 61)).length ≤ 13 ∧ allD (l.takeWhile fun c => decide (c ≠ 61)) = true ∧ (l.takeWhile fun c => decide (c ≠ 61)) ≠ []
  · rw [if_pos h1] at h ⊢
    by_cases h2 : 1 ≤ digitsVal (l.takeWhile fun c => decide (c ≠ 61)) ∧ digitsVal (l.takeWhile fun c => decide (c ≠ 61)) ≤ 1000000000000 ∧ lifeT (digitsVal (l.takeWhile fun c => decide (c ≠ 61))) = l
    · rw [if_pos h2] at h ⊢
      exact ⟨_, h2.2.2.symm, h2.1, h2.2.1, rfl⟩
    · rw [if_neg h2] at h; exact absurd rfl h
  · rw [if_neg h1] at h; exact absurd rfl h
theorem take_free {d r : List Nat} (h : 61 ∉ d) : (d ++ 61 :: r).takeWhile (fun c => decide (c ≠ 61)) = d := by
  induction d with
  | nil => simp [List.takeWhile]
  | cons c d ih =>
    have hc : c ≠ 61 := fun e => h (by rw [e]; exact List.mem_cons_self)
    rw [List.cons_append, List.takeWhile_cons, decide_eq_true hc, if_pos rfl, ih fun m => h (List.mem_cons_of_mem _ m)]
theorem dig_free {d : List Nat} (h : AllDigits d) : 61 ∉ d := fun m => by have := h 61 m; omega
theorem numL_head0 : ∀ n : Nat, 1 ≤ n → ∃ c r, numL n = c :: r ∧ 49 ≤ c := by
  intro n
  induction n using Nat.strongRecOn with
  | _ n ih =>
    intro h
    by_cases h10 : n < 10
    · exact ⟨48 + n, [], numL_lt h10, by omega⟩
    · obtain ⟨c, r, e, hc⟩ := ih (n / 10) (by omega) (by omega)
      exact ⟨c, r ++ [48 + n % 10], by rw [numL_step (by omega), e, List.cons_append], hc⟩
theorem map_chars : ∀ {l : List Nat}, AllDigits l → (l.map Char.ofNat).map Char.toNat = l
  | [], _ => rfl
  | c :: l, h => by
    have hc := h.head
    have e : (Char.ofNat c).toNat = c := by
      have : c = 48 ∨ c = 49 ∨ c = 50 ∨ c = 51 ∨ c = 52 ∨ c = 53 ∨ c = 54 ∨ c = 55 ∨ c = 56 ∨ c = 57 := by omega
      rcases this with rfl | rfl | rfl | rfl | rfl | rfl | rfl | rfl | rfl | rfl <;> decide
    rw [List.map_cons, List.map_cons, e, map_chars h.tail]
theorem numL_back {d : List Nat} (h : AllDigits d) {c : Nat} {r : List Nat} (e : d = c :: r) (hc : 49 ≤ c) : numL (digitsVal d) = d := by
  unfold numL
  rw [toDigits_digitsVal r.length d (by rw [e]; rfl) h (.inr ⟨c, r, e, hc⟩), map_chars h]
theorem lifeF_T {n : Nat} (h1 : 1 ≤ n) (h2 : n ≤ 1000000000000) : lifeF (lifeT n) = n := by
  unfold lifeF lifeT
  rw [take_free (dig_free (numL_digits n)), numL_val]
  have hl : (numL n).length ≤ 13 := numL_len (k := 13) (by decide) (by omega)
  rw [if_pos ⟨hl, allD_iff.mpr (numL_digits n), numL_ne n⟩, if_pos ⟨h1, h2, rfl⟩]
theorem lifeF_big {n : Nat} (h : n = 0 ∨ 1000000000000 < n) : lifeF (lifeT n) = 0 := by
  cases e : lifeF (lifeT n) with
  | zero => rfl
  | succ k =>
    exfalso
    obtain ⟨m, e1, e2, e3, _⟩ := lifeF_ne (l := lifeT n) (by rw [e]; simp)
    have hl := congrArg List.length e1
    unfold lifeT at e1 hl
    rw [List.length_append, List.length_append, List.length_cons, List.length_cons] at hl
    have := (List.append_inj e1 (by omega)).1
    have := numL_inj this
    omega
/-- the law's way -/
def chk (d : List Nat) : Nat := if allD d = true then (if d.length > 13 ∨ d.head? = some 48 ∨ digitsVal d > 1000000000000 then 0 else digitsVal d) else 0
def Half (l : List Nat) (k : Nat) : Prop := l[k]? = some 61 ∧ l.take k = l.drop (k + 1)
theorem half_eq {l : List Nat} {k : Nat} (h : Half l k) : l = l.take k ++ 61 :: l.take k := by
  obtain ⟨h1, h2⟩ := h
  obtain ⟨hk, e⟩ := List.getElem?_eq_some_iff.mp h1
  have e2 := List.take_append_drop k l
  rw [List.drop_eq_getElem_cons hk, e, ← h2] at e2
  exact e2.symm
theorem halves {d e : List Nat} (h : d ++ 61 :: d = e ++ 61 :: e) : d = e := by
  have hl := congrArg List.length h
  rw [List.length_append, List.length_append, List.length_cons, List.length_cons] at hl
  exact (List.append_inj h (by omega)).1
theorem due_yes {l : List Nat} {k : Nat} (h1 : 1 ≤ k) (hk : k < l.length) (h : Half l k) : chk (l.take k) = lifeF l := by
  have e := half_eq h
  have hlen : (l.take k).length = k := by rw [List.length_take]; omega
  generalize l.take k = d at e hlen
  subst e
  cases hd : allD d with
  | false =>
    have e1 : chk d = 0 := by unfold chk; rw [hd]; rfl
    rw [e1]
    cases e2 : lifeF (d ++ 61 :: d) with
    | zero => rfl
    | succ m =>
      exfalso
      obtain ⟨n, e3, _⟩ := lifeF_ne (l := d ++ 61 :: d) (by rw [e2]; simp)
      have := halves e3
      rw [this, allD_iff.mpr (numL_digits n)] at hd
      cases hd
  | true =>
    have ad := allD_iff.mp hd
    have tw := take_free (r := d) (dig_free ad)
    have dne : d ≠ [] := fun z => by rw [z] at hlen; simp at hlen; omega
    unfold chk lifeF
    rw [tw, hd, if_pos rfl]
    by_cases h13 : d.length ≤ 13
    · rw [if_pos (show d.length ≤ 13 ∧ true = true ∧ d ≠ [] from ⟨h13, rfl, dne⟩)]
      obtain ⟨c, r, ec⟩ : ∃ c r, d = c :: r := by
        cases d with
        | nil => exact absurd rfl dne
        | cons c r => exact ⟨c, r, rfl⟩
      have hc := ad c (by rw [ec]; exact List.mem_cons_self)
      by_cases h48 : c = 48
      · rw [if_pos (.inr (.inl (by rw [ec, h48]; rfl)))]
        rw [if_neg]
        rintro ⟨q1, _, q3⟩
        have e5 := halves q3
        obtain ⟨c', r', e6, e7⟩ := numL_head0 _ q1
        rw [e5, ec] at e6
        cases e6
        omega
      · by_cases hv : digitsVal d > 1000000000000
        · rw [if_pos (.inr (.inr hv)), if_neg (by rintro ⟨_, q2, _⟩; omega)]
        · have e8 := numL_back ad ec (by omega)
          have n1 : ¬ (d.length > 13 ∨ d.head? = some 48 ∨ digitsVal d > 1000000000000) := by
            rintro (q | q | q)
            · omega
            · rw [ec] at q; simp at q; exact h48 q
            · exact hv q
          have n2 : 1 ≤ digitsVal d ∧ digitsVal d ≤ 1000000000000 ∧ lifeT (digitsVal d) = d ++ 61 :: d := by
            refine ⟨?_, by omega, ?_⟩
            · rw [ec]; exact digitsVal_pos (by omega)
            · unfold lifeT; rw [e8]
          rw [if_neg n1, if_pos n2]
    · rw [if_pos (.inl (by omega)), if_neg (by rintro ⟨q, _⟩; exact h13 q)]
theorem due_no {l : List Nat} (h : ∀ k, 1 ≤ k → k < l.length → ¬ Half l k) : lifeF l = 0 := by
  cases e2 : lifeF l with
  | zero => rfl
  | succ m =>
    exfalso
    obtain ⟨n, e3, _⟩ := lifeF_ne (l := l) (by rw [e2]; simp)
    have hp : 1 ≤ (numL n).length := List.length_pos_iff.mpr (numL_ne n)
    refine h (numL n).length hp ?_ ⟨?_, ?_⟩
    · rw [e3]; unfold lifeT; rw [List.length_append, List.length_cons]; omega
    · rw [e3]; unfold lifeT; rw [List.getElem?_append_right (Nat.le_refl _), Nat.sub_self]; rfl
    · rw [e3]; unfold lifeT
      rw [List.take_left, ← List.drop_drop, List.drop_left]; rfl
end Mus

set_option maxRecDepth 100000
set_option maxHeartbeats 4000000
namespace Mus
open PySem L2 TL PySem.NumText
/-- a text n times, n from 0 -/
theorem op_mul_strN {X : Cx} : OpR X (binaryOp .Mult) (fun x y H Q => ∃ (z : Str) (n : Int), x = .str z ∧ y = .int n ∧ 0 ≤ n ∧ n ≤ 1000 ∧ 1 ≤ z.length ∧ z.length ≤ 1000 ∧ ∀ r : Str, TL.tl r = (List.replicate n.toNat (TL.tl z)).flatten → Q (.str r) H) := by
  intro pins s σ H x y v u Q I rx ry h
  obtain ⟨z, n, rfl, rfl, h2, h3, h4, h5, q⟩ := h
  by_cases n2 : 2 ≤ n
  · exact op_mul_str pins s σ H _ _ v u Q I rx ry ⟨z, n, rfl, rfl, n2, h3, h4, h5, q⟩
  obtain ⟨t, rfl⟩ := rx
  obtain ⟨t', rfl⟩ := ry
  have hr : (decide (n < -(2 ^ 63 : Int)) || decide (n ≥ 2 ^ 63)) = false := by
    rw [decide_eq_false (by omega), decide_eq_false (by omega)]; rfl
  have hl : Builtin.Str.tooLong (z.length * n.toNat) = false := by
    unfold Builtin.Str.tooLong
    have e : sizeLine = 16777216 := sizeLine_eq
    have : z.length * n.toNat ≤ 1000 * 1 := Nat.mul_le_mul h5 (by omega)
    rw [decide_eq_false (by omega)]
  have hz : z.length ≤ sizeLine := by rw [sizeLine_eq]; omega
  by_cases n0 : n = 0
  · subst n0
    refine PySem.P.mul_str hr (fun a _ => absurd (by decide) a) (fun a _ => absurd (by decide) a) ?_
    rw [if_pos (by decide)]
    exact ⟨by decide, .str _, H, I.tok _, ⟨_, rfl⟩, q _ (by simp; rfl)⟩
  · have e : n = 1 := by omega
    subst e
    refine PySem.P.mul_str hr (fun _ a => by simp at a) (fun _ a => by simp at a) ?_
    rw [if_neg (by decide), if_pos (by simp)]
    exact ⟨.str _, H, I, ⟨_, rfl⟩, q _ (by simp)⟩
end Mus

set_option maxRecDepth 100000
set_option maxHeartbeats 4000000
/-! enumerate of a tuple. -/
namespace PySem
open Sem (wp)
def enumO (a : Addr) : Obj := { cls := .type "enumerate", data := .fields #[.none, .bool false, .ref a, rawInt 0, .none, .none] }
theorem meets_enum1 {v : Value} {o : Obj} {H : Heap → Prop} (B : Begins v o H) :
    Meets (Builtin.«enumerate.__new__» ⟨[.type "enumerate", v], []⟩) (fun _ R s => H s.heap ∧ R (.ok (.ret (.ref (s.heap.push o).objs.size))) { s with heap := (s.heap.push o).push (enumO s.heap.objs.size) }) :=
  .of_wp fun prog w A R s h => by
    obtain ⟨hp, g, d, tk, os⟩ := s
    obtain ⟨h1, h⟩ := h
    have sub := sub_enumerate
    have it : ∀ {A' : Around} {E : Value → Shared → Prop} {Q : Value → Shared → Prop}, Q (.ref hp.objs.size) ⟨hp.push o, g, d, tk, os⟩ → wpAny (model prog w) A' (pyIter v) Q E ⟨hp, g, d, tk, os⟩ := fun q => B.iter _ _ _ _ _ _ h1 q
    wp_walk using it
    refine wpAny_stack_any fun st => wpAny_pure ?_
    split
    · rename_i c _ _ _ _ _
      cases (c == Value.type "enumerate") <;> (wp_walk using it; exact ⟨_, rfl, h⟩)
    · wp_walk using it
      exact ⟨_, rfl, h⟩
section
variable {prog : Program} {w : World} {A : Around} {E : Value → Shared → Prop} {s : Shared}
theorem call_enum1 {v : Value} {o : Obj} {H : Heap → Prop} {Q : Value → Shared → Prop} (B : Begins v o H) (h1 : H s.heap)
    (h : ∀ h', IsEnum h' (s.heap.objs.size + 1) s.heap.objs.size 0 .none → h'.get? s.heap.objs.size = some o → (∀ b u, s.heap.get? b = some u → h'.get? b = some u) → Q (.ref (s.heap.objs.size + 1)) { s with heap := h' }) :
    wpAny (model prog w) A (call (.type "enumerate") [v]) Q E s := by
  refine callType_new F.called_enumerate (by decide) (F.typeCall_enumerate_1 _) (F.newCall_enumerate_1 _) (fun obj => F.args_object_init_2 obj _) F.entry_enumerate_new (meets_enum1 B) ⟨h1, ?_⟩
  have z := Heap.size_push s.heap o
  have he : IsEnum ((s.heap.push o).push (enumO s.heap.objs.size)) (s.heap.objs.size + 1) s.heap.objs.size 0 .none := by
    have y := Heap.get?_push_size (s.heap.push o) (o := enumO s.heap.objs.size) rfl
    rw [z] at y; exact y
  show _ ∧ _
  rw [z]
  exact ⟨⟨_, he, rfl⟩, h _ he (Heap.get?_push_of_some _ (Heap.get?_push_size _ B.free)) fun b u x => Heap.get?_push_of_some _ (Heap.get?_push_of_some _ x)⟩
end
end PySem

set_option maxRecDepth 100000
set_option maxHeartbeats 4000000
namespace Mus
open PySem PySem.Spec PyProof.Rows L2
/-- the pairs (i, the tuple's item i) -/
def ItE (K : PySem.W.Frag) (a : Addr) : It where
  go := fun i H => ∃ (xs : List V) (x : V), SqT K H a xs ∧ xs[i]? = some x
  yld := fun i H v H' => ∃ T x, v = .ref T ∧ H T = none ∧ H' = upd H T (.tup [.int (i : Nat), x]) ∧ ∀ xs, SqT K H a xs → xs[i]? = some x
  stop := fun i H => ∃ xs : List V, SqT K H a xs ∧ xs.length = i
theorem turn_enT {P : Program} {w : World} {K : PySem.W.Frag} {elts : List Expr} {kk : Nat} {tpos : Pos} (a e it : Addr) :
    Turn P w K (.Tuple elts kk tpos) (ItE K a) [e, it] e (fun i h => (∃ old, IsEnum h e it ((i : Nat) : Int) old) ∧ h.IsTupleIter it a i ∧ e ≠ it ∧ a ≠ it ∧ a ≠ e) where
  mem := by simp
  obj := fun i h st b hb => by
    obtain ⟨⟨old, he⟩, ⟨o, ho, hc, hd⟩, _⟩ := st
    rcases List.mem_cons.mp hb with z | z
    · rw [z]; exact ⟨_, he, fun v q => nomatch q⟩
    · exact ⟨o, List.mem_singleton.mp z ▸ ho, fun v q => by rw [hd] at q; cases q⟩
  keep := fun i h h' st k => by
    obtain ⟨⟨old, he⟩, hi, r⟩ := st
    exact ⟨⟨old, k e List.mem_cons_self _ he⟩, hi.at fun o q => k it (by simp) o q, r⟩
  item := by
    intro X hP hw hK hc i pins s σ H E I hf st hg
    subst hP hw hK
    obtain ⟨⟨old, he⟩, hit, hne, hai, hae⟩ := st
    obtain ⟨xs, x, hq, hx⟩ := hg
    obtain ⟨its, rv, p, hz⟩ := I.tuple hq
    obtain ⟨u, hu, ru⟩ := rv.get hx
    have lt : i < its.toArray.size := by simpa using (List.getElem?_eq_some_iff.mp hu).1
    refine wpAny_pyNext_enum_itemD (Draws.tuple (A := X.A.in1) (I.ok.hd hc) it a hai its.toArray) he ⟨hit, p⟩ lt hne (by simp [hne, Ne.symm hae]) fun y h1 tk hy ho st1 hT hsz hk => ?_
    have ey : y = u := by
      have hy : its.toArray[i]? = some y := hy
      rw [List.getElem?_toArray, hu] at hy
      exact (Option.some.inj hy).symm
    subst ey
    refine ⟨_, rfl, wpAny_letOwnedTupleGo_enum (s := { s with heap := h1, toks := tk + 1 }) ho fun h2 he2 sb => ?_⟩
    have hel := Heap.lt_size he
    have hT2 := (sb.2 s.heap.objs.size (Nat.ne_of_gt hel)).trans hT
    have new : ObjOk X.prog X.w (upd H s.heap.objs.size (.tup [.int (i : Nat), x])) h2 s.heap.objs.size (.tup [.int (i : Nat), x]) := ⟨by show 2 ≤ sizeLine; decide, [.int i tk, y], .cons ⟨_, rfl⟩ (.cons ru .nil), ⟨_, hT2, rfl, _, rfl⟩⟩
    have I1 : Inv X pins σ (upd H s.heap.objs.size (.tup [.int (i : Nat), x])) { s with heap := h2, toks := tk + 1 } :=
      I.turnedNew (ch := [e, it]) (fun b ob hb q => by
        have n1 : b ≠ e := fun z => hb (by simp [z])
        have n2 : b ≠ it := fun z => hb (by simp [z])
        exact (sb.2 b n1).trans (hk b ob n1 n2 q)) hf (Nat.le_refl _) new
    have hfr : H s.heap.objs.size = none := I.hok.fresh (Nat.le_refl _)
    have ei : ((i : Nat) : Int) + 1 = ((i + 1 : Nat) : Int) := by omega
    rw [ei] at he2
    refine ⟨.ref s.heap.objs.size, _, I1, rfl, ⟨_, x, rfl, hfr, rfl, fun ys hy => by rw [I.tuple_inj hy hq]; exact hx⟩, ⟨⟨y, he2⟩, st1.1.at fun o q => (sb.2 it (Ne.symm hne)).trans q, hne, hai, hae⟩, fun b hb => ?_⟩
    have hb0 := (hf b hb).1
    rw [upd_ne]
    · exact hb0
    · intro z
      have hl : b < s.heap.objs.size := by
        rcases List.mem_cons.mp hb with z | z
        · rw [z]; exact hel
        · obtain ⟨o, q, _⟩ := hit
          rw [List.mem_singleton.mp z]; exact Heap.lt_size q
      exact Nat.ne_of_lt hl z
  done := by
    intro X hP hw hK hc i pins s σ H E I hf st hg
    subst hP hw hK
    obtain ⟨⟨old, he⟩, hit, hne, hai, hae⟩ := st
    obtain ⟨xs, hq, hx⟩ := hg
    obtain ⟨its, rv, p, hz⟩ := I.tuple hq
    have hl := rv.length
    have ei : i = its.toArray.size := by rw [← hx, hl]; rfl
    subst ei
    obtain ⟨f0, f1, f2, f3, f4, f5⟩ := hf it (by simp)
    exact wpAny_pyNext_enum_endD (Draws.tuple (A := X.A.in1) (I.ok.hd hc) it a hai its.toArray) he ⟨hit, p⟩ fun h1 eb => ⟨rfl, I.turned (t' := s.toks) (fun b o hb q => eb b o hb q) f0 f1 f3 f4 f5⟩
  self := fun A i s Q E st h => by
    obtain ⟨⟨_, he⟩, _⟩ := st
    exact wpAny_pyIter_enum he h
def iEnT (K : PySem.W.Frag) (ta : TA) : TI := fun σ H R => ta σ H fun vs H1 => ∃ a xs, vs = [.ref a] ∧ SqT K H1 a xs ∧ R (ItE K a) H1
theorem pi_enT {X : Cx} {e : Expr} {ta : TA} {p pos tpos : Pos} {elts : List Expr} {kk : Nat} (hg : Gl X "enumerate") (hm : X.mg "enumerate" = none) (ha : PA X [e] ta) (hs : starEach [e] X.env = [(false, eval e X.env)] := by rfl) :
    PI X (.Tuple elts kk tpos) (.Call (.Name "enumerate" p) [e] [] pos) (iEnT X.K ta) := by
  refine ⟨fun pins s σ H R I h => ?_⟩
  refine Call_ (ld_blt I hg hm boot_enumerate (callWith_type1 (thn (ha.run pos pins s σ H _ I h) fun us s1 y => ?_) hs rfl))
  obtain ⟨vs, H1, I1, r1, a, xs, rfl, hq, q⟩ := y
  obtain _ | ⟨r, _ | _⟩ := r1
  cases r
  obtain ⟨its, rv, p', hz⟩ := I1.tuple hq
  have p'' : s1.heap.IsTuple a its.toArray := p'
  have la : a < s1.heap.objs.size := by
    obtain ⟨o, y, _⟩ := p''
    exact Heap.lt_size y
  refine call_enum1 (begins_tuple a its.toArray) p'' fun h1 he ho hk => wpAny_pyIter_enum he ?_
  have I2 : Inv X pins σ H1 { s1 with heap := h1 } := I1.kept (t' := s1.toks) hk
  refine ⟨s1.heap.objs.size + 1, [s1.heap.objs.size + 1, s1.heap.objs.size], _, _, H1, rfl, I2, turn_enT a (s1.heap.objs.size + 1) s1.heap.objs.size, ⟨⟨.none, he⟩, ⟨_, ho, rfl, rfl⟩, Nat.succ_ne_self _, Nat.ne_of_lt la, Nat.ne_of_lt (Nat.lt_succ_of_lt la)⟩, fun b hb => ?_, q⟩
  have hle : s1.heap.objs.size ≤ b := by
    rcases List.mem_cons.mp hb with z | z
    · rw [z]; exact Nat.le_succ _
    · rw [List.mem_singleton.mp z]; exact Nat.le_refl _
  exact I1.fpOk hle (I1.hok.fresh hle)
theorem walk_enT {K : PySem.W.Frag} {a : Addr} {xs : List V} : Walk (ItE K a) xs.length (fun H => SqT K H a xs) (YPair (fun i => some (.int (i : Nat))) (fun i => xs[i]?)) where
  goes := fun i H hi h => ⟨xs, _, h, List.getElem?_eq_getElem hi⟩
  stops := fun H h => ⟨xs, h, rfl⟩
  yields := fun i H v H' hi h y => by
    obtain ⟨T, x, e1, e2, e3, e4⟩ := y
    exact ⟨T, _, x, e1, e2, e3, rfl, e4 xs h⟩
end Mus

set_option maxRecDepth 100000
/-! Plain values and their canonical texts: the mathematics. -/
namespace Txt4
open PySem L2 PySem.NumText TL
/-- a plain value -/
inductive D where
  | int (i : Int)
  | str (z : Str)
  | tup (ds : List D)
/-- the signs of an int -/
def numI (i : Int) : List Nat := if i < 0 then 45 :: numL i.natAbs else numL i.natAbs
mutual
def enc : D → List Nat
  | .int i => numI i
  | .str z => numL (tl z).length ++ 58 :: tl z
  | .tup ds => 40 :: (encs ds ++ [41])
def encs : List D → List Nat
  | [] => []
  | d :: ds => enc d ++ 59 :: encs ds
end
mutual
def dep : D → Nat
  | .int _ => 0
  | .str _ => 0
  | .tup ds => deps ds + 1
def deps : List D → Nat
  | [] => 0
  | d :: ds => max (dep d) (deps ds)
end
/-- a printable sign -/
def Pr (c : Nat) : Prop := 32 ≤ c ∧ c ≤ 126 ∧ c ≠ 37
mutual
def ok : D → Prop
  | .int i => i.natAbs < 10 ^ 24
  | .str z => ∀ c ∈ tl z, Pr c
  | .tup ds => oks ds
def oks : List D → Prop
  | [] => True
  | d :: ds => ok d ∧ oks ds
end
/-- what may stand behind a value's text -/
def tailOk (r : List Nat) : Prop := r = [] ∨ ∃ q, r = 59 :: q
/-- no digit at the head -/
def nd (r : List Nat) : Prop := ∀ c q, r = c :: q → ¬ (48 ≤ c ∧ c ≤ 57)
theorem tailOk.nd {r : List Nat} (h : tailOk r) : nd r := by
  intro c q e
  rcases h with h | ⟨s, h⟩
  · rw [h] at e; cases e
  · rw [h] at e; cases e; omega
theorem nd_cons {c : Nat} {q : List Nat} (h : ¬ (48 ≤ c ∧ c ≤ 57)) : nd (c :: q) := by
  intro d s e; cases e; exact h
/-- two runs of digits -/
theorem run_eq : ∀ {a b r s : List Nat}, AllDigits a → AllDigits b → nd r → nd s → a ++ r = b ++ s → a = b ∧ r = s
  | [], [], _, _, _, _, _, _, e => ⟨rfl, e⟩
  | [], y :: b, r, s, _, hb, hr, _, e => by
    have z : r = y :: (b ++ s) := e
    exact absurd hb.head (hr _ _ z)
  | x :: a, [], r, s, ha, _, _, hs, e => by
    have z : s = x :: (a ++ r) := e.symm
    exact absurd ha.head (hs _ _ z)
  | x :: a, y :: b, r, s, ha, hb, hr, hs, e => by
    have z : x = y ∧ a ++ r = b ++ s := List.cons.inj e
    obtain ⟨h1, h2⟩ := run_eq ha.tail hb.tail hr hs z.2
    exact ⟨by rw [z.1, h1], h2⟩
theorem numI_inj {i j : Int} (h : numI i = numI j) : i = j := by
  unfold numI at h
  have d1 := numL_digits i.natAbs
  have d2 := numL_digits j.natAbs
  split at h <;> split at h
  · have := numL_inj (List.cons.inj h).2; omega
  · exfalso
    rw [← h] at d2
    have := d2.head; omega
  · exfalso
    rw [h] at d1
    have := d1.head; omega
  · have := numL_inj h; omega
theorem numL_head (n : Nat) : ∃ c q, numL n = c :: q ∧ 48 ≤ c ∧ c ≤ 57 := by
  have d := numL_digits n
  cases e : numL n with
  | nil => exact absurd e (numL_ne n)
  | cons c q =>
    rw [e] at d
    exact ⟨c, q, rfl, d.head⟩
theorem numI_run {i j : Int} {r s : List Nat} (hr : nd r) (hs : nd s) (e : numI i ++ r = numI j ++ s) : i = j ∧ r = s := by
  have d1 := numL_digits i.natAbs
  have d2 := numL_digits j.natAbs
  by_cases hi : i < 0 <;> by_cases hj : j < 0
  · have e' : 45 :: (numL i.natAbs ++ r) = 45 :: (numL j.natAbs ++ s) := by
      unfold numI at e; rw [if_pos hi, if_pos hj] at e; exact e
    obtain ⟨h1, h2⟩ := run_eq d1 d2 hr hs (List.cons.inj e').2
    have := numL_inj h1
    exact ⟨by omega, h2⟩
  · exfalso
    obtain ⟨c, q, h, hc⟩ := numL_head j.natAbs
    unfold numI at e; rw [if_pos hi, if_neg hj, h] at e
    have := (List.cons.inj e).1
    omega
  · exfalso
    obtain ⟨c, q, h, hc⟩ := numL_head i.natAbs
    unfold numI at e; rw [if_neg hi, if_pos hj, h] at e
    have := (List.cons.inj e).1
    omega
  · unfold numI at e; rw [if_neg hi, if_neg hj] at e
    obtain ⟨h1, h2⟩ := run_eq d1 d2 hr hs e
    have := numL_inj h1
    exact ⟨by omega, h2⟩
theorem numI_not40 {i : Int} {r q : List Nat} (e : numI i ++ r = 40 :: q) : False := by
  unfold numI at e
  split at e
  · have := (List.cons.inj e).1; omega
  · obtain ⟨c, p, h, hc⟩ := numL_head i.natAbs
    rw [h] at e
    have := (List.cons.inj e).1; omega
theorem numL_not40 {n : Nat} {r q : List Nat} (e : numL n ++ r = 40 :: q) : False := by
  obtain ⟨c, p, h, hc⟩ := numL_head n
  rw [h] at e
  have := (List.cons.inj e).1; omega
theorem int_str {i : Int} {n : Nat} {r q : List Nat} (hr : tailOk r) (e : numI i ++ r = numL n ++ 58 :: q) : False := by
  unfold numI at e
  split at e
  · obtain ⟨c, p, h, hc⟩ := numL_head n
    rw [h] at e
    have := (List.cons.inj e).1; omega
  · obtain ⟨_, h2⟩ := run_eq (numL_digits _) (numL_digits _) hr.nd (nd_cons (by omega)) e
    rcases hr with hr | ⟨s, hr⟩
    · rw [hr] at h2; cases h2
    · rw [hr] at h2; have := (List.cons.inj h2).1; omega
theorem cat_len {a b r s : List Nat} (h : a.length = b.length) (e : a ++ r = b ++ s) : a = b ∧ r = s := List.append_inj e h
mutual
/-- a text ahead of an end or a semicolon is one value's -/
theorem enc_run : ∀ (d e : D) (r s : List Nat), tailOk r → tailOk s → enc d ++ r = enc e ++ s → d = e ∧ r = s
  | .int i, .int j, r, s, hr, hs, h => by
    obtain ⟨h1, h2⟩ := numI_run hr.nd hs.nd h
    exact ⟨by rw [h1], h2⟩
  | .int i, .str z, r, s, hr, hs, h => by
    have h' : numI i ++ r = numL (tl z).length ++ 58 :: (tl z ++ s) := by
      have h0 : numI i ++ r = (numL (tl z).length ++ 58 :: tl z) ++ s := h
      rw [h0, List.append_assoc]; rfl
    exact (int_str hr h').elim
  | .int i, .tup es, r, s, hr, hs, h => (numI_not40 (h : numI i ++ r = 40 :: ((encs es ++ [41]) ++ s))).elim
  | .str z, .int j, r, s, hr, hs, h => by
    have h' : numI j ++ s = numL (tl z).length ++ 58 :: (tl z ++ r) := by
      have h0 : (numL (tl z).length ++ 58 :: tl z) ++ r = numI j ++ s := h
      rw [← h0, List.append_assoc]; rfl
    exact (int_str hs h').elim
  | .str z, .str y, r, s, hr, hs, h => by
    have h' : numL (tl z).length ++ 58 :: (tl z ++ r) = numL (tl y).length ++ 58 :: (tl y ++ s) := by
      have h0 : (numL (tl z).length ++ 58 :: tl z) ++ r = (numL (tl y).length ++ 58 :: tl y) ++ s := h
      rw [List.append_assoc, List.append_assoc] at h0; exact h0
    obtain ⟨h1, h2⟩ := run_eq (numL_digits _) (numL_digits _) (nd_cons (by omega)) (nd_cons (by omega)) h'
    obtain ⟨h3, h4⟩ := cat_len (numL_inj h1) (List.cons.inj h2).2
    exact ⟨by rw [ext_tl h3], h4⟩
  | .str z, .tup es, r, s, hr, hs, h => by
    have h0 : (numL (tl z).length ++ 58 :: tl z) ++ r = 40 :: ((encs es ++ [41]) ++ s) := h
    rw [List.append_assoc] at h0
    exact (numL_not40 h0).elim
  | .tup ds, .int j, r, s, hr, hs, h => (numI_not40 (h.symm : numI j ++ s = 40 :: ((encs ds ++ [41]) ++ r))).elim
  | .tup ds, .str z, r, s, hr, hs, h => by
    have h0 : (numL (tl z).length ++ 58 :: tl z) ++ s = 40 :: ((encs ds ++ [41]) ++ r) := h.symm
    rw [List.append_assoc] at h0
    exact (numL_not40 h0).elim
  | .tup ds, .tup es, r, s, hr, hs, h => by
    have h0 : 40 :: ((encs ds ++ [41]) ++ r) = 40 :: ((encs es ++ [41]) ++ s) := h
    have h1 := (List.cons.inj h0).2
    rw [List.append_assoc, List.append_assoc] at h1
    obtain ⟨h2, h3⟩ := encs_run ds es r s h1
    exact ⟨by rw [h2], h3⟩
theorem encs_run : ∀ (ds es : List D) (r s : List Nat), encs ds ++ 41 :: r = encs es ++ 41 :: s → ds = es ∧ r = s
  | [], [], r, s, h => ⟨rfl, (List.cons.inj h).2⟩
  | [], e :: es, r, s, h => by
    exfalso
    have h0 : 41 :: r = (enc e ++ 59 :: encs es) ++ 41 :: s := h
    rw [List.append_assoc] at h0
    exact enc_not41 e h0.symm
  | d :: ds, [], r, s, h => by
    exfalso
    have h0 : (enc d ++ 59 :: encs ds) ++ 41 :: r = 41 :: s := h
    rw [List.append_assoc] at h0
    exact enc_not41 d h0
  | d :: ds, e :: es, r, s, h => by
    have h0 : (enc d ++ 59 :: encs ds) ++ 41 :: r = (enc e ++ 59 :: encs es) ++ 41 :: s := h
    rw [List.append_assoc, List.append_assoc] at h0
    obtain ⟨h1, h2⟩ := enc_run d e _ _ (.inr ⟨_, rfl⟩) (.inr ⟨_, rfl⟩) h0
    obtain ⟨h3, h4⟩ := encs_run ds es r s (List.cons.inj h2).2
    exact ⟨by rw [h1, h3], h4⟩
theorem enc_not41 : ∀ (d : D) {r q : List Nat}, enc d ++ r = 41 :: q → False
  | .int i, r, q, h => by
    have h0 : numI i ++ r = 41 :: q := h
    unfold numI at h0
    split at h0
    · have := (List.cons.inj h0).1; omega
    · obtain ⟨c, p, e, hc⟩ := numL_head i.natAbs
      rw [e] at h0
      have := (List.cons.inj h0).1; omega
  | .str z, r, q, h => by
    obtain ⟨c, p, e, hc⟩ := numL_head (tl z).length
    have h0 : (numL (tl z).length ++ 58 :: tl z) ++ r = 41 :: q := h
    rw [e] at h0
    have := (List.cons.inj h0).1; omega
  | .tup ds, r, q, h => by
    have := (List.cons.inj (h : 40 :: ((encs ds ++ [41]) ++ r) = 41 :: q)).1; omega
end
/-- equal texts, equal values -/
theorem enc_inj {d e : D} (h : enc d = enc e) : d = e := (enc_run d e [] [] (.inl rfl) (.inl rfl) (by rw [List.append_nil, List.append_nil]; exact h)).1
/-- no text goes on behind another one with a semicolon -/
theorem enc_pre {d e : D} {q : List Nat} (h : enc e = enc d ++ 59 :: q) : False := by
  have z := enc_run e d [] (59 :: q) (.inl rfl) (.inr ⟨_, rfl⟩) (by rw [List.append_nil]; exact h)
  cases z.2
/-- every sign of a text is printable -/
theorem pr_digits {l : List Nat} (h : AllDigits l) : ∀ c ∈ l, Pr c := fun c hc => by
  have := h c hc
  exact ⟨by omega, by omega, by omega⟩
mutual
theorem enc_pr : ∀ (d : D), ok d → ∀ c ∈ enc d, Pr c
  | .int i, _, c, hc => by
    have hc' : c ∈ numI i := hc
    unfold numI at hc'
    split at hc'
    · rcases List.mem_cons.mp hc' with e | hc'
      · rw [e]; exact ⟨by omega, by omega, by omega⟩
      · exact pr_digits (numL_digits _) c hc'
    · exact pr_digits (numL_digits _) c hc'
  | .str z, h, c, hc => by
    have hc' : c ∈ numL (tl z).length ++ 58 :: tl z := hc
    rcases List.mem_append.mp hc' with hc' | hc'
    · exact pr_digits (numL_digits _) c hc'
    · rcases List.mem_cons.mp hc' with e | hc'
      · rw [e]; exact ⟨by omega, by omega, by omega⟩
      · exact h c hc'
  | .tup ds, h, c, hc => by
    have hc' : c ∈ 40 :: (encs ds ++ [41]) := hc
    rcases List.mem_cons.mp hc' with e | hc'
    · rw [e]; exact ⟨by omega, by omega, by omega⟩
    · rcases List.mem_append.mp hc' with hc' | hc'
      · exact encs_pr ds h c hc'
      · rw [List.mem_singleton.mp hc']; exact ⟨by omega, by omega, by omega⟩
theorem encs_pr : ∀ (ds : List D), oks ds → ∀ c ∈ encs ds, Pr c
  | [], _, c, hc => absurd (hc : c ∈ ([] : List Nat)) (List.not_mem_nil)
  | d :: ds, h, c, hc => by
    have hc' : c ∈ enc d ++ 59 :: encs ds := hc
    have h' : ok d ∧ oks ds := h
    rcases List.mem_append.mp hc' with hc' | hc'
    · exact enc_pr d h'.1 c hc'
    · rcases List.mem_cons.mp hc' with e | hc'
      · rw [e]; exact ⟨by omega, by omega, by omega⟩
      · exact encs_pr ds h'.2 c hc'
end
theorem enc_len (d : D) : 1 ≤ (enc d).length := by
  cases d with
  | int i =>
    have e : enc (.int i) = numI i := by rw [enc]
    rw [e]; unfold numI
    split
    · simp
    · obtain ⟨c, q, h, _⟩ := numL_head i.natAbs
      rw [h]; simp
  | str z => rw [enc, List.length_append, List.length_cons]; omega
  | tup ds => rw [enc]; simp

/-! ### parts -/
theorem encs_append : ∀ a b : List D, encs (a ++ b) = encs a ++ encs b
  | [], _ => rfl
  | d :: a, b => by
    show enc d ++ 59 :: encs (a ++ b) = (enc d ++ 59 :: encs a) ++ encs b
    rw [encs_append a b, List.append_assoc]; rfl
theorem encs_one (d : D) : encs [d] = enc d ++ [59] := rfl
theorem take_more {α : Type} {l : List α} {i : Nat} {x : α} (h : l[i]? = some x) : l.take (i + 1) = l.take i ++ [x] := by
  have hi : i < l.length := (List.getElem?_eq_some_iff.mp h).1
  have e : l[i] = x := (List.getElem?_eq_some_iff.mp h).2
  rw [List.take_succ_eq_append_getElem hi, e]
theorem encs_take {ds : List D} {i : Nat} {d : D} (h : ds[i]? = some d) : encs (ds.take (i + 1)) = encs (ds.take i) ++ (enc d ++ [59]) := by
  rw [take_more h, encs_append, encs_one]
theorem encs_take_le (ds : List D) (i : Nat) : (encs (ds.take i)).length ≤ (encs ds).length := by
  have e : encs ds = encs (ds.take i) ++ encs (ds.drop i) := by rw [← encs_append, List.take_append_drop]
  rw [e, List.length_append]; omega
theorem oks_at : ∀ {ds : List D} {i : Nat} {d : D}, oks ds → ds[i]? = some d → ok d
  | [], _, _, _, h => by simp at h
  | e :: ds, 0, d, k, h => by
    have z : e = d := Option.some.inj h
    rw [← z]; exact (k : ok e ∧ oks ds).1
  | e :: ds, i + 1, d, k, h => oks_at (k : ok e ∧ oks ds).2 (by simpa using h)
theorem deps_at : ∀ {ds : List D} {i : Nat} {d : D}, ds[i]? = some d → dep d ≤ deps ds
  | [], _, _, h => by simp at h
  | e :: ds, 0, d, h => by
    have z : e = d := Option.some.inj h
    rw [← z]; exact Nat.le_max_left _ _
  | e :: ds, i + 1, d, h => Nat.le_trans (deps_at (ds := ds) (by simpa using h)) (Nat.le_max_right _ _)
theorem oks_snoc : ∀ {ds : List D} {d : D}, oks ds → ok d → oks (ds ++ [d])
  | [], d, _, k => ⟨k, trivial⟩
  | e :: ds, d, h, k => ⟨(h : ok e ∧ oks ds).1, oks_snoc (h : ok e ∧ oks ds).2 k⟩
theorem deps_snoc : ∀ {ds : List D} {d : D} {n : Nat}, deps ds ≤ n → dep d ≤ n → deps (ds ++ [d]) ≤ n
  | [], d, n, _, k => Nat.max_le.mpr ⟨k, Nat.zero_le _⟩
  | e :: ds, d, n, h, k => Nat.max_le.mpr ⟨(Nat.max_le.mp h).1, deps_snoc (Nat.max_le.mp h).2 k⟩
theorem encs_len : ∀ ds : List D, ds.length ≤ (encs ds).length
  | [] => Nat.le_refl _
  | d :: ds => by
    have h := encs_len ds
    show ds.length + 1 ≤ (enc d ++ 59 :: encs ds).length
    rw [List.length_append, List.length_cons]; omega
/-- texts one behind the other -/
def flat (ws : List Str) : List Nat := (ws.map tl).flatten
theorem flat_append (a b : List Str) : flat (a ++ b) = flat a ++ flat b := by
  unfold flat; rw [List.map_append, List.flatten_append]
theorem flat_one (z : Str) : flat [z] = tl z := by
  unfold flat; simp
theorem joinL_nil : ∀ l : List (List Nat), joinL [] l = l.flatten
  | [] => rfl
  | [p] => by simp [joinL]
  | p :: q :: r => by
    show p ++ ([] ++ joinL [] (q :: r)) = _
    rw [joinL_nil (q :: r)]; rfl
theorem tl_glue (ws : List Str) : tl (Txt.join Str.empty ws) = flat ws := by
  rw [join_eq, tl_join]
  exact joinL_nil _
theorem flat_len (ws : List Str) : (ws.map (·.length)).sum = (flat ws).length := by
  induction ws with
  | nil => rfl
  | cons z r ih =>
    rw [List.map_cons, List.sum_cons, ih]
    show z.length + (flat r).length = (flat ([z] ++ r)).length
    rw [flat_append, flat_one, List.length_append, len_tl]

/-! ### numbers as texts -/
theorem tl_int (i : Int) : tl (Str.ofString (toString i)) = numI i := by
  cases i with
  | ofNat m =>
    have e : numI (Int.ofNat m) = numL m := by
      unfold numI
      rw [if_neg (by simp)]
      rfl
    rw [e]
    exact tl_num m
  | negSucc m =>
    have e : numI (Int.negSucc m) = 45 :: numL (m + 1) := by
      unfold numI
      rw [if_pos (by omega)]
      rfl
    rw [e, tl_ofString]
    have e2 : toString (Int.negSucc m) = "-" ++ toString (m + 1) := rfl
    rw [e2, String.toList_append, List.map_append]
    have e3 := tl_num (m + 1)
    rw [tl_ofString] at e3
    have e4 : (toString (((m + 1 : Nat)) : Int)) = toString (m + 1) := rfl
    rw [e4] at e3
    rw [e3]
    rfl
theorem numI_len {i : Int} (h : i.natAbs < 10 ^ 24) : (numI i).length ≤ 25 := by
  have z := numL_len (n := i.natAbs) (k := 24) (by omega) h
  unfold numI
  split
  · rw [List.length_cons]; omega
  · omega
theorem intText_numI {z : Str} {i : Int} (e : tl z = numI i) (h : i.natAbs < 10 ^ 24) : intText? z = some i := by
  have hl := numI_len h
  have hz : z.length ≤ 4300 := by rw [len_tl, e]; omega
  by_cases hi : i < 0
  · have e1 : z.cps.toList = 45 :: numL i.natAbs := by
      have e0 : tl z = numI i := e
      unfold numI at e0; rw [if_pos hi] at e0; exact e0
    rw [intText_neg e1 (numL_digits _) (numL_ne _) hz, numL_val]
    exact congrArg some (by omega)
  · have e1 : z.cps.toList = numL i.natAbs := by
      have e0 : tl z = numI i := e
      unfold numI at e0; rw [if_neg hi] at e0; exact e0
    have e2 := intText_digits (x := z) (by rw [e1]; exact numL_digits _) (by rw [e1]; exact numL_ne _) hz
    rw [e2, e1, numL_val]
    exact congrArg some (by omega)
end Txt4

set_option maxRecDepth 100000
set_option maxHeartbeats 4000000
/-! Data stand where a thing that is no list and no tuple changes. -/
namespace Mus
open PySem L2
mutual
theorem Rp.upN {p D : Addr} {H : Hp} {o : HO} (h1 : ∀ xs, H D ≠ some (.lst xs)) (h2 : ∀ xs, H D ≠ some (.tup xs)) : ∀ {v : V} {d : PyData}, Rp p H v d → Rp p (upd H D o) v d
  | _, _, .non => .non
  | _, _, .bl b => .bl b
  | _, _, .int i => .int i
  | _, _, .str x => .str x
  | _, _, .lst h n r => .lst (by rw [upd_ne fun z => h1 _ (by rw [← z]; exact h)]; exact h) n (Rps.upN h1 h2 r)
  | _, _, .tup h n l r => .tup (by rw [upd_ne fun z => h2 _ (by rw [← z]; exact h)]; exact h) n l (Rps.upN h1 h2 r)
theorem Rps.upN {p D : Addr} {H : Hp} {o : HO} (h1 : ∀ xs, H D ≠ some (.lst xs)) (h2 : ∀ xs, H D ≠ some (.tup xs)) : ∀ {vs : List V} {ds : List PyData}, Rps p H vs ds → Rps p (upd H D o) vs ds
  | _, _, .nil => .nil
  | _, _, .cons a b => .cons (Rp.upN h1 h2 a) (Rps.upN h1 h2 b)
end
theorem rp_tup {p t : Addr} {c : Int} {H : Hp} {vs : List V} {ds : List PyData} (g : Bag p c H) (nt : H t = none) (r : Rps p H vs ds) (hl : vs.length ≤ 100000 := by exact Nat.le_of_ble_eq_true rfl) : Rp p (upd H t (.tup vs)) (.ref t) (.tuple ds) :=
  .tup upd_same (g.ne nt).symm hl (r.same (same_new nt _))
end Mus

set_option maxRecDepth 100000
set_option maxHeartbeats 4000000
/-! Errors of the program's own: made without arguments, let out by methods. -/
namespace Mus
open PySem PySem.Spec PyProof.Rows L2
section
variable {X : Cx} {C : Addr} {bmB : List Value} {B newId initId : String}
theorem pmk_own0 {x : Str} {p pos : Pos} (F : ExcBaseFacts B newId initId bmB) (q : PySem.W.excIn X.K C bmB newId = true) (gC : X.mg x = some (.ref C)) (kC : PySem.W.keepIn X.K (.ref C) = true) (r : Raises X (.ref C)) (hg : Gl X x := by rfl)
    (hdb : (x == ("__debug__" : Str)) = false := by decide) : PMk X (.Call (.Name x p) [] [] pos) (fun _ H Q => Q (.ref C) none H) := by
  intro pins s σ H Q I h
  refine wpAny_Call_Name_kw (ld_glob I hg gC ?_ hdb)
  refine PySem.W.callWith_K0 I.kIn kC ?_
  show wpAny _ _ (call (.ref C) []) _ _ _
  obtain ⟨mem, g, dw, tn, io⟩ := s
  obtain ⟨chain, N, nm0, qn, bs, hdct, sn, sub, ab, col, dd, k0, k1, k2, k3, k5, mN, cC, hN, hni, T⟩ := exc_obj I.kIn q
  exact wpAny_call_exc_subT F T cC hN hni (fun h' a hm => mk_of I hm r h (I.hok.gone hm.new)) (by show 0 ≤ sizeLine; rw [sizeLine_eq]; omega)
end
section
variable {X : Cx} {C : Addr} {x m : Str} {ps : List Str} {j k : Nat} {sp : Sp} {o e : Expr} {es : List Expr} {to : TE} {t : TA} {p pos apos : Pos} {W : WX} {E : XK}
/-- o.m(e, ..), what it lets out leaves this def, too -/
theorem pmethE {pl : Sem Bool} (c : MethOk X.prog X.w X.K X.mg X.base (L2.CX X.prog X.w) C m ps j sp) (cl : Cls X.K C) (tk : Takes X W) (hW : ∀ cls d σ H, E cls d H → W cls d σ H) (ho : PE X o to) (hr : Room k X.A) (ha : PA X (e :: es) t) (hj : j ≤ k := by first | decide | omega)
    (st0 : starEach (e :: es) X.env = (false, eval e X.env) :: starEach es X.env := by rfl) (pl0 : (backTo pos (starEach es X.env)).any (·.1) = false := by rfl)
    (ht : eval (.Call (.Attribute o m apos) (e :: es) [] pos) X.env = (do
      let v ← eval o X.env; standAt apos.atName; let (f, one) ← holding [v] (getMethod v m pl)
      callWith pos f one (backTo pos (starEach (e :: es) X.env)) (backToKw pos (keywordEach [] X.env))) := by rfl) :
    PE X (.Call (.Attribute o m apos) (e :: es) [] pos) (tMeth C m sp [] E to t) := pe_meth ho cl c.m c.G (hr.mono hj) c.b .nil (passes_call tk hW) ha st0 pl0 ht
theorem pmethE0 {pl : Sem Bool} (c : MethOk X.prog X.w X.K X.mg X.base (L2.CX X.prog X.w) C m ps j sp) (cl : Cls X.K C) (tk : Takes X W) (hW : ∀ cls d σ H, E cls d H → W cls d σ H) (ho : PE X o to) (hr : Room k X.A) (hj : j ≤ k := by first | decide | omega)
    (ht : eval (.Call (.Attribute o m apos) [] [] pos) X.env = (do
      let v ← eval o X.env; standAt apos.atName; let (f, one) ← holding [v] (getMethod v m pl)
      callWith pos f one (backTo pos (starEach [] X.env)) (backToKw pos (keywordEach [] X.env))) := by rfl) :
    PE X (.Call (.Attribute o m apos) [] [] pos) (tMeth C m sp [] E to tNil) := pe_meth0 ho cl c.m c.G (hr.mono hj) c.b .nil (passes_call tk hW) ht
/-- f(e, ..), the same of a def -/
theorem pcallE (c : DefOk X.prog X.w X.K X.mg X.base (L2.CX X.prog X.w) x ps j sp) (tk : Takes X W) (hW : ∀ cls d σ H, E cls d H → W cls d σ H) (hr : Room k X.A) (ha : PA X (e :: es) t) (hj : j ≤ k := by first | decide | omega) (hg : Gl X x := by rfl)
    (db0 : (x == ("__debug__" : Str)) = false := by decide) (st0 : starEach (e :: es) X.env = (false, eval e X.env) :: starEach es X.env := by rfl) (pl0 : (backTo pos (starEach es X.env)).any (·.1) = false := by rfl) :
    PE X (.Call (.Name x p) (e :: es) [] pos) (tCall sp [] E t) := pe_call c.G (hr.mono hj) hg c.m c.kp c.b .nil (passes_call tk hW) ha db0 st0 pl0
end
end Mus

set_option maxRecDepth 100000
set_option maxHeartbeats 4000000
/-! Calls whose errors are caught where the slots stand. -/
namespace Mus
open PySem PySem.Spec PyProof.Rows L2
/-! ### calls in a try's body -/
def tMethA (C : Addr) (m : Str) (sp : Sp) (E : L2.St → XK) (ta : TE) (t : TA) : TE := fun σ H Q => ta σ H fun x H1 => ∃ a dx fs, x = .ref a ∧ H1 a = some (.ins C dx fs) ∧ fs.lookup m = none ∧ t σ H1 fun vs H2 => sp (x :: vs) H2 Q (E σ)
section
variable {X : Cx} {C : Addr} {x m : Str} {ps : List Str} {j k : Nat} {sp : Sp} {o e : Expr} {es : List Expr} {to : TE} {t : TA} {p pos apos : Pos} {W : WX}
theorem pmethA {pl : Sem Bool} (c : MethOk X.prog X.w X.K X.mg X.base (L2.CX X.prog X.w) C m ps j sp) (cl : Cls X.K C) (tk : Takes X W) (ho : PE X o to) (hr : Room k X.A) (ha : PA X (e :: es) t) (hj : j ≤ k := by first | decide | omega)
    (st0 : starEach (e :: es) X.env = (false, eval e X.env) :: starEach es X.env := by rfl) (pl0 : (backTo pos (starEach es X.env)).any (·.1) = false := by rfl)
    (ht : eval (.Call (.Attribute o m apos) (e :: es) [] pos) X.env = (do
      let v ← eval o X.env; standAt apos.atName; let (f, one) ← holding [v] (getMethod v m pl)
      callWith pos f one (backTo pos (starEach (e :: es) X.env)) (backToKw pos (keywordEach [] X.env))) := by rfl) :
    PE X (.Call (.Attribute o m apos) (e :: es) [] pos) (tMethA C m sp (WE W) to t) := by
  refine ⟨fun pins s σ H Q I h => ?_⟩
  refine PySem.W.methodCall_KW (pl := pl) (thn (ho.run pins s σ H _ I h) fun u s1 ⟨x, H1, I1, rx, a, dx, fs, ex, ea, l, q⟩ => ?_) ht
  subst ex
  obtain rfl : u = Value.ref a := rx
  refine getmeth_ok I1 ea cl c.m l ?_
  refine PySem.W.callWith_K (first := [.ref a]) (h₀ := X.base) I.ok.mod.kin c.m.kp (thn (ha.run pos pins s1 σ H1 _ I1 q) fun us s2 ⟨vs, H2, I2, r, q2⟩ => ⟨I2.kIn, ?_⟩) st0 pl0
  exact run_fnS (us := .ref a :: us) (vs := .ref a :: vs) c.G (hr.mono hj) c.b (passAt tk σ) I2 (.cons rfl r) q2
theorem pmethA0 {pl : Sem Bool} (c : MethOk X.prog X.w X.K X.mg X.base (L2.CX X.prog X.w) C m ps j sp) (cl : Cls X.K C) (tk : Takes X W) (ho : PE X o to) (hr : Room k X.A) (hj : j ≤ k := by first | decide | omega)
    (ht : eval (.Call (.Attribute o m apos) [] [] pos) X.env = (do
      let v ← eval o X.env; standAt apos.atName; let (f, one) ← holding [v] (getMethod v m pl)
      callWith pos f one (backTo pos (starEach [] X.env)) (backToKw pos (keywordEach [] X.env))) := by rfl) :
    PE X (.Call (.Attribute o m apos) [] [] pos) (tMethA C m sp (WE W) to tNil) := by
  refine ⟨fun pins s σ H Q I h => ?_⟩
  refine PySem.W.methodCall_KW (pl := pl) (thn (ho.run pins s σ H _ I h) fun u s1 ⟨x, H1, I1, rx, a, dx, fs, ex, ea, l, q⟩ => ?_) ht
  subst ex
  obtain rfl : u = Value.ref a := rx
  refine getmeth_ok I1 ea cl c.m l ?_
  refine PySem.W.callWith_K0 (first := [.ref a]) I1.kIn c.m.kp ?_
  exact run_fnS (us := [.ref a]) (vs := [.ref a]) c.G (hr.mono hj) c.b (passAt tk σ) I1 (.cons rfl .nil) q
theorem pcallA (c : DefOk X.prog X.w X.K X.mg X.base (L2.CX X.prog X.w) x ps j sp) (tk : Takes X W) (hr : Room k X.A) (ha : PA X (e :: es) t) (hj : j ≤ k := by first | decide | omega) (hg : Gl X x := by rfl)
    (db0 : (x == ("__debug__" : Str)) = false := by decide) (st0 : starEach (e :: es) X.env = (false, eval e X.env) :: starEach es X.env := by rfl) (pl0 : (backTo pos (starEach es X.env)).any (·.1) = false := by rfl) :
    PE X (.Call (.Name x p) (e :: es) [] pos) (tCallS sp (WE W) t) := pe_callS c.G (hr.mono hj) hg c.m c.kp c.b (fun σ => passAt tk σ) ha db0 st0 pl0
end
end Mus

set_option maxRecDepth 100000
set_option maxHeartbeats 4000000
/-! The same rules, so that Lean finds the inner readings: they may name what they don't depend on. -/
namespace Mus
open PySem PySem.Spec PyProof.Rows L2
def s00 : Shared := {}
def h00 : Hp := fun _ => none
def o00 : Obj := default
def x00 : Value → Shared → Prop := fun _ _ => False
section
variable {X : Cx} {x n : Str} {c : Value} {i : Nat} {body suite : List Stmt} {b₀ : Stmt} {np pos pos' : Pos} {tb : WX → List (Addr × Obj) → (Value → Shared → Prop) → TS} {ts : Addr → Obj → Value → Option Addr → List (Addr × Obj) → TS} {Wout : WX}
theorem ps_tryAs (hs : X.stack = X.env :: X.outer) (hf : X.env.frame = some X.env.locals) (hN : X.N.Nodup) (hi : X.N[i]? = some n) (hln : X.env.kindOf n = some .local) (hc : Names X x c) (tk : Takes X Wout)
    (hb : ∀ W pn xe, Takes (X.tr pn xe) W → PassesOwn (model X.prog X.w) X.A X.env xe → PSs (X.tr pn xe) body (tb W pn xe)) (hsu : ∀ a oe cls d pn, Zc cls d oe → (∃ vs, oe.data = .fields vs) → PSs (X.suite a ((a, oe) :: pn)) (b₀ :: suite) (ts a oe cls d pn))
    (i1 : ∀ W pn xe, tb W pn xe = tb W [] x00 := by intros; rfl) (i2 : ∀ a oe cls d pn, ts a oe cls d pn = ts a o00 cls d [] := by intros; rfl) :
    PS X (.Try body [.ExceptHandler (some (.Name x np)) (some n) (b₀ :: suite) pos'] [] [] pos) (fun D σ H => tb (wAs X.K c i (fun a cls d => ts a o00 cls d []) Wout D) [] x00 D σ H) :=
  ps_try_as (tb := fun W => tb W [] x00) hs hf hN hi hln hc tk (fun W pn xe t p => i1 W pn xe ▸ hb W pn xe t p) fun a oe cls d pn z f => i2 a oe cls d pn ▸ hsu a oe cls d pn z f
end
section
variable {X : Cx} {body : List Stmt} {h₀ : ExceptHandler} {hds : List ExceptHandler} {l : List (Value × (Addr → Value → Option Addr → TS))} {pos : Pos} {tb : WX → List (Addr × Obj) → (Value → Shared → Prop) → TS} {Wout : WX}
theorem ps_tryX (hs : X.stack = X.env :: X.outer) (hf : X.env.frame = some X.env.locals) (tk : Takes X Wout)
    (hb : ∀ W pn xe, Takes (X.tr pn xe) W → PassesOwn (model X.prog X.w) X.A X.env xe → PSs (X.tr pn xe) body (tb W pn xe)) (hh : HdsOk X (h₀ :: hds) l) (i1 : ∀ W pn xe, tb W pn xe = tb W [] x00 := by intros; rfl) :
    PS X (.Try body (h₀ :: hds) [] [] pos) (fun D σ H => tb (wMany X.K Wout D l) [] x00 D σ H) :=
  ps_try_many (tb := fun W => tb W [] x00) hs hf tk (fun W pn xe t p => i1 W pn xe ▸ hb W pn xe t p) hh
theorem hd_one {x : Str} {c : Value} {ts : Addr → Obj → Value → Option Addr → List (Addr × Obj) → TS} {b₀ : Stmt} {suite : List Stmt} {np pos' : Pos} (hc : Names X x c)
    (hsu : ∀ a oe cls d pn, Zc cls d oe → (∃ vs, oe.data = .fields vs) → PSs (X.suite a ((a, oe) :: pn)) (b₀ :: suite) (ts a oe cls d pn)) (r : HdsOk X hds l) (i2 : ∀ a oe cls d pn, ts a oe cls d pn = ts a o00 cls d [] := by intros; rfl) :
    HdsOk X (.ExceptHandler (some (.Name x np)) none (b₀ :: suite) pos' :: hds) ((c, fun a cls d => ts a o00 cls d []) :: l) :=
  .cons hc (fun a oe cls d pn z f => i2 a oe cls d pn ▸ hsu a oe cls d pn z f) r
end
section
variable {X : Cx} {elt tg iter : Expr} {ifs : List Expr} {scope : Scope} {own : List (Str × Nat)} {pos : Pos} {wi : TI} {g : Shared → Hp → Addr → List (Str × Addr) → List Addr → TG} {tt : Shared → Hp → Addr → List (Str × Addr) → List Addr → TT} {te : Shared → Hp → Addr → List (Str × Addr) → List Addr → TE}
theorem pe_lcX (hc : X.calm = true) (hN : X.N.Nodup) (hi : PI X tg iter wi) (ok : BlkOk X.N X.env.scope scope own)
    (hg : ∀ (s : Shared) (H : Hp) (C : Addr) (cl : List (Str × Addr)) (fp : List Addr), PG (X.blk s H scope (compEnvC scope cl C X.env) fp) tg (g s H C cl fp)) (ht : ∀ (s : Shared) (H : Hp) (C : Addr) (cl : List (Str × Addr)) (fp : List Addr), PTs (X.blk s H scope (compEnvC scope cl C X.env) fp) ifs (tt s H C cl fp))
    (he : ∀ (s : Shared) (H : Hp) (C : Addr) (cl : List (Str × Addr)) (fp : List Addr), PE (X.blk s H scope (compEnvC scope cl C X.env) fp) elt (te s H C cl fp)) (hs : ∀ x, foldedSetIterable iter X.env x = pure x := by intro _; rfl)
    (i1 : ∀ s H C cl fp, g s H C cl fp = g s00 h00 0 [] [] := by intros; rfl) (i2 : ∀ s H C cl fp, tt s H C cl fp = tt s00 h00 0 [] [] := by intros; rfl) (i3 : ∀ s H C cl fp, te s H C cl fp = te s00 h00 0 [] [] := by intros; rfl) :
    PE X (.ListComp elt [⟨tg, iter, ifs, 0⟩] scope pos) (tLc wi (g s00 h00 0 [] []) (tt s00 h00 0 [] []) (te s00 h00 0 [] []) (own.map (·.2))) :=
  pe_lc hc hN hi ok (fun s H C cl fp => i1 s H C cl fp ▸ hg s H C cl fp) (fun s H C cl fp => i2 s H C cl fp ▸ ht s H C cl fp) (fun s H C cl fp => i3 s H C cl fp ▸ he s H C cl fp) hs
theorem ps_setLcX {i : Nat} {y : Str} {py : Pos} {spos : Pos} (hc : X.calm = true) (hN : X.N.Nodup) (hy : X.N[i]? = some y) (hyl : X.env.scope.names.lookup y = some .local)
    (hsw : swapsWith (.ListComp elt [⟨tg, iter, ifs, 0⟩] scope pos) (some (.Name y py)) spos.line X.env = pure true) (hi : PI X tg iter wi) (ok : BlkOk X.N X.env.scope scope own)
    (hg : ∀ (s : Shared) (H : Hp) (C : Addr) (cl : List (Str × Addr)) (fp : List Addr), PG (X.blk s H scope (compEnvC scope cl C X.env) fp) tg (g s H C cl fp)) (ht : ∀ (s : Shared) (H : Hp) (C : Addr) (cl : List (Str × Addr)) (fp : List Addr), PTs (X.blk s H scope (compEnvC scope cl C X.env) fp) ifs (tt s H C cl fp))
    (he : ∀ (s : Shared) (H : Hp) (C : Addr) (cl : List (Str × Addr)) (fp : List Addr), PE (X.blk s H scope (compEnvC scope cl C X.env) fp) elt (te s H C cl fp)) (hs : ∀ x, foldedSetIterable iter X.env x = pure x := by intro _; rfl)
    (i1 : ∀ s H C cl fp, g s H C cl fp = g s00 h00 0 [] [] := by intros; rfl) (i2 : ∀ s H C cl fp, tt s H C cl fp = tt s00 h00 0 [] [] := by intros; rfl) (i3 : ∀ s H C cl fp, te s H C cl fp = te s00 h00 0 [] [] := by intros; rfl) :
    PS X (.Assign [.Name y py] (.ListComp elt [⟨tg, iter, ifs, 0⟩] scope pos) spos) (tAsg (tLc wi (g s00 h00 0 [] []) (tt s00 h00 0 [] []) (te s00 h00 0 [] []) (own.map (·.2))) (gName i)) :=
  ps_setLc hc hN hy hyl hsw hi ok (fun s H C cl fp => i1 s H C cl fp ▸ hg s H C cl fp) (fun s H C cl fp => i2 s H C cl fp ▸ ht s H C cl fp) (fun s H C cl fp => i3 s H C cl fp ▸ he s H C cl fp) hs
end
end Mus

set_option maxRecDepth 100000
set_option maxHeartbeats 4000000
namespace Mus
open PySem L2 TL PySem.NumText
local macro_rules | `(tactic| walk_at "rd") => `(tactic| first
  | refine ⟨_, rfl, ?_⟩ | refine ⟨(True.intro : True), ?_⟩
  | refine ⟨_, _, rfl, rfl, (⟨by decide, by decide, by decide⟩ : CPow _ _), ?_⟩
  | refine ⟨_, _, rfl, rfl, (⟨by decide, by decide⟩ : CDiv _ _), ?_⟩
  | refine ⟨_, _, rfl, rfl, (by show (0 : Int) < _; decide), ?_⟩
  | refine ⟨_, _, rfl, rfl, ?_⟩ | refine ⟨rfl, ?_⟩ | refine iteT ?_ | refine iteF ?_ | refine ⟨_, _, rfl, ?_⟩ | refine .inl ⟨_, rfl, ?_⟩
  | refine ⟨_, _, _, _, _, rfl, (by assumption), (by assumption), (by assumption), rfl, ?_⟩ | refine ⟨_, _, _, _, rfl, rfl, SqT.of (by assumption), rfl, ?_⟩ | refine ⟨_, _, rfl, SqT.of (by assumption), rfl, ?_⟩
  | refine ⟨_, _, _, _, _, rfl, .ty _, Rp.ty (by assumption), kit_int _, ?_⟩ | refine ⟨_, _, _, _, _, rfl, .ty _, Rp.ty (by assumption), kit_bool _, ?_⟩
  | refine ⟨_, _, _, _, _, rfl, .ty _, Rp.ty (by assumption), kit_str _, ?_⟩ | refine ⟨_, _, _, _, _, rfl, .ty _, Rp.ty (by assumption), kit_tup _, ?_⟩)
local macro_rules | `(tactic| walk_at "cal") => `(tactic| first
  | refine ⟨_, _, _, _, _, rfl, (by assumption), ?_⟩ | refine ⟨_, _, _, _, _, rfl, (by assumption), (by assumption), ?_⟩)
local macro_rules | `(tactic| walk_at "sq") => `(tactic| first
  | refine ⟨_, _, rfl, Or.inr (SqT.of (by assumption)), ?_⟩ | refine ⟨_, _, _, _, rfl, rfl, SqT.of (by assumption), rfl, ?_⟩)
local macro_rules | `(tactic| walk_at "rds") => `(tactic| repeat first | walk_at "rd" | walk_at "cal" | walk_at "sq")
def top (i : Nat) : Stmt := PySem.Challenge.pw_mustercall_k06_logs_and_pending_casts.main.body.getD i (.Pass ⟨0, 0, 0, 0⟩)
structure Tx (mg : Str → Option Value) : Prop where
  b_len : mg "len" = none
  b_isinstance : mg "isinstance" = none
  b_int : mg "int" = none
  b_bool : mg "bool" = none
  b_str : mg "str" = none
  b_tuple : mg "tuple" = none
  b_range : mg "range" = none
  b_min : mg "min" = none
  b_max : mg "max" = none
  b_sorted : mg "sorted" = none
  b_ord : mg "ord" = none
  b_enumerate : mg "enumerate" = none
  c__REFUSED_CODE : ∃ t, mg "_REFUSED_CODE" = some (.int 37 t)
  c_MOST_PROCESSES : ∃ t, mg "MOST_PROCESSES" = some (.int 12 t)
  c_MOST_PAYLOAD : ∃ t, mg "MOST_PAYLOAD" = some (.int 30 t)
  c_MOST_NUMBER : ∃ t, mg "MOST_NUMBER" = some (.int 1000000000000 t)
section
variable {P : Program} {w : World} {K : PySem.W.Frag} {mg : Str → Option Value} {base : Heap}
def prB (c : Nat) : Bool := decide (32 ≤ c) && decide (c ≤ 126) && decide (c ≠ 37)
theorem one_lt (a b : Nat) : (decide ([a] < [b])) = decide (a < b) := by
  by_cases h : a < b
  · rw [decide_eq_true h]; exact decide_eq_true (by simp [List.cons_lt_cons_iff, h])
  · rw [decide_eq_false h]; exact decide_eq_false (by simp [List.cons_lt_cons_iff, h])
theorem one_ge {y : Str} {b : Nat} (c : Nat) (e0 : tl y = [b]) : (!decide (tl ⟨#[c]⟩ < tl y)) = decide (b ≤ c) := by
  rw [e0, show tl ⟨#[c]⟩ = [c] from rfl, one_lt]
  by_cases h : c < b
  · rw [decide_eq_true h, decide_eq_false (by omega)]; rfl
  · rw [decide_eq_false h, decide_eq_true (by omega)]; rfl
theorem one_le {y : Str} {b : Nat} (c : Nat) (e0 : tl y = [b]) : (!decide (tl y < tl ⟨#[c]⟩)) = decide (c ≤ b) := by
  rw [e0, show tl ⟨#[c]⟩ = [c] from rfl, one_lt]
  by_cases h : b < c
  · rw [decide_eq_true h, decide_eq_false (by omega)]; rfl
  · rw [decide_eq_false h, decide_eq_true (by omega)]; rfl
abbrev s__is_printable_character : Stmt := top 6
abbrev N__is_printable_character : List Str := ["character"]
abbrev P__is_printable_character : List Str := ["character"]
theorem sc__is_printable_character : FnScope N__is_printable_character P__is_printable_character (defScope s__is_printable_character) := ⟨rfl, rfl, rfl, by decide +kernel, rfl, by decide +kernel, by decide +kernel⟩
def sp__is_printable_character : Sp := fun vs H Q _ => ∃ c : Nat, vs = [.str ⟨#[c]⟩] ∧ Q (.bl (prB c)) H
theorem ok__is_printable_character {f : Addr} {fd : FuncData} (T : Tx mg) (F : Fun K "_is_printable_character" "_is_printable_character" s__is_printable_character f fd) : FnOk P w K mg base CX0 (1) f fd P__is_printable_character (sp__is_printable_character) := by
  have nd := sc__is_printable_character.nd
  refine F.ok sc__is_printable_character (fun vs H Q E h => ?_) (fun cdv A outer s H vs Q E hr h => ?_)
  · obtain ⟨c, rfl, _⟩ := h
    rfl
  · obtain ⟨c, rfl, q⟩ := h
    refine ⟨_, (pss_one (ps_ret (pe_and (pe_chain op_le_str op_le_str pe_str (pv 0) pe_str) (pe_one (pe_cmpR op_ne (pe_callB call_ord (by rfl) T.b_ord (by decide +kernel) (pa_cons (pv 0) pa_nil)) (pe_const T.c__REFUSED_CODE) (nomark _)))))), ?_⟩
    refine ⟨_, rfl, _, _, rfl, rfl, _, rfl, ?_⟩
    have e1 := one_ge (y := Str.ofString " ") (b := 32) c (by decide)
    have e2 := one_le (y := Str.ofString "~") (b := 126) c (by decide)
    rw [e1]
    unfold prB at q
    by_cases h1 : 32 ≤ c
    · rw [decide_eq_true h1] at q ⊢
      refine iteT ?_
      refine ⟨_, _, rfl, rfl, _, rfl, ?_⟩
      rw [e2]
      by_cases h2 : c ≤ 126
      · rw [decide_eq_true h2] at q ⊢
        refine iteT ?_
        refine ⟨_, rfl, _, rfl, rfl, rfl, ?_⟩
        have e3 : (!decide (V.int ((((⟨#[c]⟩ : Str).cps.getD 0 0 : Nat)) : Int) = V.int 37)) = decide (c ≠ 37) := by
          show (!decide (V.int (c : Int) = V.int 37)) = decide (c ≠ 37)
          by_cases h3 : c = 37
          · subst h3; rfl
          · rw [decide_eq_true h3, decide_eq_false (by intro z; cases z; exact h3 rfl)]; rfl
        rw [e3]
        exact q
      · rw [decide_eq_false h2] at q ⊢
        exact iteF q
    · rw [decide_eq_false h1] at q ⊢
      refine iteF ?_
      exact ⟨_, rfl, iteF q⟩
abbrev s_is_printable : Stmt := top 5
abbrev N_is_printable : List Str := ["value", "character"]
abbrev P_is_printable : List Str := ["value"]
theorem sc_is_printable : FnScope N_is_printable P_is_printable (defScope s_is_printable) := ⟨rfl, rfl, rfl, by decide +kernel, rfl, by decide +kernel, by decide +kernel⟩
def sp_is_printable : Sp := fun vs H Q _ => ∃ z : Str, vs = [.str z] ∧ Q (.bl ((tl z).all prB)) H
theorem all_take {l : List Nat} {i c : Nat} (h : l[i]? = some c) (hp : (l.take i).all prB = true) : prB c = true → (l.take (i + 1)).all prB = true := by
  intro hc
  have hi : i < l.length := (List.getElem?_eq_some_iff.mp h).1
  have e : l[i] = c := (List.getElem?_eq_some_iff.mp h).2
  rw [List.take_succ_eq_append_getElem hi, List.all_append, hp, e]
  simp [hc]
theorem all_not {l : List Nat} {i c : Nat} (h : l[i]? = some c) (hc : prB c = false) : l.all prB = false := by
  rw [List.all_eq_false]
  exact ⟨c, List.mem_of_getElem? h, by rw [hc]; simp⟩
theorem ok_is_printable {f : Addr} {fd : FuncData} (T : Tx mg) (c__is_printable_character : DefOk P w K mg base CX0 "_is_printable_character" P__is_printable_character 1 (sp__is_printable_character))(F : Fun K "is_printable" "is_printable" s_is_printable f fd) : FnOk P w K mg base CX0 (2) f fd P_is_printable (sp_is_printable) := by
  have nd := sc_is_printable.nd
  refine F.ok sc_is_printable (fun vs H Q E h => ?_) (fun cdv A outer s H vs Q E hr h => ?_)
  · obtain ⟨c, rfl, _⟩ := h
    rfl
  · obtain ⟨z, rfl, q⟩ := h
    refine ⟨_, (pss_cons (ps_if (pt_not (pt_val (pe_callB call_isi (by rfl) T.b_isinstance (by decide +kernel) (pa_cons (pv 0) (pa_cons (pe_ty "str" T.b_str) pa_nil)))))
        (pss_one (ps_ret pe_bl))
        pss_nil)
      (pss_cons (ps_for PassesOwn.never rfl (pi_str (pv 0)) (pg_name (i := 1) nd rfl (Or.inl rfl))
        (pss_one (ps_if (pt_not (pt_val (pcall c__is_printable_character hr (pa_cons (pv 1) pa_nil))))
          (pss_one (ps_ret pe_bl))
          pss_nil)))
      (pss_one (ps_ret pe_bl)))), ?_⟩
    refine ⟨_, rfl, _, _, _, _, true, rfl, .ty _, .base (.str z), kit_ty (by decide +kernel), _, rfl, ?_⟩
    refine iteF ?_
    refine ⟨_, rfl, z, rfl, for_str (z := z) (fun i σ H' => H' = H ∧ (∃ v, σ = [some (.str z), v]) ∧ ((tl z).take i).all prB = true) ⟨rfl, ⟨none, rfl⟩, rfl⟩ ?_ ?_⟩
    · rintro i c σ H' hc ⟨rfl, ⟨v, rfl⟩, hp⟩
      refine ⟨_, rfl, c, rfl, _, rfl, ?_⟩
      cases hb : prB c with
      | true => exact iteF ⟨rfl, ⟨_, rfl⟩, all_take hc hp hb⟩
      | false =>
        refine iteT ?_
        have e := all_not hc hb
        rw [e] at q
        exact q
    · rintro σ H' ⟨rfl, ⟨v, rfl⟩, hp⟩
      rw [List.take_length] at hp
      rw [hp] at q
      exact q
abbrev s_is_integer : Stmt := top 7
abbrev N_is_integer : List Str := ["value", "least", "greatest"]
abbrev P_is_integer : List Str := ["value", "least", "greatest"]
theorem sc_is_integer : FnScope N_is_integer P_is_integer (defScope s_is_integer) := ⟨rfl, rfl, rfl, by decide +kernel, rfl, by decide +kernel, by decide +kernel⟩
theorem ok_is_integer {f : Addr} {fd : FuncData} (T : Tx mg) (F : Fun K "is_integer" "is_integer" s_is_integer f fd) : FnOk P w K mg base CX0 (1) f fd P_is_integer (spI) := by
  have nd := sc_is_integer.nd
  refine F.ok sc_is_integer (fun vs H Q E h => ?_) (fun cdv A outer s H vs Q E hr h => ?_)
  · obtain ⟨_, _, _, _, _, rfl, _⟩ := h
    rfl
  · obtain ⟨p, v, d, a, b, rfl, hd, q⟩ := h
    refine ⟨_, (pss_cons (ps_if (PW.pt (pw_or (pt_not (pt_val (pe_callB call_isi (by rfl) T.b_isinstance (by decide +kernel) (pa_cons (pv 0) (pa_cons (pe_ty "int" T.b_int) pa_nil))))) (pw_or1 (pt_val (pe_callB call_isi (by rfl) T.b_isinstance (by decide +kernel) (pa_cons (pv 0) (pa_cons (pe_ty "bool" T.b_bool) pa_nil)))))))
        (pss_one (ps_ret pe_bl))
        pss_nil)
      (pss_one (ps_ret (pe_chain op_le op_le (pv 1) (pv 0) (pv 2))))), ?_⟩
    have hd' := hd
    cases hd <;> walk_at "rds"
    case int =>
      refine iB (fun h => ?_) (fun h => ?_)
      · walk_at "rds"
        exact ansB q (by simp [isInt, h])
      · exact ansB q (by simp [isInt, h])
    all_goals exact q
abbrev s_is_process : Stmt := top 9
abbrev N_is_process : List Str := ["count", "value"]
abbrev P_is_process : List Str := ["count", "value"]
theorem sc_is_process : FnScope N_is_process P_is_process (defScope s_is_process) := ⟨rfl, rfl, rfl, by decide +kernel, rfl, by decide +kernel, by decide +kernel⟩
theorem ok_is_process {f : Addr} {fd : FuncData} (T : Tx mg) (c_is_integer : DefOk P w K mg base CX0 "is_integer" P_is_integer 1 (spI))(F : Fun K "is_process" "is_process" s_is_process f fd) : FnOk P w K mg base CX0 (2) f fd P_is_process (spB2 isProc) := by
  have nd := sc_is_process.nd
  refine F.ok sc_is_process (fun vs H Q E h => ?_) (fun cdv A outer s H vs Q E hr h => ?_)
  · obtain ⟨_, _, _, _, _, rfl, _⟩ := h
    rfl
  · obtain ⟨p, u, v, c, d, rfl, hc, hd, q⟩ := h
    refine ⟨_, (pss_one (ps_ret (pe_and (pcall c_is_integer hr (pa_cons (pv 0) (pa_cons pe_int (pa_cons (pe_const T.c_MOST_PROCESSES) pa_nil)))) (pe_one (pcall c_is_integer hr (pa_cons (pv 1) (pa_cons pe_int (pa_cons (pe_op op_sub (pv 0) pe_int) pa_nil)))))))), ?_⟩
    walk_at "rds"
    refine iB (fun h => ?_) (fun h => ?_)
    · obtain ⟨n, rfl, h1, h2⟩ := isInt_int h
      cases hc
      walk_at "rds"
      exact ansB q (by simp [isProc, h1, h2])
    · refine ansB q ?_
      cases c <;> first | rfl | (rename_i n; have h0 : (decide (1 ≤ n) && decide (n ≤ 12)) = false := h; simp only [isProc, h0, Bool.false_and])
/-- a tuple of two | of another length, or something else -/
theorem pairs (d : PyData) : (∃ x y, d = .tuple [x, y]) ∨ ((∃ ds, d = .tuple ds ∧ ds.length ≠ 2) ∨ dTup d = false) := by
  match d with
  | .none | .bool _ | .int _ | .str _ | .list _ | .dict _ => exact .inr (.inr rfl)
  | .tuple [] | .tuple [_] | .tuple (_ :: _ :: _ :: _) => exact .inr (.inl ⟨_, rfl, by simp⟩)
  | .tuple [x, y] => exact .inl ⟨x, y, rfl⟩
theorem isMem_no {c d : PyData} (h : (∃ ds, d = .tuple ds ∧ ds.length ≠ 2) ∨ dTup d = false) : isMem c d = false := by
  unfold isMem
  split
  · simp [dTup] at h
  · rfl
abbrev s_is_member : Stmt := top 10
abbrev N_is_member : List Str := ["count", "value"]
abbrev P_is_member : List Str := ["count", "value"]
theorem sc_is_member : FnScope N_is_member P_is_member (defScope s_is_member) := ⟨rfl, rfl, rfl, by decide +kernel, rfl, by decide +kernel, by decide +kernel⟩
theorem ok_is_member {f : Addr} {fd : FuncData} (T : Tx mg) (c_is_integer : DefOk P w K mg base CX0 "is_integer" P_is_integer 1 (spI)) (c_is_process : DefOk P w K mg base CX0 "is_process" P_is_process 2 (spB2 isProc))(F : Fun K "is_member" "is_member" s_is_member f fd) : FnOk P w K mg base CX0 (3) f fd P_is_member (spB2 isMem) := by
  have nd := sc_is_member.nd
  refine F.ok sc_is_member (fun vs H Q E h => ?_) (fun cdv A outer s H vs Q E hr h => ?_)
  · obtain ⟨_, _, _, _, _, rfl, _⟩ := h
    rfl
  · obtain ⟨p, u, v, c, d, rfl, hc, hd, q⟩ := h
    refine ⟨_, (pss_cons (ps_if (PW.pt (pw_or (pt_not (pt_val (pe_callB call_isi (by rfl) T.b_isinstance (by decide +kernel) (pa_cons (pv 1) (pa_cons (pe_ty "tuple" T.b_tuple) pa_nil))))) (pw_or1 (pt_cmpR op_ne (pe_callB call_len_seq (by rfl) T.b_len (by decide +kernel) (pa_cons (pv 1) pa_nil)) pe_int (nomark _)))))
        (pss_one (ps_ret pe_bl))
        pss_nil)
      (pss_one (ps_ret (pe_and (pcall c_is_process hr (pa_cons (pv 0) (pa_cons (pe_ix ix_tup (pv 1) pe_int (fun _ _ => rfl)) pa_nil))) (pe_one (pcall c_is_integer hr (pa_cons (pe_ix ix_tup (pv 1) pe_int (fun _ _ => rfl)) (pa_cons pe_int (pa_cons (pe_const T.c_MOST_NUMBER) pa_nil))))))))), ?_⟩
    have hd' := hd
    rcases pairs d with ⟨x, y, rfl⟩ | hno
    · obtain _ | _ | _ | _ | _ | @⟨a, xs, _, ha, np, hw, hr⟩ := hd
      obtain _ | ⟨hx, _ | ⟨hy, _⟩⟩ := hr
      cases ‹Rps p H _ []›
      walk_at "rds"
      refine iB (fun h => ?_) (fun h => ?_)
      · walk_at "rds"
        exact ansB q (by simp [isMem, h])
      · exact ansB q (by simp [isMem, h])
    · have e := isMem_no (c := c) hno
      rw [e] at q
      rcases hno with ⟨ds, rfl, hl⟩ | hno
      · obtain _ | _ | _ | _ | _ | @⟨a, xs, _, ha, np, hw, hr⟩ := hd
        have hl2 := hr.length
        walk_at "rds"
        refine nT (vint_ne (by omega)) ?_
        walk_at "rds"
        exact q
      · cases hd <;> simp [dTup] at hno <;> walk_at "rds" <;> exact q
end
/-! ### payloads and messages -/
/-- the texts that come: short, and printable but for those with a newline -/
def Ok (z : Str) : Prop := z.length ≤ 1000 ∧ (tl z).all prB = decide (10 ∉ tl z)
def spH1 (f : PyData → Bool) : Sp := fun vs H Q _ => ∃ (p : Addr) (v : V) (d : PyData), vs = [v] ∧ Rp p H v d ∧ Her Ok d ∧ Q (.bl (f d)) H
def spH2 (f : PyData → PyData → Bool) : Sp := fun vs H Q _ => ∃ (p : Addr) (u v : V) (c d : PyData), vs = [u, v] ∧ Rp p H u c ∧ Rp p H v d ∧ Her Ok d ∧ Q (.bl (f c d)) H
theorem Her.of3 {P : Str → Prop} {x y z : PyData} (h : Her P (.tuple [x, y, z])) : Her P x ∧ Her P y ∧ Her P z := ⟨h.mem _ (by simp), h.mem _ (by simp), h.mem _ (by simp)⟩
theorem Her.of2 {P : Str → Prop} {x y : PyData} (h : Her P (.tuple [x, y])) : Her P x ∧ Her P y := ⟨h.mem _ (by simp), h.mem _ (by simp)⟩
def isPay : PyData → Bool
  | .str z => decide (z.length ≤ 30) && (tl z).all prB
  | _ => false
def isMsg (c : PyData) : PyData → Bool
  | .tuple [a, b, z] => isMem c a && isInt b 1 1000000000000 && isPay z
  | _ => false
theorem threes (d : PyData) : (∃ x y z, d = .tuple [x, y, z]) ∨ ((∃ ds, d = .tuple ds ∧ ds.length ≠ 3) ∨ dTup d = false) := by
  match d with
  | .none | .bool _ | .int _ | .str _ | .list _ | .dict _ => exact .inr (.inr rfl)
  | .tuple [] | .tuple [_] | .tuple [_, _] | .tuple (_ :: _ :: _ :: _ :: _) => exact .inr (.inl ⟨_, rfl, by simp⟩)
  | .tuple [x, y, z] => exact .inl ⟨x, y, z, rfl⟩
theorem isMsg_no {c d : PyData} (h : (∃ ds, d = .tuple ds ∧ ds.length ≠ 3) ∨ dTup d = false) : isMsg c d = false := by
  unfold isMsg
  split
  · simp [dTup] at h
  · rfl
section
variable {P : Program} {w : World} {K : PySem.W.Frag} {mg : Str → Option Value} {base : Heap}
abbrev s_is_payload : Stmt := top 11
abbrev N_is_payload : List Str := ["value"]
abbrev P_is_payload : List Str := ["value"]
theorem sc_is_payload : FnScope N_is_payload P_is_payload (defScope s_is_payload) := ⟨rfl, rfl, rfl, by decide +kernel, rfl, by decide +kernel, by decide +kernel⟩
theorem ok_is_payload {f : Addr} {fd : FuncData} (T : Tx mg) (c_is_printable : DefOk P w K mg base CX0 "is_printable" P_is_printable 2 (sp_is_printable))(F : Fun K "is_payload" "is_payload" s_is_payload f fd) : FnOk P w K mg base CX0 (3) f fd P_is_payload (spH1 isPay) := by
  have nd := sc_is_payload.nd
  refine F.ok sc_is_payload (fun vs H Q E h => ?_) (fun cdv A outer s H vs Q E hr h => ?_)
  · obtain ⟨_, _, _, rfl, _⟩ := h
    rfl
  · obtain ⟨p, v, d, rfl, hd, hh, q⟩ := h
    have hs := sl
    refine ⟨_, (pss_one (ps_ret (pe_and (pe_callB call_isi (by rfl) T.b_isinstance (by decide +kernel) (pa_cons (pv 0) (pa_cons (pe_ty "str" T.b_str) pa_nil))) (pe_and (pe_cmpR op_le (pe_callB call_len_str (by rfl) T.b_len (by decide +kernel) (pa_cons (pv 0) pa_nil)) (pe_const T.c_MOST_PAYLOAD) (nomark _)) (pe_one (pcall c_is_printable hr (pa_cons (pv 0) pa_nil))))))), ?_⟩
    have hd' := hd
    cases hd <;> walk_at "rds"
    case str z =>
      cases hh with
      | str hz =>
        refine ⟨by have := hz.1; omega, ?_⟩
        walk_at "rds"
        refine iB (fun h => ?_) (fun h => ?_)
        · have h := of_decide_eq_true h
          walk_at "rds"
          exact ansB q (by simp only [isPay]; rw [decide_eq_true (show z.length ≤ 30 by omega), Bool.true_and])
        · have h := of_decide_eq_false h
          exact ansB q (by simp only [isPay]; rw [decide_eq_false (show ¬ z.length ≤ 30 by omega), Bool.false_and])
    all_goals exact q
abbrev s_is_message : Stmt := top 12
abbrev N_is_message : List Str := ["count", "value"]
abbrev P_is_message : List Str := ["count", "value"]
theorem sc_is_message : FnScope N_is_message P_is_message (defScope s_is_message) := ⟨rfl, rfl, rfl, by decide +kernel, rfl, by decide +kernel, by decide +kernel⟩
theorem ok_is_message {f : Addr} {fd : FuncData} (T : Tx mg) (c_is_integer : DefOk P w K mg base CX0 "is_integer" P_is_integer 1 (spI)) (c_is_member : DefOk P w K mg base CX0 "is_member" P_is_member 3 (spB2 isMem)) (c_is_payload : DefOk P w K mg base CX0 "is_payload" P_is_payload 3 (spH1 isPay))(F : Fun K "is_message" "is_message" s_is_message f fd) : FnOk P w K mg base CX0 (4) f fd P_is_message (spH2 isMsg) := by
  have nd := sc_is_message.nd
  refine F.ok sc_is_message (fun vs H Q E h => ?_) (fun cdv A outer s H vs Q E hr h => ?_)
  · obtain ⟨_, _, _, _, _, rfl, _⟩ := h
    rfl
  · obtain ⟨p, u, v, c, d, rfl, hc, hd, hh, q⟩ := h
    refine ⟨_, (pss_cons (ps_if (PW.pt (pw_or (pt_not (pt_val (pe_callB call_isi (by rfl) T.b_isinstance (by decide +kernel) (pa_cons (pv 1) (pa_cons (pe_ty "tuple" T.b_tuple) pa_nil))))) (pw_or1 (pt_cmpR op_ne (pe_callB call_len_seq (by rfl) T.b_len (by decide +kernel) (pa_cons (pv 1) pa_nil)) pe_int (nomark _)))))
        (pss_one (ps_ret pe_bl))
        pss_nil)
      (pss_one (ps_ret (pe_and (pcall c_is_member hr (pa_cons (pv 0) (pa_cons (pe_ix ix_tup (pv 1) pe_int (fun _ _ => rfl)) pa_nil))) (pe_and (pcall c_is_integer hr (pa_cons (pe_ix ix_tup (pv 1) pe_int (fun _ _ => rfl)) (pa_cons pe_int (pa_cons (pe_const T.c_MOST_NUMBER) pa_nil)))) (pe_one (pcall c_is_payload hr (pa_cons (pe_ix ix_tup (pv 1) pe_int (fun _ _ => rfl)) pa_nil)))))))), ?_⟩
    have hd' := hd
    rcases threes d with ⟨x, y, z, rfl⟩ | hno
    · obtain ⟨k1, k2, k3⟩ := hh.of3
      obtain _ | _ | _ | _ | _ | @⟨a, xs, _, ha, np, hw, hr⟩ := hd
      obtain _ | ⟨hx, _ | ⟨hy, _ | ⟨hz, hn⟩⟩⟩ := hr
      cases hn
      walk_at "rds"
      refine iB (fun h => ?_) (fun h => ?_)
      · walk_at "rds"
        refine iB (fun h2 => ?_) (fun h2 => ?_)
        · walk_at "rds"
          exact ⟨p, _, z, rfl, hz, k3, ansB q (by simp [isMsg, h, h2])⟩
        · exact ansB q (by simp [isMsg, h, h2])
      · exact ansB q (by simp [isMsg, h])
    · have e := isMsg_no (c := c) hno
      rw [e] at q
      rcases hno with ⟨ds, rfl, hl⟩ | hno
      · obtain _ | _ | _ | _ | _ | @⟨a, xs, _, ha, np, hw, hr⟩ := hd
        have hl2 := hr.length
        walk_at "rds"
        refine nT (vint_ne (by omega)) ?_
        walk_at "rds"
        exact q
      · cases hd <;> simp [dTup] at hno <;> walk_at "rds" <;> exact q
end
end Mus

set_option maxRecDepth 100000
set_option maxHeartbeats 4000000
namespace Mus
open PySem L2 TL PySem.NumText
local macro_rules | `(tactic| walk_at "rd") => `(tactic| first
  | refine ⟨_, rfl, ?_⟩ | refine ⟨(True.intro : True), ?_⟩
  | refine ⟨_, _, rfl, rfl, (⟨by decide, by decide, by decide⟩ : CPow _ _), ?_⟩
  | refine ⟨_, _, rfl, rfl, (⟨by decide, by decide⟩ : CDiv _ _), ?_⟩
  | refine ⟨_, _, rfl, rfl, (by show (0 : Int) < _; decide), ?_⟩
  | refine ⟨_, _, rfl, rfl, ?_⟩ | refine ⟨rfl, ?_⟩ | refine iteT ?_ | refine iteF ?_ | refine ⟨_, _, rfl, ?_⟩ | refine .inl ⟨_, rfl, ?_⟩
  | refine ⟨_, _, _, _, _, rfl, (by assumption), (by assumption), (by assumption), rfl, ?_⟩ | refine ⟨_, _, _, _, rfl, rfl, SqT.of (by assumption), rfl, ?_⟩ | refine ⟨_, _, rfl, SqT.of (by assumption), rfl, ?_⟩
  | refine ⟨_, _, _, _, _, rfl, .ty _, Rp.ty (by assumption), kit_int _, ?_⟩ | refine ⟨_, _, _, _, _, rfl, .ty _, Rp.ty (by assumption), kit_bool _, ?_⟩
  | refine ⟨_, _, _, _, _, rfl, .ty _, Rp.ty (by assumption), kit_str _, ?_⟩ | refine ⟨_, _, _, _, _, rfl, .ty _, Rp.ty (by assumption), kit_tup _, ?_⟩)
local macro_rules | `(tactic| walk_at "cal") => `(tactic| first
  | refine ⟨_, _, _, _, _, rfl, (by assumption), ?_⟩ | refine ⟨_, _, _, _, _, rfl, (by assumption), (by assumption), ?_⟩)
local macro_rules | `(tactic| walk_at "sq") => `(tactic| first
  | refine ⟨_, _, rfl, Or.inr (SqT.of (by assumption)), ?_⟩ | refine ⟨_, _, _, _, rfl, rfl, SqT.of (by assumption), rfl, ?_⟩)
local macro_rules | `(tactic| walk_at "rds") => `(tactic| repeat first | walk_at "rd" | walk_at "cal" | walk_at "sq")
def sndK : PyData → Int × Int
  | .tuple (.tuple [.int i, .int l] :: _) => (i, l)
  | _ => (0, 0)
def idxK : PyData → Int
  | .tuple (_ :: .int i :: _) => i
  | _ => 0
def cnt (ds : List PyData) (k : Int × Int) : Nat := (ds.filter fun m => decide (sndK m = k)).length
def logFrom (c : PyData) : List PyData → List PyData → Bool
  | _, [] => true
  | pre, m :: ms => isMsg c m && decide (idxK m = cnt pre (sndK m) + 1) && logFrom c (pre ++ [m]) ms
def isLog (c : PyData) : PyData → Bool
  | .tuple ds => logFrom c [] ds
  | _ => false
theorem isMsg_int {c d : PyData} (h : isMsg c d = true) : ∃ i l k z, d = .tuple [.tuple [.int i, .int l], .int k, .str z] ∧ isMem c (.tuple [.int i, .int l]) = true ∧ 1 ≤ k ∧ k ≤ 1000000000000 ∧ z.length ≤ 30 := by
  unfold isMsg at h
  split at h
  · rename_i a b z
    rw [Bool.and_eq_true, Bool.and_eq_true] at h
    obtain ⟨⟨h1, h2⟩, h3⟩ := h
    obtain ⟨n, i, l, _, rfl, _⟩ := isMem_int h1
    obtain ⟨k, rfl, h4, h5⟩ := isInt_int h2
    cases z <;> try (cases h3; done)
    rename_i z
    simp [isPay] at h3
    exact ⟨i, l, k, z, rfl, h1, h4, h5, h3.1⟩
  · cases h
theorem cnt_snoc (ds : List PyData) (m : PyData) (k : Int × Int) : cnt (ds ++ [m]) k = cnt ds k + if sndK m = k then 1 else 0 := by
  unfold cnt
  rw [List.filter_append, List.length_append]
  by_cases h : sndK m = k
  · rw [if_pos h]; simp [h]
  · rw [if_neg h]; simp [h]
def spHS1 (f : PyData → Bool) : Sp := fun vs H Q _ => ∃ (p : Addr) (v : V) (d : PyData), vs = [v] ∧ Rp p H v d ∧ Her Ok d ∧ ∀ H', Same H H' → Q (.bl (f d)) H'
def spHS2 (f : PyData → PyData → Bool) : Sp := fun vs H Q _ => ∃ (p : Addr) (u v : V) (c d : PyData), vs = [u, v] ∧ Rp p H u c ∧ Rp p H v d ∧ Her Ok d ∧ ∀ H', Same H H' → Q (.bl (f c d)) H'
theorem isLog_no {c d : PyData} (h : dTup d = false) : isLog c d = false := by cases d <;> first | rfl | cases h
/-- the last indexes as a dict -/
def Last (kvs : List (List Key × V)) (pre : List PyData) : Prop := kvs.length ≤ pre.length ∧ ∀ i l : Int, (valV kvs [Sum.inl i, Sum.inl l]).getD (.int 0) = .int (cnt pre (i, l) : Nat)
section
variable {P : Program} {w : World} {K : PySem.W.Frag} {mg : Str → Option Value} {base : Heap}
abbrev s_is_log : Stmt := top 14
abbrev N_is_log : List Str := ["count", "value", "last_indexes", "message", "sender", "index", "_"]
abbrev P_is_log : List Str := ["count", "value"]
theorem sc_is_log : FnScope N_is_log P_is_log (defScope s_is_log) := ⟨rfl, rfl, rfl, by decide +kernel, rfl, by decide +kernel, by decide +kernel⟩
theorem ok_is_log {f : Addr} {fd : FuncData} (T : Tx mg) (c_is_message : DefOk P w K mg base CX0 "is_message" P_is_message 4 (spH2 isMsg))(F : Fun K "is_log" "is_log" s_is_log f fd) : FnOk P w K mg base CX0 (5) f fd P_is_log (spHS2 isLog) := by
  have nd := sc_is_log.nd
  refine F.ok sc_is_log (fun vs H Q E h => ?_) (fun cdv A outer s H vs Q E hr h => ?_)
  · obtain ⟨_, _, _, _, _, rfl, _⟩ := h
    rfl
  · obtain ⟨p, u, v, c, d, rfl, hc, hd, hh, q⟩ := h
    have hu := hu_of hr
    have hs := sl
    refine ⟨_, (pss_cons (ps_if (pt_not (pt_val (pe_callB call_isi (by rfl) T.b_isinstance (by decide +kernel) (pa_cons (pv 1) (pa_cons (pe_ty "tuple" T.b_tuple) pa_nil)))))
        (pss_one (ps_ret pe_bl))
        pss_nil)
      (pss_cons (ps_set (i := 2) nd rfl (Or.inl rfl) pe_dnewT)
      (pss_cons (ps_for PassesOwn.never rfl (pi_tup (pv 1)) (pg_name (i := 3) nd rfl (Or.inl rfl))
        (pss_cons (ps_if (pt_not (pt_val (pcall c_is_message hr (pa_cons (pv 0) (pa_cons (pv 3) pa_nil)))))
          (pss_one (ps_ret pe_bl))
          pss_nil)
        (pss_cons (ps_asg (pv 3) (pg_tup (by rfl) (pgs_cons (pg_name (i := 4) nd rfl (Or.inl rfl)) (pgs_cons (pg_name (i := 5) nd rfl (Or.inl rfl)) (pgs_cons (pg_name (i := 6) nd rfl (Or.inl rfl)) pgs_nil)))))
        (pss_cons (ps_if (pt_cmpR op_ne (pv 5) (pe_op op_add (pe_dget2 hu (pv 2) (pv 4) pe_int ⟨rfl, rfl, rfl, rfl⟩) pe_int) (nomark _))
          (pss_one (ps_ret pe_bl))
          pss_nil)
        (pss_one (ps_dput hu (pv 2) (pv 4) (pv 5) rfl))))))
      (pss_one (ps_ret pe_bl))))), ?_⟩
    have hd' := hd
    cases hd
    case tup a xs ds ha np hw hr =>
      walk_at "rds"
      intro e ne
      have se := same_new ne (.dT [])
      walk_at "rds"
      refine ⟨⟨_, SqT.of (se _ _ ha)⟩, for_tup (K := K) (a := a) (xs := xs) (fun i σ H' => ∃ (kvs : List (List Key × V)) (x3 x4 x5 x6 : Option V), σ = [some u, some (.ref a), some (.ref e), x3, x4, x5, x6] ∧ Same H H' ∧ H' e = some (.dT kvs) ∧ Last kvs (ds.take i) ∧ logFrom c [] ds = logFrom c (ds.take i) (ds.drop i)) ?_ ?_ ?_ ?_⟩
      · exact ⟨[], _, _, _, _, rfl, se, upd_same, ⟨Nat.zero_le _, fun _ _ => rfl⟩, rfl⟩
      · rintro i σ H' _ ⟨kvs, _, _, _, _, rfl, s', _⟩
        exact SqT.of (s' _ _ ha)
      · rintro i x σ H' hx ⟨kvs, x3, x4, x5, x6, rfl, s', he, hL, hm⟩
        obtain ⟨m, hm2, rm⟩ := hr.at hx
        rw [drop_cons hm2] at hm
        have hmh := hh.mem m (List.mem_of_getElem? hm2)
        walk_at "rds"
        refine ⟨p, u, x, c, m, rfl, hc.same s', rm.same s', hmh, ?_⟩
        walk_at "rds"
        refine iB (fun h => ?_) (fun h => ?_)
        · have h' : isMsg c m = false := by simpa using h
          walk_at "rds"
          exact ansB (q _ s') (hm.trans (by simp [logFrom, h']))
        · have h' : isMsg c m = true := by simpa using h
          obtain ⟨i0, l0, k0, z0, rfl, hmem, _, _, _⟩ := isMsg_int h'
          obtain _ | _ | _ | _ | _ | @⟨b, ys, _, hb, nb, hwb, hrb⟩ := rm
          obtain _ | ⟨hx1, _ | ⟨hx2, _ | ⟨hx3, hn⟩⟩⟩ := hrb
          cases hn
          cases hx2
          cases hx3
          obtain _ | _ | _ | _ | _ | @⟨b2, ys2, _, hb2, nb2, hwb2, hrb2⟩ := hx1
          obtain _ | ⟨hy1, _ | ⟨hy2, hn⟩⟩ := hrb2
          cases hn
          cases hy1
          cases hy2
          have hbt : H' b2 = some (.tup (([Sum.inl i0, Sum.inl l0] : List Key).map kV)) := s' _ _ hb2
          walk_at "rds"
          refine ⟨b, _, rfl, SqT.of (s' _ _ hb), rfl, ?_⟩
          walk_at "rds"
          refine ⟨.inr ⟨kvs, .inl he⟩, ?_⟩
          walk_at "rds"
          refine ⟨_, DGet.t he hbt, ?_⟩
          rw [hL.2]
          walk_at "rds"
          refine iB (fun h2 => ?_) (fun h2 => ?_)
          · have h3 : ¬ k0 = (cnt (ds.take i) (i0, l0) : Nat) + 1 := fun e => by rw [e] at h2; simp at h2
            walk_at "rds"
            exact ansB (q _ s') (hm.trans (by simp [logFrom, idxK, sndK, h3]))
          · have h3 : k0 = (cnt (ds.take i) (i0, l0) : Nat) + 1 := by simpa using h2
            have hll : kvs.length < sizeLine := by
              have := hL.1
              rw [List.length_take] at this
              have := hr.length
              omega
            walk_at "rds"
            refine ⟨e, _, rfl, DPut.t he hbt hll, ?_⟩
            have ht : ds.take (i + 1) = ds.take i ++ [.tuple [.tuple [.int i0, .int l0], .int k0, .str z0]] := by rw [List.take_succ, hm2]; rfl
            refine ⟨_, _, _, _, _, rfl, fun b' o h => (by rw [upd_ne (ne_of_none h ne)]; exact s' b' o h), upd_same, ⟨?_, ?_⟩, ?_⟩
            · have := putK_le kvs ([Sum.inl i0, Sum.inl l0] : List Key) (V.int k0)
              rw [ht, List.length_append]
              have := hL.1
              show _ ≤ _ + 1
              omega
            · intro i1 l1
              have es : sndK (.tuple [.tuple [.int i0, .int l0], .int k0, .str z0]) = (i0, l0) := rfl
              rw [valV_put, ht, cnt_snoc, es]
              by_cases he1 : i1 = i0 ∧ l1 = l0
              · obtain ⟨rfl, rfl⟩ := he1
                rw [if_pos rfl, if_pos rfl]
                show V.int k0 = _
                rw [h3]; rfl
              · rw [if_neg (by intro z; injection z with z1 z2; injection z1 with z1; injection z2 with z2; injection z2 with z2; exact he1 ⟨z1, z2⟩), if_neg (by intro z; injection z with z1 z2; exact he1 ⟨z1.symm, z2.symm⟩)]
                exact hL.2 i1 l1
            · rw [hm, ht]
              show (isMsg c _ && decide (k0 = ((cnt (ds.take i) (i0, l0) : Nat) : Int) + 1) && logFrom c (ds.take i ++ [_]) _) = _
              rw [h', decide_eq_true h3]; rfl
      · rintro σ H' ⟨kvs, x3, x4, x5, x6, rfl, s', he, hL, hm⟩
        have hl := hr.length
        rw [hl, List.drop_length] at hm
        walk_at "rds"
        exact ansB (q _ s') hm
    all_goals
      walk_at "rds"
      exact q _ (Same.rfl' H)
end
end Mus

set_option maxRecDepth 100000
set_option maxHeartbeats 4000000
namespace Mus
open PySem L2 TL PySem.NumText
local macro_rules | `(tactic| walk_at "rd") => `(tactic| first
  | refine ⟨_, rfl, ?_⟩ | refine ⟨(True.intro : True), ?_⟩
  | refine ⟨_, _, rfl, rfl, (⟨by decide, by decide, by decide⟩ : CPow _ _), ?_⟩
  | refine ⟨_, _, rfl, rfl, (⟨by decide, by decide⟩ : CDiv _ _), ?_⟩
  | refine ⟨_, _, rfl, rfl, (by show (0 : Int) < _; decide), ?_⟩
  | refine ⟨_, _, rfl, rfl, ?_⟩ | refine ⟨rfl, ?_⟩ | refine iteT ?_ | refine iteF ?_ | refine ⟨_, _, rfl, ?_⟩ | refine .inl ⟨_, rfl, ?_⟩
  | refine ⟨_, _, _, _, _, rfl, (by assumption), (by assumption), (by assumption), rfl, ?_⟩ | refine ⟨_, _, _, _, rfl, rfl, SqT.of (by assumption), rfl, ?_⟩ | refine ⟨_, _, rfl, SqT.of (by assumption), rfl, ?_⟩
  | refine ⟨_, _, _, _, _, rfl, .ty _, Rp.ty (by assumption), kit_int _, ?_⟩ | refine ⟨_, _, _, _, _, rfl, .ty _, Rp.ty (by assumption), kit_bool _, ?_⟩
  | refine ⟨_, _, _, _, _, rfl, .ty _, Rp.ty (by assumption), kit_str _, ?_⟩ | refine ⟨_, _, _, _, _, rfl, .ty _, Rp.ty (by assumption), kit_tup _, ?_⟩)
local macro_rules | `(tactic| walk_at "cal") => `(tactic| first
  | refine ⟨_, _, _, _, _, rfl, (by assumption), ?_⟩ | refine ⟨_, _, _, _, _, rfl, (by assumption), (by assumption), ?_⟩)
local macro_rules | `(tactic| walk_at "sq") => `(tactic| first
  | refine ⟨_, _, rfl, Or.inr (SqT.of (by assumption)), ?_⟩ | refine ⟨_, _, _, _, rfl, rfl, SqT.of (by assumption), rfl, ?_⟩)
local macro_rules | `(tactic| walk_at "rds") => `(tactic| repeat first | walk_at "rd" | walk_at "cal" | walk_at "sq")
/-- a cast that waits -/
def isCast : PyData → Bool
  | .tuple [x, y] => isInt x 1 1000000000000 && isPay y
  | _ => false
def pendFrom : Int → List PyData → Bool
  | _, [] => true
  | n, m :: ms => isCast m && decide (procOf m = n) && pendFrom (n + 1) ms
def isPend : PyData → Bool
  | .tuple [] => true
  | .tuple (m :: ms) => isCast m && pendFrom (procOf m + 1) ms
  | _ => false
theorem isCast_no {d : PyData} (h : (∃ ds, d = .tuple ds ∧ ds.length ≠ 2) ∨ dTup d = false) : isCast d = false := by
  unfold isCast
  split
  · simp [dTup] at h
  · rfl
section
variable {P : Program} {w : World} {K : PySem.W.Frag} {mg : Str → Option Value} {base : Heap}
abbrev s__is_pending_cast : Stmt := top 17
abbrev N__is_pending_cast : List Str := ["value"]
abbrev P__is_pending_cast : List Str := ["value"]
theorem sc__is_pending_cast : FnScope N__is_pending_cast P__is_pending_cast (defScope s__is_pending_cast) := ⟨rfl, rfl, rfl, by decide +kernel, rfl, by decide +kernel, by decide +kernel⟩
theorem ok__is_pending_cast {f : Addr} {fd : FuncData} (T : Tx mg) (c_is_integer : DefOk P w K mg base CX0 "is_integer" P_is_integer 1 (spI)) (c_is_payload : DefOk P w K mg base CX0 "is_payload" P_is_payload 3 (spH1 isPay))(F : Fun K "_is_pending_cast" "_is_pending_cast" s__is_pending_cast f fd) : FnOk P w K mg base CX0 (4) f fd P__is_pending_cast (spH1 isCast) := by
  have nd := sc__is_pending_cast.nd
  refine F.ok sc__is_pending_cast (fun vs H Q E h => ?_) (fun cdv A outer s H vs Q E hr h => ?_)
  · obtain ⟨_, _, _, rfl, _⟩ := h
    rfl
  · obtain ⟨p, v, d, rfl, hd, hh, q⟩ := h
    refine ⟨_, (pss_cons (ps_if (PW.pt (pw_or (pt_not (pt_val (pe_callB call_isi (by rfl) T.b_isinstance (by decide +kernel) (pa_cons (pv 0) (pa_cons (pe_ty "tuple" T.b_tuple) pa_nil))))) (pw_or1 (pt_cmpR op_ne (pe_callB call_len_seq (by rfl) T.b_len (by decide +kernel) (pa_cons (pv 0) pa_nil)) pe_int (nomark _)))))
        (pss_one (ps_ret pe_bl))
        pss_nil)
      (pss_one (ps_ret (pe_and (pcall c_is_integer hr (pa_cons (pe_ix ix_tup (pv 0) pe_int (fun _ _ => rfl)) (pa_cons pe_int (pa_cons (pe_const T.c_MOST_NUMBER) pa_nil)))) (pe_one (pcall c_is_payload hr (pa_cons (pe_ix ix_tup (pv 0) pe_int (fun _ _ => rfl)) pa_nil))))))), ?_⟩
    have hd' := hd
    rcases pairs d with ⟨x, y, rfl⟩ | hno
    · obtain ⟨k1, k2⟩ := hh.of2
      obtain _ | _ | _ | _ | _ | @⟨a, xs, _, ha, np, hw, hr⟩ := hd
      obtain _ | ⟨hx, _ | ⟨hy, _⟩⟩ := hr
      cases ‹Rps p H _ []›
      walk_at "rds"
      refine iB (fun h => ?_) (fun h => ?_)
      · walk_at "rds"
        exact ⟨p, _, y, rfl, hy, k2, ansB q (by simp [isCast, h])⟩
      · exact ansB q (by simp [isCast, h])
    · have e := isCast_no hno
      rw [e] at q
      rcases hno with ⟨ds, rfl, hl⟩ | hno
      · obtain _ | _ | _ | _ | _ | @⟨a, xs, _, ha, np, hw, hr⟩ := hd
        have hl2 := hr.length
        walk_at "rds"
        refine nT (vint_ne (by omega)) ?_
        walk_at "rds"
        exact q
      · cases hd <;> simp [dTup] at hno <;> walk_at "rds" <;> exact q
theorem logFrom_at {c : PyData} : ∀ {ds pre : List PyData}, logFrom c pre ds = true → ∀ {j : Nat} {m : PyData}, ds[j]? = some m → isMsg c m = true ∧ idxK m = (cnt (pre ++ ds.take j) (sndK m) : Nat) + 1
  | [], pre, _, j, m, h => by simp at h
  | d :: ds, pre, h, j, m, hm => by
    have h : (isMsg c d && decide (idxK d = (cnt pre (sndK d) : Nat) + 1) && logFrom c (pre ++ [d]) ds) = true := h
    rw [Bool.and_eq_true, Bool.and_eq_true, decide_eq_true_eq] at h
    cases j with
    | zero =>
      cases hm
      rw [List.take_zero, List.append_nil]
      exact h.1
    | succ j =>
      have := logFrom_at h.2 (j := j) (m := m) (by simpa using hm)
      rwa [List.append_assoc] at this
theorem shaped2 (i l : Int) : SeqAt.shaped (.tuple [.int i, .int l]) = true := by simp [SeqAt.shaped, PyData.canLay0, PyData.canLayAll0, PyData.depth, PyData.depthAll]
theorem eqv2 (i l j k : Int) : PyData.eqv (.tuple [.int i, .int l]) (.tuple [.int j, .int k]) = decide ((i, l) = (j, k)) := by
  simp only [PyData.eqv, PyData.eqvAll, Prod.mk.injEq, Bool.and_true, Bool.decide_and]
  rfl
def sp_last : Sp := fun vs H Q _ => ∃ (p : Addr) (u v : V) (ds : List PyData) (i l : Int) (c : PyData), vs = [u, v] ∧ Rp p H u (.tuple ds) ∧ Rp p H v (.tuple [.int i, .int l]) ∧ logFrom c [] ds = true ∧ Q (.int (cnt ds (i, l) : Nat)) H
abbrev s_last_index : Stmt := top 15
abbrev N_last_index : List Str := ["log", "member", "last", "sender", "index", "_"]
abbrev P_last_index : List Str := ["log", "member"]
theorem sc_last_index : FnScope N_last_index P_last_index (defScope s_last_index) := ⟨rfl, rfl, rfl, by decide +kernel, rfl, by decide +kernel, by decide +kernel⟩
theorem ok_last_index {f : Addr} {fd : FuncData} (T : Tx mg) (F : Fun K "last_index" "last_index" s_last_index f fd) : FnOk P w K mg base CX0 (1) f fd P_last_index (sp_last) := by
  have nd := sc_last_index.nd
  refine F.ok sc_last_index (fun vs H Q E h => ?_) (fun cdv A outer s H vs Q E hr h => ?_)
  · obtain ⟨_, _, _, _, _, _, _, rfl, _⟩ := h
    rfl
  · obtain ⟨p, u, v, ds, i, l, c, rfl, hu, hv, hlog, q⟩ := h
    have hs := sl
    refine ⟨_, (pss_cons (ps_set (i := 2) nd rfl (Or.inl rfl) pe_int)
      (pss_cons (ps_for PassesOwn.never rfl (pi_tup (pv 0)) (pg_tup (by rfl) (pgs_cons (pg_name (i := 3) nd rfl (Or.inl rfl)) (pgs_cons (pg_name (i := 4) nd rfl (Or.inl rfl)) (pgs_cons (pg_name (i := 5) nd rfl (Or.inl rfl)) pgs_nil))))
        (pss_one (ps_if (pt_cmpR (op_eqD hr.units) (pv 3) (pv 1) (nomark _))
          (pss_one (ps_set (i := 2) nd rfl (Or.inl rfl) (pv 4)))
          pss_nil)))
      (pss_one (ps_ret (pv 2))))), ?_⟩
    walk_at "rds"
    obtain _ | _ | _ | _ | _ | @⟨a, xs, _, ha, np, hw, hr1⟩ := hu
    refine ⟨a, rfl, ⟨_, SqT.of ha⟩, for_tup (K := K) (a := a) (xs := xs) (fun j σ H' => H' = H ∧ ∃ (x3 x4 x5 : Option V), σ = [some (.ref a), some v, some (.int (cnt (ds.take j) (i, l) : Nat)), x3, x4, x5]) ?_ ?_ ?_ ?_⟩
    · exact ⟨rfl, _, _, _, rfl⟩
    · rintro j σ H' _ ⟨rfl, _⟩
      exact SqT.of ha
    · rintro j x σ H' hx ⟨rfl, x3, x4, x5, rfl⟩
      obtain ⟨m, hm2, rm⟩ := hr1.at hx
      obtain ⟨hmsg, hidx⟩ := logFrom_at hlog hm2
      obtain ⟨i0, l0, k0, z0, rfl, hmem, _, _, _⟩ := isMsg_int hmsg
      have hidx : k0 = (cnt ([] ++ ds.take j) (i0, l0) : Nat) + 1 := hidx
      rw [List.nil_append] at hidx
      have ht : ds.take (j + 1) = ds.take j ++ [.tuple [.tuple [.int i0, .int l0], .int k0, .str z0]] := by rw [List.take_succ, hm2]; rfl
      have es : sndK (.tuple [.tuple [.int i0, .int l0], .int k0, .str z0]) = (i0, l0) := rfl
      obtain _ | _ | _ | _ | _ | @⟨b, ys, _, hb, nb, hwb, hrb⟩ := rm
      obtain _ | ⟨hx1, _ | ⟨hx2, _ | ⟨hx3, hn⟩⟩⟩ := hrb
      cases hn
      cases hx2
      cases hx3
      refine ⟨b, _, rfl, SqT.of hb, rfl, ?_⟩
      walk_at "rds"
      refine ⟨_, _, hx1.dp, hv.dp, shaped2 _ _, shaped2 _ _, ?_⟩
      rw [eqv2]
      walk_at "rds"
      refine iB (fun h => ?_) (fun h => ?_)
      · have h := of_decide_eq_true h
        walk_at "rds"
        rw [ht, cnt_snoc, es, if_pos h, hidx, h]
        exact ⟨_, _, _, rfl⟩
      · have h := of_decide_eq_false h
        have ec : cnt (ds.take (j + 1)) (i, l) = cnt (ds.take j) (i, l) := by rw [ht, cnt_snoc, es, if_neg h]; rfl
        rw [ec]
        exact ⟨rfl, _, _, _, rfl⟩
    · rintro σ H' ⟨rfl, x3, x4, x5, rfl⟩
      have hl := hr1.length
      rw [hl, List.take_length]
      walk_at "rds"
      exact q
end
end Mus

set_option maxRecDepth 100000
set_option maxHeartbeats 4000000
namespace Mus
open PySem L2 TL PySem.NumText
local macro_rules | `(tactic| walk_at "rd") => `(tactic| first
  | refine ⟨_, rfl, ?_⟩ | refine ⟨(True.intro : True), ?_⟩
  | refine ⟨_, _, rfl, rfl, (⟨by decide, by decide, by decide⟩ : CPow _ _), ?_⟩
  | refine ⟨_, _, rfl, rfl, (⟨by decide, by decide⟩ : CDiv _ _), ?_⟩
  | refine ⟨_, _, rfl, rfl, (by show (0 : Int) < _; decide), ?_⟩
  | refine ⟨_, _, rfl, rfl, ?_⟩ | refine ⟨rfl, ?_⟩ | refine iteT ?_ | refine iteF ?_ | refine ⟨_, _, rfl, ?_⟩ | refine .inl ⟨_, rfl, ?_⟩
  | refine ⟨_, _, _, _, _, rfl, (by assumption), (by assumption), (by assumption), rfl, ?_⟩ | refine ⟨_, _, _, _, rfl, rfl, SqT.of (by assumption), rfl, ?_⟩ | refine ⟨_, _, rfl, SqT.of (by assumption), rfl, ?_⟩
  | refine ⟨_, _, _, _, _, rfl, .ty _, Rp.ty (by assumption), kit_int _, ?_⟩ | refine ⟨_, _, _, _, _, rfl, .ty _, Rp.ty (by assumption), kit_bool _, ?_⟩
  | refine ⟨_, _, _, _, _, rfl, .ty _, Rp.ty (by assumption), kit_str _, ?_⟩ | refine ⟨_, _, _, _, _, rfl, .ty _, Rp.ty (by assumption), kit_tup _, ?_⟩)
local macro_rules | `(tactic| walk_at "cal") => `(tactic| first
  | refine ⟨_, _, _, _, _, rfl, (by assumption), ?_⟩ | refine ⟨_, _, _, _, _, rfl, (by assumption), (by assumption), ?_⟩)
local macro_rules | `(tactic| walk_at "sq") => `(tactic| first
  | refine ⟨_, _, rfl, Or.inr (SqT.of (by assumption)), ?_⟩ | refine ⟨_, _, _, _, rfl, rfl, SqT.of (by assumption), rfl, ?_⟩)
local macro_rules | `(tactic| walk_at "rds") => `(tactic| repeat first | walk_at "rd" | walk_at "cal" | walk_at "sq")
theorem isCast_int {d : PyData} (h : isCast d = true) : ∃ k z, d = .tuple [.int k, .str z] ∧ 1 ≤ k ∧ k ≤ 1000000000000 ∧ z.length ≤ 30 := by
  unfold isCast at h
  split at h
  · rename_i x y
    rw [Bool.and_eq_true] at h
    obtain ⟨k, rfl, h1, h2⟩ := isInt_int h.1
    have h3 := h.2
    cases y <;> try (cases h3; done)
    rename_i z
    simp [isPay] at h3
    exact ⟨k, z, rfl, h1, h2, h3.1⟩
  · cases h
/-- all casts so far, one index behind the other -/
def PendTo (ds : List PyData) (i : Nat) : Prop := (∀ j m, j < i → ds[j]? = some m → isCast m = true) ∧ ∀ m, ds[0]? = some m → 0 < i → isPend (.tuple ds) = pendFrom (procOf m + (i : Nat)) (ds.drop i)
theorem pend_step {ds : List PyData} {i : Nat} {m0 m : PyData} (h : PendTo ds i) (h0 : ds[0]? = some m0) (hm : ds[i]? = some m) : isPend (.tuple ds) = if i = 0 then isCast m && pendFrom (procOf m + 1) (ds.drop 1) else isCast m && decide (procOf m = procOf m0 + (i : Nat)) && pendFrom (procOf m0 + (i : Nat) + 1) (ds.drop (i + 1)) := by
  by_cases hi : i = 0
  · subst hi
    rw [if_pos rfl]
    cases ds with
    | nil => cases h0
    | cons d ds => cases hm; rfl
  · rw [if_neg hi, h.2 _ h0 (by omega), drop_cons hm]; rfl
theorem shift_snd {ds : List PyData} {i : Nat} {m : PyData} (hm : ds[i]? = some m) {n : Int} : pendFrom n (ds.drop i) = (isCast m && decide (procOf m = n) && pendFrom (n + 1) (ds.drop (i + 1))) := by
  rw [drop_cons hm]; rfl
section
variable {P : Program} {w : World} {K : PySem.W.Frag} {mg : Str → Option Value} {base : Heap}
abbrev s_is_pending : Stmt := top 16
abbrev N_is_pending : List Str := ["value", "at", "pair"]
abbrev P_is_pending : List Str := ["value"]
theorem sc_is_pending : FnScope N_is_pending P_is_pending (defScope s_is_pending) := ⟨rfl, rfl, rfl, by decide +kernel, rfl, by decide +kernel, by decide +kernel⟩
theorem ok_is_pending {f : Addr} {fd : FuncData} (T : Tx mg) (c__is_pending_cast : DefOk P w K mg base CX0 "_is_pending_cast" P__is_pending_cast 4 (spH1 isCast))(F : Fun K "is_pending" "is_pending" s_is_pending f fd) : FnOk P w K mg base CX0 (5) f fd P_is_pending (spHS1 isPend) := by
  have nd := sc_is_pending.nd
  refine F.ok sc_is_pending (fun vs H Q E h => ?_) (fun cdv A outer s H vs Q E hr h => ?_)
  · obtain ⟨_, _, _, rfl, _⟩ := h
    rfl
  · obtain ⟨p, v, d, rfl, hd, hh, q⟩ := h
    have hs := sl
    refine ⟨_, (pss_cons (ps_if (pt_not (pt_val (pe_callB call_isi (by rfl) T.b_isinstance (by decide +kernel) (pa_cons (pv 0) (pa_cons (pe_ty "tuple" T.b_tuple) pa_nil)))))
        (pss_one (ps_ret pe_bl))
        pss_nil)
      (pss_cons (ps_for PassesOwn.never rfl (pi_enT (by rfl) T.b_enumerate (pa_cons (pv 0) pa_nil)) (pg_tup (by rfl) (pgs_cons (pg_name (i := 1) nd rfl (Or.inl rfl)) (pgs_cons (pg_name (i := 2) nd rfl (Or.inl rfl)) pgs_nil)))
        (pss_cons (ps_if (pt_not (pt_val (pcall c__is_pending_cast hr (pa_cons (pv 2) pa_nil))))
          (pss_one (ps_ret pe_bl))
          pss_nil)
        (pss_one (ps_if (PW.pt (pw_and (pt_cmpR op_gt (pv 1) pe_int (nomark _)) (pw_and1 (pt_cmpR op_ne (pe_ix ix_tup (pv 2) pe_int (fun _ _ => rfl)) (pe_op op_add (pe_ix ix_tup (pe_ix ix_tup (pv 0) (pe_op op_sub (pv 1) pe_int) (fun _ _ => rfl)) pe_int (fun _ _ => rfl)) pe_int) (nomark _)))))
          (pss_one (ps_ret pe_bl))
          pss_nil))))
      (pss_one (ps_ret pe_bl)))), ?_⟩
    have hd' := hd
    cases hd
    case tup a xs ds ha np hw hr1 =>
      have hl := hr1.length
      walk_at "rds"
      refine ⟨a, xs, rfl, SqT.of ha, for_it (walk_enT (K := K) (a := a) (xs := xs)) (fun i σ H' => Same H H' ∧ ∃ (x1 x2 : Option V) (n : Int), σ = [some (.ref a), x1, x2] ∧ isPend (.tuple ds) = (if i = 0 then isPend (.tuple ds) else pendFrom n (ds.drop i)) ∧ (∀ j m, j + 1 = i → ds[j]? = some m → isCast m = true ∧ n = procOf m + 1)) ?_ ?_ ?_ ?_⟩
      · exact ⟨Same.rfl' H, _, _, 0, rfl, rfl, fun j m e => by omega⟩
      · rintro i σ H' _ ⟨s1, _⟩
        exact SqT.of (s1 _ _ ha)
      · rintro i x σ H1 H2 hi ⟨s1, x1, x2, n, rfl, hp, hprev⟩ ⟨t, y0, y, rfl, nt, rfl, e0, ey⟩
        cases e0
        obtain ⟨m, hm, rm⟩ := hr1.at ey
        have st := same_new nt (.tup [.int (i : Nat), y])
        have s2 := s1.trans st
        have hmh := hh.mem m (List.mem_of_getElem? hm)
        refine ⟨t, _, rfl, SqT.of upd_same, rfl, ?_⟩
        walk_at "rds"
        refine ⟨p, y, m, rfl, rm.same s2, hmh, ?_⟩
        walk_at "rds"
        have hz : i = 0 → ds = m :: ds.drop 1 := fun e => by
          rw [e] at hm
          cases ds with
          | nil => cases hm
          | cons d ds => cases hm; rfl
        refine iB (fun h => ?_) (fun h => ?_)
        · have h' : isCast m = false := by simpa using h
          walk_at "rds"
          refine ansB (q _ s2) ?_
          by_cases e : i = 0
          · rw [hz e]; simp [isPend, h']
          · rw [hp, if_neg e, shift_snd hm, h']; rfl
        · have h' : isCast m = true := by simpa using h
          obtain ⟨k, z, rfl, k0, k1, lz⟩ := isCast_int h'
          have rm2 := rm.same s2
          obtain _ | _ | _ | _ | _ | @⟨b, ys, _, hb, nb, hwb, hrb⟩ := rm2
          obtain _ | ⟨hx1, _ | ⟨hx2, hn⟩⟩ := hrb
          cases hn
          cases hx1
          cases hx2
          walk_at "rds"
          refine iB (fun h2 => ?_) (fun h2 => ?_)
          · have i0 : 0 < i := by have := of_decide_eq_true h2; omega
            obtain ⟨j, rfl⟩ : ∃ j, i = j + 1 := ⟨i - 1, by omega⟩
            have hj : j < xs.length := by omega
            obtain ⟨m', hm', rm'⟩ := (hr1.same s2).at (List.getElem?_eq_getElem hj)
            obtain ⟨hc', en⟩ := hprev j m' rfl hm'
            obtain ⟨k', z', rfl, k0', k1', lz'⟩ := isCast_int hc'
            generalize ex : xs[j] = x' at rm'
            obtain _ | _ | _ | _ | _ | @⟨b', ys', _, hb', nb', hwb', hrb'⟩ := rm'
            obtain _ | ⟨hy1, _ | ⟨hy2, hn⟩⟩ := hrb'
            cases hn
            cases hy1
            cases hy2
            walk_at "rds"
            refine ⟨a, _, _, _, rfl, rfl, SqT.of (s2 _ _ ha), at_int (by omega) (by rw [show (((j + 1 : Nat) : Int) - 1).toNat = j by omega, List.getElem?_eq_getElem hj, ex]), ?_⟩
            walk_at "rds"
            have en : n = k' + 1 := en
            rw [if_neg (by omega), shift_snd hm, h', Bool.true_and] at hp
            have hp : isPend (.tuple ds) = (decide (k = n) && pendFrom (n + 1) (ds.drop (j + 1 + 1))) := hp
            refine iB (fun h3 => ?_) (fun h3 => ?_)
            · have h4 : ¬ k = n := fun e => by rw [en] at e; rw [e] at h3; simp at h3
              walk_at "rds"
              exact ansB (q _ s2) (by rw [hp, decide_eq_false h4, Bool.false_and])
            · have h4 : k = n := by rw [en]; simpa using h3
              rw [decide_eq_true h4, Bool.true_and] at hp
              exact ⟨s2, _, _, n + 1, rfl, by rw [if_neg (by omega)]; exact hp, fun j2 m2 e2 hm2 => by
                obtain rfl : j2 = j + 1 := by omega
                rw [hm] at hm2; cases hm2
                exact ⟨h', by rw [← h4]; rfl⟩⟩
          · have i0 : i = 0 := by have := of_decide_eq_false h2; omega
            subst i0
            have e1 := hz rfl
            walk_at "rds"
            refine ⟨s2, _, _, k + 1, rfl, ?_, fun j2 m2 e2 hm2 => ?_⟩
            · rw [if_neg (by omega), e1]
              show (isCast _ && pendFrom (k + 1) (ds.drop 1)) = pendFrom (k + 1) (ds.drop 1)
              rw [h', Bool.true_and]
            · obtain rfl : j2 = 0 := by omega
              rw [hm] at hm2; cases hm2
              exact ⟨h', rfl⟩
      · rintro σ H1 ⟨s1, x1, x2, n, rfl, hp, _⟩
        walk_at "rds"
        refine ansB (q _ s1) ?_
        rw [hl, List.drop_length] at hp
        rw [hp]
        split
        · rename_i e
          cases ds with
          | nil => rfl
          | cons _ _ => cases e
        · rfl
    all_goals
      walk_at "rds"
      exact q _ (Same.rfl' H)
end
end Mus

set_option maxRecDepth 100000
set_option maxHeartbeats 4000000
namespace Mus
open PySem L2 TL PySem.NumText
local macro_rules | `(tactic| walk_at "rd") => `(tactic| first
  | refine ⟨_, rfl, ?_⟩ | refine ⟨(True.intro : True), ?_⟩
  | refine ⟨_, _, rfl, rfl, (⟨by decide, by decide, by decide⟩ : CPow _ _), ?_⟩
  | refine ⟨_, _, rfl, rfl, (⟨by decide, by decide⟩ : CDiv _ _), ?_⟩
  | refine ⟨_, _, rfl, rfl, (by show (0 : Int) < _; decide), ?_⟩
  | refine ⟨_, _, rfl, rfl, ?_⟩ | refine ⟨rfl, ?_⟩ | refine iteT ?_ | refine iteF ?_ | refine ⟨_, _, rfl, ?_⟩ | refine .inl ⟨_, rfl, ?_⟩
  | refine ⟨_, _, _, _, _, rfl, (by assumption), (by assumption), (by assumption), rfl, ?_⟩ | refine ⟨_, _, _, _, rfl, rfl, SqT.of (by assumption), rfl, ?_⟩ | refine ⟨_, _, rfl, SqT.of (by assumption), rfl, ?_⟩
  | refine ⟨_, _, _, _, _, rfl, .ty _, Rp.ty (by assumption), kit_int _, ?_⟩ | refine ⟨_, _, _, _, _, rfl, .ty _, Rp.ty (by assumption), kit_bool _, ?_⟩
  | refine ⟨_, _, _, _, _, rfl, .ty _, Rp.ty (by assumption), kit_str _, ?_⟩ | refine ⟨_, _, _, _, _, rfl, .ty _, Rp.ty (by assumption), kit_tup _, ?_⟩)
local macro_rules | `(tactic| walk_at "cal") => `(tactic| first
  | refine ⟨_, _, _, _, _, rfl, (by assumption), ?_⟩ | refine ⟨_, _, _, _, _, rfl, (by assumption), (by assumption), ?_⟩)
local macro_rules | `(tactic| walk_at "sq") => `(tactic| first
  | refine ⟨_, _, rfl, Or.inr (SqT.of (by assumption)), ?_⟩ | refine ⟨_, _, _, _, rfl, rfl, SqT.of (by assumption), rfl, ?_⟩)
local macro_rules | `(tactic| walk_at "rds") => `(tactic| repeat first | walk_at "rd" | walk_at "cal" | walk_at "sq")
section
variable {P : Program} {w : World} {K : PySem.W.Frag} {mg : Str → Option Value} {base : Heap}
abbrev s__law_bag : Stmt := top 19
abbrev N__law_bag : List Str := ["script", "k", "cell"]
abbrev P__law_bag : List Str := ["script", "k"]
theorem sc__law_bag : FnScope N__law_bag P__law_bag (defScope s__law_bag) := ⟨rfl, rfl, rfl, by decide +kernel, rfl, by decide +kernel, by decide +kernel⟩
theorem ok__law_bag {f : Addr} {fd : FuncData} (T : Tx mg) (F : Fun K "_law_bag" "_law_bag" s__law_bag f fd) : FnOk P w K mg base CX0 (1) f fd P__law_bag (sp_bag K) := by
  have nd := sc__law_bag.nd
  refine F.ok sc__law_bag (fun vs H Q E h => ?_) (fun cdv A outer s H vs Q E hr h => ?_)
  · obtain ⟨_, _, _, rfl, _⟩ := h
    rfl
  · obtain ⟨a, ns, k, rfl, hS, q⟩ := h
    have hs := sl
    refine ⟨_, (pss_cons (ps_set (i := 2) nd rfl (Or.inl rfl) pe_int)
      (pss_cons (ps_if (pt_cmpR op_lt (pv 1) (pe_callB call_len_seq (by rfl) T.b_len (by decide +kernel) (pa_cons (pv 0) pa_nil)) (nomark _))
        (pss_one (ps_set (i := 2) nd rfl (Or.inl rfl) (pe_callTy call_int1 (by rfl) T.b_int (by decide +kernel) (pa_cons (pe_ix ix_list (pv 0) (pv 1) (fun _ _ => rfl)) pa_nil))))
        pss_nil)
      (pss_cons (ps_if (pt_cmpR op_ge (pv 2) (pe_op op_pow pe_int pe_int) (nomark _))
        (pss_one (ps_ret (pe_lst (pa_cons (pv 2) (pa_cons (pv 2) (pa_cons (pv 1) pa_nil))))))
        pss_nil)
      (pss_one (ps_ret (pe_lst (pa_cons pe_int (pa_cons (pv 2) (pa_cons (pv 1) pa_nil))))))))), ?_⟩
    have hl : (ns.map V.int).length = ns.length := List.length_map _
    have fin : ∀ x y : Int, ∀ p, H p = none → Q (.ref p) (upd H p (.lst [.int x, .int y, .int k])) := fun x y p np => q p _ np (same_new np _) ⟨x, y, upd_same⟩
    refine ⟨_, rfl, _, rfl, a, _, rfl, .inl hS, _, _, rfl, rfl, _, rfl, ?_⟩
    by_cases hk : (k : Int) < (((ns.map V.int).length : Nat) : Int)
    · refine dT hk ?_
      have hk2 : k < ns.length := by omega
      refine ⟨_, rfl, _, rfl, a, _, _, .int ns[k], rfl, rfl, hS, atI_nat (by rw [List.getElem?_map, List.getElem?_eq_getElem hk2]; rfl), .inl ⟨_, rfl, ?_⟩⟩
      refine ⟨_, rfl, _, _, rfl, rfl, ⟨by decide, by decide, by decide⟩, _, _, rfl, rfl, _, rfl, ?_⟩
      refine ite2 (fun _ => ?_) (fun _ => ?_)
      · exact ⟨_, rfl, _, rfl, _, rfl, by show 3 ≤ sizeLine; omega, fun p np => fin _ _ p np⟩
      · exact ⟨_, rfl, _, rfl, by show 3 ≤ sizeLine; omega, fun p np => fin _ _ p np⟩
    · refine dF hk ?_
      refine ⟨_, rfl, _, _, rfl, rfl, ⟨by decide, by decide, by decide⟩, _, _, rfl, rfl, _, rfl, ?_⟩
      refine ite2 (fun _ => ?_) (fun _ => ?_)
      · exact ⟨_, rfl, _, rfl, _, rfl, by show 3 ≤ sizeLine; omega, fun p np => fin _ _ p np⟩
      · exact ⟨_, rfl, _, rfl, by show 3 ≤ sizeLine; omega, fun p np => fin _ _ p np⟩
abbrev s__law_draw : Stmt := top 20
abbrev N__law_draw : List Str := ["bag", "many", "seed", "rest"]
abbrev P__law_draw : List Str := ["bag", "many"]
theorem sc__law_draw : FnScope N__law_draw P__law_draw (defScope s__law_draw) := ⟨rfl, rfl, rfl, by decide +kernel, rfl, by decide +kernel, by decide +kernel⟩
theorem ok__law_draw {f : Addr} {fd : FuncData} (T : Tx mg) (F : Fun K "_law_draw" "_law_draw" s__law_draw f fd) : FnOk P w K mg base CX0 (1) f fd P__law_draw (sp_draw) := by
  have nd := sc__law_draw.nd
  refine F.ok sc__law_draw (fun vs H Q E h => ?_) (fun cdv A outer s H vs Q E hr h => ?_)
  · obtain ⟨_, _, _, rfl, _⟩ := h
    rfl
  · obtain ⟨p, c, m, rfl, ⟨x, y, hp⟩, hm, hm2, q⟩ := h
    refine ⟨_, (pss_cons (ps_if (pt_cmpR op_eq (pe_ix ix_list (pv 0) pe_int (fun _ _ => rfl)) pe_int (nomark _))
        (pss_cons (ps_set (i := 2) nd rfl (Or.inl rfl) (pe_op op_mod (pe_callTy call_int1 (by rfl) T.b_int (by decide +kernel) (pa_cons (pe_op op_add (pe_op op_add (pe_op op_mul (pe_ix ix_list (pv 0) pe_int (fun _ _ => rfl)) pe_int) (pe_op op_mul (pe_ix ix_list (pv 0) pe_int (fun _ _ => rfl)) pe_int)) pe_int) pa_nil)) pe_int))
        (pss_cons (ps_asg (pe_op op_add (pe_op op_mul (pv 2) pe_int) (pe_op op_mod (pe_callTy call_int1 (by rfl) T.b_int (by decide +kernel) (pa_cons (pe_op op_add (pe_op op_mul (pv 2) (pv 2)) (pe_op op_mul (pe_ix ix_list (pv 0) pe_int (fun _ _ => rfl)) pe_int)) pa_nil)) pe_int)) (pg_sub (pv 0) pe_int set_list))
        (pss_one (ps_asg (pv 2) (pg_sub (pv 0) pe_int set_list)))))
        pss_nil)
      (pss_cons (ps_set (i := 3) nd rfl (Or.inl rfl) (pe_ix ix_list (pv 0) pe_int (fun _ _ => rfl)))
      (pss_cons (ps_asg (pe_op op_fdivW (pv 3) (pv 1)) (pg_sub (pv 0) pe_int set_list))
      (pss_one (ps_ret (pe_op op_mod (pe_callTy call_int1 (by rfl) T.b_int (by decide +kernel) (pa_cons (pv 3) pa_nil)) (pv 1))))))), ?_⟩
    have wd : CDivW 0 m := wide_div (i := 0) hm hm2 (by omega) (by omega)
    refine ⟨_, rfl, p, _, _, _, rfl, rfl, SqL.of hp, rfl, rfl, _, rfl, ?_⟩
    by_cases h0 : x = 0
    · subst h0
      refine dT rfl ?_
      refine ⟨_, rfl, p, _, _, _, rfl, rfl, SqL.of hp, rfl, _, _, rfl, rfl, .inr ⟨by decide, by decide⟩, ?_⟩
      refine ⟨_, rfl, p, _, _, _, rfl, rfl, SqL.of hp, rfl, _, _, rfl, rfl, .inr ⟨by decide, by decide⟩, _, _, rfl, rfl, _, _, rfl, rfl, .inl ⟨_, rfl, _, _, rfl, rfl, (by show (0 : Int) < 2147483647; decide), ?_⟩⟩
      have b0 : 0 ≤ (y * 48271 + c * 69621 + 11) % 2147483647 := Int.emod_nonneg _ (by decide)
      have b1 : (y * 48271 + c * 69621 + 11) % 2147483647 < 2147483647 := Int.emod_lt_of_pos _ (by decide)
      have bb : -(2 ^ 64) < (y * 48271 + c * 69621 + 11) % 2147483647 ∧ (y * 48271 + c * 69621 + 11) % 2147483647 < 2 ^ 64 := ⟨by omega, by omega⟩
      refine ⟨_, rfl, _, _, rfl, rfl, .inl bb, _, rfl, _, rfl, _, _, rfl, rfl, .inl bb, _, rfl, p, _, _, _, rfl, rfl, SqL.of hp, rfl, _, _, rfl, rfl, .inr ⟨by decide, by decide⟩, _, _, rfl, rfl, .inl ⟨_, rfl, _, _, rfl, rfl, (by show (0 : Int) < 2147483629; decide), _, _, rfl, rfl, ?_⟩⟩
      refine ⟨_, rfl, p, _, _, 0, rfl, rfl, hp, rfl, ?_⟩
      refine ⟨_, rfl, _, rfl, p, _, _, 1, rfl, rfl, upd_same, rfl, ?_⟩
      refine ⟨_, rfl, p, _, _, _, rfl, rfl, SqL.of upd_same, rfl, ?_⟩
      refine ⟨_, rfl, _, rfl, _, _, rfl, rfl, wd, _, rfl, p, _, _, 0, rfl, rfl, upd_same, rfl, ?_⟩
      refine ⟨_, rfl, .inl ⟨_, rfl, _, rfl, _, _, rfl, rfl, hm, ?_⟩⟩
      exact q _ _ (Int.emod_nonneg _ (by omega)) (Int.emod_lt_of_pos _ hm) ((but_upd _).trans ((but_upd _).trans (but_upd _))) ⟨_, _, upd_same⟩
    · refine dF (by intro z; cases z; exact h0 rfl) ?_
      refine ⟨_, rfl, p, _, _, _, rfl, rfl, SqL.of hp, rfl, ?_⟩
      refine ⟨_, rfl, _, rfl, _, _, rfl, rfl, wd, _, rfl, p, _, _, 0, rfl, rfl, hp, rfl, ?_⟩
      refine ⟨_, rfl, .inl ⟨_, rfl, _, rfl, _, _, rfl, rfl, hm, ?_⟩⟩
      exact q _ _ (Int.emod_nonneg _ (by omega)) (Int.emod_lt_of_pos _ hm) (but_upd _) ⟨_, _, upd_same⟩

abbrev s__law_is_int : Stmt := top 21
abbrev N__law_is_int : List Str := ["value", "least", "most"]
abbrev P__law_is_int : List Str := ["value", "least", "most"]
theorem sc__law_is_int : FnScope N__law_is_int P__law_is_int (defScope s__law_is_int) := ⟨rfl, rfl, rfl, by decide +kernel, rfl, by decide +kernel, by decide +kernel⟩
theorem ok__law_is_int {f : Addr} {fd : FuncData} (T : Tx mg) (F : Fun K "_law_is_int" "_law_is_int" s__law_is_int f fd) : FnOk P w K mg base CX0 (1) f fd P__law_is_int (spI) := by
  have nd := sc__law_is_int.nd
  refine F.ok sc__law_is_int (fun vs H Q E h => ?_) (fun cdv A outer s H vs Q E hr h => ?_)
  · obtain ⟨_, _, _, _, _, rfl, _⟩ := h
    rfl
  · obtain ⟨p, v, d, a, b, rfl, hd, q⟩ := h
    refine ⟨_, (pss_one (ps_ret (pe_and (pe_callB call_isi (by rfl) T.b_isinstance (by decide +kernel) (pa_cons (pv 0) (pa_cons (pe_ty "int" T.b_int) pa_nil))) (pe_and (pe_not (pe_callB call_isi (by rfl) T.b_isinstance (by decide +kernel) (pa_cons (pv 0) (pa_cons (pe_ty "bool" T.b_bool) pa_nil)))) (pe_and (pe_cmpR op_le (pv 1) (pv 0) (nomark _)) (pe_one (pe_cmpR op_le (pv 0) (pv 2) (nomark _)))))))), ?_⟩
    have hd' := hd
    cases hd <;> walk_at "rds"
    case int =>
      refine iB (fun h => ?_) (fun h => ?_)
      · walk_at "rds"
        exact ansB q (by simp [isInt, h])
      · exact ansB q (by simp [isInt, h])
    all_goals exact q
abbrev s__law_positive : Stmt := top 22
abbrev N__law_positive : List Str := ["bag"]
abbrev P__law_positive : List Str := ["bag"]
theorem sc__law_positive : FnScope N__law_positive P__law_positive (defScope s__law_positive) := ⟨rfl, rfl, rfl, by decide +kernel, rfl, by decide +kernel, by decide +kernel⟩
theorem ok__law_positive {f : Addr} {fd : FuncData} (T : Tx mg) (c__law_draw : DefOk P w K mg base CX0 "_law_draw" P__law_draw 1 (sp_draw))(F : Fun K "_law_positive" "_law_positive" s__law_positive f fd) : FnOk P w K mg base CX0 (2) f fd P__law_positive (sp_pos) := by
  have nd := sc__law_positive.nd
  refine F.ok sc__law_positive (fun vs H Q E h => ?_) (fun cdv A outer s H vs Q E hr h => ?_)
  · obtain ⟨_, _, rfl, _⟩ := h
    rfl
  · obtain ⟨p, c, rfl, g, q⟩ := h
    refine ⟨_, (pss_cons (ps_if (pt_cmpR op_eq (pcall c__law_draw hr (pa_cons (pv 0) (pa_cons pe_int pa_nil))) pe_int (nomark _))
        (pss_one (ps_ret (pe_op op_add pe_int (pcall c__law_draw hr (pa_cons (pv 0) (pa_cons (pe_op op_pow pe_int pe_int) pa_nil))))))
        pss_nil)
      (pss_one (ps_ret (pe_op op_add pe_int (pcall c__law_draw hr (pa_cons (pv 0) (pa_cons pe_int pa_nil))))))), ?_⟩
    refine ⟨_, rfl, p, c, _, rfl, g, by decide, by decide, fun r H1 r0 r1 b1 g1 => ?_⟩
    walk_at "rds"
    refine iB (fun _ => ?_) (fun _ => ?_)
    · walk_at "rds"
      refine ⟨p, c, 1000000000000, rfl, g1, by decide, by decide, fun r2 H2 s0 s1 b2 g2 => ?_⟩
      walk_at "rds"
      exact q _ _ (by omega) (by omega) (b1.trans b2) g2
    · walk_at "rds"
      refine ⟨p, c, _, rfl, g1, by decide, by decide, fun r2 H2 s0 s1 b2 g2 => ?_⟩
      walk_at "rds"
      exact q _ _ (by omega) (by omega) (b1.trans b2) g2
abbrev s__law_members : Stmt := top 23
abbrev N__law_members : List Str := ["bag", "count", "lives", "k", "process"]
abbrev P__law_members : List Str := ["bag", "count"]
theorem sc__law_members : FnScope N__law_members P__law_members (defScope s__law_members) := ⟨rfl, rfl, rfl, by decide +kernel, rfl, by decide +kernel, by decide +kernel⟩
theorem ok__law_members {f : Addr} {fd : FuncData} (T : Tx mg) (c__law_draw : DefOk P w K mg base CX0 "_law_draw" P__law_draw 1 (sp_draw)) (c__law_positive : DefOk P w K mg base CX0 "_law_positive" P__law_positive 2 (sp_pos))(F : Fun K "_law_members" "_law_members" s__law_members f fd) : FnOk P w K mg base CX0 (3) f fd P__law_members (sp_mems) := by
  have nd := sc__law_members.nd
  refine F.ok sc__law_members (fun vs H Q E h => ?_) (fun cdv A outer s H vs Q E hr h => ?_)
  · obtain ⟨_, _, _, rfl, _⟩ := h
    rfl
  · obtain ⟨p, c, n, rfl, g, n0, n1, q⟩ := h
    have hu := hu_of hr
    have hs := sl
    refine ⟨_, (pss_cons (ps_set (i := 2) nd rfl (Or.inr rfl) pe_dnewK)
      (pss_cons (ps_for PassesOwn.never rfl (pi_range1 (by rfl) T.b_range (pa_cons (pe_op op_add pe_int (pcall c__law_draw hr (pa_cons (pv 0) (pa_cons pe_int pa_nil)))) pa_nil)) (pg_name (i := 3) nd rfl (Or.inl rfl))
        (pss_one (ps_dput hu (pv 2) (pcall c__law_draw hr (pa_cons (pv 0) (pa_cons (pv 1) pa_nil))) (pcall c__law_positive hr (pa_cons (pv 0) pa_nil)) rfl)))
      (pss_one (ps_ret (pe_callTy call_tuple_of (by rfl) T.b_tuple (by decide +kernel) (pa_cons (pe_lc (own := [("process", 4)]) (g := gName 4) rfl nd (pi_list (pe_callB (call_sortedDI rfl) (by rfl) T.b_sorted (by decide +kernel) (pa_cons (pv 2) pa_nil))) (blkOk_by (own := [("process", 4)]) (N := N__law_members) (sc := defScope s__law_members) (by decide +kernel)) (fun _ _ _ _ _ => (pg_name (i := 4) nd rfl (Or.inl rfl))) (fun _ _ _ _ _ => pts_nil) (fun _ _ _ _ _ => (pe_tup (pa_cons (pv 4) (pa_cons (pe_dget hu (pv 2) (pv 4) (fun _ _ => rfl)) pa_nil))))) pa_nil)))))), ?_⟩
    intro d nd
    have pd := g.ne nd
    have g := g.new (o := .dK []) nd
    refine ⟨_, rfl, p, c, _, rfl, g, by decide, by decide, fun r H1 r0 r1 b1 g1 => ?_⟩
    have hd1 := b1 d _ upd_same pd.symm
    refine ⟨_, _, rfl, rfl, _, rfl, by omega, by omega, for_range (lo := 0) (n := (1 + r).toNat) (fun i σ H' => ∃ (kvs : List (Key × V)) (x : Option V), σ = [some (.ref p), some (.int n), some (.ref d), x, none] ∧ But p H H' ∧ Bag p c H' ∧ H' d = some (.dK kvs) ∧ KvI n 1000000000000 kvs ∧ kvs.length ≤ i ∧ (0 < i → kvs ≠ [])) ?_ ?_ ?_⟩
    · exact ⟨[], none, rfl, ((But.refl p H).new nd).trans b1, g1, hd1, fun kv h => absurd h List.not_mem_nil, Nat.le_refl _, fun h => absurd h (by decide)⟩
    · rintro i σ H2 hi ⟨kvs, x, rfl, b2, g2, hd2, hk, hl, _⟩
      refine ⟨_, rfl, p, c, rfl, g2, fun l H3 l0 l1 b3 g3 => ?_⟩
      walk_at "rds"
      refine ⟨p, c, n, rfl, g3, by omega, by omega, fun k H4 k0 k1 b4 g4 => ?_⟩
      have hd4 := b4 d _ (b3 d _ hd2 pd.symm) pd.symm
      refine ⟨d, _, rfl, DPut.k (k := Sum.inl k) hd4 (by omega), ?_⟩
      exact ⟨_, _, rfl, (b2.trans (b3.trans b4)).later nd, g4.upd pd, upd_same, hk.put k0 k1 l0 l1, Nat.le_trans (putK_le _ _ _) (by omega), fun _ => putK_ne _ _ _⟩
    · rintro σ H2 ⟨kvs, x, rfl, b2, g2, hd2, hk, hl, hne⟩
      have hne := hne (by omega)
      refine ⟨_, rfl, d, kvs, _, rfl, .inl hd2, hk.keys, by rw [List.length_map]; omega, fun ys s pm _ ns => ?_⟩
      have b3 := b2.new (o := .lst (ys.map V.int)) ns
      have g3 := g2.new (o := .lst (ys.map V.int)) ns
      have ds : d ≠ s := ne_of_none hd2 ns
      have hd3 : (upd H2 s (.lst (ys.map V.int))) d = some (.dK kvs) := by rw [upd_ne ds]; exact hd2
      refine ⟨s, rfl, ⟨_, SqL.of upd_same⟩, fun D nD => ?_⟩
      have sD : s ≠ D := ne_of_none upd_same nD
      have dD : d ≠ D := ne_of_none hd3 nD
      have pD := g3.ne nD
      have ly : ys.length = kvs.length := by rw [pm.length_eq, List.length_map]
      refine lc_list (K := K) (a := s) (xs := ys.map V.int) (fun i H' => ∃ (ws : List V) (ds : List PyData), H' D = some (.lst ws) ∧ H' s = some (.lst (ys.map V.int)) ∧ H' d = some (.dK kvs) ∧ Rps p H' ws ds ∧ Mems n ds ∧ ds.length = i ∧ But p H H' ∧ Bag p c H') ?_ ?_ ?_ ?_
      · exact ⟨[], [], upd_same, by rw [upd_ne sD]; exact upd_same, by rw [upd_ne dD]; exact hd3, .nil, fun d h => absurd h List.not_mem_nil, rfl, b3.new nD, g3.upd pD⟩
      · rintro i H' _ ⟨ws, ds, _, h2, _⟩
        exact SqL.of h2
      · rintro i x H' hx ⟨ws, ds, h1, h2, h3, h4, h5, h6, b5, g5⟩
        obtain ⟨k, hk1, hk2⟩ : ∃ k, k ∈ ys ∧ x = V.int k := by
          rw [List.getElem?_map] at hx
          cases e : ys[i]? with
          | none => rw [e] at hx; cases hx
          | some k => rw [e] at hx; exact ⟨k, List.mem_of_getElem? e, (Option.some.inj hx).symm⟩
        subst hk2
        have hi : i < ys.length := by
          have := (List.getElem?_eq_some_iff.mp hx).1
          rwa [List.length_map] at this
        obtain ⟨v, hv, hm⟩ := valV_mem (kvs := kvs) (k := (Sum.inl k : Key)) (by rw [hk.keys]; exact List.mem_map.mpr ⟨k, pm.mem_iff.mp hk1, rfl⟩)
        obtain ⟨i0, l0, e, q0, q1, q2, q3⟩ := hk _ hm
        cases e
        refine ⟨rfl, ?_⟩
        refine ⟨_, rfl, _, rfl, _, rfl, d, _, rfl, (hv ▸ DGet.k (k := Sum.inl k) h3), by show 2 ≤ sizeLine; omega, fun t nt => ?_⟩
        have st := same_new nt (.tup [V.int k, V.int l0])
        refine ⟨ws, st _ _ h1, by have := h4.length; omega, ws ++ [.ref t], ds ++ [.tuple [.int k, .int l0]], upd_same, ?_, ?_, ?_, ?_, by rw [List.length_append, h6]; rfl, ?_, ?_⟩
        · rw [upd_ne sD]; exact st _ _ h2
        · rw [upd_ne dD]; exact st _ _ h3
        · have r1 : Rps p (upd H' t (.tup [V.int k, V.int l0])) (ws ++ [.ref t]) (ds ++ [.tuple [.int k, .int l0]]) := (h4.same st).append (.cons (.tup upd_same (g5.ne nt).symm (by show 2 ≤ 100000; decide) (.cons (.int _) (.cons (.int _) .nil))) .nil)
          refine r1.updL (st _ _ h1) fun d hd => ?_
          rcases List.mem_append.mp hd with hd | hd
          · exact h5.noL d hd
          · rw [List.mem_singleton.mp hd]; exact .two (.int _) (.int _)
        · intro d hd
          rcases List.mem_append.mp hd with hd | hd
          · exact h5 d hd
          · rw [List.mem_singleton.mp hd]; exact ⟨k, l0, rfl, q0, q1, q2, q3⟩
        · exact (b5.new nt).later (b3.free nD pD.symm)
        · exact (g5.new nt).upd pD
      · rintro H' ⟨ws, ds, h1, h2, h3, h4, h5, h6, b5, g5⟩
        rw [List.length_map] at h6
        refine ⟨D, ws, rfl, .inl ⟨SqL.of h1, fun a na => ?_⟩⟩
        have lw := h4.length
        have l0 : 0 < kvs.length := List.length_pos_iff.mpr hne
        exact q a _ ds (.tup upd_same (g5.ne na).symm (by omega) (h4.same (same_new na _))) h5 (by omega) (by omega) (b5.new na) (g5.new na)
theorem fit_len {n : Nat} {ds : List PyData} (h : fit n (.tuple ds)) : ds.length ≤ 3000 := by
  cases n with
  | zero => exact h.elim
  | succ n => exact h.1
theorem dTup_tuple {d : PyData} (h : dTup d = true) : ∃ ds, d = .tuple ds := by cases d <;> first | exact ⟨_, rfl⟩ | cases h
abbrev s__law_spoilt : Stmt := top 33
abbrev N__law_spoilt : List Str := ["bag", "value", "odd", "at", "choice"]
abbrev P__law_spoilt : List Str := ["bag", "value", "odd"]
theorem sc__law_spoilt : FnScope N__law_spoilt P__law_spoilt (defScope s__law_spoilt) := ⟨rfl, rfl, rfl, by decide +kernel, rfl, by decide +kernel, by decide +kernel⟩
theorem ok__law_spoilt {f : Addr} {fd : FuncData} (T : Tx mg) {n : Nat} (c__law_draw : DefOk P w K mg base CX0 "_law_draw" P__law_draw 1 (sp_draw)) (c__law_spoilt : DefOk P w K mg base CX0 "_law_spoilt" P__law_spoilt (1 + n) (spv sp_spoilt n))(F : Fun K "_law_spoilt" "_law_spoilt" s__law_spoilt f fd) : FnOk P w K mg base CX0 (1 + n + 1) f fd P__law_spoilt (sp_spoilt n) := by
  have nd := sc__law_spoilt.nd
  refine F.ok sc__law_spoilt (fun vs H Q E h => ?_) (fun cdv A outer s H vs Q E hr h => ?_)
  · obtain ⟨_, _, _, _, _, _, rfl, _⟩ := h
    rfl
  · obtain ⟨p, c, v, o, d, e, rfl, g, rv, ro, hf, q⟩ := h
    have hs := sl
    refine ⟨_, (pss_cons (ps_if (PW.pt (pw_or (pt_not (pt_val (pe_callB call_isi (by rfl) T.b_isinstance (by decide +kernel) (pa_cons (pv 1) (pa_cons (pe_ty "tuple" T.b_tuple) pa_nil))))) (pw_or (pt_cmpR op_eq (pe_callB call_len_seq (by rfl) T.b_len (by decide +kernel) (pa_cons (pv 1) pa_nil)) pe_int (nomark _)) (pw_or1 (pt_cmpR op_eq (pcall c__law_draw hr (pa_cons (pv 0) (pa_cons pe_int pa_nil))) pe_int (nomark _))))))
        (pss_one (ps_ret (pv 2)))
        pss_nil)
      (pss_cons (ps_set (i := 3) nd rfl (Or.inl rfl) (pcall c__law_draw hr (pa_cons (pv 0) (pa_cons (pe_callB call_len_seq (by rfl) T.b_len (by decide +kernel) (pa_cons (pv 1) pa_nil)) pa_nil))))
      (pss_cons (ps_set (i := 4) nd rfl (Or.inl rfl) (pcall c__law_draw hr (pa_cons (pv 0) (pa_cons pe_int pa_nil))))
      (pss_cons (ps_if (pt_cmpR op_eq (pv 4) pe_int (nomark _))
        (pss_one (ps_ret (pe_op op_catA (pe_slice sl_tupA (pv 1) po_none (po_some (pv 3))) (pe_slice sl_tupA (pv 1) (po_some (pe_op op_add (pv 3) pe_int)) po_none))))
        pss_nil)
      (pss_cons (ps_if (pt_cmpR op_eq (pv 4) pe_int (nomark _))
        (pss_one (ps_ret (pe_op op_catA (pe_op op_catA (pe_slice sl_tupA (pv 1) po_none (po_some (pv 3))) (pe_tup (pa_cons (pv 2) pa_nil))) (pe_slice sl_tupA (pv 1) (po_some (pv 3)) po_none))))
        pss_nil)
      (pss_cons (ps_if (pt_cmpR op_eq (pv 4) pe_int (nomark _))
        (pss_one (ps_ret (pe_op op_catA (pe_op op_catA (pe_slice sl_tupA (pv 1) po_none (po_some (pv 3))) (pe_slice sl_tupA (pv 1) (po_some (pv 3)) (po_some (pe_op op_add (pv 3) pe_int)))) (pe_slice sl_tupA (pv 1) (po_some (pv 3)) po_none))))
        pss_nil)
      (pss_cons (ps_if (pt_cmpR op_eq (pv 4) pe_int (nomark _))
        (pss_one (ps_ret (pe_op op_catA (pe_op op_catA (pe_op op_catA (pe_slice sl_tupA (pv 1) po_none (po_some (pv 3))) (pe_slice sl_tupA (pv 1) (po_some (pe_op op_add (pv 3) pe_int)) (po_some (pe_op op_add (pv 3) pe_int)))) (pe_slice sl_tupA (pv 1) (po_some (pv 3)) (po_some (pe_op op_add (pv 3) pe_int)))) (pe_slice sl_tupA (pv 1) (po_some (pe_op op_add (pv 3) pe_int)) po_none))))
        pss_nil)
      (pss_one (ps_ret (pe_op op_catA (pe_op op_catA (pe_slice sl_tupA (pv 1) po_none (po_some (pv 3))) (pe_tup (pa_cons (pcall c__law_spoilt hr (pa_cons (pv 0) (pa_cons (pe_ix ix_tup (pv 1) (pv 3) (fun _ _ => rfl)) (pa_cons (pv 2) pa_nil)))) pa_nil))) (pe_slice sl_tupA (pv 1) (po_some (pe_op op_add (pv 3) pe_int)) po_none))))))))))), ?_⟩
    walk_at "rds"
    refine iB (fun h => ?_) (fun h => ?_)
    · walk_at "rds"
      exact q _ _ _ ro (fun P _ h => h) (But.refl p H) g
    · have h' : dTup d = true := by simpa using h
      obtain ⟨ds, rfl⟩ := dTup_tuple h'
      have rv' := rv
      obtain _ | _ | _ | _ | _ | @⟨a, xs, _, ha, na, hw, hr1⟩ := rv
      have hl := hr1.length
      have hl3 := fit_len hf
      walk_at "rds"
      refine iB (fun h => ?_) (fun h => ?_)
      · walk_at "rds"
        exact q _ _ _ ro (fun P _ h => h) (But.refl p H) g
      · have h0 : xs.length ≠ 0 := fun z => by
          have h := of_decide_eq_false h
          rw [z] at h
          exact h rfl
        walk_at "rds"
        refine ⟨p, c, _, rfl, g, by decide, by decide, fun r H1 r0 r1 b1 g1 => ?_⟩
        have rv1 := rv'.mono b1
        have ro1 := ro.mono b1
        walk_at "rds"
        refine iB (fun h => ?_) (fun h => ?_)
        · walk_at "rds"
          exact q _ _ _ ro1 (fun P _ h => h) b1 g1
        · have ha1 := b1 a _ ha na
          walk_at "rds"
          refine ⟨p, c, _, rfl, g1, by omega, by omega, fun at' H2 a0 a1 b2 g2 => ?_⟩
          walk_at "rds"
          refine ⟨p, c, _, rfl, g2, by decide, by decide, fun ch H3 c0 c1 b3 g3 => ?_⟩
          have bb := b1.trans (b2.trans b3)
          have rv3 := (rv1.mono b2).mono b3
          have ro3 := (ro1.mono b2).mono b3
          have hr3 := hr1.mono bb
          have ha3 := bb a _ ha na
          have lc := cutD_len ds
          have cl : ∀ lo hi, (cutD ds lo hi).length ≤ 3000 := fun lo hi => Nat.le_trans (lc lo hi) hl3
          walk_at "rds"
          refine iB (fun h => ?_) (fun h => ?_)
          · walk_at "rds"
            (try unfold tNoPart)
            refine rd_cut rv3 g3 fun b4 H4 s4 g4 r4 => ?_
            walk_at "rds"
            (try unfold tNoPart)
            refine rd_cut (rv3.same s4) g4 fun b5 H5 s5 g5 r5 => ?_
            refine rd_cat (r4.same s5) r5 g5 (by have := cl none (some at'); have := cl (some (at' + 1)) none; omega) fun b6 H6 s6 g6 r6 => ?_
            exact q _ _ _ r6 (fun P h1 h2 => (h1.cut _ _).app (h1.cut _ _)) (bb.trans (But.of (s4.trans (s5.trans s6)))) g6
          walk_at "rds"
          refine iB (fun h => ?_) (fun h => ?_)
          · walk_at "rds"
            (try unfold tNoPart)
            refine rd_cut rv3 g3 fun b4 H4 s4 g4 r4 => ?_
            refine ⟨_, rfl, by show 1 ≤ sizeLine; omega, fun t nt => ?_⟩
            have st := same_new nt (.tup [o])
            have rt : Rp p (upd H4 t (.tup [o])) (.ref t) (.tuple [e]) := .tup upd_same (g4.ne nt).symm (by show 1 ≤ 100000; decide) (.cons (ro3.same (s4.trans st)) .nil)
            refine rd_cat (r4.same st) rt (g4.new nt) (by have := cl none (some at'); show _ + 1 ≤ _; omega) fun b6 H6 s6 g6 r6 => ?_
            walk_at "rds"
            (try unfold tNoPart)
            refine rd_cut (rv3.same (s4.trans (st.trans s6))) g6 fun b5 H5 s5 g5 r5 => ?_
            refine rd_cat (r6.same s5) r5 g5 (by have := cl none (some at'); have := cl (some at') none; rw [List.length_append]; show _ + 1 + _ ≤ _; omega) fun b7 H7 s7 g7 r7 => ?_
            exact q _ _ _ r7 (fun P h1 h2 => ((h1.cut _ _).app h2.one).app (h1.cut _ _)) (bb.trans (But.of (s4.trans (st.trans (s6.trans (s5.trans s7)))))) g7
          walk_at "rds"
          refine iB (fun h => ?_) (fun h => ?_)
          · walk_at "rds"
            (try unfold tNoPart)
            refine rd_cut rv3 g3 fun b4 H4 s4 g4 r4 => ?_
            walk_at "rds"
            (try unfold tNoPart)
            refine rd_cut (rv3.same s4) g4 fun b5 H5 s5 g5 r5 => ?_
            refine rd_cat (r4.same s5) r5 g5 (by have := cl none (some at'); have := cl (some at') (some (at' + 1)); omega) fun b6 H6 s6 g6 r6 => ?_
            walk_at "rds"
            (try unfold tNoPart)
            refine rd_cut (rv3.same (s4.trans (s5.trans s6))) g6 fun b7 H7 s7 g7 r7 => ?_
            refine rd_cat (r6.same s7) r7 g7 (by have := cl none (some at'); have := cl (some at') (some (at' + 1)); have := cl (some at') none; rw [List.length_append]; omega) fun b8 H8 s8 g8 r8 => ?_
            exact q _ _ _ r8 (fun P h1 h2 => ((h1.cut _ _).app (h1.cut _ _)).app (h1.cut _ _)) (bb.trans (But.of (s4.trans (s5.trans (s6.trans (s7.trans s8)))))) g8
          walk_at "rds"
          refine iB (fun h => ?_) (fun h => ?_)
          · walk_at "rds"
            (try unfold tNoPart)
            refine rd_cut rv3 g3 fun b4 H4 s4 g4 r4 => ?_
            walk_at "rds"
            (try unfold tNoPart)
            refine rd_cut (rv3.same s4) g4 fun b5 H5 s5 g5 r5 => ?_
            refine rd_cat (r4.same s5) r5 g5 (by have := cl none (some at'); have := cl (some (at' + 1)) (some (at' + 2)); omega) fun b6 H6 s6 g6 r6 => ?_
            walk_at "rds"
            (try unfold tNoPart)
            refine rd_cut (rv3.same (s4.trans (s5.trans s6))) g6 fun b7 H7 s7 g7 r7 => ?_
            refine rd_cat (r6.same s7) r7 g7 (by have := cl none (some at'); have := cl (some (at' + 1)) (some (at' + 2)); have := cl (some at') (some (at' + 1)); rw [List.length_append]; omega) fun b8 H8 s8 g8 r8 => ?_
            walk_at "rds"
            (try unfold tNoPart)
            refine rd_cut (rv3.same (s4.trans (s5.trans (s6.trans (s7.trans s8))))) g8 fun b9 H9 s9 g9 r9 => ?_
            refine rd_cat (r8.same s9) r9 g9 (by have := cl none (some at'); have := cl (some (at' + 1)) (some (at' + 2)); have := cl (some at') (some (at' + 1)); have := cl (some (at' + 2)) none; rw [List.length_append, List.length_append]; omega) fun b10 H10 s10 g10 r10 => ?_
            exact q _ _ _ r10 (fun P h1 h2 => (((h1.cut _ _).app (h1.cut _ _)).app (h1.cut _ _)).app (h1.cut _ _)) (bb.trans (But.of (s4.trans (s5.trans (s6.trans (s7.trans (s8.trans (s9.trans s10)))))))) g10
          cases n with
          | zero => exact hf.elim
          | succ n =>
            walk_at "rds"
            (try unfold tNoPart)
            refine rd_cut rv3 g3 fun b4 H4 s4 g4 r4 => ?_
            have hlt : at'.toNat < xs.length := by omega
            obtain ⟨di, hdi, rdi⟩ := (hr3.same s4).at (List.getElem?_eq_getElem hlt)
            walk_at "rds"
            refine ⟨a, _, _, _, rfl, rfl, SqT.of (s4 _ _ ha3), at_int a0 (List.getElem?_eq_getElem hlt), ?_⟩
            walk_at "rds"
            refine ⟨p, c, _, o, di, e, rfl, g4, rdi, ro3.same s4, hf.2 di (List.mem_of_getElem? hdi), fun v' d' H5 r5 h5 b5 g5 => ?_⟩
            refine ⟨by show 1 ≤ sizeLine; omega, fun t nt => ?_⟩
            have st := same_new nt (.tup [v'])
            have rt : Rp p (upd H5 t (.tup [v'])) (.ref t) (.tuple [d']) := .tup upd_same (g5.ne nt).symm (by show 1 ≤ 100000; decide) (.cons (r5.same st) .nil)
            refine rd_cat ((r4.mono b5).same st) rt (g5.new nt) (by have := cl none (some at'); show _ + 1 ≤ _; omega) fun b6 H6 s6 g6 r6 => ?_
            walk_at "rds"
            (try unfold tNoPart)
            refine rd_cut (((rv3.same s4).mono b5).same (st.trans s6)) g6 fun b7 H7 s7 g7 r7 => ?_
            refine rd_cat (r6.same s7) r7 g7 (by have := cl none (some at'); have := cl (some (at' + 1)) none; rw [List.length_append]; show _ + 1 + _ ≤ _; omega) fun b8 H8 s8 g8 r8 => ?_
            exact q _ _ _ r8 (fun P h1 h2 => ((h1.cut _ _).app (h5 P (h1.mem di (List.mem_of_getElem? hdi)) h2).one).app (h1.cut _ _)) (bb.trans ((But.of s4).trans (b5.trans (But.of (st.trans (s6.trans (s7.trans s8))))))) g8
end
end Mus

set_option maxRecDepth 100000
set_option maxHeartbeats 4000000
namespace Mus
open PySem L2 TL PySem.NumText
local macro_rules | `(tactic| walk_at "rd") => `(tactic| first
  | refine ⟨_, rfl, ?_⟩ | refine ⟨(True.intro : True), ?_⟩
  | refine ⟨_, _, rfl, rfl, (⟨by decide, by decide, by decide⟩ : CPow _ _), ?_⟩
  | refine ⟨_, _, rfl, rfl, (⟨by decide, by decide⟩ : CDiv _ _), ?_⟩
  | refine ⟨_, _, rfl, rfl, (by show (0 : Int) < _; decide), ?_⟩
  | refine ⟨_, _, rfl, rfl, ?_⟩ | refine ⟨rfl, ?_⟩ | refine iteT ?_ | refine iteF ?_ | refine ⟨_, _, rfl, ?_⟩ | refine .inl ⟨_, rfl, ?_⟩
  | refine ⟨_, _, _, _, _, rfl, (by assumption), (by assumption), (by assumption), rfl, ?_⟩ | refine ⟨_, _, _, _, rfl, rfl, SqT.of (by assumption), rfl, ?_⟩ | refine ⟨_, _, rfl, SqT.of (by assumption), rfl, ?_⟩
  | refine ⟨_, _, _, _, _, rfl, .ty _, Rp.ty (by assumption), kit_int _, ?_⟩ | refine ⟨_, _, _, _, _, rfl, .ty _, Rp.ty (by assumption), kit_bool _, ?_⟩
  | refine ⟨_, _, _, _, _, rfl, .ty _, Rp.ty (by assumption), kit_str _, ?_⟩ | refine ⟨_, _, _, _, _, rfl, .ty _, Rp.ty (by assumption), kit_tup _, ?_⟩)
local macro_rules | `(tactic| walk_at "cal") => `(tactic| first
  | refine ⟨_, _, _, _, _, rfl, (by assumption), ?_⟩ | refine ⟨_, _, _, _, _, rfl, (by assumption), (by assumption), ?_⟩)
local macro_rules | `(tactic| walk_at "sq") => `(tactic| first
  | refine ⟨_, _, rfl, Or.inr (SqT.of (by assumption)), ?_⟩ | refine ⟨_, _, _, _, rfl, rfl, SqT.of (by assumption), rfl, ?_⟩)
local macro_rules | `(tactic| walk_at "rds") => `(tactic| repeat first | walk_at "rd" | walk_at "cal" | walk_at "sq")
/-- as the law asks it: the count is a number, nothing of it is asked -/
def memL (n : Int) : PyData → Bool
  | .tuple [x, y] => isInt x 0 (n - 1) && isInt y 1 1000000000000
  | _ => false
def payL : PyData → Bool
  | .str z => decide (z.length ≤ 30) && decide (10 ∉ tl z)
  | _ => false
def msgL (n : Int) : PyData → Bool
  | .tuple [a, b, z] => memL n a && isInt b 1 1000000000000 && payL z
  | _ => false
theorem memL_no {n : Int} {d : PyData} (h : (∃ ds, d = .tuple ds ∧ ds.length ≠ 2) ∨ dTup d = false) : memL n d = false := by
  unfold memL
  split
  · simp [dTup] at h
  · rfl
theorem memL_eq {n : Int} (h1 : 1 ≤ n) (h2 : n ≤ 12) (d : PyData) : memL n d = isMem (.int n) d := by
  rcases pairs d with ⟨x, y, rfl⟩ | hno
  · show (isInt x 0 (n - 1) && isInt y 1 1000000000000) = (isProc (.int n) x && isInt y 1 1000000000000)
    simp [isProc, h1, h2]
  · rw [memL_no hno, isMem_no hno]
theorem payL_eq {d : PyData} (h : Her Ok d) : payL d = isPay d := by
  cases h with
  | str h => simp only [payL, isPay, h.2]
  | tup _ => rfl
  | non => rfl
  | bl _ => rfl
  | int _ => rfl
  | lst _ => rfl
theorem msgL_no {n : Int} {d : PyData} (h : (∃ ds, d = .tuple ds ∧ ds.length ≠ 3) ∨ dTup d = false) : msgL n d = false := by
  unfold msgL
  split
  · simp [dTup] at h
  · rfl
theorem msgL_eq {n : Int} (h1 : 1 ≤ n) (h2 : n ≤ 12) {d : PyData} (h : Her Ok d) : msgL n d = isMsg (.int n) d := by
  rcases threes d with ⟨x, y, z, rfl⟩ | hno
  · show (memL n x && isInt y 1 1000000000000 && payL z) = (isMem (.int n) x && isInt y 1 1000000000000 && isPay z)
    rw [memL_eq h1 h2, payL_eq h.of3.2.2]
  · rw [msgL_no hno, isMsg_no hno]
def spN (f : Int → PyData → Bool) : Sp := fun vs H Q _ => ∃ (p : Addr) (n : Int) (v : V) (d : PyData), vs = [.int n, v] ∧ Rp p H v d ∧ Her Ok d ∧ Q (.bl (f n d)) H
section
variable {P : Program} {w : World} {K : PySem.W.Frag} {mg : Str → Option Value} {base : Heap}
abbrev s__law_is_member : Stmt := top 28
abbrev N__law_is_member : List Str := ["count", "value"]
abbrev P__law_is_member : List Str := ["count", "value"]
theorem sc__law_is_member : FnScope N__law_is_member P__law_is_member (defScope s__law_is_member) := ⟨rfl, rfl, rfl, by decide +kernel, rfl, by decide +kernel, by decide +kernel⟩
theorem ok__law_is_member {f : Addr} {fd : FuncData} (T : Tx mg) (c__law_is_int : DefOk P w K mg base CX0 "_law_is_int" P__law_is_int 1 (spI))(F : Fun K "_law_is_member" "_law_is_member" s__law_is_member f fd) : FnOk P w K mg base CX0 (2) f fd P__law_is_member (spN memL) := by
  have nd := sc__law_is_member.nd
  refine F.ok sc__law_is_member (fun vs H Q E h => ?_) (fun cdv A outer s H vs Q E hr h => ?_)
  · obtain ⟨_, _, _, _, rfl, _⟩ := h
    rfl
  · obtain ⟨p, n, v, d, rfl, hd, hh, q⟩ := h
    refine ⟨_, (pss_cons (ps_if (PW.pt (pw_or (pt_not (pt_val (pe_callB call_isi (by rfl) T.b_isinstance (by decide +kernel) (pa_cons (pv 1) (pa_cons (pe_ty "tuple" T.b_tuple) pa_nil))))) (pw_or1 (pt_cmpR op_ne (pe_callB call_len_seq (by rfl) T.b_len (by decide +kernel) (pa_cons (pv 1) pa_nil)) pe_int (nomark _)))))
        (pss_one (ps_ret pe_bl))
        pss_nil)
      (pss_one (ps_ret (pe_and (pcall c__law_is_int hr (pa_cons (pe_ix ix_tup (pv 1) pe_int (fun _ _ => rfl)) (pa_cons pe_int (pa_cons (pe_op op_sub (pv 0) pe_int) pa_nil)))) (pe_one (pcall c__law_is_int hr (pa_cons (pe_ix ix_tup (pv 1) pe_int (fun _ _ => rfl)) (pa_cons pe_int (pa_cons (pe_op op_pow pe_int pe_int) pa_nil))))))))), ?_⟩
    have hd' := hd
    rcases pairs d with ⟨x, y, rfl⟩ | hno
    · obtain _ | _ | _ | _ | _ | @⟨a, xs, _, ha, np, hw, hr⟩ := hd
      obtain _ | ⟨hx, _ | ⟨hy, _⟩⟩ := hr
      cases ‹Rps p H _ []›
      walk_at "rds"
      refine iB (fun h => ?_) (fun h => ?_)
      · walk_at "rds"
        exact ansB q (by simp [memL, h])
      · exact ansB q (by simp [memL, h])
    · have e := memL_no (n := n) hno
      rw [e] at q
      rcases hno with ⟨ds, rfl, hl⟩ | hno
      · obtain _ | _ | _ | _ | _ | @⟨a, xs, _, ha, np, hw, hr⟩ := hd
        have hl2 := hr.length
        walk_at "rds"
        refine nT (vint_ne (by omega)) ?_
        walk_at "rds"
        exact q
      · cases hd <;> simp [dTup] at hno <;> walk_at "rds" <;> exact q
abbrev s__law_is_payload : Stmt := top 29
abbrev N__law_is_payload : List Str := ["value"]
abbrev P__law_is_payload : List Str := ["value"]
theorem sc__law_is_payload : FnScope N__law_is_payload P__law_is_payload (defScope s__law_is_payload) := ⟨rfl, rfl, rfl, by decide +kernel, rfl, by decide +kernel, by decide +kernel⟩
theorem ok__law_is_payload {f : Addr} {fd : FuncData} (T : Tx mg) (F : Fun K "_law_is_payload" "_law_is_payload" s__law_is_payload f fd) : FnOk P w K mg base CX0 (1) f fd P__law_is_payload (spH1 payL) := by
  have nd := sc__law_is_payload.nd
  refine F.ok sc__law_is_payload (fun vs H Q E h => ?_) (fun cdv A outer s H vs Q E hr h => ?_)
  · obtain ⟨_, _, _, rfl, _⟩ := h
    rfl
  · obtain ⟨p, v, d, rfl, hd, hh, q⟩ := h
    have hs := sl
    refine ⟨_, (pss_one (ps_ret (pe_and (pe_callB call_isi (by rfl) T.b_isinstance (by decide +kernel) (pa_cons (pv 0) (pa_cons (pe_ty "str" T.b_str) pa_nil))) (pe_and (pe_cmpR op_le (pe_callB call_len_str (by rfl) T.b_len (by decide +kernel) (pa_cons (pv 0) pa_nil)) pe_int (nomark _)) (pe_one (pe_cmpR op_notIn_sign pe_str (pv 0) (by rfl))))))), ?_⟩
    have hd' := hd
    cases hd <;> walk_at "rds"
    case str z =>
      cases hh with
      | str hz =>
        refine ⟨by have := hz.1; omega, ?_⟩
        walk_at "rds"
        refine iB (fun h => ?_) (fun h => ?_)
        · have h := of_decide_eq_true h
          walk_at "rds"
          exact ansB q (by
            simp only [payL]
            rw [decide_eq_true (show z.length ≤ 30 by omega), Bool.true_and]
            show decide (10 ∉ tl z) = !decide (10 ∈ tl z)
            simp)
        · have h := of_decide_eq_false h
          exact ansB q (by simp only [payL]; rw [decide_eq_false (show ¬ z.length ≤ 30 by omega), Bool.false_and])
    all_goals exact q
abbrev s__law_is_message : Stmt := top 30
abbrev N__law_is_message : List Str := ["count", "value"]
abbrev P__law_is_message : List Str := ["count", "value"]
theorem sc__law_is_message : FnScope N__law_is_message P__law_is_message (defScope s__law_is_message) := ⟨rfl, rfl, rfl, by decide +kernel, rfl, by decide +kernel, by decide +kernel⟩
theorem ok__law_is_message {f : Addr} {fd : FuncData} (T : Tx mg) (c__law_is_int : DefOk P w K mg base CX0 "_law_is_int" P__law_is_int 1 (spI)) (c__law_is_member : DefOk P w K mg base CX0 "_law_is_member" P__law_is_member 2 (spN memL)) (c__law_is_payload : DefOk P w K mg base CX0 "_law_is_payload" P__law_is_payload 1 (spH1 payL))(F : Fun K "_law_is_message" "_law_is_message" s__law_is_message f fd) : FnOk P w K mg base CX0 (3) f fd P__law_is_message (spN msgL) := by
  have nd := sc__law_is_message.nd
  refine F.ok sc__law_is_message (fun vs H Q E h => ?_) (fun cdv A outer s H vs Q E hr h => ?_)
  · obtain ⟨_, _, _, _, rfl, _⟩ := h
    rfl
  · obtain ⟨p, n, v, d, rfl, hd, hh, q⟩ := h
    refine ⟨_, (pss_cons (ps_if (PW.pt (pw_or (pt_not (pt_val (pe_callB call_isi (by rfl) T.b_isinstance (by decide +kernel) (pa_cons (pv 1) (pa_cons (pe_ty "tuple" T.b_tuple) pa_nil))))) (pw_or (pt_cmpR op_ne (pe_callB call_len_seq (by rfl) T.b_len (by decide +kernel) (pa_cons (pv 1) pa_nil)) pe_int (nomark _)) (pw_or1 (pt_not (pt_val (pcall c__law_is_member hr (pa_cons (pv 0) (pa_cons (pe_ix ix_tup (pv 1) pe_int (fun _ _ => rfl)) pa_nil)))))))))
        (pss_one (ps_ret pe_bl))
        pss_nil)
      (pss_one (ps_ret (pe_and (pcall c__law_is_int hr (pa_cons (pe_ix ix_tup (pv 1) pe_int (fun _ _ => rfl)) (pa_cons pe_int (pa_cons (pe_op op_pow pe_int pe_int) pa_nil)))) (pe_one (pcall c__law_is_payload hr (pa_cons (pe_ix ix_tup (pv 1) pe_int (fun _ _ => rfl)) pa_nil))))))), ?_⟩
    have hd' := hd
    rcases threes d with ⟨x, y, z, rfl⟩ | hno
    · obtain ⟨k1, k2, k3⟩ := hh.of3
      obtain _ | _ | _ | _ | _ | @⟨a, xs, _, ha, np, hw, hr⟩ := hd
      obtain _ | ⟨hx, _ | ⟨hy, _ | ⟨hz, hn⟩⟩⟩ := hr
      cases hn
      walk_at "rds"
      refine ⟨p, n, _, x, rfl, hx, k1, ?_⟩
      walk_at "rds"
      refine iB (fun h => ?_) (fun h => ?_)
      · have h' : memL n x = false := by simpa using h
        walk_at "rds"
        exact ansB q (by simp [msgL, h'])
      · have h' : memL n x = true := by simpa using h
        walk_at "rds"
        refine iB (fun h2 => ?_) (fun h2 => ?_)
        · have h2 : isInt y 1 1000000000000 = true := h2
          walk_at "rds"
          exact ⟨p, _, z, rfl, hz, k3, ansB q (by simp [msgL, h', h2])⟩
        · have h2 : isInt y 1 1000000000000 = false := h2
          exact ansB q (by simp [msgL, h', h2])
    · have e := msgL_no (n := n) hno
      rw [e] at q
      rcases hno with ⟨ds, rfl, hl⟩ | hno
      · obtain _ | _ | _ | _ | _ | @⟨a, xs, _, ha, np, hw, hr⟩ := hd
        have hl2 := hr.length
        walk_at "rds"
        refine nT (vint_ne (by omega)) ?_
        walk_at "rds"
        exact q
      · cases hd <;> simp [dTup] at hno <;> walk_at "rds" <;> exact q
def sp_count : Sp := fun vs H Q _ => ∃ (p : Addr) (u v : V) (ds : List PyData) (i l n : Int), vs = [u, v] ∧ Rp p H u (.tuple ds) ∧ Rp p H v (.tuple [.int i, .int l]) ∧ (∀ m ∈ ds, isMsg (.int n) m = true) ∧ ∀ H', Same H H' → Q (.int (cnt ds (i, l) : Nat)) H'
abbrev s__law_count : Stmt := top 27
abbrev N__law_count : List Str := ["log", "member", "message"]
abbrev P__law_count : List Str := ["log", "member"]
theorem sc__law_count : FnScope N__law_count P__law_count (defScope s__law_count) := ⟨rfl, rfl, rfl, by decide +kernel, rfl, by decide +kernel, by decide +kernel⟩
theorem ok__law_count {f : Addr} {fd : FuncData} (T : Tx mg) (F : Fun K "_law_count" "_law_count" s__law_count f fd) : FnOk P w K mg base CX0 (1) f fd P__law_count (sp_count) := by
  have nd := sc__law_count.nd
  refine F.ok sc__law_count (fun vs H Q E h => ?_) (fun cdv A outer s H vs Q E hr h => ?_)
  · obtain ⟨_, _, _, _, _, _, _, rfl, _⟩ := h
    rfl
  · obtain ⟨p, u, v, ds, i, l, n, rfl, hd, hv, hm, q⟩ := h
    have hs := sl
    refine ⟨_, (pss_one (ps_ret (pe_callB call_len_seq (by rfl) T.b_len (by decide +kernel) (pa_cons (pe_lc (own := [("message", 2)]) (g := gName 2) (tt := tTest (tOp (rEqD K) (tOp (rIxT K) (tVar 2) (tC (.int 0))) (tVar 1))) rfl nd (pi_tup (pv 0)) (blkOk_by (own := [("message", 2)]) (N := N__law_count) (sc := defScope s__law_count) (by decide +kernel)) (fun _ _ _ _ _ => (pg_name (i := 2) nd rfl (Or.inl rfl))) (fun _ _ _ _ _ => (pts_one (pt_cmpR (op_eqD hr.units) (pe_ix ix_tup (pv 2) pe_int (fun _ _ => rfl)) (pv 1) (nomark _)))) (fun _ _ _ _ _ => (pv 2))) pa_nil)))), ?_⟩
    obtain _ | _ | _ | _ | _ | @⟨a, xs, _, ha, np, hw, hr1⟩ := hd
    walk_at "rds"
    refine ⟨⟨_, SqT.of ha⟩, fun D nD => lc_tup (K := K) (a := a) (xs := xs) (fun j H' => ∃ ws, H' D = some (.lst ws) ∧ ws.length = cnt (ds.take j) (i, l) ∧ Same H H') ?_ ?_ ?_ ?_⟩
    · exact ⟨[], upd_same, rfl, same_new nD _⟩
    · rintro j H' _ ⟨ws, _, _, s1⟩
      exact SqT.of (s1 _ _ ha)
    · rintro j x H' hx ⟨ws, hD, hw2, s1⟩
      obtain ⟨m, hm2, rm⟩ := hr1.at hx
      obtain ⟨i0, l0, k0, z0, rfl, hmem, _, _, _⟩ := isMsg_int (hm m (List.mem_of_getElem? hm2))
      have ht : ds.take (j + 1) = ds.take j ++ [.tuple [.tuple [.int i0, .int l0], .int k0, .str z0]] := by rw [List.take_succ, hm2]; rfl
      have es : sndK (.tuple [.tuple [.int i0, .int l0], .int k0, .str z0]) = (i0, l0) := rfl
      have rm := rm.same s1
      have hv1 := hv.same s1
      obtain _ | _ | _ | _ | _ | @⟨b, ys, _, hb, nb, hwb, hrb⟩ := rm
      obtain _ | ⟨hx1, _ | ⟨hx2, _ | ⟨hx3, hn⟩⟩⟩ := hrb
      cases hn
      refine ⟨rfl, ?_⟩
      walk_at "rds"
      refine ⟨_, _, hx1.dp, hv1.dp, shaped2 _ _, shaped2 _ _, ?_⟩
      rw [eqv2]
      walk_at "rds"
      refine iB (fun h => ?_) (fun h => ?_)
      · have h := of_decide_eq_true h
        walk_at "rds"
        refine ⟨ws, hD, by rw [hw2]; unfold cnt; have := List.length_filter_le (fun m => decide (sndK m = (i, l))) (ds.take j); have := hr1.length; rw [List.length_take] at *; omega, _, upd_same, ?_, fun b' o h' => ?_⟩
        · rw [ht, cnt_snoc, es, if_pos h, List.length_append, hw2]; rfl
        · rw [upd_ne (ne_of_none h' nD)]; exact s1 b' o h'
      · have h := of_decide_eq_false h
        exact ⟨ws, hD, by rw [ht, cnt_snoc, es, if_neg h, hw2]; rfl, s1⟩
    · rintro H' ⟨ws, hD, hw2, s1⟩
      have hl := hr1.length
      rw [hl, List.take_length] at hw2
      refine ⟨D, ws, rfl, .inl (.of hD), ?_⟩
      rw [hw2]
      exact q _ s1
end
end Mus

set_option maxRecDepth 100000
set_option maxHeartbeats 4000000
namespace Mus
open PySem L2 TL PySem.NumText
local macro_rules | `(tactic| walk_at "rd") => `(tactic| first
  | refine ⟨_, rfl, ?_⟩ | refine ⟨(True.intro : True), ?_⟩
  | refine ⟨_, _, rfl, rfl, (⟨by decide, by decide, by decide⟩ : CPow _ _), ?_⟩
  | refine ⟨_, _, rfl, rfl, (⟨by decide, by decide⟩ : CDiv _ _), ?_⟩
  | refine ⟨_, _, rfl, rfl, (by show (0 : Int) < _; decide), ?_⟩
  | refine ⟨_, _, rfl, rfl, ?_⟩ | refine ⟨rfl, ?_⟩ | refine iteT ?_ | refine iteF ?_ | refine ⟨_, _, rfl, ?_⟩ | refine .inl ⟨_, rfl, ?_⟩
  | refine ⟨_, _, _, _, _, rfl, (by assumption), (by assumption), (by assumption), rfl, ?_⟩ | refine ⟨_, _, _, _, rfl, rfl, SqT.of (by assumption), rfl, ?_⟩ | refine ⟨_, _, rfl, SqT.of (by assumption), rfl, ?_⟩
  | refine ⟨_, _, _, _, _, rfl, .ty _, Rp.ty (by assumption), kit_int _, ?_⟩ | refine ⟨_, _, _, _, _, rfl, .ty _, Rp.ty (by assumption), kit_bool _, ?_⟩
  | refine ⟨_, _, _, _, _, rfl, .ty _, Rp.ty (by assumption), kit_str _, ?_⟩ | refine ⟨_, _, _, _, _, rfl, .ty _, Rp.ty (by assumption), kit_tup _, ?_⟩)
local macro_rules | `(tactic| walk_at "cal") => `(tactic| first
  | refine ⟨_, _, _, _, _, rfl, (by assumption), ?_⟩ | refine ⟨_, _, _, _, _, rfl, (by assumption), (by assumption), ?_⟩)
local macro_rules | `(tactic| walk_at "sq") => `(tactic| first
  | refine ⟨_, _, rfl, Or.inr (SqT.of (by assumption)), ?_⟩ | refine ⟨_, _, _, _, rfl, rfl, SqT.of (by assumption), rfl, ?_⟩)
local macro_rules | `(tactic| walk_at "rds") => `(tactic| repeat first | walk_at "rd" | walk_at "cal" | walk_at "sq")
def spNS (f : PyData → PyData → Bool) : Sp := fun vs H Q _ => ∃ (p : Addr) (k n : Int) (v : V) (d : PyData), vs = [.int n, v] ∧ Bag p k H ∧ Rp p H v d ∧ Her Ok d ∧ 1 ≤ n ∧ n ≤ 12 ∧ ∀ H', Same H H' → Q (.bl (f (.int n) d)) H'
theorem msg_take {c : PyData} {ds : List PyData} {i : Nat} {m : PyData} (h : ∀ m ∈ ds.take i, isMsg c m = true) (hm : ds[i]? = some m) (h2 : isMsg c m = true) : ∀ m ∈ ds.take (i + 1), isMsg c m = true := by
  have ht : ds.take (i + 1) = ds.take i ++ [m] := by rw [List.take_succ, hm]; rfl
  rw [ht]
  intro x hx
  rcases List.mem_append.mp hx with hx | hx
  · exact h x hx
  · rw [List.mem_singleton.mp hx]; exact h2
theorem cutD_take {ds : List PyData} {i : Nat} (h : i ≤ ds.length) : cutD ds none (some (0 + (i : Int))) = ds.take i := by
  unfold cutD
  have e : HT.sIx ds.length ds.length (some (0 + (i : Int))) = min i ds.length := by rw [Int.zero_add]; exact HT.sIx_nat ..
  rw [e]
  show (ds.drop 0).take (min i ds.length - 0) = _
  rw [List.drop_zero, Nat.sub_zero, Nat.min_eq_left h]
section
variable {P : Program} {w : World} {K : PySem.W.Frag} {mg : Str → Option Value} {base : Heap}
abbrev s__law_is_log : Stmt := top 31
abbrev N__law_is_log : List Str := ["count", "value", "k"]
abbrev P__law_is_log : List Str := ["count", "value"]
theorem sc__law_is_log : FnScope N__law_is_log P__law_is_log (defScope s__law_is_log) := ⟨rfl, rfl, rfl, by decide +kernel, rfl, by decide +kernel, by decide +kernel⟩
theorem ok__law_is_log {f : Addr} {fd : FuncData} (T : Tx mg) (c__law_count : DefOk P w K mg base CX0 "_law_count" P__law_count 1 (sp_count)) (c__law_is_message : DefOk P w K mg base CX0 "_law_is_message" P__law_is_message 3 (spN msgL))(F : Fun K "_law_is_log" "_law_is_log" s__law_is_log f fd) : FnOk P w K mg base CX0 (4) f fd P__law_is_log (spNS isLog) := by
  have nd := sc__law_is_log.nd
  refine F.ok sc__law_is_log (fun vs H Q E h => ?_) (fun cdv A outer s H vs Q E hr h => ?_)
  · obtain ⟨_, _, _, _, _, rfl, _⟩ := h
    rfl
  · obtain ⟨p, c, n, v, d, rfl, g, hd, hh, n1, n2, q⟩ := h
    have hs := sl
    refine ⟨_, (pss_cons (ps_if (pt_not (pt_val (pe_callB call_isi (by rfl) T.b_isinstance (by decide +kernel) (pa_cons (pv 1) (pa_cons (pe_ty "tuple" T.b_tuple) pa_nil)))))
        (pss_one (ps_ret pe_bl))
        pss_nil)
      (pss_cons (ps_for PassesOwn.never rfl (pi_range1 (by rfl) T.b_range (pa_cons (pe_callB call_len_seq (by rfl) T.b_len (by decide +kernel) (pa_cons (pv 1) pa_nil)) pa_nil)) (pg_name (i := 2) nd rfl (Or.inl rfl))
        (pss_one (ps_if (PW.pt (pw_or (pt_not (pt_val (pcall c__law_is_message hr (pa_cons (pv 0) (pa_cons (pe_ix ix_tup (pv 1) (pv 2) (fun _ _ => rfl)) pa_nil))))) (pw_or1 (pt_cmpR op_ne (pe_ix ix_tup (pe_ix ix_tup (pv 1) (pv 2) (fun _ _ => rfl)) pe_int (fun _ _ => rfl)) (pe_op op_add pe_int (pcall c__law_count hr (pa_cons (pe_slice sl_tupA (pv 1) po_none (po_some (pv 2))) (pa_cons (pe_ix ix_tup (pe_ix ix_tup (pv 1) (pv 2) (fun _ _ => rfl)) pe_int (fun _ _ => rfl)) pa_nil)))) (nomark _)))))
          (pss_one (ps_ret pe_bl))
          pss_nil)))
      (pss_one (ps_ret pe_bl)))), ?_⟩
    have hd' := hd
    cases hd
    case tup a xs ds ha np hw hr1 =>
      have hl := hr1.length
      walk_at "rds"
      refine ⟨by omega, by omega, for_range (lo := 0) (n := xs.length) (fun i σ H' => ∃ x2 : Option V, σ = [some (.int n), some (.ref a), x2] ∧ Same H H' ∧ (∀ m ∈ ds.take i, isMsg (.int n) m = true) ∧ logFrom (.int n) [] ds = logFrom (.int n) (ds.take i) (ds.drop i)) ?_ ?_ ?_⟩
      · exact ⟨_, rfl, Same.rfl' H, fun m hm => (by cases hm), rfl⟩
      · rintro i σ H1 hi ⟨x2, rfl, s1, hmsg, hm⟩
        have hj : i < xs.length := hi
        obtain ⟨m, hm2, rm⟩ := hr1.at (List.getElem?_eq_getElem hj)
        rw [drop_cons hm2] at hm
        have hmh := hh.mem m (List.mem_of_getElem? hm2)
        have hat : atI xs (0 + (i : Int)) = some xs[i] := at_int (by omega) (by rw [show ((0 : Int) + (i : Int)).toNat = i by omega]; exact List.getElem?_eq_getElem hj)
        walk_at "rds"
        refine ⟨a, _, _, _, rfl, rfl, SqT.of (s1 _ _ ha), hat, ?_⟩
        walk_at "rds"
        refine ⟨p, n, _, m, rfl, rm.same s1, hmh, ?_⟩
        rw [msgL_eq n1 n2 hmh]
        walk_at "rds"
        refine iB (fun h => ?_) (fun h => ?_)
        · have h' : isMsg (.int n) m = false := by simpa using h
          walk_at "rds"
          exact ansB (q _ s1) (hm.trans (by simp [logFrom, h']))
        · have h' : isMsg (.int n) m = true := by simpa using h
          obtain ⟨i0, l0, k0, z0, rfl, hmem, _, _, _⟩ := isMsg_int h'
          generalize ex : xs[i] = x at rm hat
          obtain _ | _ | _ | _ | _ | @⟨b, ys, _, hb, nb, hwb, hrb⟩ := rm.same s1
          obtain _ | ⟨hx1, _ | ⟨hx2, _ | ⟨hx3, hn⟩⟩⟩ := hrb
          cases hn
          cases hx2
          walk_at "rds"
          refine ⟨a, _, _, _, rfl, rfl, SqT.of (s1 _ _ ha), hat, ?_⟩
          walk_at "rds"
          refine rd_cut (hd'.same s1) (g.same s1) fun t H2 s2 g2 r2 => ?_
          rw [cutD_take (by omega)] at r2
          have hb2 := s2 _ _ hb
          walk_at "rds"
          refine ⟨a, _, _, _, rfl, rfl, SqT.of (s2 _ _ (s1 _ _ ha)), hat, ?_⟩
          walk_at "rds"
          refine ⟨p, _, _, ds.take i, i0, l0, n, rfl, r2, hx1.same s2, hmsg, fun H3 s3 => ?_⟩
          have s03 := s1.trans (s2.trans s3)
          walk_at "rds"
          refine iB (fun h2 => ?_) (fun h2 => ?_)
          · have h3 : ¬ k0 = (cnt (ds.take i) (i0, l0) : Nat) + 1 := fun e => by rw [e, Int.add_comm] at h2; simp at h2
            walk_at "rds"
            exact ansB (q _ s03) (hm.trans (by simp [logFrom, idxK, sndK, h3]))
          · have h3 : k0 = (cnt (ds.take i) (i0, l0) : Nat) + 1 := by rw [Int.add_comm]; simpa using h2
            have ht : ds.take (i + 1) = ds.take i ++ [.tuple [.tuple [.int i0, .int l0], .int k0, .str z0]] := by rw [List.take_succ, hm2]; rfl
            refine ⟨_, rfl, s03, msg_take hmsg hm2 h', ?_⟩
            rw [hm, ht]
            show (isMsg _ _ && decide (k0 = ((cnt (ds.take i) (i0, l0) : Nat) : Int) + 1) && logFrom _ (ds.take i ++ [_]) _) = _
            rw [h', decide_eq_true h3]; rfl
      · rintro σ H1 ⟨x2, rfl, s1, _, hm⟩
        rw [hl, List.drop_length] at hm
        walk_at "rds"
        exact ansB (q _ s1) hm
    all_goals
      walk_at "rds"
      exact q _ (Same.rfl' H)
end
end Mus

set_option maxRecDepth 100000
set_option maxHeartbeats 4000000
namespace Mus
open PySem L2 TL PySem.NumText
local macro_rules | `(tactic| walk_at "rd") => `(tactic| first
  | refine ⟨_, rfl, ?_⟩ | refine ⟨(True.intro : True), ?_⟩
  | refine ⟨_, _, rfl, rfl, (⟨by decide, by decide, by decide⟩ : CPow _ _), ?_⟩
  | refine ⟨_, _, rfl, rfl, (⟨by decide, by decide⟩ : CDiv _ _), ?_⟩
  | refine ⟨_, _, rfl, rfl, (by show (0 : Int) < _; decide), ?_⟩
  | refine ⟨_, _, rfl, rfl, ?_⟩ | refine ⟨rfl, ?_⟩ | refine iteT ?_ | refine iteF ?_ | refine ⟨_, _, rfl, ?_⟩ | refine .inl ⟨_, rfl, ?_⟩
  | refine ⟨_, _, _, _, _, rfl, (by assumption), (by assumption), (by assumption), rfl, ?_⟩ | refine ⟨_, _, _, _, rfl, rfl, SqT.of (by assumption), rfl, ?_⟩ | refine ⟨_, _, rfl, SqT.of (by assumption), rfl, ?_⟩
  | refine ⟨_, _, _, _, _, rfl, .ty _, Rp.ty (by assumption), kit_int _, ?_⟩ | refine ⟨_, _, _, _, _, rfl, .ty _, Rp.ty (by assumption), kit_bool _, ?_⟩
  | refine ⟨_, _, _, _, _, rfl, .ty _, Rp.ty (by assumption), kit_str _, ?_⟩ | refine ⟨_, _, _, _, _, rfl, .ty _, Rp.ty (by assumption), kit_tup _, ?_⟩)
local macro_rules | `(tactic| walk_at "cal") => `(tactic| first
  | refine ⟨_, _, _, _, _, rfl, (by assumption), ?_⟩ | refine ⟨_, _, _, _, _, rfl, (by assumption), (by assumption), ?_⟩)
local macro_rules | `(tactic| walk_at "sq") => `(tactic| first
  | refine ⟨_, _, rfl, Or.inr (SqT.of (by assumption)), ?_⟩ | refine ⟨_, _, _, _, rfl, rfl, SqT.of (by assumption), rfl, ?_⟩)
local macro_rules | `(tactic| walk_at "rds") => `(tactic| repeat first | walk_at "rd" | walk_at "cal" | walk_at "sq")
theorem logFrom_all {c : PyData} {ds : List PyData} (h : logFrom c [] ds = true) : ∀ m ∈ ds, isMsg c m = true := fun m hm => by
  obtain ⟨j, hj⟩ := List.mem_iff_getElem?.mp hm
  exact (logFrom_at h hj).1
theorem cnt_le (ds : List PyData) (k : Int × Int) : cnt ds k ≤ ds.length := List.length_filter_le _ _
def sp_lright : Sp := fun vs H Q _ => ∃ (p : Addr) (u v : V) (ds : List PyData) (i l n : Int), vs = [u, v] ∧ Rp p H u (.tuple ds) ∧ Rp p H v (.tuple [.int i, .int l]) ∧ logFrom (.int n) [] ds = true ∧ ds.length ≤ 40 ∧ ∀ H', Same H H' → Q (.bl true) H'
section
variable {P : Program} {w : World} {K : PySem.W.Frag} {mg : Str → Option Value} {base : Heap}
abbrev s__law_last_right : Stmt := top 35
abbrev N__law_last_right : List Str := ["log", "member", "actual"]
abbrev P__law_last_right : List Str := ["log", "member"]
theorem sc__law_last_right : FnScope N__law_last_right P__law_last_right (defScope s__law_last_right) := ⟨rfl, rfl, rfl, by decide +kernel, rfl, by decide +kernel, by decide +kernel⟩
theorem ok__law_last_right {f : Addr} {fd : FuncData} (T : Tx mg) (c_last_index : DefOk P w K mg base CX0 "last_index" P_last_index 1 (sp_last)) (c__law_is_int : DefOk P w K mg base CX0 "_law_is_int" P__law_is_int 1 (spI)) (c__law_count : DefOk P w K mg base CX0 "_law_count" P__law_count 1 (sp_count))(F : Fun K "_law_last_right" "_law_last_right" s__law_last_right f fd) : FnOk P w K mg base CX0 (2) f fd P__law_last_right (sp_lright) := by
  have nd := sc__law_last_right.nd
  refine F.ok sc__law_last_right (fun vs H Q E h => ?_) (fun cdv A outer s H vs Q E hr h => ?_)
  · obtain ⟨_, _, _, _, _, _, _, rfl, _⟩ := h
    rfl
  · obtain ⟨p, u, v, ds, i, l, n, rfl, hu, hv, hlog, h40, q⟩ := h
    refine ⟨_, (pss_cons (ps_set (i := 2) nd rfl (Or.inl rfl) (pcall c_last_index hr (pa_cons (pv 0) (pa_cons (pv 1) pa_nil))))
      (pss_one (ps_ret (pe_and (pcall c__law_is_int hr (pa_cons (pv 2) (pa_cons pe_int (pa_cons pe_int pa_nil)))) (pe_one (pe_cmpR op_eq (pv 2) (pcall c__law_count hr (pa_cons (pv 0) (pa_cons (pv 1) pa_nil))) (nomark _))))))), ?_⟩
    have hle := cnt_le ds (i, l)
    walk_at "rds"
    refine ⟨p, u, v, ds, i, l, .int n, rfl, hu, hv, hlog, ?_⟩
    walk_at "rds"
    refine ⟨p, _, .int (cnt ds (i, l) : Nat), 0, 40, rfl, .int _, ?_⟩
    have e : isInt (.int (cnt ds (i, l) : Nat)) 0 40 = true := by
      simp only [isInt, Bool.and_eq_true, decide_eq_true_eq]
      omega
    rw [e]
    walk_at "rds"
    refine ⟨p, u, v, ds, i, l, n, rfl, hu, hv, logFrom_all hlog, fun H1 s1 => ?_⟩
    walk_at "rds"
    exact ansB (q _ s1) (by simp)
def castL : PyData → Bool
  | .tuple [x, y] => isInt x 1 1000000000000 && payL y
  | _ => false
theorem castL_eq {d : PyData} (h : Her Ok d) : castL d = isCast d := by
  rcases pairs d with ⟨x, y, rfl⟩ | hno
  · show (isInt x 1 1000000000000 && payL y) = (isInt x 1 1000000000000 && isPay y)
    rw [payL_eq h.of2.2]
  · rw [isCast_no hno]
    unfold castL
    split
    · rename_i x y
      rcases hno with ⟨ds, e, h2⟩ | h2
      · cases e; simp at h2
      · cases h2
    · rfl
end
end Mus

set_option maxRecDepth 100000
set_option maxHeartbeats 4000000
namespace Mus
open PySem L2 TL PySem.NumText
local macro_rules | `(tactic| walk_at "rd") => `(tactic| first
  | refine ⟨_, rfl, ?_⟩ | refine ⟨(True.intro : True), ?_⟩
  | refine ⟨_, _, rfl, rfl, (⟨by decide, by decide, by decide⟩ : CPow _ _), ?_⟩
  | refine ⟨_, _, rfl, rfl, (⟨by decide, by decide⟩ : CDiv _ _), ?_⟩
  | refine ⟨_, _, rfl, rfl, (by show (0 : Int) < _; decide), ?_⟩
  | refine ⟨_, _, rfl, rfl, ?_⟩ | refine ⟨rfl, ?_⟩ | refine iteT ?_ | refine iteF ?_ | refine ⟨_, _, rfl, ?_⟩ | refine .inl ⟨_, rfl, ?_⟩
  | refine ⟨_, _, _, _, _, rfl, (by assumption), (by assumption), (by assumption), rfl, ?_⟩ | refine ⟨_, _, _, _, rfl, rfl, SqT.of (by assumption), rfl, ?_⟩ | refine ⟨_, _, rfl, SqT.of (by assumption), rfl, ?_⟩
  | refine ⟨_, _, _, _, _, rfl, .ty _, Rp.ty (by assumption), kit_int _, ?_⟩ | refine ⟨_, _, _, _, _, rfl, .ty _, Rp.ty (by assumption), kit_bool _, ?_⟩
  | refine ⟨_, _, _, _, _, rfl, .ty _, Rp.ty (by assumption), kit_str _, ?_⟩ | refine ⟨_, _, _, _, _, rfl, .ty _, Rp.ty (by assumption), kit_tup _, ?_⟩)
local macro_rules | `(tactic| walk_at "cal") => `(tactic| first
  | refine ⟨_, _, _, _, _, rfl, (by assumption), ?_⟩ | refine ⟨_, _, _, _, _, rfl, (by assumption), (by assumption), ?_⟩)
local macro_rules | `(tactic| walk_at "sq") => `(tactic| first
  | refine ⟨_, _, rfl, Or.inr (SqT.of (by assumption)), ?_⟩ | refine ⟨_, _, _, _, rfl, rfl, SqT.of (by assumption), rfl, ?_⟩)
local macro_rules | `(tactic| walk_at "rds") => `(tactic| repeat first | walk_at "rd" | walk_at "cal" | walk_at "sq")
theorem castL_no {d : PyData} (h : (∃ ds, d = .tuple ds ∧ ds.length ≠ 2) ∨ dTup d = false) : castL d = false := by
  unfold castL
  split
  · simp [dTup] at h
  · rfl
theorem pendFrom_cast : ∀ {ds : List PyData} {n : Int}, pendFrom n ds = true → ∀ m ∈ ds, isCast m = true
  | [], _, _, m, h => by cases h
  | d :: ds, n, h, m, hm => by
    have h : (isCast d && decide (procOf d = n) && pendFrom (n + 1) ds) = true := h
    rw [Bool.and_eq_true, Bool.and_eq_true] at h
    rcases List.mem_cons.mp hm with rfl | hm
    · exact h.1.1
    · exact pendFrom_cast h.2 m hm
theorem isPend_cast {ds : List PyData} (h : isPend (.tuple ds) = true) : ∀ m ∈ ds, isCast m = true := by
  cases ds with
  | nil => intro m hm; cases hm
  | cons d ds =>
    have h : (isCast d && pendFrom (procOf d + 1) ds) = true := h
    rw [Bool.and_eq_true] at h
    intro m hm
    rcases List.mem_cons.mp hm with rfl | hm
    · exact h.1
    · exact pendFrom_cast h.2 m hm
theorem isPend_not {ds : List PyData} {m : PyData} (hm : m ∈ ds) (h : isCast m = false) : isPend (.tuple ds) = false := by
  cases e : isPend (.tuple ds) with
  | false => rfl
  | true => rw [isPend_cast e m hm] at h; cases h
def diffs (c : Int) (ds : List PyData) : List Int := ds.map fun m => procOf m - c
def rangeI (s n : Nat) : List Int := (List.range' s n).map fun k => ((k : Nat) : Int)
theorem pendFrom_eq (c : Int) : ∀ (ds : List PyData) (s : Nat), (∀ m ∈ ds, isCast m = true) → pendFrom (c + s) ds = decide (diffs c ds = rangeI s ds.length)
  | [], s, _ => rfl
  | d :: ds, s, h => by
    have ih := pendFrom_eq c ds (s + 1) fun m hm => h m (List.mem_cons_of_mem _ hm)
    show (isCast d && decide (procOf d = c + s) && pendFrom (c + s + 1) ds) = _
    have e1 : c + (s : Int) + 1 = c + ((s + 1 : Nat) : Int) := by omega
    rw [h d List.mem_cons_self, e1, ih, Bool.true_and]
    have e2 : rangeI s (d :: ds).length = (s : Int) :: rangeI (s + 1) ds.length := by unfold rangeI; rw [List.length_cons, List.range'_succ, List.map_cons]
    have e3 : diffs c (d :: ds) = (procOf d - c) :: diffs c ds := rfl
    rw [e2, e3, ← Bool.decide_and]
    refine decide_eq_decide.mpr ⟨fun ⟨a, b⟩ => by rw [b, show procOf d - c = s by omega], fun a => ?_⟩
    injection a with a b
    exact ⟨by omega, b⟩
theorem isPend_eq {d : PyData} {ds : List PyData} (h : ∀ m ∈ d :: ds, isCast m = true) : isPend (.tuple (d :: ds)) = decide (diffs (procOf d) (d :: ds) = rangeI 0 (d :: ds).length) := by
  rw [← pendFrom_eq (procOf d) (d :: ds) 0 h]
  show (isCast d && pendFrom (procOf d + 1) ds) = (isCast d && decide (procOf d = procOf d + ((0 : Nat) : Int)) && pendFrom (procOf d + ((0 : Nat) : Int) + 1) ds)
  have e : procOf d + ((0 : Nat) : Int) = procOf d := by omega
  rw [e, decide_eq_true rfl, Bool.and_true]
theorem lay_ints : ∀ xs : List Int, PyData.canLayAll0 (xs.map PyData.int) = true
  | [] => rfl
  | x :: xs => by simp [PyData.canLayAll0, PyData.canLay0, lay_ints xs]
theorem dep_ints : ∀ xs : List Int, PyData.depthAll (xs.map PyData.int) ≤ 2
  | [] => by simp [PyData.depthAll]
  | x :: xs => by
    have := dep_ints xs
    simp [PyData.depthAll, PyData.depth]
    omega
theorem shaped_ints (xs : List Int) : SeqAt.shaped (.list (xs.map PyData.int)) = true := by
  unfold SeqAt.shaped
  rw [Bool.and_eq_true, decide_eq_true_eq]
  refine ⟨by simp [PyData.canLay0, lay_ints], ?_⟩
  have := dep_ints xs
  simp [PyData.depth]
  omega
theorem eqv_intsA : ∀ xs ys : List Int, PyData.eqvAll (xs.map PyData.int) (ys.map PyData.int) = decide (xs = ys)
  | [], [] => rfl
  | [], _ :: _ => rfl
  | _ :: _, [] => rfl
  | x :: xs, y :: ys => by
    show (PyData.eqv (.int x) (.int y) && PyData.eqvAll _ _) = _
    rw [eqv_intsA xs ys]
    show ((x == y) && _) = _
    by_cases h : x = y <;> by_cases h2 : xs = ys <;> simp [h, h2]
theorem eqv_ints (xs ys : List Int) : PyData.eqv (.list (xs.map PyData.int)) (.list (ys.map PyData.int)) = decide (xs = ys) := eqv_intsA xs ys
theorem dp_ints {K : PySem.W.Frag} {H : Hp} : ∀ xs : List Int, DpAll K H (xs.map V.int) (xs.map PyData.int)
  | [] => .nil
  | x :: xs => .cons (.int x) (dp_ints xs)
section
variable {P : Program} {w : World} {K : PySem.W.Frag} {mg : Str → Option Value} {base : Heap}
abbrev s__law_is_pending : Stmt := top 32
abbrev N__law_is_pending : List Str := ["value", "pair", "k"]
abbrev P__law_is_pending : List Str := ["value"]
theorem sc__law_is_pending : FnScope N__law_is_pending P__law_is_pending (defScope s__law_is_pending) := ⟨rfl, rfl, rfl, by decide +kernel, rfl, by decide +kernel, by decide +kernel⟩
theorem ok__law_is_pending {f : Addr} {fd : FuncData} (T : Tx mg) (c__law_is_int : DefOk P w K mg base CX0 "_law_is_int" P__law_is_int 1 (spI)) (c__law_is_payload : DefOk P w K mg base CX0 "_law_is_payload" P__law_is_payload 1 (spH1 payL))(F : Fun K "_law_is_pending" "_law_is_pending" s__law_is_pending f fd) : FnOk P w K mg base CX0 (2) f fd P__law_is_pending (spHS1 isPend) := by
  have nd := sc__law_is_pending.nd
  refine F.ok sc__law_is_pending (fun vs H Q E h => ?_) (fun cdv A outer s H vs Q E hr h => ?_)
  · obtain ⟨_, _, _, rfl, _⟩ := h
    rfl
  · obtain ⟨p, v, d, rfl, hd, hh, q⟩ := h
    have hs := sl
    refine ⟨_, (pss_cons (ps_if (pt_not (pt_val (pe_callB call_isi (by rfl) T.b_isinstance (by decide +kernel) (pa_cons (pv 0) (pa_cons (pe_ty "tuple" T.b_tuple) pa_nil)))))
        (pss_one (ps_ret pe_bl))
        pss_nil)
      (pss_cons (ps_for PassesOwn.never rfl (pi_tup (pv 0)) (pg_name (i := 1) nd rfl (Or.inl rfl))
        (pss_cons (ps_if (PW.pt (pw_or (pt_not (pt_val (pe_callB call_isi (by rfl) T.b_isinstance (by decide +kernel) (pa_cons (pv 1) (pa_cons (pe_ty "tuple" T.b_tuple) pa_nil))))) (pw_or (pt_cmpR op_ne (pe_callB call_len_seq (by rfl) T.b_len (by decide +kernel) (pa_cons (pv 1) pa_nil)) pe_int (nomark _)) (pw_or1 (pt_not (pt_val (pcall c__law_is_int hr (pa_cons (pe_ix ix_tup (pv 1) pe_int (fun _ _ => rfl)) (pa_cons pe_int (pa_cons (pe_op op_pow pe_int pe_int) pa_nil))))))))))
          (pss_one (ps_ret pe_bl))
          pss_nil)
        (pss_one (ps_if (pt_not (pt_val (pcall c__law_is_payload hr (pa_cons (pe_ix ix_tup (pv 1) pe_int (fun _ _ => rfl)) pa_nil))))
          (pss_one (ps_ret pe_bl))
          pss_nil))))
      (pss_one (ps_ret (pe_cmpR (op_eqD hr.units) (pe_lc (own := [("pair", 1)]) (g := gName 1) (te := tOp (rI0 fun i j => .int (i - j)) (tOp (rIxT K) (tVar 1) (tC (.int 0))) (tOp (rIxT K) (tOp (rIxT K) (tVar 0) (tC (.int 0))) (tC (.int 0)))) rfl nd (pi_tup (pv 0)) (blkOk_by (own := [("pair", 1)]) (N := N__law_is_pending) (sc := defScope s__law_is_pending) (by decide +kernel)) (fun _ _ _ _ _ => (pg_name (i := 1) nd rfl (Or.inl rfl))) (fun _ _ _ _ _ => pts_nil) (fun _ _ _ _ _ => (pe_op op_sub (pe_ix ix_tup (pv 1) pe_int (fun _ _ => rfl)) (pe_ix ix_tup (pe_ix ix_tup (pv 0) pe_int (fun _ _ => rfl)) pe_int (fun _ _ => rfl))))) (pe_lc (own := [("k", 2)]) (g := gName 2) rfl nd (pi_range1 (by rfl) T.b_range (pa_cons (pe_callB call_len_seq (by rfl) T.b_len (by decide +kernel) (pa_cons (pv 0) pa_nil)) pa_nil)) (blkOk_by (own := [("k", 2)]) (N := N__law_is_pending) (sc := defScope s__law_is_pending) (by decide +kernel)) (fun _ _ _ _ _ => (pg_name (i := 2) nd rfl (Or.inl rfl))) (fun _ _ _ _ _ => pts_nil) (fun _ _ _ _ _ => (pv 2))) (nomark _)))))), ?_⟩
    have hd' := hd
    cases hd
    case tup a xs ds ha np hw hr1 =>
      have hl := hr1.length
      walk_at "rds"
      refine ⟨⟨_, SqT.of ha⟩, for_tup (K := K) (a := a) (xs := xs) (fun i σ H' => H' = H ∧ ∃ (x1 x2 : Option V), σ = [some (.ref a), x1, x2] ∧ ∀ m ∈ ds.take i, isCast m = true) ?_ ?_ ?_ ?_⟩
      · exact ⟨rfl, _, _, rfl, fun m hm => (by cases hm)⟩
      · rintro i σ H' _ ⟨rfl, _⟩
        exact SqT.of ha
      · rintro i x σ H' hx ⟨rfl, x1, x2, rfl, hall⟩
        obtain ⟨m, hm, rm⟩ := hr1.at hx
        have hmm := List.mem_of_getElem? hm
        have hmh := hh.mem m hmm
        have no : castL m = false → Q (.bl false) H' := fun h => ansB (q _ (Same.rfl' H')) (isPend_not hmm ((castL_eq hmh).symm.trans h))
        have rm' := rm
        rcases pairs m with ⟨x, y, rfl⟩ | hno
        · obtain ⟨k1, k2⟩ := hmh.of2
          obtain _ | _ | _ | _ | _ | @⟨b, ys, _, hb, nb, hwb, hrb⟩ := rm
          obtain _ | ⟨hx1, _ | ⟨hx2, hn⟩⟩ := hrb
          cases hn
          walk_at "rds"
          refine iB (fun h => ?_) (fun h => ?_)
          · have h' : isInt x 1 1000000000000 = false := by simpa using h
            walk_at "rds"
            exact no (by simp [castL, h'])
          · have h' : isInt x 1 1000000000000 = true := by simpa using h
            walk_at "rds"
            refine ⟨p, _, y, rfl, hx2, k2, ?_⟩
            walk_at "rds"
            refine iB (fun h2 => ?_) (fun h2 => ?_)
            · have h2' : payL y = false := by simpa using h2
              walk_at "rds"
              exact no (by simp [castL, h2'])
            · have h2' : payL y = true := by simpa using h2
              have hc : isCast (.tuple [x, y]) = true := by rw [← castL_eq hmh]; simp [castL, h', h2']
              refine ⟨rfl, _, _, rfl, ?_⟩
              rw [List.take_succ, hm]
              intro m hm
              rcases List.mem_append.mp hm with hm | hm
              · exact hall m hm
              · rw [List.mem_singleton.mp hm]; exact hc
        · have no2 := no (castL_no hno)
          clear no
          rcases hno with ⟨ds', rfl, hl'⟩ | hno
          · obtain _ | _ | _ | _ | _ | @⟨b, ys, _, hb, nb, hwb, hrb⟩ := rm
            have hl2 := hrb.length
            walk_at "rds"
            refine nT (vint_ne (by omega)) ?_
            walk_at "rds"
            exact no2
          · cases rm <;> simp [dTup] at hno <;> walk_at "rds" <;> exact no2
      · rintro σ H' ⟨rfl, x1, x2, rfl, hall⟩
        rw [hl, List.take_length] at hall
        have q0 : ∀ H1, Same H' H1 → Q (.bl (decide (diffs (procOf (ds.headD .none)) ds = rangeI 0 ds.length))) H1 := fun H1 s1 => ansB (q _ s1) (by
          cases ds with
          | nil => rfl
          | cons d ds => exact isPend_eq hall)
        walk_at "rds"
        refine ⟨⟨_, SqT.of ha⟩, fun D nD => lc_tup (K := K) (a := a) (xs := xs) (fun i H1 => H1 D = some (.lst (((diffs (procOf (ds.headD .none)) ds).take i).map V.int)) ∧ Same H' H1) ?_ ?_ ?_ ?_⟩
        · exact ⟨upd_same, same_new nD _⟩
        · rintro i H1 _ ⟨_, s1⟩
          exact SqT.of (s1 _ _ ha)
        · rintro i x H1 hx ⟨hD, s1⟩
          obtain ⟨m, hm, rm⟩ := hr1.at hx
          have hi : i < xs.length := (List.getElem?_eq_some_iff.mp hx).1
          have h0 : 0 < xs.length := by omega
          obtain ⟨m0, hm0, rm0⟩ := hr1.at (List.getElem?_eq_getElem h0)
          obtain ⟨k, z, rfl, _⟩ := isCast_int (hall m (List.mem_of_getElem? hm))
          obtain ⟨k', z', rfl, _⟩ := isCast_int (hall m0 (List.mem_of_getElem? hm0))
          have ec : procOf (ds.headD .none) = k' := by
            cases ds with
            | nil => cases hm0
            | cons d ds => cases hm0; rfl
          have hat : atI xs 0 = some xs[0] := at_int (by omega) (List.getElem?_eq_getElem h0)
          generalize xs[0] = x0 at rm0 hat
          obtain _ | _ | _ | _ | _ | @⟨b, ys, _, hb, nb, hwb, hrb⟩ := rm.same s1
          obtain _ | ⟨hx1, _ | ⟨hx2, hn⟩⟩ := hrb
          cases hn
          cases hx1
          obtain _ | _ | _ | _ | _ | @⟨b', ys', _, hb', nb', hwb', hrb'⟩ := rm0.same s1
          obtain _ | ⟨hy1, _ | ⟨hy2, hn⟩⟩ := hrb'
          cases hn
          cases hy1
          refine ⟨rfl, ?_⟩
          walk_at "rds"
          refine ⟨a, _, _, _, rfl, rfl, SqT.of (s1 _ _ ha), hat, ?_⟩
          walk_at "rds"
          have et : (diffs (procOf (ds.headD .none)) ds).take (i + 1) = (diffs (procOf (ds.headD .none)) ds).take i ++ [k - k'] := by
            have e : (diffs (procOf (ds.headD .none)) ds)[i]? = some (k - k') := by unfold diffs; rw [List.getElem?_map, hm, ec]; rfl
            rw [List.take_succ, e]; rfl
          refine ⟨_, hD, by rw [List.length_map, List.length_take]; omega, ?_, fun b o h => (by rw [upd_ne (ne_of_none h nD)]; exact s1 b o h)⟩
          rw [upd_same, et, List.map_append]; rfl
        · rintro H1 ⟨hD, s1⟩
          have ld : (diffs (procOf (ds.headD .none)) ds).length = ds.length := by unfold diffs; rw [List.length_map]
          rw [hl, List.take_of_length_le (by omega)] at hD
          have ha1 := s1 _ _ ha
          walk_at "rds"
          refine ⟨by omega, by omega, fun D2 nD2 => lc_range (lo := 0) (n := xs.length) (fun i H2 => H2 D2 = some (.lst ((rangeI 0 i).map V.int)) ∧ Same H1 H2) ?_ ?_ ?_⟩
          · exact ⟨upd_same, same_new nD2 _⟩
          · rintro i H2 hi ⟨hD2, s2⟩
            have er : rangeI 0 (i + 1) = rangeI 0 i ++ [(i : Int)] := by unfold rangeI; rw [List.range'_1_concat, List.map_append, Nat.zero_add]; rfl
            refine ⟨rfl, ?_⟩
            walk_at "rds"
            refine ⟨_, hD2, by unfold rangeI; rw [List.length_map, List.length_map, List.length_range']; omega, ?_, fun b o h => (by rw [upd_ne (ne_of_none h nD2)]; exact s2 b o h)⟩
            rw [upd_same, er, List.map_append, Int.zero_add]; rfl
          · rintro H2 ⟨hD2, s2⟩
            rw [hl] at hD2
            refine ⟨.list ((diffs (procOf (ds.headD .none)) ds).map PyData.int), .list ((rangeI 0 ds.length).map PyData.int), .lst (.of (s2 _ _ hD)) (dp_ints _), .lst (.of hD2) (dp_ints _), shaped_ints _, shaped_ints _, ?_⟩
            rw [eqv_ints]
            exact q0 _ (s1.trans s2)
    all_goals
      walk_at "rds"
      exact q _ (Same.rfl' H)
end
end Mus

set_option maxRecDepth 100000
set_option maxHeartbeats 4000000
namespace Mus
open PySem L2 TL PySem.NumText
local macro_rules | `(tactic| walk_at "rd") => `(tactic| first
  | refine ⟨_, rfl, ?_⟩ | refine ⟨(True.intro : True), ?_⟩
  | refine ⟨_, _, rfl, rfl, (⟨by decide, by decide, by decide⟩ : CPow _ _), ?_⟩
  | refine ⟨_, _, rfl, rfl, (⟨by decide, by decide⟩ : CDiv _ _), ?_⟩
  | refine ⟨_, _, rfl, rfl, (by show (0 : Int) < _; decide), ?_⟩
  | refine ⟨_, _, rfl, rfl, ?_⟩ | refine ⟨rfl, ?_⟩ | refine iteT ?_ | refine iteF ?_ | refine ⟨_, _, rfl, ?_⟩ | refine .inl ⟨_, rfl, ?_⟩
  | refine ⟨_, _, _, _, _, rfl, (by assumption), (by assumption), (by assumption), rfl, ?_⟩ | refine ⟨_, _, _, _, rfl, rfl, SqT.of (by assumption), rfl, ?_⟩ | refine ⟨_, _, rfl, SqT.of (by assumption), rfl, ?_⟩
  | refine ⟨_, _, _, _, _, rfl, .ty _, Rp.ty (by assumption), kit_int _, ?_⟩ | refine ⟨_, _, _, _, _, rfl, .ty _, Rp.ty (by assumption), kit_bool _, ?_⟩
  | refine ⟨_, _, _, _, _, rfl, .ty _, Rp.ty (by assumption), kit_str _, ?_⟩ | refine ⟨_, _, _, _, _, rfl, .ty _, Rp.ty (by assumption), kit_tup _, ?_⟩)
local macro_rules | `(tactic| walk_at "cal") => `(tactic| first
  | refine ⟨_, _, _, _, _, rfl, (by assumption), ?_⟩ | refine ⟨_, _, _, _, _, rfl, (by assumption), (by assumption), ?_⟩)
local macro_rules | `(tactic| walk_at "sq") => `(tactic| first
  | refine ⟨_, _, rfl, Or.inr (SqT.of (by assumption)), ?_⟩ | refine ⟨_, _, _, _, rfl, rfl, SqT.of (by assumption), rfl, ?_⟩)
local macro_rules | `(tactic| walk_at "rds") => `(tactic| repeat first | walk_at "rd" | walk_at "cal" | walk_at "sq")
local macro_rules | `(tactic| walk_at "ze") => `(tactic| repeat first
  | exact zes_nil | exact ze_bl | exact ze_str | exact ze_non | apply zes_cons | apply ze_tup | apply ze_lst | apply ze_cat | exact di_c | exact di_v rfl | apply di_opC | apply di_op | apply di_neg | apply ze_i | (refine (⟨?_, ?_, ?_⟩ : CPow _ _) <;> decide) | exact Nat.le_of_ble_eq_true rfl | exact ze_varD rfl (by assumption))
local macro_rules | `(tactic| walk_at "rdz") => `(tactic| repeat (fail_if_success (first | show tLst _ _ _ _ | show tAsg (tLst _) _ _ _ _ | show tSeq (tAsg (tLst _) _) _ _ _ _)); first | walk_at "rd" | walk_at "cal" | walk_at "sq")
section
variable {P : Program} {w : World} {K : PySem.W.Frag} {mg : Str → Option Value} {base : Heap}
/-! ### payloads, logs and lists of pending casts, drawn -/
def PayOk (z : Str) : Prop := z.length ≤ 30 ∧ (tl z).all prB = true
def chars94 : Str := " !\"#$&'()*+,-./0123456789:;<=>?@ABCDEFGHIJKLMNOPQRSTUVWXYZ[\\]^_`abcdefghijklmnopqrstuvwxyz{|}~"
theorem chars_len : (tl chars94).length = 94 := by decide +kernel
theorem chars_pr : (tl chars94).all prB = true := by decide +kernel
theorem prB_nl {l : List Nat} (h : l.all prB = true) : 10 ∉ l := fun m => by
  have := List.all_eq_true.mp h 10 m
  revert this
  decide
theorem PayOk.ok {z : Str} (h : PayOk z) : Ok z := ⟨by have := h.1; omega, by rw [h.2, decide_eq_true (prB_nl h.2)]⟩
theorem PayOk.pay {z : Str} (h : PayOk z) : isPay (.str z) = true := by simp only [isPay]; rw [h.2, decide_eq_true h.1]; rfl
def sp_pay : Sp := fun vs H Q _ => ∃ (p : Addr) (c : Int), vs = [.ref p] ∧ Bag p c H ∧ ∀ z H', PayOk z → But p H H' → Bag p c H' → Q (.str z) H'
abbrev s__law_payload : Stmt := top 24
abbrev N__law_payload : List Str := ["bag", "chars", "k"]
abbrev P__law_payload : List Str := ["bag"]
theorem sc__law_payload : FnScope N__law_payload P__law_payload (defScope s__law_payload) := ⟨rfl, rfl, rfl, by decide +kernel, rfl, by decide +kernel, by decide +kernel⟩
theorem ok__law_payload {f : Addr} {fd : FuncData} (T : Tx mg) (c__law_draw : DefOk P w K mg base CX0 "_law_draw" P__law_draw 1 (sp_draw))(F : Fun K "_law_payload" "_law_payload" s__law_payload f fd) : FnOk P w K mg base CX0 (2) f fd P__law_payload (sp_pay) := by
  have nd := sc__law_payload.nd
  refine F.ok sc__law_payload (fun vs H Q E h => ?_) (fun cdv A outer s H vs Q E hr h => ?_)
  · obtain ⟨_, _, rfl, _⟩ := h
    rfl
  · obtain ⟨p, c, rfl, g, q⟩ := h
    have hs := sl
    refine ⟨_, (pss_cons (ps_set (i := 1) nd rfl (Or.inr rfl) pe_str)
      (pss_cons (ps_if (pt_cmpR op_eq (pcall c__law_draw hr (pa_cons (pv 0) (pa_cons pe_int pa_nil))) pe_int (nomark _))
        (pss_one (ps_ret (pe_join pe_str (pe_lcX (own := [("k", 2)]) rfl nd (pi_range1 (by rfl) T.b_range (pa_cons (pcall c__law_draw hr (pa_cons (pv 0) (pa_cons pe_int pa_nil))) pa_nil)) (blkOk_by (own := [("k", 2)]) (N := N__law_payload) (sc := defScope s__law_payload) (by decide +kernel)) (fun _ _ _ _ _ => (pg_name (i := 2) nd rfl (Or.inl rfl))) (fun _ _ _ _ _ => pts_nil) (fun _ _ _ _ _ => (pe_ix ix_str (pv 1) (pcall c__law_draw hr (pa_cons (pv 0) (pa_cons pe_int pa_nil))) (fun _ _ => rfl)))))))
        pss_nil)
      (pss_one (ps_ret (pe_ix ix_list (pe_lst (pa_cons pe_str (pa_cons pe_str (pa_cons pe_str (pa_cons pe_str (pa_cons pe_str pa_nil)))))) (pcall c__law_draw hr (pa_cons (pv 0) (pa_cons pe_int pa_nil))) (fun _ _ => rfl)))))), ?_⟩
    have z0 := chars_len
    have z1 := TL.len_tl chars94
    refine ⟨_, rfl, p, c, _, rfl, g, by decide, by decide, fun r H1 r0 r1 b1 g1 => ?_⟩
    walk_at "rds"
    refine iB (fun _ => ?_) (fun _ => ?_)
    · walk_at "rds"
      refine ⟨⟨_, rfl⟩, ?_⟩
      walk_at "rds"
      refine ⟨p, c, _, rfl, g1, by decide, by decide, fun n H2 n0 n1 b2 g2 => ?_⟩
      refine ⟨n, rfl, by omega, by omega, fun D nD => ?_⟩
      have pD := g2.ne nD
      have b12 := b1.trans b2
      refine lc_range (lo := 0) (n := n.toNat) (fun i H' => ∃ ys : List Str, H' D = some (.lst (ys.map V.str)) ∧ ys.length = i ∧ (Txt4.flat ys).length = i ∧ (Txt4.flat ys).all prB = true ∧ But p H H' ∧ Bag p c H') ?_ ?_ ?_
      · exact ⟨[], upd_same, rfl, rfl, rfl, b12.new nD, g2.new nD⟩
      · rintro i H' hi ⟨ys, h1, h2, h3, h4, b3, g3⟩
        refine ⟨rfl, ?_⟩
        refine ⟨_, rfl, _, rfl, p, c, _, rfl, g3, by decide, by decide, fun m H4 m0 m1 b4 g4 => ?_⟩
        have hlt : m.toNat < (tl chars94).length := by rw [chars_len]; omega
        refine ⟨chars94, _, (tl chars94)[m.toNat], rfl, rfl, by omega, at_int m0 (List.getElem?_eq_getElem hlt), ?_⟩
        have hD4 := b4 D _ h1 pD.symm
        refine ⟨_, hD4, by rw [List.length_map]; omega, ys ++ [⟨#[(tl chars94)[m.toNat]]⟩], ?_, by rw [List.length_append, h2]; rfl, ?_, ?_, (b3.trans b4).later (b12.free nD pD.symm), g4.upd pD⟩
        · rw [upd_same, List.map_append]; rfl
        · rw [Txt4.flat_append, Txt4.flat_one, List.length_append, h3]; rfl
        · rw [Txt4.flat_append, Txt4.flat_one, List.all_append, h4]
          have : prB (tl chars94)[m.toNat] = true := List.all_eq_true.mp chars_pr _ (List.getElem_mem hlt)
          show (true && (prB (tl chars94)[m.toNat] && true)) = true
          rw [this]; rfl
      · rintro H' ⟨ys, h1, h2, h3, h4, b3, g3⟩
        have z2 := Txt4.flat_len ys
        have e : tl (Txt.join (Str.ofString "") ys) = Txt4.flat ys := Txt4.tl_glue ys
        refine ⟨_, D, ys, rfl, rfl, .inl (SqL.of h1), ?_, q _ _ ⟨?_, ?_⟩ b3 g3⟩
        · rw [z2]
          have : (Str.ofString "").length = 0 := by decide
          rw [this]; omega
        · rw [TL.len_tl, e]; omega
        · rw [e]; exact h4
    · refine ⟨by show 5 ≤ sizeLine; omega, fun t nt => ?_⟩
      have st := same_new nt (.lst [V.str "", V.str "a", V.str "b", V.str "x;1:(", V.str "hi there"])
      walk_at "rds"
      refine ⟨p, c, _, rfl, g1.new nt, by decide, by decide, fun m H2 m0 m1 b2 g2 => ?_⟩
      have h2 := b2 t _ upd_same (g1.ne nt).symm
      have bb := (b1.trans (But.of st)).trans b2
      have hm : m = 0 ∨ m = 1 ∨ m = 2 ∨ m = 3 ∨ m = 4 := by omega
      rcases hm with rfl | rfl | rfl | rfl | rfl
      · exact ⟨t, _, _, _, rfl, rfl, SqL.of h2, rfl, q _ _ ⟨by decide, by decide +kernel⟩ bb g2⟩
      · exact ⟨t, _, _, _, rfl, rfl, SqL.of h2, rfl, q _ _ ⟨by decide, by decide +kernel⟩ bb g2⟩
      · exact ⟨t, _, _, _, rfl, rfl, SqL.of h2, rfl, q _ _ ⟨by decide, by decide +kernel⟩ bb g2⟩
      · exact ⟨t, _, _, _, rfl, rfl, SqL.of h2, rfl, q _ _ ⟨by decide +kernel, by decide +kernel⟩ bb g2⟩
      · exact ⟨t, _, _, _, rfl, rfl, SqL.of h2, rfl, q _ _ ⟨by decide +kernel, by decide +kernel⟩ bb g2⟩
end
end Mus

set_option maxRecDepth 100000
set_option maxHeartbeats 4000000
namespace Mus
open PySem L2 TL PySem.NumText
local macro_rules | `(tactic| walk_at "rd") => `(tactic| first
  | refine ⟨_, rfl, ?_⟩ | refine ⟨(True.intro : True), ?_⟩
  | refine ⟨_, _, rfl, rfl, (⟨by decide, by decide, by decide⟩ : CPow _ _), ?_⟩
  | refine ⟨_, _, rfl, rfl, (⟨by decide, by decide⟩ : CDiv _ _), ?_⟩
  | refine ⟨_, _, rfl, rfl, (by show (0 : Int) < _; decide), ?_⟩
  | refine ⟨_, _, rfl, rfl, ?_⟩ | refine ⟨rfl, ?_⟩ | refine iteT ?_ | refine iteF ?_ | refine ⟨_, _, rfl, ?_⟩ | refine .inl ⟨_, rfl, ?_⟩
  | refine ⟨_, _, _, _, _, rfl, (by assumption), (by assumption), (by assumption), rfl, ?_⟩ | refine ⟨_, _, _, _, rfl, rfl, SqT.of (by assumption), rfl, ?_⟩ | refine ⟨_, _, rfl, SqT.of (by assumption), rfl, ?_⟩
  | refine ⟨_, _, _, _, _, rfl, .ty _, Rp.ty (by assumption), kit_int _, ?_⟩ | refine ⟨_, _, _, _, _, rfl, .ty _, Rp.ty (by assumption), kit_bool _, ?_⟩
  | refine ⟨_, _, _, _, _, rfl, .ty _, Rp.ty (by assumption), kit_str _, ?_⟩ | refine ⟨_, _, _, _, _, rfl, .ty _, Rp.ty (by assumption), kit_tup _, ?_⟩)
local macro_rules | `(tactic| walk_at "cal") => `(tactic| first
  | refine ⟨_, _, _, _, _, rfl, (by assumption), ?_⟩ | refine ⟨_, _, _, _, _, rfl, (by assumption), (by assumption), ?_⟩)
local macro_rules | `(tactic| walk_at "sq") => `(tactic| first
  | refine ⟨_, _, rfl, Or.inr (SqT.of (by assumption)), ?_⟩ | refine ⟨_, _, _, _, rfl, rfl, SqT.of (by assumption), rfl, ?_⟩)
local macro_rules | `(tactic| walk_at "rds") => `(tactic| repeat first | walk_at "rd" | walk_at "cal" | walk_at "sq")
local macro_rules | `(tactic| walk_at "ze") => `(tactic| repeat first
  | exact zes_nil | exact ze_bl | exact ze_str | exact ze_non | apply zes_cons | apply ze_tup | apply ze_lst | apply ze_cat | exact di_c | exact di_v rfl | apply di_opC | apply di_op | apply di_neg | apply ze_i | (refine (⟨?_, ?_, ?_⟩ : CPow _ _) <;> decide) | exact Nat.le_of_ble_eq_true rfl | exact ze_varD rfl (by assumption))
local macro_rules | `(tactic| walk_at "rdz") => `(tactic| repeat (fail_if_success (first | show tLst _ _ _ _ | show tAsg (tLst _) _ _ _ _ | show tSeq (tAsg (tLst _) _) _ _ _ _)); first | walk_at "rd" | walk_at "cal" | walk_at "sq")
section
variable {P : Program} {w : World} {K : PySem.W.Frag} {mg : Str → Option Value} {base : Heap}
def pendD : Int → List Str → List PyData
  | _, [] => []
  | n, z :: zs => .tuple [.int n, .str z] :: pendD (n + 1) zs
theorem pendD_snoc : ∀ (n : Int) (zs : List Str) (z : Str), pendD n (zs ++ [z]) = pendD n zs ++ [.tuple [.int (n + (zs.length : Nat)), .str z]]
  | n, [], z => by simp [pendD]
  | n, y :: zs, z => by
    have e : n + 1 + ((zs.length : Nat) : Int) = n + (((y :: zs).length : Nat) : Int) := by rw [List.length_cons]; omega
    show _ :: pendD (n + 1) (zs ++ [z]) = _
    rw [pendD_snoc, e]; rfl
theorem pendD_len : ∀ (n : Int) (zs : List Str), (pendD n zs).length = zs.length
  | _, [] => rfl
  | n, _ :: zs => congrArg (· + 1) (pendD_len (n + 1) zs)
theorem pendD_mem : ∀ {n : Int} {zs : List Str} {d : PyData}, d ∈ pendD n zs → ∃ k z, z ∈ zs ∧ d = .tuple [.int k, .str z]
  | _, [], _, h => by cases h
  | n, z :: zs, d, h => by
    rcases List.mem_cons.mp h with rfl | h
    · exact ⟨n, z, List.mem_cons_self, rfl⟩
    · obtain ⟨k, y, hy, e⟩ := pendD_mem h
      exact ⟨k, y, List.mem_cons_of_mem _ hy, e⟩
theorem pendD_noL {n : Int} {zs : List Str} : ∀ d ∈ pendD n zs, NoL d := fun d h => by
  obtain ⟨k, z, _, rfl⟩ := pendD_mem h
  exact .two (.int _) (.str _)
theorem two_her {P : Str → Prop} {a b : PyData} (h : Her P a) (k : Her P b) : Her P (.tuple [a, b]) := .tup fun d m => by
  rcases List.mem_cons.mp m with rfl | m
  · exact h
  · rw [List.mem_singleton.mp m]; exact k
theorem three_her {P : Str → Prop} {a b c : PyData} (h : Her P a) (k : Her P b) (l : Her P c) : Her P (.tuple [a, b, c]) := .tup fun d m => by
  rcases List.mem_cons.mp m with rfl | m
  · exact h
  · rcases List.mem_cons.mp m with rfl | m
    · exact k
    · rw [List.mem_singleton.mp m]; exact l
theorem pendD_her {n : Int} {zs : List Str} (h : ∀ z ∈ zs, PayOk z) : Her Ok (.tuple (pendD n zs)) := .tup fun d hd => by
  obtain ⟨k, z, hz, rfl⟩ := pendD_mem hd
  exact two_her (.int _) (.str (h z hz).ok)
def sp_pend : Sp := fun vs H Q _ => ∃ (p : Addr) (c n : Int), vs = [.ref p, .int n] ∧ Bag p c H ∧ ∀ v zs H', (∀ z ∈ zs, PayOk z) → zs.length ≤ 8 → Rp p H' v (.tuple (pendD n zs)) → But p H H' → Bag p c H' → Q v H'
abbrev s__law_pending : Stmt := top 26
abbrev N__law_pending : List Str := ["bag", "first", "k"]
abbrev P__law_pending : List Str := ["bag", "first"]
theorem sc__law_pending : FnScope N__law_pending P__law_pending (defScope s__law_pending) := ⟨rfl, rfl, rfl, by decide +kernel, rfl, by decide +kernel, by decide +kernel⟩
theorem ok__law_pending {f : Addr} {fd : FuncData} (T : Tx mg) (c__law_draw : DefOk P w K mg base CX0 "_law_draw" P__law_draw 1 (sp_draw)) (c__law_payload : DefOk P w K mg base CX0 "_law_payload" P__law_payload 2 (sp_pay))(F : Fun K "_law_pending" "_law_pending" s__law_pending f fd) : FnOk P w K mg base CX0 (3) f fd P__law_pending (sp_pend) := by
  have nd := sc__law_pending.nd
  refine F.ok sc__law_pending (fun vs H Q E h => ?_) (fun cdv A outer s H vs Q E hr h => ?_)
  · obtain ⟨_, _, _, rfl, _⟩ := h
    rfl
  · obtain ⟨p, c, n, rfl, g, q⟩ := h
    have hs := sl
    refine ⟨_, (pss_one (ps_ret (pe_callTy call_tuple_of (by rfl) T.b_tuple (by decide +kernel) (pa_cons (pe_lcX (own := [("k", 2)]) rfl nd (pi_range1 (by rfl) T.b_range (pa_cons (pcall c__law_draw hr (pa_cons (pv 0) (pa_cons pe_int pa_nil))) pa_nil)) (blkOk_by (own := [("k", 2)]) (N := N__law_pending) (sc := defScope s__law_pending) (by decide +kernel)) (fun _ _ _ _ _ => (pg_name (i := 2) nd rfl (Or.inl rfl))) (fun _ _ _ _ _ => pts_nil) (fun _ _ _ _ _ => (pe_tup (pa_cons (pe_op op_add (pv 1) (pv 2)) (pa_cons (pcall c__law_payload hr (pa_cons (pv 0) pa_nil)) pa_nil))))) pa_nil)))), ?_⟩
    refine ⟨_, rfl, p, c, _, rfl, g, by decide, by decide, fun r H1 r0 r1 b1 g1 => ?_⟩
    refine ⟨r, rfl, by omega, by omega, fun D nD => ?_⟩
    have pD := g1.ne nD
    refine lc_range (lo := 0) (n := r.toNat) (fun i H' => ∃ (ws : List V) (zs : List Str), H' D = some (.lst ws) ∧ zs.length = i ∧ (∀ z ∈ zs, PayOk z) ∧ Rps p H' ws (pendD n zs) ∧ But p H H' ∧ Bag p c H') ?_ ?_ ?_
    · exact ⟨[], [], upd_same, rfl, fun z h => (by cases h), .nil, b1.new nD, g1.new nD⟩
    · rintro i H' hi ⟨ws, zs, h1, h2, h3, h4, b3, g3⟩
      refine ⟨rfl, ?_⟩
      walk_at "rds"
      refine ⟨p, c, rfl, g3, fun z H4 hz b4 g4 => ?_⟩
      refine ⟨by show 2 ≤ sizeLine; omega, fun t nt => ?_⟩
      have st := same_new nt (.tup [V.int (n + (0 + (i : Int))), V.str z])
      have h1' := st _ _ (b4 D _ h1 pD.symm)
      have hz' : ∀ y ∈ zs ++ [z], PayOk y := fun y hy => by
        rcases List.mem_append.mp hy with hy | hy
        · exact h3 y hy
        · rw [List.mem_singleton.mp hy]; exact hz
      have lw := h4.length
      rw [pendD_len] at lw
      have e : n + (0 + (i : Int)) = n + ((zs.length : Nat) : Int) := by omega
      refine ⟨ws, h1', by omega, ws ++ [.ref t], zs ++ [z], upd_same, by rw [List.length_append, h2]; rfl, hz', ?_, ((b3.trans b4).new nt).later (b1.free nD pD.symm), (g4.new nt).upd pD⟩
      rw [pendD_snoc]
      have r1 : Rps p _ (ws ++ [.ref t]) (pendD n zs ++ [.tuple [.int (n + ((zs.length : Nat) : Int)), .str z]]) := ((h4.mono b4).same st).append (.cons (.tup upd_same (g4.ne nt).symm (by show 2 ≤ 100000; decide) (by rw [e]; exact .cons (.int _) (.cons (.str _) .nil))) .nil)
      refine r1.updL h1' fun d hd => ?_
      rcases List.mem_append.mp hd with hd | hd
      · exact pendD_noL d hd
      · rw [List.mem_singleton.mp hd]; exact .two (.int _) (.str _)
    · rintro H' ⟨ws, zs, h1, h2, h3, h4, b3, g3⟩
      refine ⟨D, ws, rfl, .inl ⟨SqL.of h1, fun a na => ?_⟩⟩
      have lw := h4.length
      rw [pendD_len] at lw
      exact q _ zs _ h3 (by omega) (.tup upd_same (g3.ne na).symm (by omega) (h4.same (same_new na _))) (b3.new na) (g3.new na)
theorem logFrom_snoc (c : PyData) : ∀ (ds pre : List PyData) (m : PyData), logFrom c pre (ds ++ [m]) = (logFrom c pre ds && (isMsg c m && decide (idxK m = cnt (pre ++ ds) (sndK m) + 1)))
  | [], pre, m => by simp [logFrom]
  | d :: ds, pre, m => by
    show (isMsg c d && decide _ && logFrom c (pre ++ [d]) (ds ++ [m])) = (isMsg c d && decide _ && logFrom c (pre ++ [d]) ds && _)
    rw [logFrom_snoc c ds, List.append_assoc, List.singleton_append]
    simp only [Bool.and_assoc]
def sp_log : Sp := fun vs H Q _ => ∃ (p : Addr) (c n : Int) (v : V) (ms : List PyData), vs = [.ref p, v] ∧ Bag p c H ∧ Rp p H v (.tuple ms) ∧ Mems n ms ∧ 1 ≤ n ∧ n ≤ 12 ∧ ms ≠ [] ∧ ms.length ≤ 100 ∧
  ∀ v ds H', logFrom (.int n) [] ds = true → Her Ok (.tuple ds) → (∀ d ∈ ds, NoL d) → ds.length ≤ 39 → Rp p H' v (.tuple ds) → But p H H' → Bag p c H' → Q v H'
abbrev s__law_log : Stmt := top 25
abbrev N__law_log : List Str := ["bag", "members", "size", "counts", "log", "k", "sender"]
abbrev P__law_log : List Str := ["bag", "members"]
theorem sc__law_log : FnScope N__law_log P__law_log (defScope s__law_log) := ⟨rfl, rfl, rfl, by decide +kernel, rfl, by decide +kernel, by decide +kernel⟩
theorem ok__law_log {f : Addr} {fd : FuncData} (T : Tx mg) (c__law_draw : DefOk P w K mg base CX0 "_law_draw" P__law_draw 1 (sp_draw)) (c__law_payload : DefOk P w K mg base CX0 "_law_payload" P__law_payload 2 (sp_pay))(F : Fun K "_law_log" "_law_log" s__law_log f fd) : FnOk P w K mg base CX0 (3) f fd P__law_log (sp_log) := by
  have nd := sc__law_log.nd
  refine F.ok sc__law_log (fun vs H Q E h => ?_) (fun cdv A outer s H vs Q E hr h => ?_)
  · obtain ⟨_, _, _, _, _, rfl, _⟩ := h
    rfl
  · obtain ⟨p, c, n, v, ms, rfl, g, hv, hm, n1, n2, hne, hml, q⟩ := h
    have hs := sl
    have hu := hu_of hr
    obtain _ | _ | _ | _ | _ | @⟨am, xs, _, ham, nam, hwm, hrm⟩ := id hv
    have hlm := hrm.length
    have h0 : 0 < ms.length := List.length_pos_iff.mpr hne
    refine ⟨_, (pss_cons (ps_set (i := 2) nd rfl (Or.inl rfl) (pcall c__law_draw hr (pa_cons (pv 0) (pa_cons pe_int pa_nil))))
      (C8.pss_cut (ps_if (pt_cmpR op_eq (pcall c__law_draw hr (pa_cons (pv 0) (pa_cons pe_int pa_nil))) pe_int (nomark _))
        (pss_one (ps_set (i := 2) nd rfl (Or.inl rfl) (pcall c__law_draw hr (pa_cons (pv 0) (pa_cons pe_int pa_nil)))))
        pss_nil)
      (pss_cons (ps_set (i := 3) nd rfl (Or.inl rfl) pe_dnewT)
      (pss_cons (ps_set (i := 4) nd rfl (Or.inl rfl) (pe_lst pa_nil))
      (pss_cons (ps_for PassesOwn.never rfl (pi_range1 (by rfl) T.b_range (pa_cons (pv 2) pa_nil)) (pg_name (i := 5) nd rfl (Or.inl rfl))
        (pss_cons (ps_set (i := 6) nd rfl (Or.inl rfl) (pe_ix ix_tup (pv 1) (pcall c__law_draw hr (pa_cons (pv 0) (pa_cons (pe_callB call_len_seq (by rfl) T.b_len (by decide +kernel) (pa_cons (pv 1) pa_nil)) pa_nil))) (fun _ _ => rfl)))
        (pss_cons (ps_dput hu (pv 3) (pv 6) (pe_op op_add (pe_dget2 hu (pv 3) (pv 6) pe_int ⟨rfl, rfl, rfl, rfl⟩) pe_int) rfl)
        (pss_one (ps_expr (pe_bm PySem.F.plainAttrs_list PySem.F.slot_list_append PySem.F.type_list_append mt_append (pv 4) (pa_cons (pe_tup (pa_cons (pv 6) (pa_cons (pe_dget hu (pv 3) (pv 6) (fun _ _ => rfl)) (pa_cons (pcall c__law_payload hr (pa_cons (pv 0) pa_nil)) pa_nil)))) pa_nil)))))))
      (pss_one (ps_ret (pe_callTy call_tuple_of (by rfl) T.b_tuple (by decide +kernel) (pa_cons (pv 4) pa_nil))))))))), ?_⟩
    refine ⟨_, rfl, p, c, _, rfl, g, by decide, by decide, fun r H1 r0 r1 b1 g1 => ?_⟩
    refine ⟨fun σ' H' => ∃ z : Int, σ' = [some (.ref p), some (.ref am), some (.int z), none, none, none, none] ∧ 0 ≤ z ∧ z ≤ 39 ∧ But p H H' ∧ Bag p c H', ?_, ?_⟩
    · refine ⟨_, rfl, p, c, _, rfl, g1, by decide, by decide, fun r2 H2 _ _ b2 g2 => ?_⟩
      walk_at "rds"
      refine iB (fun _ => ?_) (fun _ => ?_)
      · refine ⟨_, rfl, p, c, _, rfl, g2, by decide, by decide, fun r3 H3 z0 z1 b3 g3 => ?_⟩
        exact ⟨r3, rfl, z0, by omega, b1.trans (b2.trans b3), g3⟩
      · exact ⟨r, rfl, r0, by omega, b1.trans b2, g2⟩
    rintro _ H2 ⟨z, rfl, z0, z1, b2, g2⟩
    intro d nd
    have pd := g2.ne nd
    refine ⟨by show 0 ≤ sizeLine; omega, fun l nl => ?_⟩
    have dl : d ≠ l := ne_of_none upd_same nl
    have nl2 : H2 l = none := by rwa [upd_ne dl.symm] at nl
    have pl := g2.ne nl2
    have e1 : (upd (upd H2 d (.dT [])) l (.lst [])) d = some (.dT []) := by rw [upd_ne dl]; exact upd_same
    have b3 : But p H (upd (upd H2 d (.dT [])) l (.lst [])) := (b2.new nd).new nl
    have g3 := (g2.new (o := .dT []) nd).new (o := .lst []) nl
    have fd := b2.free nd pd.symm
    have fl := b2.free nl2 pl.symm
    refine ⟨_, rfl, z, rfl, by omega, by omega, for_range (lo := 0) (n := z.toNat) (fun i σ H' => ∃ (kvs : List (List Key × V)) (ws : List V) (ds : List PyData) (x5 x6 : Option V), σ = [some (.ref p), some (.ref am), some (.int z), some (.ref d), some (.ref l), x5, x6] ∧ H' d = some (.dT kvs) ∧ H' l = some (.lst ws) ∧ Rps p H' ws ds ∧ ds.length = i ∧ Last kvs ds ∧ logFrom (.int n) [] ds = true ∧ (∀ d ∈ ds, NoL d ∧ Her Ok d) ∧ But p H H' ∧ Bag p c H') ?_ ?_ ?_⟩
    · exact ⟨[], [], [], _, _, rfl, e1, upd_same, .nil, rfl, ⟨Nat.zero_le _, fun _ _ => rfl⟩, rfl, fun d h => (by cases h), b3, g3⟩
    · rintro i σ H4 hi ⟨kvs, ws, ds, x5, x6, rfl, hd4, hl4, r4, len4, L4, lf4, ok4, b4, g4⟩
      refine ⟨_, rfl, _, rfl, _, rfl, am, _, rfl, .inr (SqT.of (b4 _ _ ham nam)), p, c, _, rfl, g4, by omega, by omega, fun m H5 m0 m1 b5 g5 => ?_⟩
      have hlt : m.toNat < xs.length := by omega
      have b45 := b4.trans b5
      obtain ⟨dm, hdm, rdm⟩ := (hrm.mono b45).at (List.getElem?_eq_getElem hlt)
      obtain ⟨i0, l0, rfl, q0, q1, q2, q3⟩ := hm dm (List.mem_of_getElem? hdm)
      refine ⟨am, _, _, _, rfl, rfl, SqT.of (b45 _ _ ham nam), at_int m0 (List.getElem?_eq_getElem hlt), ?_⟩
      generalize xs[m.toNat] = vm at rdm
      have rdm' := rdm
      obtain _ | _ | _ | _ | _ | @⟨b, ys, _, hb, nb, hwb, hrb⟩ := rdm
      obtain _ | ⟨hy1, _ | ⟨hy2, hn⟩⟩ := hrb
      cases hn
      cases hy1
      cases hy2
      have hbt : H5 b = some (.tup (([Sum.inl i0, Sum.inl l0] : List Key).map kV)) := hb
      have hd5 := b5 _ _ hd4 pd.symm
      have hl5 := b5 _ _ hl4 pl.symm
      have r5 := r4.mono b5
      walk_at "rds"
      refine ⟨.inr ⟨kvs, .inl hd5⟩, ?_⟩
      walk_at "rds"
      refine ⟨_, DGet.t hd5 hbt, ?_⟩
      rw [L4.2]
      walk_at "rds"
      refine ⟨d, _, rfl, DPut.t hd5 hbt (by have := L4.1; omega), ?_⟩
      have bd : b ≠ d := ne_of hb hd5 (by intro z; cases z)
      have ld : l ≠ d := dl.symm
      have nL : ∀ xs, H5 d ≠ some (.lst xs) := fun xs e => by rw [hd5] at e; cases e
      have nT : ∀ xs, H5 d ≠ some (.tup xs) := fun xs e => by rw [hd5] at e; cases e
      have vp : valV (putK kvs ([Sum.inl i0, Sum.inl l0] : List Key) (.int ((cnt ds (i0, l0) : Nat) + 1))) ([Sum.inl i0, Sum.inl l0] : List Key) = some (.int ((cnt ds (i0, l0) : Nat) + 1)) := by rw [valV_put, if_pos rfl]
      have r6 := r5.upN (o := .dT (putK kvs ([Sum.inl i0, Sum.inl l0] : List Key) (.int ((cnt ds (i0, l0) : Nat) + 1)))) nL nT
      have m6 := rdm'.upN (o := .dT (putK kvs ([Sum.inl i0, Sum.inl l0] : List Key) (.int ((cnt ds (i0, l0) : Nat) + 1)))) nL nT
      have hb6 := (upd_ne (H := H5) (o := .dT (putK kvs ([Sum.inl i0, Sum.inl l0] : List Key) (.int ((cnt ds (i0, l0) : Nat) + 1)))) bd).trans hbt
      have hl6 := (upd_ne (H := H5) (o := .dT (putK kvs ([Sum.inl i0, Sum.inl l0] : List Key) (.int ((cnt ds (i0, l0) : Nat) + 1)))) ld).trans hl5
      have hd6 : (upd H5 d (.dT (putK kvs ([Sum.inl i0, Sum.inl l0] : List Key) (.int ((cnt ds (i0, l0) : Nat) + 1))))) d = some (.dT (putK kvs ([Sum.inl i0, Sum.inl l0] : List Key) (.int ((cnt ds (i0, l0) : Nat) + 1)))) := upd_same
      have g6 := g5.upd (o := .dT (putK kvs ([Sum.inl i0, Sum.inl l0] : List Key) (.int ((cnt ds (i0, l0) : Nat) + 1)))) pd
      have b6 := b45.later (o := .dT (putK kvs ([Sum.inl i0, Sum.inl l0] : List Key) (.int ((cnt ds (i0, l0) : Nat) + 1)))) fd
      generalize upd H5 d _ = H6 at *
      walk_at "rds"
      refine ⟨.inl ⟨rfl, _, SqL.of hl6⟩, ?_⟩
      walk_at "rds"
      have dg : DGet H6 d (.ref b) (some (.int ((cnt ds (i0, l0) : Nat) + 1))) := vp ▸ DGet.t hd6 hb6
      refine ⟨d, _, rfl, dg, ?_⟩
      walk_at "rds"
      refine ⟨p, c, rfl, g6, fun z2 H7 hz b7 g7 => ?_⟩
      refine ⟨by show 3 ≤ sizeLine; omega, fun t nt => ?_⟩
      have st := same_new nt (.tup [V.ref b, V.int ((cnt ds (i0, l0) : Nat) + 1), V.str z2])
      have hl8 := st _ _ (b7 _ _ hl6 pl.symm)
      have hd8 := st _ _ (b7 _ _ hd6 pd.symm)
      have lw := r4.length
      refine ⟨l, _, _, rfl, rfl, hl8, by omega, ?_⟩
      have tl' : t ≠ l := (ne_of_none (b7 _ _ hl6 pl.symm) nt).symm
      have r8 : Rps p _ (ws ++ [.ref t]) (ds ++ [.tuple [.tuple [.int i0, .int l0], .int ((cnt ds (i0, l0) : Nat) + 1), .str z2]]) :=
        ((r6.mono b7).same st).append (.cons (.tup upd_same (g7.ne nt).symm (by show 3 ≤ 100000; decide) (.cons ((m6.mono b7).same st) (.cons (.int _) (.cons (.str _) .nil)))) .nil)
      have ok8 : ∀ d ∈ ds ++ [.tuple [.tuple [.int i0, .int l0], .int ((cnt ds (i0, l0) : Nat) + 1), .str z2]], NoL d ∧ Her Ok d := fun d hd => by
        rcases List.mem_append.mp hd with hd | hd
        · exact ok4 d hd
        · rw [List.mem_singleton.mp hd]; exact ⟨.three (.two (.int _) (.int _)) (.int _) (.str _), three_her (two_her (.int _) (.int _)) (.int _) (.str hz.ok)⟩
      have msg : isMsg (.int n) (.tuple [.tuple [.int i0, .int l0], .int ((cnt ds (i0, l0) : Nat) + 1), .str z2]) = true := by
        have c1 := cnt_le ds (i0, l0)
        have e1 : isMem (.int n) (.tuple [.int i0, .int l0]) = true := by simp only [isMem, isProc, isInt, Bool.and_eq_true, decide_eq_true_eq]; omega
        have e2 : isInt (.int ((cnt ds (i0, l0) : Nat) + 1)) 1 1000000000000 = true := by simp only [isInt, Bool.and_eq_true, decide_eq_true_eq]; omega
        show (isMem _ _ && isInt _ _ _ && isPay _) = true
        rw [e1, e2, hz.pay]; rfl
      refine ⟨_, ws ++ [.ref t], ds ++ [.tuple [.tuple [.int i0, .int l0], .int ((cnt ds (i0, l0) : Nat) + 1), .str z2]], _, _, rfl, (by rw [upd_ne dl]; exact hd8), upd_same, r8.updL hl8 fun d hd => (ok8 d hd).1, by rw [List.length_append, len4]; rfl, ⟨?_, ?_⟩, ?_, ok8, ((b6.trans b7).new nt).later fl, (g7.new nt).upd pl⟩
      · have := putK_le kvs ([Sum.inl i0, Sum.inl l0] : List Key) (V.int ((cnt ds (i0, l0) : Nat) + 1))
        rw [List.length_append]
        have := L4.1
        show _ ≤ _ + 1
        omega
      · intro i1 l1
        have es : sndK (.tuple [.tuple [.int i0, .int l0], .int ((cnt ds (i0, l0) : Nat) + 1), .str z2]) = (i0, l0) := rfl
        rw [valV_put, cnt_snoc, es]
        by_cases he1 : i1 = i0 ∧ l1 = l0
        · obtain ⟨rfl, rfl⟩ := he1
          rw [if_pos rfl, if_pos rfl]
          rfl
        · rw [if_neg (by intro z; injection z with z1 z2; injection z1 with z1; injection z2 with z2; injection z2 with z2; exact he1 ⟨z1, z2⟩), if_neg (by intro z; injection z with z1 z2; exact he1 ⟨z1.symm, z2.symm⟩)]
          exact L4.2 i1 l1
      · rw [logFrom_snoc, lf4, msg, List.nil_append]
        show (true && (true && decide (((cnt ds (i0, l0) : Nat) : Int) + 1 = (cnt ds (i0, l0) : Nat) + 1))) = true
        rw [decide_eq_true rfl]; rfl
    · rintro σ H4 ⟨kvs, ws, ds, x5, x6, rfl, hd4, hl4, r4, len4, L4, lf4, ok4, b4, g4⟩
      have lw := r4.length
      walk_at "rds"
      refine ⟨l, ws, rfl, .inl ⟨SqL.of hl4, fun a na => ?_⟩⟩
      exact q _ ds _ lf4 (.tup fun d h => (ok4 d h).2) (fun d h => (ok4 d h).1) (by omega) (.tup upd_same (g4.ne na).symm (by omega) (r4.same (same_new na _))) (b4.new na) (g4.new na)
end
end Mus

set_option maxRecDepth 100000
set_option maxHeartbeats 4000000
namespace Mus
open PySem L2 TL PySem.NumText
local macro_rules | `(tactic| walk_at "rd") => `(tactic| first
  | refine ⟨_, rfl, ?_⟩ | refine ⟨(True.intro : True), ?_⟩
  | refine ⟨_, _, rfl, rfl, (⟨by decide, by decide, by decide⟩ : CPow _ _), ?_⟩
  | refine ⟨_, _, rfl, rfl, (⟨by decide, by decide⟩ : CDiv _ _), ?_⟩
  | refine ⟨_, _, rfl, rfl, (by show (0 : Int) < _; decide), ?_⟩
  | refine ⟨_, _, rfl, rfl, ?_⟩ | refine ⟨rfl, ?_⟩ | refine iteT ?_ | refine iteF ?_ | refine ⟨_, _, rfl, ?_⟩ | refine .inl ⟨_, rfl, ?_⟩
  | refine ⟨_, _, _, _, _, rfl, (by assumption), (by assumption), (by assumption), rfl, ?_⟩ | refine ⟨_, _, _, _, rfl, rfl, SqT.of (by assumption), rfl, ?_⟩ | refine ⟨_, _, rfl, SqT.of (by assumption), rfl, ?_⟩
  | refine ⟨_, _, _, _, _, rfl, .ty _, Rp.ty (by assumption), kit_int _, ?_⟩ | refine ⟨_, _, _, _, _, rfl, .ty _, Rp.ty (by assumption), kit_bool _, ?_⟩
  | refine ⟨_, _, _, _, _, rfl, .ty _, Rp.ty (by assumption), kit_str _, ?_⟩ | refine ⟨_, _, _, _, _, rfl, .ty _, Rp.ty (by assumption), kit_tup _, ?_⟩)
local macro_rules | `(tactic| walk_at "cal") => `(tactic| first
  | refine ⟨_, _, _, _, _, rfl, (by assumption), ?_⟩ | refine ⟨_, _, _, _, _, rfl, (by assumption), (by assumption), ?_⟩)
local macro_rules | `(tactic| walk_at "sq") => `(tactic| first
  | refine ⟨_, _, rfl, Or.inr (SqT.of (by assumption)), ?_⟩ | refine ⟨_, _, _, _, rfl, rfl, SqT.of (by assumption), rfl, ?_⟩)
local macro_rules | `(tactic| walk_at "rds") => `(tactic| repeat first | walk_at "rd" | walk_at "cal" | walk_at "sq")
local macro_rules | `(tactic| walk_at "ze") => `(tactic| repeat first
  | exact zes_nil | exact ze_bl | exact ze_str | exact ze_non | apply zes_cons | apply ze_tup | apply ze_lst | apply ze_cat | exact di_c | exact di_v rfl | apply di_opC | apply di_op | apply di_neg | apply ze_i | (refine (⟨?_, ?_, ?_⟩ : CPow _ _) <;> decide) | exact Nat.le_of_ble_eq_true rfl | exact ze_varD rfl (by assumption))
local macro_rules | `(tactic| walk_at "rdz") => `(tactic| repeat (fail_if_success (first | show tLst _ _ _ _ | show tAsg (tLst _) _ _ _ _ | show tSeq (tAsg (tLst _) _) _ _ _ _)); first | walk_at "rd" | walk_at "cal" | walk_at "sq")
section
variable {P : Program} {w : World} {K : PySem.W.Frag} {mg : Str → Option Value} {base : Heap}
def okB (z : Str) : Bool := decide (z.length ≤ 1000) && ((tl z).all prB == decide (10 ∉ tl z))
mutual
def herB : PyData → Bool
  | .str z => okB z
  | .tuple ds => herBs ds
  | .dict _ => false
  | _ => true
def herBs : List PyData → Bool
  | [] => true
  | d :: ds => herB d && herBs ds
end
theorem okB_ok {z : Str} (h : okB z = true) : Ok z := by
  unfold okB at h
  rw [Bool.and_eq_true, decide_eq_true_eq, beq_iff_eq] at h
  exact h
mutual
theorem herB_ok : ∀ {d : PyData}, herB d = true → Her Ok d
  | .none, _ => .non
  | .bool b, _ => .bl b
  | .int i, _ => .int i
  | .str z, h => .str (okB_ok h)
  | .list ds, _ => .lst ds
  | .dict _, h => by cases h
  | .tuple ds, h => .tup (herBs_ok h)
theorem herBs_ok : ∀ {ds : List PyData}, herBs ds = true → ∀ d ∈ ds, Her Ok d
  | [], _, d, hd => by cases hd
  | e :: ds, h, d, hd => by
    have h : (herB e && herBs ds) = true := h
    rw [Bool.and_eq_true] at h
    rcases List.mem_cons.mp hd with h1 | hd
    · rw [h1]; exact herB_ok h.1
    · exact herBs_ok h.2 d hd
end
def repS (n : Nat) (z : Str) : Str := ⟨((List.replicate n (tl z)).flatten).toArray⟩
theorem de_mul {p : Addr} {σ : L2.St} {z : Str} {n : Nat} (h1 : n ≤ 1000 ∧ 1 ≤ z.length ∧ z.length ≤ 1000) : DE p (tOp (fun x y H Q => ∃ (z : Str) (n : Int), x = .str z ∧ y = .int n ∧ 0 ≤ n ∧ n ≤ 1000 ∧ 1 ≤ z.length ∧ z.length ≤ 1000 ∧ ∀ r : Str, TL.tl r = (List.replicate n.toNat (TL.tl z)).flatten → Q (.str r) H) (tC (.str z)) (tC (.int (n : Nat)))) σ (.str (repS n z)) := fun c H Q g q => by
  refine ⟨z, (n : Int), rfl, rfl, by omega, by omega, h1.2.1, h1.2.2, fun r hr => ?_⟩
  have e : r = repS n z := by
    obtain ⟨a⟩ := r
    have hr : a.toList = _ := hr
    have : a = ((List.replicate n (tl z)).flatten).toArray := by rw [← Array.toArray_toList (xs := a), hr]; rfl
    rw [this]; rfl
  rw [e]
  exact q _ H (Same.rfl' H) g (.str _)
theorem de_more (m : Nat) (R : PyData → Prop) {p a : Addr} {n : Nat} {c : Int} {xs : List V} {ds : List PyData} {tb : TA} {σ : L2.St} {H : Hp} {Q : VK} (hv : σ[n]? = some (some (.ref a))) (ha : H a = some (.lst xs)) (r : Rps p H xs ds) (g : Bag p c H)
    (h : ∃ es, DEs p tb σ es ∧ es.length = m ∧ ∀ d ∈ es, R d) (hl : ds.length + m ≤ 1000) (hR : ∀ d ∈ ds, R d) (q : ∀ t ys es H', Same H H' → Bag p c H' → H' t = some (.lst ys) → Rps p H' ys (ds ++ es) → (ds ++ es).length = ds.length + m → (∀ d ∈ ds ++ es, R d) → Q (.ref t) H') : tOp rCat (tVar n) (tLst tb) σ H Q := by
  obtain ⟨es, h1, h2, h3⟩ := h
  refine ⟨_, hv, de_lst (p := p) h1 (by omega) c H _ g fun v H1 s1 g1 r1 => ?_⟩
  obtain _ | _ | _ | _ | @⟨b, ys, _, hb, nb, hr2⟩ | _ := r1
  have l1 := r.length
  have l2 := hr2.length
  have hs := sl
  refine ⟨a, b, xs, ys, rfl, rfl, s1 _ _ ha, hb, by omega, fun t nt => ?_⟩
  have st := same_new nt (.lst (xs ++ ys))
  exact q t _ es _ (s1.trans st) (g1.new nt) upd_same (((r.same s1).append hr2).same st) (by rw [List.length_append, h2]) fun d hd => by
    rcases List.mem_append.mp hd with hd | hd
    · exact hR d hd
    · exact h3 d hd
local macro_rules | `(tactic| walk_at "de") => `(tactic| repeat first
  | exact des_nil | exact de_bl | exact de_str | exact de_non | exact de_mul ⟨by decide, by decide +kernel, by decide +kernel⟩ | apply des_cons | apply de_tup | apply de_lst | apply de_cat | exact di_c | exact di_v rfl | apply di_opC | apply di_op | apply di_neg | apply de_i | (refine (⟨?_, ?_, ?_⟩ : CPow _ _) <;> decide) | exact Nat.le_of_ble_eq_true rfl | exact de_varD rfl (by assumption))
def sp_oddH : Sp := fun vs H Q _ => ∃ (p : Addr) (c n : Int), vs = [.ref p, .int n] ∧ Bag p c H ∧ ∀ v d H', Rp p H' v d → Her Ok d → But p H H' → Bag p c H' → Q v H'
abbrev s__law_odd : Stmt := top 34
abbrev N__law_odd : List Str := ["bag", "count", "odd"]
abbrev P__law_odd : List Str := ["bag", "count"]
theorem sc__law_odd : FnScope N__law_odd P__law_odd (defScope s__law_odd) := ⟨rfl, rfl, rfl, by decide +kernel, rfl, by decide +kernel, by decide +kernel⟩
theorem ok__law_odd {f : Addr} {fd : FuncData} (T : Tx mg) (c__law_draw : DefOk P w K mg base CX0 "_law_draw" P__law_draw 1 (sp_draw))(F : Fun K "_law_odd" "_law_odd" s__law_odd f fd) : FnOk P w K mg base CX0 (2) f fd P__law_odd (sp_oddH) := by
  have nd := sc__law_odd.nd
  refine F.ok sc__law_odd (fun vs H Q E h => ?_) (fun cdv A outer s H vs Q E hr h => ?_)
  · obtain ⟨_, _, _, rfl, _⟩ := h
    rfl
  · obtain ⟨p, c, n, rfl, g, q⟩ := h
    have hu := hu_of hr
    have hs := sl
    refine ⟨_, (pss_cons (ps_set (i := 2) nd rfl (Or.inl rfl) (pe_lst (pa_cons pe_int (pa_cons pe_int (pa_cons pe_int (pa_cons pe_int (pa_cons (pe_un un_neg pe_int) (pa_cons (pe_op op_pow pe_int pe_int) (pa_cons (pe_op op_add (pe_op op_pow pe_int pe_int) pe_int) (pa_cons pe_bl (pa_cons pe_non (pa_cons pe_str (pa_cons (pe_op op_mul_strN pe_str pe_int) (pa_cons (pe_op op_mul_strN pe_str pe_int) (pa_cons pe_str (pa_cons pe_str (pa_cons pe_str (pa_cons (pe_tup pa_nil) (pa_cons (pe_tup (pa_cons pe_int (pa_cons pe_int pa_nil))) pa_nil)))))))))))))))))))
      (pss_cons (ps_set (i := 2) nd rfl (Or.inl rfl) (pe_op op_cat (pv 2) (pe_lst (pa_cons (pe_tup (pa_cons pe_int (pa_cons pe_int pa_nil))) (pa_cons (pe_tup (pa_cons (pv 1) (pa_cons pe_int pa_nil))) (pa_cons (pe_tup (pa_cons (pe_op op_sub (pv 1) pe_int) (pa_cons pe_int pa_nil))) (pa_cons (pe_lst (pa_cons pe_int (pa_cons pe_int pa_nil))) (pa_cons (pe_tup (pa_cons (pe_tup (pa_cons pe_int (pa_cons pe_int pa_nil))) pa_nil)) (pa_cons (pe_tup (pa_cons (pe_tup (pa_cons pe_int (pa_cons pe_int pa_nil))) (pa_cons (pe_tup (pa_cons pe_int (pa_cons pe_int pa_nil))) pa_nil))) (pa_cons (pe_tup (pa_cons pe_int (pa_cons (pe_tup (pa_cons pe_int (pa_cons pe_int pa_nil))) pa_nil))) (pa_cons (pe_tup (pa_cons pe_int (pa_cons (pe_tup (pa_cons pe_int (pa_cons pe_int pa_nil))) pa_nil))) (pa_cons (pe_tup (pa_cons (pe_un un_neg pe_int) (pa_cons (pe_tup (pa_cons pe_int (pa_cons pe_int pa_nil))) pa_nil))) pa_nil))))))))))))
      (pss_cons (ps_set (i := 2) nd rfl (Or.inl rfl) (pe_op op_cat (pv 2) (pe_lst (pa_cons (pe_tup (pa_cons (pe_tup (pa_cons pe_int (pa_cons pe_int pa_nil))) (pa_cons pe_int (pa_cons pe_str pa_nil)))) (pa_cons (pe_tup (pa_cons (pe_tup (pa_cons pe_int (pa_cons pe_int pa_nil))) (pa_cons pe_int (pa_cons pe_str pa_nil)))) (pa_cons (pe_tup (pa_cons (pe_tup (pa_cons (pe_tup (pa_cons pe_int (pa_cons pe_int pa_nil))) (pa_cons pe_int (pa_cons pe_str pa_nil)))) pa_nil)) (pa_cons (pe_tup (pa_cons (pe_tup (pa_cons (pe_tup (pa_cons pe_int (pa_cons pe_int pa_nil))) (pa_cons pe_int (pa_cons pe_str pa_nil)))) pa_nil)) (pa_cons (pe_tup (pa_cons pe_int (pa_cons pe_str pa_nil))) (pa_cons (pe_tup (pa_cons pe_int (pa_cons pe_str pa_nil))) (pa_cons (pe_tup (pa_cons (pe_tup (pa_cons pe_int (pa_cons pe_str pa_nil))) pa_nil)) pa_nil))))))))))
      (pss_cons (ps_set (i := 2) nd rfl (Or.inl rfl) (pe_op op_cat (pv 2) (pe_lst (pa_cons (pe_tup (pa_cons (pe_tup (pa_cons pe_int (pa_cons (pe_tup (pa_cons pe_int (pa_cons pe_int pa_nil))) pa_nil))) (pa_cons (pe_tup pa_nil) pa_nil))) (pa_cons (pe_tup (pa_cons (pe_tup (pa_cons (pe_tup (pa_cons pe_int (pa_cons (pe_tup (pa_cons pe_int (pa_cons pe_int pa_nil))) pa_nil))) (pa_cons (pe_tup pa_nil) pa_nil))) pa_nil)) (pa_cons (pe_lst (pa_cons (pe_tup (pa_cons (pe_tup (pa_cons pe_int (pa_cons pe_int pa_nil))) (pa_cons pe_int (pa_cons pe_str pa_nil)))) pa_nil)) (pa_cons (pe_lst pa_nil) (pa_cons pe_str pa_nil))))))))
      (pss_one (ps_ret (pe_ix ix_list (pv 2) (pcall c__law_draw hr (pa_cons (pv 0) (pa_cons pe_int pa_nil))) (fun _ _ => rfl)))))))), ?_⟩
    show tAsg (tLst _) _ _ _ _
    show tLst _ _ _ _
    refine de_lstN 17 (Her Ok) ⟨_, by walk_at "de", rfl, herBs_ok rfl⟩ (by decide) g fun d1 v H1 l1 k1 s1 g1 r1 => ?_
    obtain _ | _ | _ | _ | @⟨a, xs, _, ha, na, r1⟩ | _ := r1
    show tOp rCat (tVar 2) (tLst _) _ _ _
    refine de_more 9 (Her Ok) rfl ha r1 g1 ⟨_, by walk_at "de", rfl, herBs_ok rfl⟩ (by omega) k1 fun b ys e2 H2 s2 g2 hb r2 l2 k2 => ?_
    show tOp rCat (tVar 2) (tLst _) _ _ _
    refine de_more 7 (Her Ok) rfl hb r2 g2 ⟨_, by walk_at "de", rfl, herBs_ok rfl⟩ (by omega) k2 fun b3 ys3 e3 H3 s3 g3 hb3 r3 l3 k3 => ?_
    show tOp rCat (tVar 2) (tLst _) _ _ _
    refine de_more 5 (Her Ok) rfl hb3 r3 g3 ⟨_, by walk_at "de", rfl, herBs_ok rfl⟩ (by omega) k3 fun b4 ys4 e4 H4 s4 g4 hb4 r4 l4 k4 => ?_
    refine ⟨_, rfl, _, rfl, p, c, _, rfl, g4, by decide, by decide, fun m H5 m0 m1 b5 g5 => ?_⟩
    have hlen := r4.length
    have hlt : m.toNat < ys4.length := by omega
    obtain ⟨d, hd, rd⟩ := (r4.mono b5).at (List.getElem?_eq_getElem hlt)
    have b4p : b4 ≠ p := fun z => by
      obtain ⟨x, y, hp⟩ := g4
      rw [z, hp] at hb4
      have := congrArg (fun o => match o with | some (HO.lst l) => l.length | _ => 0) hb4
      simp at this
      omega
    refine ⟨b4, _, _, _, rfl, rfl, SqL.of (b5 _ _ hb4 b4p), at_int m0 (List.getElem?_eq_getElem hlt), ?_⟩
    exact q _ d _ rd (k4 d (List.mem_of_getElem? hd)) ((But.of (s1.trans (s2.trans (s3.trans s4)))).trans b5) g5
end
end Mus

set_option maxRecDepth 100000
set_option maxHeartbeats 4000000
namespace Mus
open PySem L2 TL PySem.NumText
local macro_rules | `(tactic| walk_at "rd") => `(tactic| first
  | refine ⟨_, rfl, ?_⟩ | refine ⟨(True.intro : True), ?_⟩
  | refine ⟨_, _, rfl, rfl, (⟨by decide, by decide, by decide⟩ : CPow _ _), ?_⟩
  | refine ⟨_, _, rfl, rfl, (⟨by decide, by decide⟩ : CDiv _ _), ?_⟩
  | refine ⟨_, _, rfl, rfl, (by show (0 : Int) < _; decide), ?_⟩
  | refine ⟨_, _, rfl, rfl, ?_⟩ | refine ⟨rfl, ?_⟩ | refine iteT ?_ | refine iteF ?_ | refine ⟨_, _, rfl, ?_⟩ | refine .inl ⟨_, rfl, ?_⟩
  | refine ⟨_, _, _, _, _, rfl, (by assumption), (by assumption), (by assumption), rfl, ?_⟩ | refine ⟨_, _, _, _, rfl, rfl, SqT.of (by assumption), rfl, ?_⟩ | refine ⟨_, _, rfl, SqT.of (by assumption), rfl, ?_⟩
  | refine ⟨_, _, _, _, _, rfl, .ty _, Rp.ty (by assumption), kit_int _, ?_⟩ | refine ⟨_, _, _, _, _, rfl, .ty _, Rp.ty (by assumption), kit_bool _, ?_⟩
  | refine ⟨_, _, _, _, _, rfl, .ty _, Rp.ty (by assumption), kit_str _, ?_⟩ | refine ⟨_, _, _, _, _, rfl, .ty _, Rp.ty (by assumption), kit_tup _, ?_⟩)
local macro_rules | `(tactic| walk_at "cal") => `(tactic| first
  | refine ⟨_, _, _, _, _, rfl, (by assumption), ?_⟩ | refine ⟨_, _, _, _, _, rfl, (by assumption), (by assumption), ?_⟩)
local macro_rules | `(tactic| walk_at "sq") => `(tactic| first
  | refine ⟨_, _, rfl, Or.inr (SqT.of (by assumption)), ?_⟩ | refine ⟨_, _, _, _, rfl, rfl, SqT.of (by assumption), rfl, ?_⟩)
local macro_rules | `(tactic| walk_at "rds") => `(tactic| repeat first | walk_at "rd" | walk_at "cal" | walk_at "sq")
local macro_rules | `(tactic| walk_at "ze") => `(tactic| repeat first
  | exact zes_nil | exact ze_bl | exact ze_str | exact ze_non | apply zes_cons | apply ze_tup | apply ze_lst | apply ze_cat | exact di_c | exact di_v rfl | apply di_opC | apply di_op | apply di_neg | apply ze_i | (refine (⟨?_, ?_, ?_⟩ : CPow _ _) <;> decide) | exact Nat.le_of_ble_eq_true rfl | exact ze_varD rfl (by assumption))
local macro_rules | `(tactic| walk_at "rdz") => `(tactic| repeat (fail_if_success (first | show tLst _ _ _ _ | show tAsg (tLst _) _ _ _ _ | show tSeq (tAsg (tLst _) _) _ _ _ _)); first | walk_at "rd" | walk_at "cal" | walk_at "sq")
def sp_law (K : PySem.W.Frag) : Sp := fun vs H Q _ => ∃ (a : Addr) (ns : List Int), vs = [.ref a] ∧ SqL K H a (ns.map V.int) ∧ ns.length ≤ 63 ∧ ∀ H', Q (.bl true) H'
theorem fit_pair (n : Nat) (i j : Int) : fit (n + 1) (.tuple [.int i, .int j]) := ⟨by simp, fun e he => by
    rcases List.mem_cons.mp he with rfl | he
    · cases n <;> exact True.intro
    · rw [List.mem_singleton.mp he]; cases n <;> exact True.intro⟩
theorem fit_pend {n : Nat} {k : Int} {zs : List Str} (h : zs.length ≤ 8) : fit (n + 2) (.tuple (pendD k zs)) := ⟨by rw [pendD_len]; omega, fun d hd => by
    obtain ⟨i, z, _, rfl⟩ := pendD_mem hd
    refine ⟨by simp, fun e he => ?_⟩
    rcases List.mem_cons.mp he with rfl | he
    · cases n <;> exact True.intro
    · rw [List.mem_singleton.mp he]; cases n <;> exact True.intro⟩
theorem fit_log {n : Nat} {c : PyData} {ds : List PyData} (h : logFrom c [] ds = true) (hl : ds.length ≤ 2999) : fit (n + 3) (.tuple ds) := ⟨by omega, fun d hd => by
    obtain ⟨i, l, k, z, rfl, _⟩ := isMsg_int (logFrom_all h d hd)
    refine ⟨by simp, fun e he => ?_⟩
    rcases List.mem_cons.mp he with rfl | he
    · exact fit_pair _ _ _
    · rcases List.mem_cons.mp he with rfl | he
      · exact True.intro
      · rw [List.mem_singleton.mp he]; exact True.intro⟩
theorem lay_bools (a b : Bool) : SeqAt.shaped (.list [.bool a, .bool b]) = true ∧ PyData.eqv (.list [.bool a, .bool b]) (.list [.bool a, .bool b]) = true := by
  constructor
  · simp [SeqAt.shaped, PyData.canLay0, PyData.canLayAll0, PyData.depth, PyData.depthAll]
  · simp [PyData.eqv, PyData.eqvAll]
def msgA : PyData := .tuple [.tuple [.tuple [.int 0, .int 1], .int 1, .str "a"]]
section
variable {P : Program} {w : World} {K : PySem.W.Frag} {mg : Str → Option Value} {base : Heap}
def mk_spoilt (T : Tx mg) (aV : DefAt K mg "_law_spoilt" P__law_spoilt s__law_spoilt) (c__law_draw : DefOk P w K mg base CX0 "_law_draw" P__law_draw 1 (sp_draw)) : ∀ n : Nat, DefOk P w K mg base CX0 "_law_spoilt" P__law_spoilt (1 + n + 1) (sp_spoilt n)
  | 0 =>
    let t : DefOk P w K mg base CX0 "_law_spoilt" P__law_spoilt (1 + 0) (spv sp_spoilt 0) := aV.ok fun _ => no_call (by
      rintro vs H Q E ⟨m, h, _⟩
      omega)
    aV.ok fun F => ok__law_spoilt T c__law_draw t F
  | n + 1 =>
    let r := mk_spoilt T aV c__law_draw n
    let t : DefOk P w K mg base CX0 "_law_spoilt" P__law_spoilt (1 + (n + 1)) (spv sp_spoilt (n + 1)) := ⟨r.f, r.fd, r.G.imp (by
      rintro vs H Q E ⟨m, h, q⟩
      have e : n = m := by omega
      subst e
      exact q), r.m, r.kp, r.b⟩
    aV.ok fun F => ok__law_spoilt T c__law_draw t F
abbrev s_law : Stmt := top 36
abbrev N_law : List Str := ["script", "k", "bag", "count", "members", "log", "member", "values", "value", "actual", "due"]
abbrev P_law : List Str := ["script"]
theorem sc_law : FnScope N_law P_law (defScope s_law) := ⟨rfl, rfl, rfl, by decide +kernel, rfl, by decide +kernel, by decide +kernel⟩
theorem ok_law {f : Addr} {fd : FuncData} (T : Tx mg) (c__law_bag : DefOk P w K mg base CX0 "_law_bag" P__law_bag 1 (sp_bag K)) (c__law_draw : DefOk P w K mg base CX0 "_law_draw" P__law_draw 1 (sp_draw)) (c__law_positive : DefOk P w K mg base CX0 "_law_positive" P__law_positive 2 (sp_pos)) (c__law_members : DefOk P w K mg base CX0 "_law_members" P__law_members 3 (sp_mems)) (c__law_log : DefOk P w K mg base CX0 "_law_log" P__law_log 3 (sp_log)) (c__law_pending : DefOk P w K mg base CX0 "_law_pending" P__law_pending 3 (sp_pend)) (c__law_odd : DefOk P w K mg base CX0 "_law_odd" P__law_odd 2 (sp_oddH)) (c__law_spoilt : DefOk P w K mg base CX0 "_law_spoilt" P__law_spoilt 5 (sp_spoilt 3)) (c__law_last_right : DefOk P w K mg base CX0 "_law_last_right" P__law_last_right 2 (sp_lright)) (c_is_log : DefOk P w K mg base CX0 "is_log" P_is_log 5 (spHS2 isLog)) (c_is_pending : DefOk P w K mg base CX0 "is_pending" P_is_pending 5 (spHS1 isPend)) (c__law_is_log : DefOk P w K mg base CX0 "_law_is_log" P__law_is_log 4 (spNS isLog)) (c__law_is_pending : DefOk P w K mg base CX0 "_law_is_pending" P__law_is_pending 2 (spHS1 isPend))(F : Fun K "law" "law" s_law f fd) : FnOk P w K mg base CX0 (20) f fd P_law (sp_law K) := by
  have nd := sc_law.nd
  refine F.ok sc_law (fun vs H Q E h => ?_) (fun cdv A outer s H vs Q E hr h => ?_)
  · obtain ⟨_, _, rfl, _⟩ := h
    rfl
  · obtain ⟨a, ns, rfl, hS, h63, q⟩ := h
    have hs := sl
    refine ⟨_, (pss_cons (ps_for PassesOwn.never rfl (pi_range1 (by rfl) T.b_range (pa_cons (pe_callB (call_max2 rfl) (by rfl) T.b_max (by decide +kernel) (pa_cons pe_int (pa_cons (pe_callB (call_min2 rfl) (by rfl) T.b_min (by decide +kernel) (pa_cons pe_int (pa_cons (pe_callB call_len_seq (by rfl) T.b_len (by decide +kernel) (pa_cons (pv 0) pa_nil)) pa_nil))) pa_nil))) pa_nil)) (pg_name (i := 1) nd rfl (Or.inl rfl))
        (pss_cons (ps_set (i := 2) nd rfl (Or.inl rfl) (pcall c__law_bag hr (pa_cons (pv 0) (pa_cons (pv 1) pa_nil))))
        (pss_cons (ps_set (i := 3) nd rfl (Or.inl rfl) (pe_op op_add pe_int (pcall c__law_draw hr (pa_cons (pv 2) (pa_cons pe_int pa_nil)))))
        (pss_cons (ps_set (i := 4) nd rfl (Or.inl rfl) (pcall c__law_members hr (pa_cons (pv 2) (pa_cons (pv 3) pa_nil))))
        (pss_cons (ps_set (i := 5) nd rfl (Or.inl rfl) (pcall c__law_log hr (pa_cons (pv 2) (pa_cons (pv 4) pa_nil))))
        (pss_cons (ps_for PassesOwn.never rfl (pi_tup (pe_op op_catA (pv 4) (pe_tup (pa_cons (pe_tup (pa_cons (pe_ix ix_tup (pe_ix ix_tup (pv 4) pe_int (fun _ _ => rfl)) pe_int (fun _ _ => rfl)) (pa_cons (pe_op op_add (pe_op op_mod (pe_ix ix_tup (pe_ix ix_tup (pv 4) pe_int (fun _ _ => rfl)) pe_int (fun _ _ => rfl)) (pe_op op_pow pe_int pe_int)) pe_int) pa_nil))) pa_nil)))) (pg_name (i := 6) nd rfl (Or.inl rfl))
          (pss_one (ps_if (pt_not (pt_val (pcall c__law_last_right hr (pa_cons (pv 5) (pa_cons (pv 6) pa_nil)))))
            (pss_one (ps_ret pe_bl))
            pss_nil)))
        (pss_cons (ps_set (i := 7) nd rfl (Or.inl rfl) (pe_lst (pa_cons (pv 5) (pa_cons (pcall c__law_pending hr (pa_cons (pv 2) (pa_cons (pcall c__law_positive hr (pa_cons (pv 2) pa_nil)) pa_nil))) (pa_cons (pcall c__law_pending hr (pa_cons (pv 2) (pa_cons (pe_op op_sub (pe_op op_pow pe_int pe_int) (pcall c__law_draw hr (pa_cons (pv 2) (pa_cons pe_int pa_nil)))) pa_nil))) pa_nil)))))
        (pss_cons (ps_for PassesOwn.never rfl (pi_list (pv 7)) (pg_name (i := 8) nd rfl (Or.inl rfl))
          (C8.pss_cut (ps_if (pt_cmpR op_gt (pcall c__law_draw hr (pa_cons (pv 2) (pa_cons pe_int pa_nil))) pe_int (nomark _))
            (pss_one (ps_set (i := 8) nd rfl (Or.inl rfl) (pcall c__law_spoilt hr (pa_cons (pv 2) (pa_cons (pv 8) (pa_cons (pcall c__law_odd hr (pa_cons (pv 2) (pa_cons (pv 3) pa_nil))) pa_nil))))))
            pss_nil)
          (pss_cons (ps_set (i := 9) nd rfl (Or.inl rfl) (pe_lst (pa_cons (pcall c_is_log hr (pa_cons (pv 3) (pa_cons (pv 8) pa_nil))) (pa_cons (pcall c_is_pending hr (pa_cons (pv 8) pa_nil)) pa_nil))))
          (pss_cons (ps_set (i := 10) nd rfl (Or.inl rfl) (pe_lst (pa_cons (pcall c__law_is_log hr (pa_cons (pv 3) (pa_cons (pv 8) pa_nil))) (pa_cons (pcall c__law_is_pending hr (pa_cons (pv 8) pa_nil)) pa_nil))))
          (pss_one (ps_if (PW.pt (pw_or (pt_not (pt_val (pe_callB call_isi (by rfl) T.b_isinstance (by decide +kernel) (pa_cons (pe_ix ix_list (pv 9) pe_int (fun _ _ => rfl)) (pa_cons (pe_ty "bool" T.b_bool) pa_nil))))) (pw_or (pt_not (pt_val (pe_callB call_isi (by rfl) T.b_isinstance (by decide +kernel) (pa_cons (pe_ix ix_list (pv 9) pe_int (fun _ _ => rfl)) (pa_cons (pe_ty "bool" T.b_bool) pa_nil))))) (pw_or1 (pt_cmpR (op_neD hr.units) (pv 9) (pv 10) (nomark _))))))
            (pss_one (ps_ret pe_bl))
            pss_nil))))))
        (pss_one (ps_if (pt_cmpR op_isnot_bl (pcall c_is_log hr (pa_cons (pe_ix ix_list (pe_lst (pa_cons pe_int (pa_cons pe_int (pa_cons pe_bl (pa_cons pe_non (pa_cons pe_str pa_nil)))))) (pcall c__law_draw hr (pa_cons (pv 2) (pa_cons pe_int pa_nil))) (fun _ _ => rfl)) (pa_cons (pe_tup (pa_cons (pe_tup (pa_cons (pe_tup (pa_cons pe_int (pa_cons pe_int pa_nil))) (pa_cons pe_int (pa_cons pe_str pa_nil)))) pa_nil)) pa_nil))) pe_bl (nomark _))
          (pss_one (ps_ret pe_bl))
          pss_nil))))))))))
      (pss_one (ps_ret pe_bl))), ?_⟩
    have hl : (ns.map V.int).length = ns.length := List.length_map _
    have hj : ∀ L : Int, 0 ≤ L → 0 ≤ (if (if L < 16 then L else 16) > 1 then (if L < 16 then L else 16) else 1) ∧ (if (if L < 16 then L else 16) > 1 then (if L < 16 then L else 16) else 1) ≤ 16 := by
      intro L h
      split <;> split <;> omega
    have hj' := hj (((ns.map V.int).length : Nat) : Int) (by omega)
    walk_at "rds"
    refine ⟨a, _, rfl, .inl hS, ?_⟩
    refine ⟨_, _, rfl, ?_⟩
    refine ⟨_, _, rfl, ?_⟩
    refine ⟨_, rfl, by omega, by omega, for_range (lo := 0) (fun i σ H' => ∃ (x1 x2 x3 x4 x5 x6 x7 x8 x9 x10 : Option V), σ = [some (.ref a), x1, x2, x3, x4, x5, x6, x7, x8, x9, x10] ∧ Same H H') ⟨_, _, _, _, _, _, _, _, _, _, rfl, Same.rfl' H⟩ ?_ ?_⟩
    · rintro i σ H1 hi ⟨x1, x2, x3, x4, x5, x6, x7, x8, x9, x10, rfl, sH⟩
      refine ⟨_, rfl, _, rfl, a, ns, i, (by show [V.ref a, V.int (0 + (i : Int))] = _; rw [Int.zero_add]), sH.seq hS, fun p H2 np s2 g2 => ?_⟩
      refine ⟨_, rfl, p, _, 12, rfl, g2, by decide, by decide, fun r3 H3 r30 r31 b3 g3 => ?_⟩
      walk_at "rds"
      have n0 : (0 : Int) < 1 + r3 := by omega
      refine ⟨p, _, 1 + r3, rfl, g3, n0, by omega, fun a8 H8 ds8 d8 m8 c80 c81 b8 g8 => ?_⟩
      refine ⟨_, rfl, _, rfl, p, _, 1 + r3, .ref a8, ds8, rfl, g8, d8, m8, by omega, by omega, (fun z => by rw [z] at c80; cases c80), by omega, fun v9 ds9 H9 lf9 hh9 nl9 le9 r9 b9 g9 => ?_⟩
      have d9 := d8.mono b9
      obtain ⟨dm, rest, rfl⟩ : ∃ dm rest, ds8 = dm :: rest := by
        cases ds8 with
        | nil => cases c80
        | cons x y => exact ⟨x, y, rfl⟩
      obtain ⟨i0, l0, rfl, q0, q1, q2, q3⟩ := m8 dm List.mem_cons_self
      obtain _ | _ | _ | _ | _ | @⟨_, xs8, _, h8, na8, hw8, hr8⟩ := id d9
      obtain _ | @⟨x0, xs8', _, _, hx0, hr8'⟩ := hr8
      obtain _ | _ | _ | _ | _ | @⟨b0, ys0, _, hb0, nb0, hwb0, hrb0⟩ := hx0
      obtain _ | ⟨hy1, _ | ⟨hy2, hn⟩⟩ := hrb0
      cases hn
      cases hy1
      cases hy2
      have z8 : atI (V.ref b0 :: xs8') 0 = some (.ref b0) := at_int (by decide) rfl
      walk_at "rds"
      refine ⟨a8, _, _, _, rfl, rfl, SqT.of h8, z8, ?_⟩
      walk_at "rds"
      refine ⟨a8, _, _, _, rfl, rfl, SqT.of h8, z8, ?_⟩
      walk_at "rds"
      refine ⟨by show 2 ≤ sizeLine; omega, fun t1 n1 => ?_⟩
      have s1 := same_new n1 (.tup [V.int i0, V.int (l0 % 10 ^ Int.toNat 12 + 1)])
      refine ⟨by show 1 ≤ sizeLine; omega, fun t2 n2 => ?_⟩
      have s2' := same_new n2 (.tup [V.ref t1])
      have g2' := (g9.new (o := .tup [V.int i0, V.int (l0 % 10 ^ Int.toNat 12 + 1)]) n1).new (o := .tup [V.ref t1]) n2
      have q2 : Rp p (upd (upd H9 t1 (.tup [V.int i0, V.int (l0 % 10 ^ Int.toNat 12 + 1)])) t2 (.tup [V.ref t1])) (.ref t2) (.tuple [.tuple [.int i0, .int (l0 % 10 ^ Int.toNat 12 + 1)]]) :=
        .tup upd_same ((g9.new n1).ne n2).symm (by show 1 ≤ 100000; decide) (.cons (.tup (s2' _ _ upd_same) (g9.ne n1).symm (by show 2 ≤ 100000; decide) (.cons (.int _) (.cons (.int _) .nil))) .nil)
      have ss := s1.trans s2'
      have d10 := d9.same ss
      have r10 := r9.same ss
      have b10 := (b3.trans (b8.trans b9)).trans (But.of ss (p := p))
      generalize upd (upd H9 t1 _) t2 _ = H10 at *
      refine rd_cat d10 q2 g2' (by rw [List.length_cons] at c81; rw [List.length_cons]; show _ + 1 + 1 ≤ _; omega) fun t3 H11 s11 g11 r11 => ?_
      have r9' := r10.same s11
      obtain _ | _ | _ | _ | _ | @⟨_, ys, _, hy, ny, wy, ry⟩ := id r11
      refine ⟨t3, rfl, ⟨_, SqT.of hy⟩, for_tup (K := K) (a := t3) (xs := ys) (fun j σ H' => ∃ x6 : Option V, σ = [some (.ref a), some (.int (0 + (i : Int))), some (.ref p), some (.int (1 + r3)), some (.ref a8), some v9, x6, x7, x8, x9, x10] ∧ Same H11 H') ⟨_, rfl, Same.rfl' _⟩ ?_ ?_ ?_⟩
      · rintro j σ H' _ ⟨x6, rfl, s⟩
        exact SqT.of (s _ _ hy)
      · rintro j x σ H12 hx ⟨x6, rfl, s12⟩
        obtain ⟨d, hd, rd⟩ := ry.at hx
        have hd2 : ∃ i l : Int, d = .tuple [.int i, .int l] := by
          have hd := List.mem_of_getElem? hd
          rcases List.mem_append.mp hd with hd | hd
          · obtain ⟨i, l, e, _⟩ := m8 d hd
            exact ⟨i, l, e⟩
          · exact ⟨_, _, List.mem_singleton.mp hd⟩
        obtain ⟨i1, l1, rfl⟩ := hd2
        walk_at "rds"
        refine ⟨p, v9, x, ds9, i1, l1, 1 + r3, rfl, r9'.same s12, rd.same s12, lf9, by omega, fun H13 s13 => ?_⟩
        walk_at "rds"
        exact s12.trans s13
      rintro σ H12 ⟨x6, rfl, s12⟩
      have r12 := r9'.same s12
      have g12 := g11.same s12
      walk_at "rds"
      refine ⟨p, _, rfl, g12, fun l13 H13 l130 l131 b13 g13 => ?_⟩
      walk_at "rds"
      refine ⟨p, _, l13, rfl, g13, fun v14 zs14 H14 ok14 le14 r14 b14 g14 => ?_⟩
      walk_at "rds"
      refine ⟨p, _, _, rfl, g14, by decide, by decide, fun m15 H15 m150 m151 b15 g15 => ?_⟩
      walk_at "rds"
      refine ⟨p, _, _, rfl, g15, fun v16 zs16 H16 ok16 le16 r16 b16 g16 => ?_⟩
      refine ⟨by show 3 ≤ sizeLine; omega, fun t17 n17 => ?_⟩
      have s17 := same_new n17 (.lst [v9, v14, v16])
      have R17 : Rps p _ [v9, v14, v16] [.tuple ds9, .tuple (pendD l13 zs14), .tuple (pendD (10 ^ Int.toNat 12 - m15) zs16)] :=
        .cons ((r12.mono (b13.trans (b14.trans (b15.trans b16)))).same s17) (.cons ((r14.mono (b15.trans b16)).same s17) (.cons (r16.same s17) .nil))
      have P17 : ∀ d ∈ [PyData.tuple ds9, .tuple (pendD l13 zs14), .tuple (pendD (10 ^ Int.toNat 12 - m15) zs16)], Her Ok d ∧ fit 3 d := by
        intro d hd
        simp only [List.mem_cons, List.not_mem_nil, or_false] at hd
        rcases hd with rfl | rfl | rfl
        · exact ⟨hh9, fit_log lf9 (by omega)⟩
        · exact ⟨pendD_her ok14, fit_pend le14⟩
        · exact ⟨pendD_her ok16, fit_pend le16⟩
      have h17 : (upd H16 t17 (.lst [v9, v14, v16])) t17 = some (.lst [v9, v14, v16]) := upd_same
      have p17 : t17 ≠ p := (g16.ne n17).symm
      have g17 := g16.new (o := .lst [v9, v14, v16]) n17
      have bb := ((b10.trans (But.of (s11.trans s12))).trans (b13.trans (b14.trans (b15.trans b16)))).trans (But.of s17)
      generalize upd H16 t17 _ = H17 at *
      have same_of : ∀ H', But p H2 H' → Same H H' := fun H' b c o h => b c o (s2 c o (sH c o h)) (ne_of_none (sH c o h) np)
      refine ⟨_, rfl, t17, rfl, ⟨_, SqL.of h17⟩, for_list (K := K) (a := t17) (xs := [v9, v14, v16]) (fun j σ H' => ∃ (x8 x9 x10 : Option V), σ = [some (.ref a), some (.int (0 + (i : Int))), some (.ref p), some (.int (1 + r3)), some (.ref a8), some v9, x6, some (.ref t17), x8, x9, x10] ∧ But p H17 H' ∧ Bag p i H') ⟨_, _, _, rfl, But.refl _ _, g17⟩ ?_ ?_ ?_⟩
      · rintro j σ H' _ ⟨_, _, _, rfl, b, _⟩
        exact SqL.of (b _ _ h17 p17)
      · rintro j x σ H18 hx ⟨x8, x9, x10, rfl, b18, g18⟩
        obtain ⟨d, hd, rd⟩ := R17.at hx
        obtain ⟨hh, hf⟩ := P17 d (List.mem_of_getElem? hd)
        have rd := rd.mono b18
        refine ⟨fun σ' H' => ∃ (v : V) (dv : PyData), σ' = [some (.ref a), some (.int (0 + (i : Int))), some (.ref p), some (.int (1 + r3)), some (.ref a8), some v9, x6, some (.ref t17), some v, x9, x10] ∧ Rp p H' v dv ∧ Her Ok dv ∧ But p H18 H' ∧ Bag p i H', ?_, ?_⟩
        · walk_at "rds"
          refine ⟨p, _, 3, rfl, g18, by decide, by decide, fun r19 H19 _ _ b19 g19 => ?_⟩
          walk_at "rds"
          refine iB (fun _ => ?_) (fun _ => ?_)
          · walk_at "rds"
            refine ⟨p, _, _, rfl, g19, fun v20 d20 H20 rv20 hh20 b20 g20 => ?_⟩
            refine ⟨p, _, x, v20, d, d20, rfl, g20, (rd.mono b19).mono b20, rv20, hf, fun v21 d21 H21 r21 hh21 b21 g21 => ?_⟩
            exact ⟨_, _, rfl, r21, hh21 _ hh hh20, b19.trans (b20.trans b21), g21⟩
          · exact ⟨_, _, rfl, rd.mono b19, hh, b19, g19⟩
        rintro _ H19 ⟨v, dv, rfl, rv, hv, b19, g19⟩
        walk_at "rds"
        refine ⟨p, .int (1 + r3), v, .int (1 + r3), dv, rfl, .int _, rv, hv, fun H20 s20 => ?_⟩
        walk_at "rds"
        refine ⟨p, v, dv, rfl, rv.same s20, hv, fun H21 s21 => ?_⟩
        refine ⟨by show 2 ≤ sizeLine; omega, fun t22 n22 => ?_⟩
        have s22 := same_new n22 (.lst [V.bl (isLog (.int (1 + r3)) dv), .bl (isPend dv)])
        have s02 := s20.trans (s21.trans s22)
        walk_at "rds"
        refine ⟨p, _, 1 + r3, v, dv, rfl, g19.same s02, rv.same s02, hv, by omega, by omega, fun H23 s23 => ?_⟩
        walk_at "rds"
        refine ⟨p, v, dv, rfl, (rv.same s02).same s23, hv, fun H24 s24 => ?_⟩
        refine ⟨by show 2 ≤ sizeLine; omega, fun t25 n25 => ?_⟩
        have s25 := same_new n25 (.lst [V.bl (isLog (.int (1 + r3)) dv), .bl (isPend dv)])
        have h22 := s25 _ _ (s24 _ _ (s23 _ _ upd_same))
        obtain ⟨y1, y2⟩ := lay_bools (isLog (.int (1 + r3)) dv) (isPend dv)
        have dpb : DpAll K (upd H24 t25 (.lst [V.bl (isLog (.int (1 + r3)) dv), .bl (isPend dv)])) [V.bl (isLog (.int (1 + r3)) dv), .bl (isPend dv)] [.bool (isLog (.int (1 + r3)) dv), .bool (isPend dv)] := .cons (.bl _) (.cons (.bl _) .nil)
        walk_at "rds"
        refine ⟨t22, _, _, _, rfl, rfl, SqL.of h22, rfl, ?_⟩
        walk_at "rds"
        refine ⟨_, _, _, _, true, rfl, .ty _, .base (.bl _), kit_ty (by decide +kernel), ?_⟩
        walk_at "rds"
        refine ⟨t22, _, _, _, rfl, rfl, SqL.of h22, rfl, ?_⟩
        walk_at "rds"
        refine ⟨_, _, _, _, true, rfl, .ty _, .base (.bl _), kit_ty (by decide +kernel), ?_⟩
        walk_at "rds"
        refine ⟨.list [.bool (isLog (.int (1 + r3)) dv), .bool (isPend dv)], .list [.bool (isLog (.int (1 + r3)) dv), .bool (isPend dv)], .lst (SqL.of h22) dpb, .lst (SqL.of upd_same) dpb, y1, y1, ?_⟩
        rw [y2]
        walk_at "rds"
        exact ⟨_, _, _, rfl, b18.trans (b19.trans (But.of (s02.trans (s23.trans (s24.trans s25))))), g19.same (s02.trans (s23.trans (s24.trans s25)))⟩
      rintro σ H18 ⟨x8, x9, x10, rfl, b18, g18⟩
      have b18' := bb.trans b18
      refine ⟨by show 5 ≤ sizeLine; omega, fun t26 n26 => ?_⟩
      have s26 := same_new n26 (.lst [V.int 0, V.int 13, V.bl true, V.non, V.str "2"])
      walk_at "rds"
      refine ⟨p, _, 5, rfl, g18.new n26, by decide, by decide, fun m H27 m0 m1 b27 g27 => ?_⟩
      have h26 := b27 t26 _ upd_same (g18.ne n26).symm
      obtain ⟨v, c, hv1, hv2, hv3⟩ : ∃ (v : V) (c : PyData), atI [V.int 0, V.int 13, V.bl true, V.non, V.str "2"] m = some v ∧ (∀ H, Rp p H v c) ∧ isLog c msgA = false := by
        have hm : m = 0 ∨ m = 1 ∨ m = 2 ∨ m = 3 ∨ m = 4 := by omega
        rcases hm with rfl | rfl | rfl | rfl | rfl
        · exact ⟨_, .int 0, rfl, fun _ => .int _, rfl⟩
        · exact ⟨_, .int 13, rfl, fun _ => .int _, rfl⟩
        · exact ⟨_, .bool true, rfl, fun _ => .bl _, rfl⟩
        · exact ⟨_, .none, rfl, fun _ => .non, rfl⟩
        · exact ⟨_, .str "2", rfl, fun _ => .str _, rfl⟩
      refine ⟨t26, _, _, v, rfl, rfl, SqL.of h26, hv1, ?_⟩
      refine ⟨by show 2 ≤ sizeLine; omega, fun u1 m1' => ?_⟩
      have z1 := same_new m1' (.tup [V.int 0, V.int 1])
      refine ⟨by show 3 ≤ sizeLine; omega, fun u2 m2 => ?_⟩
      have z2 := same_new m2 (.tup [V.ref u1, V.int 1, V.str "a"])
      refine ⟨by show 1 ≤ sizeLine; omega, fun u3 m3 => ?_⟩
      have z3 := same_new m3 (.tup [V.ref u2])
      have G1 := g27.new (o := .tup [V.int 0, V.int 1]) m1'
      have G2 := G1.new (o := .tup [V.ref u1, V.int 1, V.str "a"]) m2
      have G3 := G2.new (o := .tup [V.ref u2]) m3
      have w1 := rp_tup (ds := [.int 0, .int 1]) g27 m1' (.cons (.int _) (.cons (.int _) .nil))
      have w2 := rp_tup (ds := [.tuple [.int 0, .int 1], .int 1, .str "a"]) G1 m2 (.cons w1 (.cons (.int _) (.cons (.str _) .nil)))
      have w3 : Rp p _ (.ref u3) msgA := rp_tup G2 m3 (.cons w2 .nil)
      have w0 := same_of _ ((b18'.trans (But.of s26)).trans (b27.trans (But.of (z1.trans (z2.trans z3)))))
      refine ⟨p, v, .ref u3, c, msgA, rfl, hv2 _, w3, herB_ok rfl, fun H30 s30 => ?_⟩
      rw [hv3]
      walk_at "rds"
      exact ⟨_, _, _, _, _, _, _, _, _, _, rfl, w0.trans s30⟩
    · rintro σ H' ⟨x1, x2, x3, x4, x5, x6, x7, x8, x9, x10, rfl, sH⟩
      exact q _
end
end Mus

set_option maxRecDepth 100000
set_option maxHeartbeats 4000000
namespace Mus
open PySem L2
def at_mk {K : PySem.W.Frag} {h : Heap} {mg : Str → Option Value} {x : Str} {ps : List Str} {st : Stmt} {f : Addr} {oc : Value} {od an : Option Addr} {osl : Array (Option Value)} {kV dc pm cd ct : Value} (X : K.In h) (G : h.Ns mainGlobals mg) (a : PySem.W.nsIn K mainGlobals x = some (some (.ref f)))
    (l : K.lookup f = some ⟨oc, od, .func (PySem.W.fnOf x x (defArgs st) (defBody st) (defScope st) .none kV dc pm an cd ct), osl⟩) (c : PySem.W.codeIn K cd x = true) (k : PySem.W.keepIn K (.ref f) = true)
    (hb : ∀ (kV doc pm : Value) (an : Option Addr) (cdv ct : Value) (us : List Value), us.length = ps.length → bindArgs (PySem.W.fnOf x x (defArgs st) (defBody st) (defScope st) .none kV doc pm an cdv ct) ⟨us, []⟩ = pure (ps.zip us)) : DefAt K mg x ps st :=
  ⟨f, _, fun_mk (st := st) l c k, PySem.W.mg_of X G a, (fun_mk (st := st) l c k).binds hb⟩
theorem walk_ofX {l : PySem.W.OpenLaw} {n k : Nat} {q : Program} {loose : List Str} {XP : (Str → Option Value) → Heap → Prop} {YP : World → Heap → Prop} {d : DefRec} {K : Params → PySem.W.Frag} {sp : World → Sp} {x : Str}
    (most : l.most = some n) (few : n ≤ sizeLine) (nod : d.params.defaults = []) (room : Room k callerA) (kin : ∀ (w : World) (h : Heap), YP w h → (K w.params).In h)
    (F : ∀ (w : World) (mg : Str → Option Value) (at1 : Addr) (h : Heap), (K w.params).In h → h.Ns mainGlobals mg → XP mg h → mg d.name = some (.ref at1) →
      ∃ fd : FuncData, (∀ (s : Shared) (u : Value), BindsTo s fd ⟨[u], []⟩ [(x, u)]) ∧ ∀ base : Heap, (K w.params).In base → base.Ns mainGlobals mg → FnOk l.prog w (K w.params) mg base CX0 k at1 fd [x] (sp w))
    (hsp : ∀ (w : World) (H : Hp) (a : Addr) (ns : List Int), ns.length ≤ n → Only H → SqL (K w.params) H a (ns.map V.int) → sp w [.ref a] H (fun v _ => v = .bl true) fun _ _ _ => False) :
    PySem.W.WalkO q loose XP YP l.row.toRowW d [] (fun f vs => PySem.call f vs) := by
  refine Att.attach_call most nod fun w sb sc mg mB at1 o pm1 cd1 doc1 a vs ns G Y ho1 hd1 hc1 hm1 ob1 in1 ln1 hg1 => ?_
  have inK := kin w _ Y
  obtain ⟨fd, bnd, pr⟩ := F w mg at1 _ inK G.T.g G.X hm1
  exact law_call inK G.T.g G.T.b G.T.builtins G.T.nolimit hg1 ob1 in1 (Nat.le_trans ln1 few) room pr bnd (fun H hO hS => hsp w H a ns ln1 hO hS) fun H e s' z => z
theorem loose_int {n : Str} {i : Int} {mg : Str → Option Value} {h : Heap} (x : PySem.W.LooseAre [(n, PySem.W.WData.int i)] mg h) : ∃ t, mg n = some (.int i t) := by
  obtain ⟨v, h1, h2⟩ := x.val _ (List.mem_singleton.mpr rfl)
  cases h2
  exact ⟨_, h1⟩
theorem all_mk {l : PySem.W.OpenLaw} {w : World} {K : PySem.W.Frag} {h : Heap} {mg : Str → Option Value} {fa : Addr} (X : K.In h) (G : h.Ns mainGlobals mg) (hfa : mg "law" = some (.ref fa)) (hL0 : ∃ t, mg "MOST_NUMBER" = some (.int 1000000000000 t))
    {odx_is_printable anx_is_printable : Option Addr} {slx_is_printable : Array (Option Value)} {ocx_is_printable kVx_is_printable dcx_is_printable pmx_is_printable cdx_is_printable ctx_is_printable : Value} {fx_is_printable : Addr}
    {odx__is_printable_character anx__is_printable_character : Option Addr} {slx__is_printable_character : Array (Option Value)} {ocx__is_printable_character kVx__is_printable_character dcx__is_printable_character pmx__is_printable_character cdx__is_printable_character ctx__is_printable_character : Value} {fx__is_printable_character : Addr}
    {odx_is_integer anx_is_integer : Option Addr} {slx_is_integer : Array (Option Value)} {ocx_is_integer kVx_is_integer dcx_is_integer pmx_is_integer cdx_is_integer ctx_is_integer : Value} {fx_is_integer : Addr}
    {odx_is_process anx_is_process : Option Addr} {slx_is_process : Array (Option Value)} {ocx_is_process kVx_is_process dcx_is_process pmx_is_process cdx_is_process ctx_is_process : Value} {fx_is_process : Addr}
    {odx_is_member anx_is_member : Option Addr} {slx_is_member : Array (Option Value)} {ocx_is_member kVx_is_member dcx_is_member pmx_is_member cdx_is_member ctx_is_member : Value} {fx_is_member : Addr}
    {odx_is_payload anx_is_payload : Option Addr} {slx_is_payload : Array (Option Value)} {ocx_is_payload kVx_is_payload dcx_is_payload pmx_is_payload cdx_is_payload ctx_is_payload : Value} {fx_is_payload : Addr}
    {odx_is_message anx_is_message : Option Addr} {slx_is_message : Array (Option Value)} {ocx_is_message kVx_is_message dcx_is_message pmx_is_message cdx_is_message ctx_is_message : Value} {fx_is_message : Addr}
    {odx_is_log anx_is_log : Option Addr} {slx_is_log : Array (Option Value)} {ocx_is_log kVx_is_log dcx_is_log pmx_is_log cdx_is_log ctx_is_log : Value} {fx_is_log : Addr}
    {odx_last_index anx_last_index : Option Addr} {slx_last_index : Array (Option Value)} {ocx_last_index kVx_last_index dcx_last_index pmx_last_index cdx_last_index ctx_last_index : Value} {fx_last_index : Addr}
    {odx_is_pending anx_is_pending : Option Addr} {slx_is_pending : Array (Option Value)} {ocx_is_pending kVx_is_pending dcx_is_pending pmx_is_pending cdx_is_pending ctx_is_pending : Value} {fx_is_pending : Addr}
    {odx__is_pending_cast anx__is_pending_cast : Option Addr} {slx__is_pending_cast : Array (Option Value)} {ocx__is_pending_cast kVx__is_pending_cast dcx__is_pending_cast pmx__is_pending_cast cdx__is_pending_cast ctx__is_pending_cast : Value} {fx__is_pending_cast : Addr}
    {odx__law_bag anx__law_bag : Option Addr} {slx__law_bag : Array (Option Value)} {ocx__law_bag kVx__law_bag dcx__law_bag pmx__law_bag cdx__law_bag ctx__law_bag : Value} {fx__law_bag : Addr}
    {odx__law_draw anx__law_draw : Option Addr} {slx__law_draw : Array (Option Value)} {ocx__law_draw kVx__law_draw dcx__law_draw pmx__law_draw cdx__law_draw ctx__law_draw : Value} {fx__law_draw : Addr}
    {odx__law_is_int anx__law_is_int : Option Addr} {slx__law_is_int : Array (Option Value)} {ocx__law_is_int kVx__law_is_int dcx__law_is_int pmx__law_is_int cdx__law_is_int ctx__law_is_int : Value} {fx__law_is_int : Addr}
    {odx__law_positive anx__law_positive : Option Addr} {slx__law_positive : Array (Option Value)} {ocx__law_positive kVx__law_positive dcx__law_positive pmx__law_positive cdx__law_positive ctx__law_positive : Value} {fx__law_positive : Addr}
    {odx__law_members anx__law_members : Option Addr} {slx__law_members : Array (Option Value)} {ocx__law_members kVx__law_members dcx__law_members pmx__law_members cdx__law_members ctx__law_members : Value} {fx__law_members : Addr}
    {odx__law_payload anx__law_payload : Option Addr} {slx__law_payload : Array (Option Value)} {ocx__law_payload kVx__law_payload dcx__law_payload pmx__law_payload cdx__law_payload ctx__law_payload : Value} {fx__law_payload : Addr}
    {odx__law_log anx__law_log : Option Addr} {slx__law_log : Array (Option Value)} {ocx__law_log kVx__law_log dcx__law_log pmx__law_log cdx__law_log ctx__law_log : Value} {fx__law_log : Addr}
    {odx__law_pending anx__law_pending : Option Addr} {slx__law_pending : Array (Option Value)} {ocx__law_pending kVx__law_pending dcx__law_pending pmx__law_pending cdx__law_pending ctx__law_pending : Value} {fx__law_pending : Addr}
    {odx__law_count anx__law_count : Option Addr} {slx__law_count : Array (Option Value)} {ocx__law_count kVx__law_count dcx__law_count pmx__law_count cdx__law_count ctx__law_count : Value} {fx__law_count : Addr}
    {odx__law_is_member anx__law_is_member : Option Addr} {slx__law_is_member : Array (Option Value)} {ocx__law_is_member kVx__law_is_member dcx__law_is_member pmx__law_is_member cdx__law_is_member ctx__law_is_member : Value} {fx__law_is_member : Addr}
    {odx__law_is_payload anx__law_is_payload : Option Addr} {slx__law_is_payload : Array (Option Value)} {ocx__law_is_payload kVx__law_is_payload dcx__law_is_payload pmx__law_is_payload cdx__law_is_payload ctx__law_is_payload : Value} {fx__law_is_payload : Addr}
    {odx__law_is_message anx__law_is_message : Option Addr} {slx__law_is_message : Array (Option Value)} {ocx__law_is_message kVx__law_is_message dcx__law_is_message pmx__law_is_message cdx__law_is_message ctx__law_is_message : Value} {fx__law_is_message : Addr}
    {odx__law_is_log anx__law_is_log : Option Addr} {slx__law_is_log : Array (Option Value)} {ocx__law_is_log kVx__law_is_log dcx__law_is_log pmx__law_is_log cdx__law_is_log ctx__law_is_log : Value} {fx__law_is_log : Addr}
    {odx__law_is_pending anx__law_is_pending : Option Addr} {slx__law_is_pending : Array (Option Value)} {ocx__law_is_pending kVx__law_is_pending dcx__law_is_pending pmx__law_is_pending cdx__law_is_pending ctx__law_is_pending : Value} {fx__law_is_pending : Addr}
    {odx__law_spoilt anx__law_spoilt : Option Addr} {slx__law_spoilt : Array (Option Value)} {ocx__law_spoilt kVx__law_spoilt dcx__law_spoilt pmx__law_spoilt cdx__law_spoilt ctx__law_spoilt : Value} {fx__law_spoilt : Addr}
    {odx__law_odd anx__law_odd : Option Addr} {slx__law_odd : Array (Option Value)} {ocx__law_odd kVx__law_odd dcx__law_odd pmx__law_odd cdx__law_odd ctx__law_odd : Value} {fx__law_odd : Addr}
    {odx__law_last_right anx__law_last_right : Option Addr} {slx__law_last_right : Array (Option Value)} {ocx__law_last_right kVx__law_last_right dcx__law_last_right pmx__law_last_right cdx__law_last_right ctx__law_last_right : Value} {fx__law_last_right : Addr}
    {odx_law anx_law : Option Addr} {slx_law : Array (Option Value)} {ocx_law kVx_law dcx_law pmx_law cdx_law ctx_law : Value} {fx_law : Addr}
    {t_REFUSED_CODE : Tok}
    {tMOST_PROCESSES : Tok}
    {tMOST_PAYLOAD : Tok}
    (ax_is_printable : PySem.W.nsIn K mainGlobals "is_printable" = some (some (.ref fx_is_printable)))
    (lx_is_printable : K.lookup fx_is_printable = some ⟨ocx_is_printable, odx_is_printable, .func (PySem.W.fnOf "is_printable" "is_printable" (defArgs s_is_printable) (defBody s_is_printable) (defScope s_is_printable) .none kVx_is_printable dcx_is_printable pmx_is_printable anx_is_printable cdx_is_printable ctx_is_printable), slx_is_printable⟩)
    (cx_is_printable : PySem.W.codeIn K cdx_is_printable "is_printable" = true)
    (kx_is_printable : PySem.W.keepIn K (.ref fx_is_printable) = true)
    (ax__is_printable_character : PySem.W.nsIn K mainGlobals "_is_printable_character" = some (some (.ref fx__is_printable_character)))
    (lx__is_printable_character : K.lookup fx__is_printable_character = some ⟨ocx__is_printable_character, odx__is_printable_character, .func (PySem.W.fnOf "_is_printable_character" "_is_printable_character" (defArgs s__is_printable_character) (defBody s__is_printable_character) (defScope s__is_printable_character) .none kVx__is_printable_character dcx__is_printable_character pmx__is_printable_character anx__is_printable_character cdx__is_printable_character ctx__is_printable_character), slx__is_printable_character⟩)
    (cx__is_printable_character : PySem.W.codeIn K cdx__is_printable_character "_is_printable_character" = true)
    (kx__is_printable_character : PySem.W.keepIn K (.ref fx__is_printable_character) = true)
    (ax_is_integer : PySem.W.nsIn K mainGlobals "is_integer" = some (some (.ref fx_is_integer)))
    (lx_is_integer : K.lookup fx_is_integer = some ⟨ocx_is_integer, odx_is_integer, .func (PySem.W.fnOf "is_integer" "is_integer" (defArgs s_is_integer) (defBody s_is_integer) (defScope s_is_integer) .none kVx_is_integer dcx_is_integer pmx_is_integer anx_is_integer cdx_is_integer ctx_is_integer), slx_is_integer⟩)
    (cx_is_integer : PySem.W.codeIn K cdx_is_integer "is_integer" = true)
    (kx_is_integer : PySem.W.keepIn K (.ref fx_is_integer) = true)
    (ax_is_process : PySem.W.nsIn K mainGlobals "is_process" = some (some (.ref fx_is_process)))
    (lx_is_process : K.lookup fx_is_process = some ⟨ocx_is_process, odx_is_process, .func (PySem.W.fnOf "is_process" "is_process" (defArgs s_is_process) (defBody s_is_process) (defScope s_is_process) .none kVx_is_process dcx_is_process pmx_is_process anx_is_process cdx_is_process ctx_is_process), slx_is_process⟩)
    (cx_is_process : PySem.W.codeIn K cdx_is_process "is_process" = true)
    (kx_is_process : PySem.W.keepIn K (.ref fx_is_process) = true)
    (ax_is_member : PySem.W.nsIn K mainGlobals "is_member" = some (some (.ref fx_is_member)))
    (lx_is_member : K.lookup fx_is_member = some ⟨ocx_is_member, odx_is_member, .func (PySem.W.fnOf "is_member" "is_member" (defArgs s_is_member) (defBody s_is_member) (defScope s_is_member) .none kVx_is_member dcx_is_member pmx_is_member anx_is_member cdx_is_member ctx_is_member), slx_is_member⟩)
    (cx_is_member : PySem.W.codeIn K cdx_is_member "is_member" = true)
    (kx_is_member : PySem.W.keepIn K (.ref fx_is_member) = true)
    (ax_is_payload : PySem.W.nsIn K mainGlobals "is_payload" = some (some (.ref fx_is_payload)))
    (lx_is_payload : K.lookup fx_is_payload = some ⟨ocx_is_payload, odx_is_payload, .func (PySem.W.fnOf "is_payload" "is_payload" (defArgs s_is_payload) (defBody s_is_payload) (defScope s_is_payload) .none kVx_is_payload dcx_is_payload pmx_is_payload anx_is_payload cdx_is_payload ctx_is_payload), slx_is_payload⟩)
    (cx_is_payload : PySem.W.codeIn K cdx_is_payload "is_payload" = true)
    (kx_is_payload : PySem.W.keepIn K (.ref fx_is_payload) = true)
    (ax_is_message : PySem.W.nsIn K mainGlobals "is_message" = some (some (.ref fx_is_message)))
    (lx_is_message : K.lookup fx_is_message = some ⟨ocx_is_message, odx_is_message, .func (PySem.W.fnOf "is_message" "is_message" (defArgs s_is_message) (defBody s_is_message) (defScope s_is_message) .none kVx_is_message dcx_is_message pmx_is_message anx_is_message cdx_is_message ctx_is_message), slx_is_message⟩)
    (cx_is_message : PySem.W.codeIn K cdx_is_message "is_message" = true)
    (kx_is_message : PySem.W.keepIn K (.ref fx_is_message) = true)
    (ax_is_log : PySem.W.nsIn K mainGlobals "is_log" = some (some (.ref fx_is_log)))
    (lx_is_log : K.lookup fx_is_log = some ⟨ocx_is_log, odx_is_log, .func (PySem.W.fnOf "is_log" "is_log" (defArgs s_is_log) (defBody s_is_log) (defScope s_is_log) .none kVx_is_log dcx_is_log pmx_is_log anx_is_log cdx_is_log ctx_is_log), slx_is_log⟩)
    (cx_is_log : PySem.W.codeIn K cdx_is_log "is_log" = true)
    (kx_is_log : PySem.W.keepIn K (.ref fx_is_log) = true)
    (ax_last_index : PySem.W.nsIn K mainGlobals "last_index" = some (some (.ref fx_last_index)))
    (lx_last_index : K.lookup fx_last_index = some ⟨ocx_last_index, odx_last_index, .func (PySem.W.fnOf "last_index" "last_index" (defArgs s_last_index) (defBody s_last_index) (defScope s_last_index) .none kVx_last_index dcx_last_index pmx_last_index anx_last_index cdx_last_index ctx_last_index), slx_last_index⟩)
    (cx_last_index : PySem.W.codeIn K cdx_last_index "last_index" = true)
    (kx_last_index : PySem.W.keepIn K (.ref fx_last_index) = true)
    (ax_is_pending : PySem.W.nsIn K mainGlobals "is_pending" = some (some (.ref fx_is_pending)))
    (lx_is_pending : K.lookup fx_is_pending = some ⟨ocx_is_pending, odx_is_pending, .func (PySem.W.fnOf "is_pending" "is_pending" (defArgs s_is_pending) (defBody s_is_pending) (defScope s_is_pending) .none kVx_is_pending dcx_is_pending pmx_is_pending anx_is_pending cdx_is_pending ctx_is_pending), slx_is_pending⟩)
    (cx_is_pending : PySem.W.codeIn K cdx_is_pending "is_pending" = true)
    (kx_is_pending : PySem.W.keepIn K (.ref fx_is_pending) = true)
    (ax__is_pending_cast : PySem.W.nsIn K mainGlobals "_is_pending_cast" = some (some (.ref fx__is_pending_cast)))
    (lx__is_pending_cast : K.lookup fx__is_pending_cast = some ⟨ocx__is_pending_cast, odx__is_pending_cast, .func (PySem.W.fnOf "_is_pending_cast" "_is_pending_cast" (defArgs s__is_pending_cast) (defBody s__is_pending_cast) (defScope s__is_pending_cast) .none kVx__is_pending_cast dcx__is_pending_cast pmx__is_pending_cast anx__is_pending_cast cdx__is_pending_cast ctx__is_pending_cast), slx__is_pending_cast⟩)
    (cx__is_pending_cast : PySem.W.codeIn K cdx__is_pending_cast "_is_pending_cast" = true)
    (kx__is_pending_cast : PySem.W.keepIn K (.ref fx__is_pending_cast) = true)
    (ax__law_bag : PySem.W.nsIn K mainGlobals "_law_bag" = some (some (.ref fx__law_bag)))
    (lx__law_bag : K.lookup fx__law_bag = some ⟨ocx__law_bag, odx__law_bag, .func (PySem.W.fnOf "_law_bag" "_law_bag" (defArgs s__law_bag) (defBody s__law_bag) (defScope s__law_bag) .none kVx__law_bag dcx__law_bag pmx__law_bag anx__law_bag cdx__law_bag ctx__law_bag), slx__law_bag⟩)
    (cx__law_bag : PySem.W.codeIn K cdx__law_bag "_law_bag" = true)
    (kx__law_bag : PySem.W.keepIn K (.ref fx__law_bag) = true)
    (ax__law_draw : PySem.W.nsIn K mainGlobals "_law_draw" = some (some (.ref fx__law_draw)))
    (lx__law_draw : K.lookup fx__law_draw = some ⟨ocx__law_draw, odx__law_draw, .func (PySem.W.fnOf "_law_draw" "_law_draw" (defArgs s__law_draw) (defBody s__law_draw) (defScope s__law_draw) .none kVx__law_draw dcx__law_draw pmx__law_draw anx__law_draw cdx__law_draw ctx__law_draw), slx__law_draw⟩)
    (cx__law_draw : PySem.W.codeIn K cdx__law_draw "_law_draw" = true)
    (kx__law_draw : PySem.W.keepIn K (.ref fx__law_draw) = true)
    (ax__law_is_int : PySem.W.nsIn K mainGlobals "_law_is_int" = some (some (.ref fx__law_is_int)))
    (lx__law_is_int : K.lookup fx__law_is_int = some ⟨ocx__law_is_int, odx__law_is_int, .func (PySem.W.fnOf "_law_is_int" "_law_is_int" (defArgs s__law_is_int) (defBody s__law_is_int) (defScope s__law_is_int) .none kVx__law_is_int dcx__law_is_int pmx__law_is_int anx__law_is_int cdx__law_is_int ctx__law_is_int), slx__law_is_int⟩)
    (cx__law_is_int : PySem.W.codeIn K cdx__law_is_int "_law_is_int" = true)
    (kx__law_is_int : PySem.W.keepIn K (.ref fx__law_is_int) = true)
    (ax__law_positive : PySem.W.nsIn K mainGlobals "_law_positive" = some (some (.ref fx__law_positive)))
    (lx__law_positive : K.lookup fx__law_positive = some ⟨ocx__law_positive, odx__law_positive, .func (PySem.W.fnOf "_law_positive" "_law_positive" (defArgs s__law_positive) (defBody s__law_positive) (defScope s__law_positive) .none kVx__law_positive dcx__law_positive pmx__law_positive anx__law_positive cdx__law_positive ctx__law_positive), slx__law_positive⟩)
    (cx__law_positive : PySem.W.codeIn K cdx__law_positive "_law_positive" = true)
    (kx__law_positive : PySem.W.keepIn K (.ref fx__law_positive) = true)
    (ax__law_members : PySem.W.nsIn K mainGlobals "_law_members" = some (some (.ref fx__law_members)))
    (lx__law_members : K.lookup fx__law_members = some ⟨ocx__law_members, odx__law_members, .func (PySem.W.fnOf "_law_members" "_law_members" (defArgs s__law_members) (defBody s__law_members) (defScope s__law_members) .none kVx__law_members dcx__law_members pmx__law_members anx__law_members cdx__law_members ctx__law_members), slx__law_members⟩)
    (cx__law_members : PySem.W.codeIn K cdx__law_members "_law_members" = true)
    (kx__law_members : PySem.W.keepIn K (.ref fx__law_members) = true)
    (ax__law_payload : PySem.W.nsIn K mainGlobals "_law_payload" = some (some (.ref fx__law_payload)))
    (lx__law_payload : K.lookup fx__law_payload = some ⟨ocx__law_payload, odx__law_payload, .func (PySem.W.fnOf "_law_payload" "_law_payload" (defArgs s__law_payload) (defBody s__law_payload) (defScope s__law_payload) .none kVx__law_payload dcx__law_payload pmx__law_payload anx__law_payload cdx__law_payload ctx__law_payload), slx__law_payload⟩)
    (cx__law_payload : PySem.W.codeIn K cdx__law_payload "_law_payload" = true)
    (kx__law_payload : PySem.W.keepIn K (.ref fx__law_payload) = true)
    (ax__law_log : PySem.W.nsIn K mainGlobals "_law_log" = some (some (.ref fx__law_log)))
    (lx__law_log : K.lookup fx__law_log = some ⟨ocx__law_log, odx__law_log, .func (PySem.W.fnOf "_law_log" "_law_log" (defArgs s__law_log) (defBody s__law_log) (defScope s__law_log) .none kVx__law_log dcx__law_log pmx__law_log anx__law_log cdx__law_log ctx__law_log), slx__law_log⟩)
    (cx__law_log : PySem.W.codeIn K cdx__law_log "_law_log" = true)
    (kx__law_log : PySem.W.keepIn K (.ref fx__law_log) = true)
    (ax__law_pending : PySem.W.nsIn K mainGlobals "_law_pending" = some (some (.ref fx__law_pending)))
    (lx__law_pending : K.lookup fx__law_pending = some ⟨ocx__law_pending, odx__law_pending, .func (PySem.W.fnOf "_law_pending" "_law_pending" (defArgs s__law_pending) (defBody s__law_pending) (defScope s__law_pending) .none kVx__law_pending dcx__law_pending pmx__law_pending anx__law_pending cdx__law_pending ctx__law_pending), slx__law_pending⟩)
    (cx__law_pending : PySem.W.codeIn K cdx__law_pending "_law_pending" = true)
    (kx__law_pending : PySem.W.keepIn K (.ref fx__law_pending) = true)
    (ax__law_count : PySem.W.nsIn K mainGlobals "_law_count" = some (some (.ref fx__law_count)))
    (lx__law_count : K.lookup fx__law_count = some ⟨ocx__law_count, odx__law_count, .func (PySem.W.fnOf "_law_count" "_law_count" (defArgs s__law_count) (defBody s__law_count) (defScope s__law_count) .none kVx__law_count dcx__law_count pmx__law_count anx__law_count cdx__law_count ctx__law_count), slx__law_count⟩)
    (cx__law_count : PySem.W.codeIn K cdx__law_count "_law_count" = true)
    (kx__law_count : PySem.W.keepIn K (.ref fx__law_count) = true)
    (ax__law_is_member : PySem.W.nsIn K mainGlobals "_law_is_member" = some (some (.ref fx__law_is_member)))
    (lx__law_is_member : K.lookup fx__law_is_member = some ⟨ocx__law_is_member, odx__law_is_member, .func (PySem.W.fnOf "_law_is_member" "_law_is_member" (defArgs s__law_is_member) (defBody s__law_is_member) (defScope s__law_is_member) .none kVx__law_is_member dcx__law_is_member pmx__law_is_member anx__law_is_member cdx__law_is_member ctx__law_is_member), slx__law_is_member⟩)
    (cx__law_is_member : PySem.W.codeIn K cdx__law_is_member "_law_is_member" = true)
    (kx__law_is_member : PySem.W.keepIn K (.ref fx__law_is_member) = true)
    (ax__law_is_payload : PySem.W.nsIn K mainGlobals "_law_is_payload" = some (some (.ref fx__law_is_payload)))
    (lx__law_is_payload : K.lookup fx__law_is_payload = some ⟨ocx__law_is_payload, odx__law_is_payload, .func (PySem.W.fnOf "_law_is_payload" "_law_is_payload" (defArgs s__law_is_payload) (defBody s__law_is_payload) (defScope s__law_is_payload) .none kVx__law_is_payload dcx__law_is_payload pmx__law_is_payload anx__law_is_payload cdx__law_is_payload ctx__law_is_payload), slx__law_is_payload⟩)
    (cx__law_is_payload : PySem.W.codeIn K cdx__law_is_payload "_law_is_payload" = true)
    (kx__law_is_payload : PySem.W.keepIn K (.ref fx__law_is_payload) = true)
    (ax__law_is_message : PySem.W.nsIn K mainGlobals "_law_is_message" = some (some (.ref fx__law_is_message)))
    (lx__law_is_message : K.lookup fx__law_is_message = some ⟨ocx__law_is_message, odx__law_is_message, .func (PySem.W.fnOf "_law_is_message" "_law_is_message" (defArgs s__law_is_message) (defBody s__law_is_message) (defScope s__law_is_message) .none kVx__law_is_message dcx__law_is_message pmx__law_is_message anx__law_is_message cdx__law_is_message ctx__law_is_message), slx__law_is_message⟩)
    (cx__law_is_message : PySem.W.codeIn K cdx__law_is_message "_law_is_message" = true)
    (kx__law_is_message : PySem.W.keepIn K (.ref fx__law_is_message) = true)
    (ax__law_is_log : PySem.W.nsIn K mainGlobals "_law_is_log" = some (some (.ref fx__law_is_log)))
    (lx__law_is_log : K.lookup fx__law_is_log = some ⟨ocx__law_is_log, odx__law_is_log, .func (PySem.W.fnOf "_law_is_log" "_law_is_log" (defArgs s__law_is_log) (defBody s__law_is_log) (defScope s__law_is_log) .none kVx__law_is_log dcx__law_is_log pmx__law_is_log anx__law_is_log cdx__law_is_log ctx__law_is_log), slx__law_is_log⟩)
    (cx__law_is_log : PySem.W.codeIn K cdx__law_is_log "_law_is_log" = true)
    (kx__law_is_log : PySem.W.keepIn K (.ref fx__law_is_log) = true)
    (ax__law_is_pending : PySem.W.nsIn K mainGlobals "_law_is_pending" = some (some (.ref fx__law_is_pending)))
    (lx__law_is_pending : K.lookup fx__law_is_pending = some ⟨ocx__law_is_pending, odx__law_is_pending, .func (PySem.W.fnOf "_law_is_pending" "_law_is_pending" (defArgs s__law_is_pending) (defBody s__law_is_pending) (defScope s__law_is_pending) .none kVx__law_is_pending dcx__law_is_pending pmx__law_is_pending anx__law_is_pending cdx__law_is_pending ctx__law_is_pending), slx__law_is_pending⟩)
    (cx__law_is_pending : PySem.W.codeIn K cdx__law_is_pending "_law_is_pending" = true)
    (kx__law_is_pending : PySem.W.keepIn K (.ref fx__law_is_pending) = true)
    (ax__law_spoilt : PySem.W.nsIn K mainGlobals "_law_spoilt" = some (some (.ref fx__law_spoilt)))
    (lx__law_spoilt : K.lookup fx__law_spoilt = some ⟨ocx__law_spoilt, odx__law_spoilt, .func (PySem.W.fnOf "_law_spoilt" "_law_spoilt" (defArgs s__law_spoilt) (defBody s__law_spoilt) (defScope s__law_spoilt) .none kVx__law_spoilt dcx__law_spoilt pmx__law_spoilt anx__law_spoilt cdx__law_spoilt ctx__law_spoilt), slx__law_spoilt⟩)
    (cx__law_spoilt : PySem.W.codeIn K cdx__law_spoilt "_law_spoilt" = true)
    (kx__law_spoilt : PySem.W.keepIn K (.ref fx__law_spoilt) = true)
    (ax__law_odd : PySem.W.nsIn K mainGlobals "_law_odd" = some (some (.ref fx__law_odd)))
    (lx__law_odd : K.lookup fx__law_odd = some ⟨ocx__law_odd, odx__law_odd, .func (PySem.W.fnOf "_law_odd" "_law_odd" (defArgs s__law_odd) (defBody s__law_odd) (defScope s__law_odd) .none kVx__law_odd dcx__law_odd pmx__law_odd anx__law_odd cdx__law_odd ctx__law_odd), slx__law_odd⟩)
    (cx__law_odd : PySem.W.codeIn K cdx__law_odd "_law_odd" = true)
    (kx__law_odd : PySem.W.keepIn K (.ref fx__law_odd) = true)
    (ax__law_last_right : PySem.W.nsIn K mainGlobals "_law_last_right" = some (some (.ref fx__law_last_right)))
    (lx__law_last_right : K.lookup fx__law_last_right = some ⟨ocx__law_last_right, odx__law_last_right, .func (PySem.W.fnOf "_law_last_right" "_law_last_right" (defArgs s__law_last_right) (defBody s__law_last_right) (defScope s__law_last_right) .none kVx__law_last_right dcx__law_last_right pmx__law_last_right anx__law_last_right cdx__law_last_right ctx__law_last_right), slx__law_last_right⟩)
    (cx__law_last_right : PySem.W.codeIn K cdx__law_last_right "_law_last_right" = true)
    (kx__law_last_right : PySem.W.keepIn K (.ref fx__law_last_right) = true)
    (ax_law : PySem.W.nsIn K mainGlobals "law" = some (some (.ref fx_law)))
    (lx_law : K.lookup fx_law = some ⟨ocx_law, odx_law, .func (PySem.W.fnOf "law" "law" (defArgs s_law) (defBody s_law) (defScope s_law) .none kVx_law dcx_law pmx_law anx_law cdx_law ctx_law), slx_law⟩)
    (cx_law : PySem.W.codeIn K cdx_law "law" = true)
    (kx_law : PySem.W.keepIn K (.ref fx_law) = true)
    (v_REFUSED_CODE : PySem.W.nsIn K mainGlobals "_REFUSED_CODE" = some (some (.int 37 t_REFUSED_CODE)))
    (vMOST_PROCESSES : PySem.W.nsIn K mainGlobals "MOST_PROCESSES" = some (some (.int 12 tMOST_PROCESSES)))
    (vMOST_PAYLOAD : PySem.W.nsIn K mainGlobals "MOST_PAYLOAD" = some (some (.int 30 tMOST_PAYLOAD)))
    (zlen : PySem.W.nsIn K mainGlobals "len" = some none)
    (zisinstance : PySem.W.nsIn K mainGlobals "isinstance" = some none)
    (zint : PySem.W.nsIn K mainGlobals "int" = some none)
    (zbool : PySem.W.nsIn K mainGlobals "bool" = some none)
    (zstr : PySem.W.nsIn K mainGlobals "str" = some none)
    (ztuple : PySem.W.nsIn K mainGlobals "tuple" = some none)
    (zrange : PySem.W.nsIn K mainGlobals "range" = some none)
    (zmin : PySem.W.nsIn K mainGlobals "min" = some none)
    (zmax : PySem.W.nsIn K mainGlobals "max" = some none)
    (zsorted : PySem.W.nsIn K mainGlobals "sorted" = some none)
    (zord : PySem.W.nsIn K mainGlobals "ord" = some none)
    (zenumerate : PySem.W.nsIn K mainGlobals "enumerate" = some none) :
    ∃ fd : FuncData, (∀ (s : Shared) (v : Value), BindsTo s fd ⟨[v], []⟩ [("script", v)]) ∧ ∀ base : Heap, K.In base → base.Ns mainGlobals mg → FnOk l.prog w K mg base CX0 20 fa fd ["script"] (sp_law K) := by
  have e := hfa.symm.trans (PySem.W.mg_of X G ax_law)
  cases e
  have T : Tx mg := {
    b_len := PySem.W.mg_none_of X G zlen
    b_isinstance := PySem.W.mg_none_of X G zisinstance
    b_int := PySem.W.mg_none_of X G zint
    b_bool := PySem.W.mg_none_of X G zbool
    b_str := PySem.W.mg_none_of X G zstr
    b_tuple := PySem.W.mg_none_of X G ztuple
    b_range := PySem.W.mg_none_of X G zrange
    b_min := PySem.W.mg_none_of X G zmin
    b_max := PySem.W.mg_none_of X G zmax
    b_sorted := PySem.W.mg_none_of X G zsorted
    b_ord := PySem.W.mg_none_of X G zord
    b_enumerate := PySem.W.mg_none_of X G zenumerate
    c__REFUSED_CODE := ⟨_, PySem.W.mg_of X G v_REFUSED_CODE⟩
    c_MOST_PROCESSES := ⟨_, PySem.W.mg_of X G vMOST_PROCESSES⟩
    c_MOST_PAYLOAD := ⟨_, PySem.W.mg_of X G vMOST_PAYLOAD⟩
    c_MOST_NUMBER := hL0 }
  let a_is_printable : DefAt K mg "is_printable" P_is_printable s_is_printable := at_mk X G ax_is_printable lx_is_printable cx_is_printable kx_is_printable fun _ _ _ _ _ _ us hl => match us, hl with | [_], _ => rfl
  let a__is_printable_character : DefAt K mg "_is_printable_character" P__is_printable_character s__is_printable_character := at_mk X G ax__is_printable_character lx__is_printable_character cx__is_printable_character kx__is_printable_character fun _ _ _ _ _ _ us hl => match us, hl with | [_], _ => rfl
  let a_is_integer : DefAt K mg "is_integer" P_is_integer s_is_integer := at_mk X G ax_is_integer lx_is_integer cx_is_integer kx_is_integer fun _ _ _ _ _ _ us hl => match us, hl with | [_, _, _], _ => rfl
  let a_is_process : DefAt K mg "is_process" P_is_process s_is_process := at_mk X G ax_is_process lx_is_process cx_is_process kx_is_process fun _ _ _ _ _ _ us hl => match us, hl with | [_, _], _ => rfl
  let a_is_member : DefAt K mg "is_member" P_is_member s_is_member := at_mk X G ax_is_member lx_is_member cx_is_member kx_is_member fun _ _ _ _ _ _ us hl => match us, hl with | [_, _], _ => rfl
  let a_is_payload : DefAt K mg "is_payload" P_is_payload s_is_payload := at_mk X G ax_is_payload lx_is_payload cx_is_payload kx_is_payload fun _ _ _ _ _ _ us hl => match us, hl with | [_], _ => rfl
  let a_is_message : DefAt K mg "is_message" P_is_message s_is_message := at_mk X G ax_is_message lx_is_message cx_is_message kx_is_message fun _ _ _ _ _ _ us hl => match us, hl with | [_, _], _ => rfl
  let a_is_log : DefAt K mg "is_log" P_is_log s_is_log := at_mk X G ax_is_log lx_is_log cx_is_log kx_is_log fun _ _ _ _ _ _ us hl => match us, hl with | [_, _], _ => rfl
  let a_last_index : DefAt K mg "last_index" P_last_index s_last_index := at_mk X G ax_last_index lx_last_index cx_last_index kx_last_index fun _ _ _ _ _ _ us hl => match us, hl with | [_, _], _ => rfl
  let a_is_pending : DefAt K mg "is_pending" P_is_pending s_is_pending := at_mk X G ax_is_pending lx_is_pending cx_is_pending kx_is_pending fun _ _ _ _ _ _ us hl => match us, hl with | [_], _ => rfl
  let a__is_pending_cast : DefAt K mg "_is_pending_cast" P__is_pending_cast s__is_pending_cast := at_mk X G ax__is_pending_cast lx__is_pending_cast cx__is_pending_cast kx__is_pending_cast fun _ _ _ _ _ _ us hl => match us, hl with | [_], _ => rfl
  let a__law_bag : DefAt K mg "_law_bag" P__law_bag s__law_bag := at_mk X G ax__law_bag lx__law_bag cx__law_bag kx__law_bag fun _ _ _ _ _ _ us hl => match us, hl with | [_, _], _ => rfl
  let a__law_draw : DefAt K mg "_law_draw" P__law_draw s__law_draw := at_mk X G ax__law_draw lx__law_draw cx__law_draw kx__law_draw fun _ _ _ _ _ _ us hl => match us, hl with | [_, _], _ => rfl
  let a__law_is_int : DefAt K mg "_law_is_int" P__law_is_int s__law_is_int := at_mk X G ax__law_is_int lx__law_is_int cx__law_is_int kx__law_is_int fun _ _ _ _ _ _ us hl => match us, hl with | [_, _, _], _ => rfl
  let a__law_positive : DefAt K mg "_law_positive" P__law_positive s__law_positive := at_mk X G ax__law_positive lx__law_positive cx__law_positive kx__law_positive fun _ _ _ _ _ _ us hl => match us, hl with | [_], _ => rfl
  let a__law_members : DefAt K mg "_law_members" P__law_members s__law_members := at_mk X G ax__law_members lx__law_members cx__law_members kx__law_members fun _ _ _ _ _ _ us hl => match us, hl with | [_, _], _ => rfl
  let a__law_payload : DefAt K mg "_law_payload" P__law_payload s__law_payload := at_mk X G ax__law_payload lx__law_payload cx__law_payload kx__law_payload fun _ _ _ _ _ _ us hl => match us, hl with | [_], _ => rfl
  let a__law_log : DefAt K mg "_law_log" P__law_log s__law_log := at_mk X G ax__law_log lx__law_log cx__law_log kx__law_log fun _ _ _ _ _ _ us hl => match us, hl with | [_, _], _ => rfl
  let a__law_pending : DefAt K mg "_law_pending" P__law_pending s__law_pending := at_mk X G ax__law_pending lx__law_pending cx__law_pending kx__law_pending fun _ _ _ _ _ _ us hl => match us, hl with | [_, _], _ => rfl
  let a__law_count : DefAt K mg "_law_count" P__law_count s__law_count := at_mk X G ax__law_count lx__law_count cx__law_count kx__law_count fun _ _ _ _ _ _ us hl => match us, hl with | [_, _], _ => rfl
  let a__law_is_member : DefAt K mg "_law_is_member" P__law_is_member s__law_is_member := at_mk X G ax__law_is_member lx__law_is_member cx__law_is_member kx__law_is_member fun _ _ _ _ _ _ us hl => match us, hl with | [_, _], _ => rfl
  let a__law_is_payload : DefAt K mg "_law_is_payload" P__law_is_payload s__law_is_payload := at_mk X G ax__law_is_payload lx__law_is_payload cx__law_is_payload kx__law_is_payload fun _ _ _ _ _ _ us hl => match us, hl with | [_], _ => rfl
  let a__law_is_message : DefAt K mg "_law_is_message" P__law_is_message s__law_is_message := at_mk X G ax__law_is_message lx__law_is_message cx__law_is_message kx__law_is_message fun _ _ _ _ _ _ us hl => match us, hl with | [_, _], _ => rfl
  let a__law_is_log : DefAt K mg "_law_is_log" P__law_is_log s__law_is_log := at_mk X G ax__law_is_log lx__law_is_log cx__law_is_log kx__law_is_log fun _ _ _ _ _ _ us hl => match us, hl with | [_, _], _ => rfl
  let a__law_is_pending : DefAt K mg "_law_is_pending" P__law_is_pending s__law_is_pending := at_mk X G ax__law_is_pending lx__law_is_pending cx__law_is_pending kx__law_is_pending fun _ _ _ _ _ _ us hl => match us, hl with | [_], _ => rfl
  let a__law_spoilt : DefAt K mg "_law_spoilt" P__law_spoilt s__law_spoilt := at_mk X G ax__law_spoilt lx__law_spoilt cx__law_spoilt kx__law_spoilt fun _ _ _ _ _ _ us hl => match us, hl with | [_, _, _], _ => rfl
  let a__law_odd : DefAt K mg "_law_odd" P__law_odd s__law_odd := at_mk X G ax__law_odd lx__law_odd cx__law_odd kx__law_odd fun _ _ _ _ _ _ us hl => match us, hl with | [_, _], _ => rfl
  let a__law_last_right : DefAt K mg "_law_last_right" P__law_last_right s__law_last_right := at_mk X G ax__law_last_right lx__law_last_right cx__law_last_right kx__law_last_right fun _ _ _ _ _ _ us hl => match us, hl with | [_, _], _ => rfl
  have F_law := fun_mk (st := s_law) lx_law cx_law kx_law
  refine ⟨PySem.W.fnOf "law" "law" (defArgs s_law) (defBody s_law) (defScope s_law) .none kVx_law dcx_law pmx_law anx_law cdx_law ctx_law, fun s v => .of_eq rfl, fun base _ _ => ?_⟩
  let c__is_printable_character : DefOk l.prog w K mg base CX0 "_is_printable_character" P__is_printable_character 1 (sp__is_printable_character) := a__is_printable_character.ok fun F => ok__is_printable_character T  F
  let c_is_printable : DefOk l.prog w K mg base CX0 "is_printable" P_is_printable 2 (sp_is_printable) := a_is_printable.ok fun F => ok_is_printable T c__is_printable_character F
  let c_is_integer : DefOk l.prog w K mg base CX0 "is_integer" P_is_integer 1 (spI) := a_is_integer.ok fun F => ok_is_integer T  F
  let c_is_process : DefOk l.prog w K mg base CX0 "is_process" P_is_process 2 (spB2 isProc) := a_is_process.ok fun F => ok_is_process T c_is_integer F
  let c_is_member : DefOk l.prog w K mg base CX0 "is_member" P_is_member 3 (spB2 isMem) := a_is_member.ok fun F => ok_is_member T c_is_integer c_is_process F
  let c_is_payload : DefOk l.prog w K mg base CX0 "is_payload" P_is_payload 3 (spH1 isPay) := a_is_payload.ok fun F => ok_is_payload T c_is_printable F
  let c_is_message : DefOk l.prog w K mg base CX0 "is_message" P_is_message 4 (spH2 isMsg) := a_is_message.ok fun F => ok_is_message T c_is_integer c_is_member c_is_payload F
  let c_is_log : DefOk l.prog w K mg base CX0 "is_log" P_is_log 5 (spHS2 isLog) := a_is_log.ok fun F => ok_is_log T c_is_message F
  let c_last_index : DefOk l.prog w K mg base CX0 "last_index" P_last_index 1 (sp_last) := a_last_index.ok fun F => ok_last_index T  F
  let c__is_pending_cast : DefOk l.prog w K mg base CX0 "_is_pending_cast" P__is_pending_cast 4 (spH1 isCast) := a__is_pending_cast.ok fun F => ok__is_pending_cast T c_is_integer c_is_payload F
  let c_is_pending : DefOk l.prog w K mg base CX0 "is_pending" P_is_pending 5 (spHS1 isPend) := a_is_pending.ok fun F => ok_is_pending T c__is_pending_cast F
  let c__law_bag : DefOk l.prog w K mg base CX0 "_law_bag" P__law_bag 1 (sp_bag K) := a__law_bag.ok fun F => ok__law_bag T  F
  let c__law_draw : DefOk l.prog w K mg base CX0 "_law_draw" P__law_draw 1 (sp_draw) := a__law_draw.ok fun F => ok__law_draw T  F
  let c__law_is_int : DefOk l.prog w K mg base CX0 "_law_is_int" P__law_is_int 1 (spI) := a__law_is_int.ok fun F => ok__law_is_int T  F
  let c__law_positive : DefOk l.prog w K mg base CX0 "_law_positive" P__law_positive 2 (sp_pos) := a__law_positive.ok fun F => ok__law_positive T c__law_draw F
  let c__law_members : DefOk l.prog w K mg base CX0 "_law_members" P__law_members 3 (sp_mems) := a__law_members.ok fun F => ok__law_members T c__law_draw c__law_positive F
  let c__law_payload : DefOk l.prog w K mg base CX0 "_law_payload" P__law_payload 2 (sp_pay) := a__law_payload.ok fun F => ok__law_payload T c__law_draw F
  let c__law_pending : DefOk l.prog w K mg base CX0 "_law_pending" P__law_pending 3 (sp_pend) := a__law_pending.ok fun F => ok__law_pending T c__law_draw c__law_payload F
  let c__law_log : DefOk l.prog w K mg base CX0 "_law_log" P__law_log 3 (sp_log) := a__law_log.ok fun F => ok__law_log T c__law_draw c__law_payload F
  let c__law_odd : DefOk l.prog w K mg base CX0 "_law_odd" P__law_odd 2 (sp_oddH) := a__law_odd.ok fun F => ok__law_odd T c__law_draw F
  let c__law_spoilt : DefOk l.prog w K mg base CX0 "_law_spoilt" P__law_spoilt 5 (sp_spoilt 3) := mk_spoilt T a__law_spoilt c__law_draw 3
  let c__law_is_member : DefOk l.prog w K mg base CX0 "_law_is_member" P__law_is_member 2 (spN memL) := a__law_is_member.ok fun F => ok__law_is_member T c__law_is_int F
  let c__law_is_payload : DefOk l.prog w K mg base CX0 "_law_is_payload" P__law_is_payload 1 (spH1 payL) := a__law_is_payload.ok fun F => ok__law_is_payload T  F
  let c__law_is_message : DefOk l.prog w K mg base CX0 "_law_is_message" P__law_is_message 3 (spN msgL) := a__law_is_message.ok fun F => ok__law_is_message T c__law_is_int c__law_is_member c__law_is_payload F
  let c__law_count : DefOk l.prog w K mg base CX0 "_law_count" P__law_count 1 (sp_count) := a__law_count.ok fun F => ok__law_count T  F
  let c__law_is_log : DefOk l.prog w K mg base CX0 "_law_is_log" P__law_is_log 4 (spNS isLog) := a__law_is_log.ok fun F => ok__law_is_log T c__law_count c__law_is_message F
  let c__law_last_right : DefOk l.prog w K mg base CX0 "_law_last_right" P__law_last_right 2 (sp_lright) := a__law_last_right.ok fun F => ok__law_last_right T c_last_index c__law_is_int c__law_count F
  let c__law_is_pending : DefOk l.prog w K mg base CX0 "_law_is_pending" P__law_is_pending 2 (spHS1 isPend) := a__law_is_pending.ok fun F => ok__law_is_pending T c__law_is_int c__law_is_payload F
  exact ok_law T c__law_bag c__law_draw c__law_positive c__law_members c__law_log c__law_pending c__law_odd c__law_spoilt c__law_last_right c_is_log c_is_pending c__law_is_log c__law_is_pending F_law
end Mus
open PySem PySem.W PyProof.Rows
set_option maxRecDepth 100000 in
set_option maxHeartbeats 0 in
theorem PySem.Challenge.cw_mustercall_k06_logs_and_pending_casts_holds : PySem.Challenge.rw_mustercall_k06_logs_and_pending_casts.Holds := by
  w_on; o_law; k_head; (case hw => w_witness2)
  k_fill
  refine Mus.walk_ofX (l := PySem.Challenge.rw_mustercall_k06_logs_and_pending_casts) (n := 63) (k := 20) (x := "script") (sp := fun w => Mus.sp_law (_ : PySem.W.Frag)) rfl (by decide) rfl ⟨rfl, by decide, by decide⟩ (fun w h Y => PySem.W.kIn_of Y) ?F (fun _ _ a ns hl _ hS => ⟨a, ns, rfl, hS, hl, fun _ => rfl⟩)
  case F =>
    intro w mg fa h KX G XX hmg
    refine' Mus.all_mk KX G hmg (Mus.loose_int XX.2) ?ax_is_printable ?lx_is_printable ?cx_is_printable ?kx_is_printable ?ax__is_printable_character ?lx__is_printable_character ?cx__is_printable_character ?kx__is_printable_character ?ax_is_integer ?lx_is_integer ?cx_is_integer ?kx_is_integer ?ax_is_process ?lx_is_process ?cx_is_process ?kx_is_process ?ax_is_member ?lx_is_member ?cx_is_member ?kx_is_member ?ax_is_payload ?lx_is_payload ?cx_is_payload ?kx_is_payload ?ax_is_message ?lx_is_message ?cx_is_message ?kx_is_message ?ax_is_log ?lx_is_log ?cx_is_log ?kx_is_log ?ax_last_index ?lx_last_index ?cx_last_index ?kx_last_index ?ax_is_pending ?lx_is_pending ?cx_is_pending ?kx_is_pending ?ax__is_pending_cast ?lx__is_pending_cast ?cx__is_pending_cast ?kx__is_pending_cast ?ax__law_bag ?lx__law_bag ?cx__law_bag ?kx__law_bag ?ax__law_draw ?lx__law_draw ?cx__law_draw ?kx__law_draw ?ax__law_is_int ?lx__law_is_int ?cx__law_is_int ?kx__law_is_int ?ax__law_positive ?lx__law_positive ?cx__law_positive ?kx__law_positive ?ax__law_members ?lx__law_members ?cx__law_members ?kx__law_members ?ax__law_payload ?lx__law_payload ?cx__law_payload ?kx__law_payload ?ax__law_log ?lx__law_log ?cx__law_log ?kx__law_log ?ax__law_pending ?lx__law_pending ?cx__law_pending ?kx__law_pending ?ax__law_count ?lx__law_count ?cx__law_count ?kx__law_count ?ax__law_is_member ?lx__law_is_member ?cx__law_is_member ?kx__law_is_member ?ax__law_is_payload ?lx__law_is_payload ?cx__law_is_payload ?kx__law_is_payload ?ax__law_is_message ?lx__law_is_message ?cx__law_is_message ?kx__law_is_message ?ax__law_is_log ?lx__law_is_log ?cx__law_is_log ?kx__law_is_log ?ax__law_is_pending ?lx__law_is_pending ?cx__law_is_pending ?kx__law_is_pending ?ax__law_spoilt ?lx__law_spoilt ?cx__law_spoilt ?kx__law_spoilt ?ax__law_odd ?lx__law_odd ?cx__law_odd ?kx__law_odd ?ax__law_last_right ?lx__law_last_right ?cx__law_last_right ?kx__law_last_right ?ax_law ?lx_law ?cx_law ?kx_law ?v_REFUSED_CODE ?vMOST_PROCESSES ?vMOST_PAYLOAD ?zlen ?zisinstance ?zint ?zbool ?zstr ?ztuple ?zrange ?zmin ?zmax ?zsorted ?zord ?zenumerate
    (case ax_is_printable => first | k_is | rfl)
    (case lx_is_printable => first | k_is | rfl)
    (case cx_is_printable => first | k_is | rfl)
    (case kx_is_printable => first | k_is | rfl)
    (case ax__is_printable_character => first | k_is | rfl)
    (case lx__is_printable_character => first | k_is | rfl)
    (case cx__is_printable_character => first | k_is | rfl)
    (case kx__is_printable_character => first | k_is | rfl)
    (case ax_is_integer => first | k_is | rfl)
    (case lx_is_integer => first | k_is | rfl)
    (case cx_is_integer => first | k_is | rfl)
    (case kx_is_integer => first | k_is | rfl)
    (case ax_is_process => first | k_is | rfl)
    (case lx_is_process => first | k_is | rfl)
    (case cx_is_process => first | k_is | rfl)
    (case kx_is_process => first | k_is | rfl)
    (case ax_is_member => first | k_is | rfl)
    (case lx_is_member => first | k_is | rfl)
    (case cx_is_member => first | k_is | rfl)
    (case kx_is_member => first | k_is | rfl)
    (case ax_is_payload => first | k_is | rfl)
    (case lx_is_payload => first | k_is | rfl)
    (case cx_is_payload => first | k_is | rfl)
    (case kx_is_payload => first | k_is | rfl)
    (case ax_is_message => first | k_is | rfl)
    (case lx_is_message => first | k_is | rfl)
    (case cx_is_message => first | k_is | rfl)
    (case kx_is_message => first | k_is | rfl)
    (case ax_is_log => first | k_is | rfl)
    (case lx_is_log => first | k_is | rfl)
    (case cx_is_log => first | k_is | rfl)
    (case kx_is_log => first | k_is | rfl)
    (case ax_last_index => first | k_is | rfl)
    (case lx_last_index => first | k_is | rfl)
    (case cx_last_index => first | k_is | rfl)
    (case kx_last_index => first | k_is | rfl)
    (case ax_is_pending => first | k_is | rfl)
    (case lx_is_pending => first | k_is | rfl)
    (case cx_is_pending => first | k_is | rfl)
    (case kx_is_pending => first | k_is | rfl)
    (case ax__is_pending_cast => first | k_is | rfl)
    (case lx__is_pending_cast => first | k_is | rfl)
    (case cx__is_pending_cast => first | k_is | rfl)
    (case kx__is_pending_cast => first | k_is | rfl)
    (case ax__law_bag => first | k_is | rfl)
    (case lx__law_bag => first | k_is | rfl)
    (case cx__law_bag => first | k_is | rfl)
    (case kx__law_bag => first | k_is | rfl)
    (case ax__law_draw => first | k_is | rfl)
    (case lx__law_draw => first | k_is | rfl)
    (case cx__law_draw => first | k_is | rfl)
    (case kx__law_draw => first | k_is | rfl)
    (case ax__law_is_int => first | k_is | rfl)
    (case lx__law_is_int => first | k_is | rfl)
    (case cx__law_is_int => first | k_is | rfl)
    (case kx__law_is_int => first | k_is | rfl)
    (case ax__law_positive => first | k_is | rfl)
    (case lx__law_positive => first | k_is | rfl)
    (case cx__law_positive => first | k_is | rfl)
    (case kx__law_positive => first | k_is | rfl)
    (case ax__law_members => first | k_is | rfl)
    (case lx__law_members => first | k_is | rfl)
    (case cx__law_members => first | k_is | rfl)
    (case kx__law_members => first | k_is | rfl)
    (case ax__law_payload => first | k_is | rfl)
    (case lx__law_payload => first | k_is | rfl)
    (case cx__law_payload => first | k_is | rfl)
    (case kx__law_payload => first | k_is | rfl)
    (case ax__law_log => first | k_is | rfl)
    (case lx__law_log => first | k_is | rfl)
    (case cx__law_log => first | k_is | rfl)
    (case kx__law_log => first | k_is | rfl)
    (case ax__law_pending => first | k_is | rfl)
    (case lx__law_pending => first | k_is | rfl)
    (case cx__law_pending => first | k_is | rfl)
    (case kx__law_pending => first | k_is | rfl)
    (case ax__law_count => first | k_is | rfl)
    (case lx__law_count => first | k_is | rfl)
    (case cx__law_count => first | k_is | rfl)
    (case kx__law_count => first | k_is | rfl)
    (case ax__law_is_member => first | k_is | rfl)
    (case lx__law_is_member => first | k_is | rfl)
    (case cx__law_is_member => first | k_is | rfl)
    (case kx__law_is_member => first | k_is | rfl)
    (case ax__law_is_payload => first | k_is | rfl)
    (case lx__law_is_payload => first | k_is | rfl)
    (case cx__law_is_payload => first | k_is | rfl)
    (case kx__law_is_payload => first | k_is | rfl)
    (case ax__law_is_message => first | k_is | rfl)
    (case lx__law_is_message => first | k_is | rfl)
    (case cx__law_is_message => first | k_is | rfl)
    (case kx__law_is_message => first | k_is | rfl)
    (case ax__law_is_log => first | k_is | rfl)
    (case lx__law_is_log => first | k_is | rfl)
    (case cx__law_is_log => first | k_is | rfl)
    (case kx__law_is_log => first | k_is | rfl)
    (case ax__law_is_pending => first | k_is | rfl)
    (case lx__law_is_pending => first | k_is | rfl)
    (case cx__law_is_pending => first | k_is | rfl)
    (case kx__law_is_pending => first | k_is | rfl)
    (case ax__law_spoilt => first | k_is | rfl)
    (case lx__law_spoilt => first | k_is | rfl)
    (case cx__law_spoilt => first | k_is | rfl)
    (case kx__law_spoilt => first | k_is | rfl)
    (case ax__law_odd => first | k_is | rfl)
    (case lx__law_odd => first | k_is | rfl)
    (case cx__law_odd => first | k_is | rfl)
    (case kx__law_odd => first | k_is | rfl)
    (case ax__law_last_right => first | k_is | rfl)
    (case lx__law_last_right => first | k_is | rfl)
    (case cx__law_last_right => first | k_is | rfl)
    (case kx__law_last_right => first | k_is | rfl)
    (case ax_law => first | k_is | rfl)
    (case lx_law => first | k_is | rfl)
    (case cx_law => first | k_is | rfl)
    (case kx_law => first | k_is | rfl)
    (case v_REFUSED_CODE => first | k_is | rfl)
    (case vMOST_PROCESSES => first | k_is | rfl)
    (case vMOST_PAYLOAD => first | k_is | rfl)
    (case zlen => first | k_is | rfl)
    (case zisinstance => first | k_is | rfl)
    (case zint => first | k_is | rfl)
    (case zbool => first | k_is | rfl)
    (case zstr => first | k_is | rfl)
    (case ztuple => first | k_is | rfl)
    (case zrange => first | k_is | rfl)
    (case zmin => first | k_is | rfl)
    (case zmax => first | k_is | rfl)
    (case zsorted => first | k_is | rfl)
    (case zord => first | k_is | rfl)
    (case zenumerate => first | k_is | rfl)

