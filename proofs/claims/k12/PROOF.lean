import PyProof.Rows.All
import Wide.All
import OpenK.AllK
import Wide.FinOn
import HandS.Base
import HandS.Call
import HandS.List
import HandS.Comp
import HandS.Ends
import HandS.Iter
import HandS.Text
import HandS.Words
import HandS.WordsList
import HandS.Wide
import HandS.IsInst
import HandS.TupAny
import HandS.Dict
import HandS.WordsDict
import HandS.Conv
import HandS.More
import HandS.Codes
import HandS.SortRule
import HandS.Walk
import HandS.FStr
import HandS.StrMore
import HandS.Exc
import HandS.ExcOwn
import HandS.TryOnly
import HandS.WordsExc
import PySem.Challenge.RW_mustercall_k12_whole_no_life_twice
set_option Elab.async false
set_option linter.all false
set_option maxRecDepth 100000
set_option maxHeartbeats 4000000
/-! What my proofs share: a def with its promise as one thing, small rules, heaps. -/
namespace Mus
open PySem L2
/-- a def of the text that keeps a promise, and all that a call of it asks -/
structure DefOk (P : Program) (w : World) (K : PySem.W.Frag) (mg : Str → Option Value) (base : Heap) (CX : CXT) (x : Str) (ps : List Str) (k : Nat) (sp : Sp) where
  f : Addr
  fd : FuncData
  G : FnOk P w K mg base CX k f fd ps sp
  m : mg x = some (.ref f)
  kp : PySem.W.keepIn K (.ref f) = true
  b : Binds K fd ps []
def DefOk.mono {P : Program} {w : World} {K : PySem.W.Frag} {mg : Str → Option Value} {base : Heap} {CX : CXT} {x : Str} {ps : List Str} {j k : Nat} {sp : Sp} (c : DefOk P w K mg base CX x ps j sp) (h : j ≤ k) : DefOk P w K mg base CX x ps k sp :=
  ⟨c.f, c.fd, c.G.mono h, c.m, c.kp, c.b⟩
/-- a def of the text as the top left it: no promise yet -/
structure DefAt (K : PySem.W.Frag) (mg : Str → Option Value) (x : Str) (ps : List Str) (st : Stmt) where
  f : Addr
  fd : FuncData
  F : Fun K x x st f fd
  m : mg x = some (.ref f)
  b : Binds K fd ps []
def DefAt.ok {P : Program} {w : World} {K : PySem.W.Frag} {mg : Str → Option Value} {base : Heap} {CX : CXT} {x : Str} {ps : List Str} {st : Stmt} {k : Nat} {sp : Sp} (d : DefAt K mg x ps st) (h : ∀ {f : Addr} {fd : FuncData}, Fun K x x st f fd → FnOk P w K mg base CX k f fd ps sp) : DefOk P w K mg base CX x ps k sp :=
  ⟨d.f, d.fd, h d.F, d.m, d.F.kp, d.b⟩
section
variable {X : Cx}
theorem pcall {x : Str} {ps : List Str} {j k : Nat} {sp : Sp} {e : Expr} {es : List Expr} {t : TA} {p pos : Pos} (c : DefOk X.prog X.w X.K X.mg X.base CX0 x ps j sp) (hr : Room k X.A) (ha : PA X (e :: es) t) (hj : j ≤ k := by first | decide | omega) (hg : Gl X x := by rfl)
    (db0 : (x == ("__debug__" : Str)) = false := by decide) (st0 : starEach (e :: es) X.env = (false, eval e X.env) :: starEach es X.env := by rfl) (pl0 : (backTo pos (starEach es X.env)).any (·.1) = false := by rfl) :
    PE X (.Call (.Name x p) (e :: es) [] pos) (tCall sp [] E0 t) := pe_call c.G (hr.mono hj) hg c.m c.kp c.b .nil pass0 ha db0 st0 pl0
/-- a text n times -/
theorem op_mul_str : OpR X (binaryOp .Mult) (fun x y H Q => ∃ (z : Str) (n : Int), x = .str z ∧ y = .int n ∧ 2 ≤ n ∧ n ≤ 1000 ∧ 1 ≤ z.length ∧ z.length ≤ 1000 ∧ ∀ r : Str, TL.tl r = (List.replicate n.toNat (TL.tl z)).flatten → Q (.str r) H) := by
  intro pins s σ H x y v u Q I rx ry h
  obtain ⟨z, n, rfl, rfl, h2, h3, h4, h5, q⟩ := h
  obtain ⟨t, rfl⟩ := rx
  obtain ⟨t', rfl⟩ := ry
  have n1 : ¬ n < 1 := by omega
  have n2 : ¬ (n == 1 || z.length == 0) = true := by
    rw [Bool.or_eq_true, beq_iff_eq, beq_iff_eq]; omega
  have hr : (decide (n < -(2 ^ 63 : Int)) || decide (n ≥ 2 ^ 63)) = false := by
    rw [decide_eq_false (by omega), decide_eq_false (by omega)]; rfl
  have hm : z.length * n.toNat ≤ 1000 * 1000 := Nat.mul_le_mul h5 (by omega)
  have hl : Builtin.Str.tooLong (z.length * n.toNat) = false := by
    unfold Builtin.Str.tooLong
    have e : sizeLine = 16777216 := sizeLine_eq
    rw [decide_eq_false (by omega)]
  have hb : ¬ ((z.length : Int) > (2 ^ 63 - 1) / n) := by
    have : (1000 : Int) ≤ (2 ^ 63 - 1) / n := by
      rw [Int.le_ediv_iff_mul_le (by omega)]
      omega
    omega
  refine PySem.P.mul_str hr (fun _ _ => hb) (fun _ _ => hl) ?_
  rw [if_neg n1, if_neg n2]
  have hf : ∀ (k : Nat) (acc : Array Nat), ((List.replicate k z.cps).foldl (· ++ ·) acc).toList = acc.toList ++ (List.replicate k z.cps.toList).flatten := by
    intro k
    induction k with
    | zero => intro acc; simp
    | succ k ih =>
      intro acc
      rw [List.replicate_succ, List.foldl_cons, ih, List.replicate_succ, List.flatten_cons, Array.toList_append, List.append_assoc]
  have hr : TL.tl (⟨(List.replicate n.toNat z.cps).foldl (· ++ ·) #[]⟩ : Str) = (List.replicate n.toNat (TL.tl z)).flatten := by
    show ((List.replicate n.toNat z.cps).foldl (· ++ ·) #[]).toList = _
    rw [hf]; rfl
  have hlen : (⟨(List.replicate n.toNat z.cps).foldl (· ++ ·) #[]⟩ : Str).length ≤ sizeLine := by
    rw [TL.len_tl, hr]
    have e : sizeLine = 16777216 := sizeLine_eq
    have z2 : ((List.replicate n.toNat (TL.tl z)).flatten).length = z.length * n.toNat := by
      rw [TL.len_tl]
      generalize n.toNat = k
      induction k with
      | zero => rfl
      | succ k ih => rw [List.replicate_succ, List.flatten_cons, List.length_append, ih, Nat.mul_succ, Nat.add_comm]
    omega
  exact ⟨hlen, .str _, H, I.tok _, ⟨_, rfl⟩, q _ hr⟩
/-- for c in a text -/
theorem for_str {z : Str} {g : TG} {tb : TS} {D : Ends} {σ : St} {H : Hp} (Pv : Nat → St → Hp → Prop) (h0 : Pv 0 σ H)
    (hs : ∀ i c σ H, (TL.tl z)[i]? = some c → Pv i σ H → g (.str ⟨#[c]⟩) σ H fun σ2 H2 => tb { D with nx := Pv (i + 1), ct := Pv (i + 1), bk := D.nx } σ2 H2) (hd : ∀ σ H, Pv (TL.tl z).length σ H → D.nx σ H) :
    ∃ W : Nat → Nat → St → Hp → Prop, (∃ m, W 0 m σ H) ∧ ∀ i m σ H, W i m σ H →
      ((Its z).stop i H ∧ D.nx σ H) ∨ ((Its z).go i H ∧ ∃ N : St → Hp → Prop, (∀ σ' H', N σ' H' → ∃ m', m' < m ∧ W (i + 1) m' σ' H') ∧ ∀ x H', (Its z).yld i H x H' → g x σ H' fun σ2 H2 => tb { D with nx := N, ct := N, bk := D.nx } σ2 H2) := by
  have hl : (TL.tl z).length = z.cps.size := Array.length_toList
  refine ⟨fun i m σ H => m = (TL.tl z).length - i ∧ i ≤ (TL.tl z).length ∧ Pv i σ H, ⟨(TL.tl z).length, rfl, Nat.zero_le _, h0⟩, ?_⟩
  rintro i m σ H ⟨rfl, le1, pv1⟩
  by_cases lt1 : i < (TL.tl z).length
  · refine .inr ⟨(by show i < z.cps.size; omega), Pv (i + 1), fun σ' H' p' => ⟨(TL.tl z).length - (i + 1), by omega, rfl, lt1, p'⟩, fun x H' y => ?_⟩
    obtain ⟨e, c, hc, ex⟩ := y
    subst e
    subst ex
    exact hs i c σ H' (by rw [Array.getElem?_toList]; exact hc) pv1
  · have e : i = (TL.tl z).length := by omega
    subst e
    exact .inl ⟨(by show z.cps.size ≤ _; omega), hd σ H pv1⟩
end
/-! ### heaps -/
/-- all but what stands at p is as it was -/
def But (p : Addr) (H H' : Hp) : Prop := ∀ b o, H b = some o → b ≠ p → H' b = some o
theorem But.refl (p : Addr) (H : Hp) : But p H H := fun _ _ h _ => h
theorem But.trans {p : Addr} {H H1 H2 : Hp} (a : But p H H1) (b : But p H1 H2) : But p H H2 := fun c o h n => b c o (a c o h n) n
theorem But.of {p : Addr} {H H' : Hp} (a : Same H H') : But p H H' := fun c o h _ => a c o h
theorem same_new {H : Hp} {p : Addr} (h : H p = none) (o : HO) : Same H (upd H p o) := fun b u q => by rw [upd_ne (ne_of_none q h)]; exact q
theorem but_upd {H : Hp} {p : Addr} (o : HO) : But p H (upd H p o) := fun b u q n => by rw [upd_ne n]; exact q
theorem same_seqT {K : PySem.W.Frag} {H H' : Hp} {a : Addr} {xs : List V} (e : Same H H') (h : SqT K H a xs) : SqT K H' a xs := by
  rcases h with (h | ⟨o, h⟩) | h
  · exact .inl (.inl (e _ _ h))
  · exact .inl (.inr ⟨o, e _ _ h⟩)
  · exact .inr h
/-- tuples stay where only a list may change -/
theorem But.seqT {K : PySem.W.Frag} {H H' : Hp} {p a : Addr} {xs ys : List V} (e : But p H H') (hp : H p = some (.lst ys)) (h : SqT K H a xs) : SqT K H' a xs := by
  rcases h with (h | ⟨o, h⟩) | h
  · exact .inl (.inl (e _ _ h (ne_of h hp (by intro z; cases z))))
  · exact .inl (.inr ⟨o, e _ _ h (ne_of h hp (by intro z; cases z))⟩)
  · exact .inr h
theorem But.seqL {K : PySem.W.Frag} {H H' : Hp} {p a : Addr} {xs : List V} (e : But p H H') (hp : a ≠ p) (h : SqL K H a xs) : SqL K H' a xs := by
  rcases h with (h | ⟨o, h⟩) | h
  · exact .inl (.inl (e _ _ h hp))
  · exact .inl (.inr ⟨o, e _ _ h hp⟩)
  · exact .inr h
end Mus

set_option maxRecDepth 100000
set_option maxHeartbeats 4000000
/-! Plain data of any kind in the heap, beside one list (the bag, at p) that changes. -/
namespace Mus
open PySem L2
theorem sl : sizeLine = 16777216 := sizeLine_eq
theorem dT {p : Prop} [Decidable p] {A B : Prop} (h : p) (a : A) : if decide p = true then A else B := by
  rw [decide_eq_true h]; exact iteT a
theorem dF {p : Prop} [Decidable p] {A B : Prop} (h : ¬ p) (b : B) : if decide p = true then A else B := by
  rw [decide_eq_false h]; exact iteF b
theorem nT {p : Prop} [Decidable p] {A B : Prop} (h : ¬ p) (a : A) : if (!decide p) = true then A else B := by
  rw [decide_eq_false h]; exact iteT a
theorem nF {p : Prop} [Decidable p] {A B : Prop} (h : p) (b : B) : if (!decide p) = true then A else B := by
  rw [decide_eq_true h]; exact iteF b
theorem at_int {α : Type} {xs : List α} {i : Int} {v : α} (h0 : 0 ≤ i) (h : xs[i.toNat]? = some v) : atI xs i = some v := by
  have e : i = ((i.toNat : Nat) : Int) := by omega
  rw [e]
  exact atI_nat h
theorem pe_const {X : Cx} {x : Str} {i : Int} {pos : Pos} (hm : ∃ t, X.mg x = some (.int i t)) (hg : Gl X x := by rfl) (hd : (x == ("__debug__" : Str)) = false := by decide) : PE X (.Name x pos) (tC (.int i)) := by
  obtain ⟨t, h⟩ := hm
  exact pe_glob hg h ⟨t, rfl⟩ hd
theorem pe_ty {X : Cx} {x : Str} {pos : Pos} (n : String) (hm : X.mg x = none) (hv : bootBuiltins x = some (.type n) := by decide +kernel) (hg : Gl X x := by rfl) (hn : x ≠ "__name__" := by decide) (hd : (x == ("__debug__" : Str)) = false := by decide) : PE X (.Name x pos) (tC (.ty n)) := pe_bltn hg hm hv rfl hn hd
theorem pe_cls {X : Cx} {x : Str} {C : Addr} {pos : Pos} (hm : X.mg x = some (.ref C)) (hg : Gl X x := by rfl) (hd : (x == ("__debug__" : Str)) = false := by decide) : PE X (.Name x pos) (tC (.ref C)) := pe_glob (v := .ref C) hg hm rfl hd
mutual
/-- the value v stands for the data d, all of it tracked and none of it at p -/
inductive Rp (p : Addr) (H : Hp) : V → PyData → Prop
  | non : Rp p H .non .none
  | bl (b : Bool) : Rp p H (.bl b) (.bool b)
  | int (i : Int) : Rp p H (.int i) (.int i)
  | str (x : Str) : Rp p H (.str x) (.str x)
  | lst {a : Addr} {xs : List V} {ds : List PyData} : H a = some (.lst xs) → a ≠ p → Rps p H xs ds → Rp p H (.ref a) (.list ds)
  | tup {a : Addr} {xs : List V} {ds : List PyData} : H a = some (.tup xs) → a ≠ p → xs.length ≤ 100000 → Rps p H xs ds → Rp p H (.ref a) (.tuple ds)
inductive Rps (p : Addr) (H : Hp) : List V → List PyData → Prop
  | nil : Rps p H [] []
  | cons {v : V} {vs : List V} {d : PyData} {ds : List PyData} : Rp p H v d → Rps p H vs ds → Rps p H (v :: vs) (d :: ds)
end
mutual
theorem Rp.mono {p : Addr} {H H' : Hp} (k : But p H H') : ∀ {v : V} {d : PyData}, Rp p H v d → Rp p H' v d
  | _, _, .non => .non
  | _, _, .bl b => .bl b
  | _, _, .int i => .int i
  | _, _, .str x => .str x
  | _, _, .lst h n r => .lst (k _ _ h n) n (Rps.mono k r)
  | _, _, .tup h n l r => .tup (k _ _ h n) n l (Rps.mono k r)
theorem Rps.mono {p : Addr} {H H' : Hp} (k : But p H H') : ∀ {vs : List V} {ds : List PyData}, Rps p H vs ds → Rps p H' vs ds
  | _, _, .nil => .nil
  | _, _, .cons a b => .cons (Rp.mono k a) (Rps.mono k b)
end
mutual
theorem Rp.dp {p : Addr} {K : PySem.W.Frag} {H : Hp} : ∀ {v : V} {d : PyData}, Rp p H v d → Dp K H v d
  | _, _, .non => .non
  | _, _, .bl b => .bl b
  | _, _, .int i => .int i
  | _, _, .str x => .str x
  | _, _, .lst h n r => .lst (SqL.of h) (Rps.dp r)
  | _, _, .tup h n _ r => .tup (SqT.of h) (Rps.dp r)
theorem Rps.dp {p : Addr} {K : PySem.W.Frag} {H : Hp} : ∀ {vs : List V} {ds : List PyData}, Rps p H vs ds → DpAll K H vs ds
  | _, _, .nil => .nil
  | _, _, .cons a b => .cons (Rp.dp a) (Rps.dp b)
end
theorem Rp.same {p : Addr} {H H' : Hp} {v : V} {d : PyData} (k : Same H H') (h : Rp p H v d) : Rp p H' v d := h.mono (But.of k)
theorem Rps.same {p : Addr} {H H' : Hp} {vs : List V} {ds : List PyData} (k : Same H H') (h : Rps p H vs ds) : Rps p H' vs ds := h.mono (But.of k)
theorem Rps.length {p : Addr} {H : Hp} : ∀ {vs : List V} {ds : List PyData}, Rps p H vs ds → vs.length = ds.length
  | _, _, .nil => rfl
  | _, _, .cons _ r => by rw [List.length_cons, List.length_cons, Rps.length r]
theorem Rps.at {p : Addr} {H : Hp} : ∀ {vs : List V} {ds : List PyData} {i : Nat} {v : V}, Rps p H vs ds → vs[i]? = some v → ∃ d, ds[i]? = some d ∧ Rp p H v d
  | _, _, i, v, .nil, h => by simp at h
  | _, _, 0, v, .cons a _, h => by cases h; exact ⟨_, rfl, a⟩
  | _, _, i + 1, v, .cons _ r, h => Rps.at (i := i) r (by simpa using h)
theorem Rps.get {p : Addr} {H : Hp} : ∀ {vs : List V} {ds : List PyData} {i : Nat} {d : PyData}, Rps p H vs ds → ds[i]? = some d → ∃ v, vs[i]? = some v ∧ Rp p H v d
  | _, _, i, v, .nil, h => by simp at h
  | _, _, 0, v, .cons a _, h => by cases h; exact ⟨_, rfl, a⟩
  | _, _, i + 1, v, .cons _ r, h => Rps.get (i := i) r (by simpa using h)
theorem Rps.append {p : Addr} {H : Hp} : ∀ {vs ws : List V} {ds es : List PyData}, Rps p H vs ds → Rps p H ws es → Rps p H (vs ++ ws) (ds ++ es)
  | _, _, _, _, .nil, r => r
  | _, _, _, _, .cons a q, r => .cons a (Rps.append q r)
theorem Rps.take {p : Addr} {H : Hp} : ∀ {vs : List V} {ds : List PyData} (n : Nat), Rps p H vs ds → Rps p H (vs.take n) (ds.take n)
  | _, _, 0, _ => .nil
  | _, _, n + 1, .nil => .nil
  | _, _, n + 1, .cons a q => .cons a (Rps.take n q)
theorem Rps.drop {p : Addr} {H : Hp} : ∀ {vs : List V} {ds : List PyData} (n : Nat), Rps p H vs ds → Rps p H (vs.drop n) (ds.drop n)
  | _, _, 0, r => r
  | _, _, n + 1, .nil => .nil
  | _, _, n + 1, .cons a q => Rps.drop n q
/-! ### classes of data -/
def tyD : PyData → Value
  | .none => .type "NoneType" | .bool _ => .type "bool" | .int _ => .type "int" | .str _ => .type "str" | .list _ => .type "list" | .tuple _ => .type "tuple" | .dict _ => .type "dict"
theorem Rp.ty {p : Addr} {K : PySem.W.Frag} {H : Hp} {v : V} {d : PyData} (h : Rp p H v d) : TyX K H v (tyD d) := by
  cases h with
  | non => exact .base .non
  | bl b => exact .base (.bl b)
  | int i => exact .base (.int i)
  | str x => exact .base (.str x)
  | lst h _ _ => exact .base (.lst h)
  | tup h _ _ _ => exact .base (.tup h)
def dInt : PyData → Bool
  | .int _ => true | .bool _ => true | _ => false
def dBool : PyData → Bool
  | .bool _ => true | _ => false
def dStr : PyData → Bool
  | .str _ => true | _ => false
def dTup : PyData → Bool
  | .tuple _ => true | _ => false
theorem kit_int {K : PySem.W.Frag} : ∀ d : PyData, PySem.W.kitOne K (tyD d) (.type "int") = some (dInt d)
  | .none => kit_ty (r := false) (by decide +kernel)
  | .bool _ => kit_ty (r := true) (by decide +kernel)
  | .int _ => kit_ty (r := true) (by decide +kernel)
  | .str _ => kit_ty (r := false) (by decide +kernel)
  | .list _ => kit_ty (r := false) (by decide +kernel)
  | .tuple _ => kit_ty (r := false) (by decide +kernel)
  | .dict _ => kit_ty (r := false) (by decide +kernel)
theorem kit_bool {K : PySem.W.Frag} : ∀ d : PyData, PySem.W.kitOne K (tyD d) (.type "bool") = some (dBool d)
  | .none => kit_ty (r := false) (by decide +kernel)
  | .bool _ => kit_ty (r := true) (by decide +kernel)
  | .int _ => kit_ty (r := false) (by decide +kernel)
  | .str _ => kit_ty (r := false) (by decide +kernel)
  | .list _ => kit_ty (r := false) (by decide +kernel)
  | .tuple _ => kit_ty (r := false) (by decide +kernel)
  | .dict _ => kit_ty (r := false) (by decide +kernel)
theorem kit_str {K : PySem.W.Frag} : ∀ d : PyData, PySem.W.kitOne K (tyD d) (.type "str") = some (dStr d)
  | .none => kit_ty (r := false) (by decide +kernel)
  | .bool _ => kit_ty (r := false) (by decide +kernel)
  | .int _ => kit_ty (r := false) (by decide +kernel)
  | .str _ => kit_ty (r := true) (by decide +kernel)
  | .list _ => kit_ty (r := false) (by decide +kernel)
  | .tuple _ => kit_ty (r := false) (by decide +kernel)
  | .dict _ => kit_ty (r := false) (by decide +kernel)
theorem kit_tup {K : PySem.W.Frag} : ∀ d : PyData, PySem.W.kitOne K (tyD d) (.type "tuple") = some (dTup d)
  | .none => kit_ty (r := false) (by decide +kernel)
  | .bool _ => kit_ty (r := false) (by decide +kernel)
  | .int _ => kit_ty (r := false) (by decide +kernel)
  | .str _ => kit_ty (r := false) (by decide +kernel)
  | .list _ => kit_ty (r := false) (by decide +kernel)
  | .tuple _ => kit_ty (r := true) (by decide +kernel)
  | .dict _ => kit_ty (r := false) (by decide +kernel)
end Mus
namespace Mus
open PySem L2
/-! ### members and view ids, as functions of data -/
def isInt (d : PyData) (a b : Int) : Bool := match d with | .int i => decide (a ≤ i) && decide (i ≤ b) | _ => false
def isProc (c d : PyData) : Bool := match c with | .int n => (decide (1 ≤ n) && decide (n ≤ 12)) && isInt d 0 (n - 1) | _ => false
def isMem (c : PyData) : PyData → Bool
  | .tuple [x, y] => isProc c x && isInt y 1 1000000000000
  | _ => false
def isVid (c : PyData) : PyData → Bool
  | .tuple [x, y] => isInt x 0 1000000000000 && isMem c y
  | _ => false
def procOf : PyData → Int
  | .tuple (.int i :: _) => i
  | _ => 0
def memsFrom (c : PyData) : Int → List PyData → Bool
  | _, [] => true
  | l, d :: ds => isMem c d && decide (l < procOf d) && memsFrom c (procOf d) ds
def isMems (c : PyData) : PyData → Bool
  | .tuple ds => !ds.isEmpty && memsFrom c (-1) ds
  | _ => false
theorem isProc_int {c d : PyData} (h : isProc c d = true) : ∃ n i, c = .int n ∧ d = .int i ∧ 1 ≤ n ∧ n ≤ 12 ∧ 0 ≤ i ∧ i < n := by
  cases c <;> try (simp [isProc] at h; done)
  rename_i n
  cases d <;> try (simp [isProc, isInt] at h; done)
  rename_i i
  simp [isProc, isInt] at h
  exact ⟨n, i, rfl, rfl, by omega, by omega, by omega, by omega⟩
theorem isInt_int {d : PyData} {a b : Int} (h : isInt d a b = true) : ∃ i, d = .int i ∧ a ≤ i ∧ i ≤ b := by
  cases d <;> try (simp [isInt] at h; done)
  rename_i i
  simp [isInt] at h
  exact ⟨i, rfl, h.1, h.2⟩
theorem isMem_int {c d : PyData} (h : isMem c d = true) : ∃ n i l, c = .int n ∧ d = .tuple [.int i, .int l] ∧ 1 ≤ n ∧ n ≤ 12 ∧ 0 ≤ i ∧ i < n ∧ 1 ≤ l ∧ l ≤ 1000000000000 := by
  unfold isMem at h
  split at h
  · rename_i x y
    rw [Bool.and_eq_true] at h
    obtain ⟨n, i, rfl, rfl, h1, h2, h3, h4⟩ := isProc_int h.1
    obtain ⟨l, rfl, h5, h6⟩ := isInt_int h.2
    exact ⟨n, i, l, rfl, rfl, h1, h2, h3, h4, h5, h6⟩
  · cases h
/-! ### promises: a truth told of data, nothing changed -/
def spI : Sp := fun vs H Q _ => ∃ (p : Addr) (v : V) (d : PyData) (a b : Int), vs = [v, .int a, .int b] ∧ Rp p H v d ∧ Q (.bl (isInt d a b)) H
def spB1 (f : PyData → Bool) : Sp := fun vs H Q _ => ∃ (p : Addr) (v : V) (d : PyData), vs = [v] ∧ Rp p H v d ∧ Q (.bl (f d)) H
def spB2 (f : PyData → PyData → Bool) : Sp := fun vs H Q _ => ∃ (p : Addr) (u v : V) (c d : PyData), vs = [u, v] ∧ Rp p H u c ∧ Rp p H v d ∧ Q (.bl (f c d)) H
/-- the same where new things may have come -/
def spS1 (f : PyData → Bool) : Sp := fun vs H Q _ => ∃ (p : Addr) (v : V) (d : PyData), vs = [v] ∧ Rp p H v d ∧ ∀ H', Same H H' → Q (.bl (f d)) H'
def spS2 (f : PyData → PyData → Bool) : Sp := fun vs H Q _ => ∃ (p : Addr) (u v : V) (c d : PyData), vs = [u, v] ∧ Rp p H u c ∧ Rp p H v d ∧ ∀ H', Same H H' → Q (.bl (f c d)) H'
theorem ansB {Q : VK} {H : Hp} {b c : Bool} (q : Q (.bl b) H) (e : b = c) : Q (.bl c) H := e ▸ q
theorem iB {A B : Prop} {b : Bool} (h1 : b = true → A) (h2 : b = false → B) : if b = true then A else B := by
  cases b
  · exact iteF (h2 rfl)
  · exact iteT (h1 rfl)
theorem vint_ne {a b : Int} (h : a ≠ b) : ¬ V.int a = V.int b := fun e => h (V.int.inj e)
theorem drop_cons {α : Type} {xs : List α} {i : Nat} {x : α} (h : xs[i]? = some x) : xs.drop i = x :: xs.drop (i + 1) := by
  obtain ⟨hi, e⟩ := List.getElem?_eq_some_iff.mp h
  rw [List.drop_eq_getElem_cons hi, e]
section
variable {P : Program} {w : World} {K : PySem.W.Frag} {mg : Str → Option Value} {base : Heap}
theorem no_call {CX : CXT} {k : Nat} {f : Addr} {fd : FuncData} {ps : List Str} {sp : Sp} (no : ∀ vs H Q E, ¬ sp vs H Q E) : FnOk P w K mg base CX k f fd ps sp :=
  ⟨fun vs H Q E h => absurd h (no vs H Q E), fun A outer s H args us vs Q E _ _ _ _ h => absurd h (no vs H Q E)⟩
end
end Mus

set_option maxRecDepth 100000
set_option maxHeartbeats 4000000
/-! The bag of a law's draws, new things beside it, displays of data, tuples cut and joined. -/
namespace Mus
open PySem L2
def Bag (p : Addr) (c : Int) (H : Hp) : Prop := ∃ x y : Int, H p = some (.lst [.int x, .int y, .int c])
theorem Bag.seqT {K : PySem.W.Frag} {p : Addr} {c : Int} {H H' : Hp} (g : Bag p c H) (b : But p H H') {a : Addr} {xs : List V} (h : SqT K H a xs) : SqT K H' a xs := by
  obtain ⟨x, y, hp⟩ := g
  exact b.seqT hp h
theorem Bag.ne {p D : Addr} {c : Int} {H : Hp} (g : Bag p c H) (h : H D = none) : p ≠ D := by
  obtain ⟨x, y, hp⟩ := g
  exact ne_of_none hp h
theorem Bag.upd {p D : Addr} {c : Int} {H : Hp} {o : HO} (g : Bag p c H) (h : p ≠ D) : Bag p c (upd H D o) := by
  obtain ⟨x, y, hp⟩ := g
  exact ⟨x, y, by rw [upd_ne h]; exact hp⟩
theorem Bag.new {p D : Addr} {c : Int} {H : Hp} {o : HO} (g : Bag p c H) (h : H D = none) : Bag p c (L2.upd H D o) := g.upd (g.ne h)
theorem Bag.same {p : Addr} {c : Int} {H H' : Hp} (g : Bag p c H) (s : Same H H') : Bag p c H' := by
  obtain ⟨x, y, hp⟩ := g
  exact ⟨x, y, s _ _ hp⟩
/-- a new thing -/
theorem But.new {p D : Addr} {H H' : Hp} {o : HO} (b : But p H H') (h : H' D = none) : But p H (L2.upd H' D o) := fun a u e n => by
  have z := b a u e n
  rw [upd_ne (ne_of_none z h)]; exact z
/-- a change at what was not there at first -/
theorem But.later {p D : Addr} {H H' : Hp} {o : HO} (b : But p H H') (h : H D = none) : But p H (L2.upd H' D o) := fun a u e n => by
  rw [upd_ne (ne_of_none e h)]; exact b a u e n
theorem But.free {p D : Addr} {H H' : Hp} (b : But p H H') (h : H' D = none) (n : D ≠ p) : H D = none := by
  cases e : H D with
  | none => rfl
  | some o =>
    have z := b D o e n
    rw [h] at z; cases z
/-! ### displays -/
/-- the expression gives the int i, and that is all -/
def DI (te : TE) (σ : St) (i : Int) : Prop := ∀ (H : Hp) (Q : VK), Q (.int i) H → te σ H Q
/-- the expression gives the data d, new things beside what was -/
def DE (p : Addr) (te : TE) (σ : St) (d : PyData) : Prop := ∀ (c : Int) (H : Hp) (Q : VK), Bag p c H → (∀ v H', Same H H' → Bag p c H' → Rp p H' v d → Q v H') → te σ H Q
def DEs (p : Addr) (ta : TA) (σ : St) (ds : List PyData) : Prop := ∀ (c : Int) (H : Hp) (Q : List V → Hp → Prop), Bag p c H → (∀ vs H', Same H H' → Bag p c H' → Rps p H' vs ds → Q vs H') → ta σ H Q
section
variable {p : Addr} {σ : St} {te ta1 tb1 : TE} {ta : TA} {i j : Int} {d : PyData} {ds : List PyData}
theorem Same.rfl' (H : Hp) : Same H H := fun _ _ h => h
theorem di_c : DI (tC (.int i)) σ i := fun _ _ q => q
theorem di_v {n : Nat} (h : σ[n]? = some (some (.int i))) : DI (tVar n) σ i := fun _ _ q => ⟨_, h, q⟩
theorem di_op {f : Int → Int → Int} (h1 : DI ta1 σ i) (h2 : DI tb1 σ j) : DI (tOp (rI0 fun i j => .int (f i j)) ta1 tb1) σ (f i j) := fun H Q q => h1 H _ (h2 H _ ⟨i, j, rfl, rfl, q⟩)
theorem di_opC {C : Int → Int → Prop} {f : Int → Int → Int} (h1 : DI ta1 σ i) (h2 : DI tb1 σ j) (hc : C i j) : DI (tOp (rI C fun i j => .int (f i j)) ta1 tb1) σ (f i j) := fun H Q q => h1 H _ (h2 H _ ⟨i, j, rfl, rfl, hc, q⟩)
theorem di_neg (h1 : DI te σ i) : DI (tUn (rU fun i => .int (-i)) te) σ (-i) := fun H Q q => h1 H _ ⟨i, rfl, q⟩
theorem de_i (h : DI te σ i) : DE p te σ (.int i) := fun c H Q g q => h H Q (q _ H (Same.rfl' H) g (.int i))
theorem de_bl {b : Bool} : DE p (tC (.bl b)) σ (.bool b) := fun c H Q g q => q _ H (Same.rfl' H) g (.bl b)
theorem de_str {z : Str} : DE p (tC (.str z)) σ (.str z) := fun c H Q g q => q _ H (Same.rfl' H) g (.str z)
theorem de_non : DE p (tC .non) σ .none := fun c H Q g q => q _ H (Same.rfl' H) g .non
theorem des_nil : DEs p tNil σ [] := fun c H Q g q => q [] H (Same.rfl' H) g .nil
theorem des_cons (h1 : DE p te σ d) (h2 : DEs p ta σ ds) : DEs p (tCons te ta) σ (d :: ds) := fun c H Q g q =>
  h1 c H _ g fun v H1 s1 g1 r1 => h2 c H1 _ g1 fun vs H2 s2 g2 r2 => q _ H2 (s1.trans s2) g2 (.cons (r1.same s2) r2)
theorem de_tup (h : DEs p ta σ ds) (hl : ds.length ≤ 1000) : DE p (tTup ta) σ (.tuple ds) := fun c H Q g q =>
  h c H _ g fun vs H1 s1 g1 r1 => ⟨by have := r1.length; have := sl; omega, fun a na => q _ _ (s1.trans (same_new na _)) (g1.new na) (.tup upd_same (g1.ne na).symm (by have := r1.length; omega) (r1.same (same_new na _)))⟩
theorem de_lst (h : DEs p ta σ ds) (hl : ds.length ≤ 1000) : DE p (tLst ta) σ (.list ds) := fun c H Q g q =>
  h c H _ g fun vs H1 s1 g1 r1 => ⟨by have := r1.length; have := sl; omega, fun a na => q _ _ (s1.trans (same_new na _)) (g1.new na) (.lst upd_same (g1.ne na).symm (r1.same (same_new na _)))⟩
theorem de_lstN (n : Nat) (R : PyData → Prop) {c : Int} {H : Hp} {Q : VK} (h : ∃ ds, DEs p ta σ ds ∧ ds.length = n ∧ ∀ d ∈ ds, R d) (hn : n ≤ 1000) (g : Bag p c H)
    (q : ∀ ds v H', ds.length = n → (∀ d ∈ ds, R d) → Same H H' → Bag p c H' → Rp p H' v (.list ds) → Q v H') : tLst ta σ H Q := by
  obtain ⟨ds, h1, h2, h3⟩ := h
  exact de_lst h1 (by omega) c H Q g fun v H' => q ds v H' h2 h3
theorem de_cat {es : List PyData} (h1 : DE p ta1 σ (.list ds)) (h2 : DE p tb1 σ (.list es)) (hl : ds.length + es.length ≤ 1000) : DE p (tOp rCat ta1 tb1) σ (.list (ds ++ es)) := fun c H Q g q =>
  h1 c H _ g fun v H1 s1 g1 r1 => h2 c H1 _ g1 fun u H2 s2 g2 r2 => by
    obtain _ | _ | _ | _ | @⟨a, xs, _, ha, na, hr⟩ | _ := r1.same s2
    obtain _ | _ | _ | _ | @⟨b, ys, _, hb, nb, hr2⟩ | _ := r2
    refine ⟨a, b, xs, ys, rfl, rfl, ha, hb, ?_, fun t nt => q _ _ (s1.trans (s2.trans (same_new nt _))) (g2.new nt) (.lst upd_same (g2.ne nt).symm ((hr.append hr2).same (same_new nt _)))⟩
    have := hr.length; have := hr2.length; have := sl; omega
theorem de_varD {n : Nat} {v : V} (h : σ[n]? = some (some v)) (hd : ∀ H, Rp p H v d) : DE p (tVar n) σ d := fun c H Q g q => ⟨_, h, q _ H (Same.rfl' H) g (hd H)⟩
end
/-! ### tuples cut and joined -/
def cutD (ds : List PyData) (lo hi : Option Int) : List PyData := (ds.drop (HT.sIx ds.length 0 lo)).take (HT.sIx ds.length ds.length hi - HT.sIx ds.length 0 lo)
theorem Rps.cut {p : Addr} {H : Hp} {vs : List V} {ds : List PyData} (r : Rps p H vs ds) (lo hi : Option Int) : Rps p H (cutV vs lo hi) (cutD ds lo hi) := by
  unfold cutV cutD
  rw [r.length]
  exact (r.drop _).take _
theorem cutD_len (ds : List PyData) (lo hi : Option Int) : (cutD ds lo hi).length ≤ ds.length := by
  unfold cutD
  rw [List.length_take, List.length_drop]; omega
theorem cutD_mem {ds : List PyData} {lo hi : Option Int} {d : PyData} (h : d ∈ cutD ds lo hi) : d ∈ ds := List.mem_of_mem_drop (List.mem_of_mem_take h)
theorem cut_whole {xs : List V} {lo hi : Option Int} (h : HT.sIx xs.length 0 lo = 0 ∧ HT.sIx xs.length xs.length hi = xs.length) : cutV xs lo hi = xs := by
  unfold cutV
  rw [h.1, h.2, List.drop_zero, Nat.sub_zero, List.take_length]
section
variable {K : PySem.W.Frag} {p : Addr} {c : Int} {H : Hp} {Q : VK}
theorem rd_cut {a : Addr} {ds : List PyData} {lo hi : Option Int} (r : Rp p H (.ref a) (.tuple ds)) (g : Bag p c H)
    (q : ∀ b H', Same H H' → Bag p c H' → Rp p H' (.ref b) (.tuple (cutD ds lo hi)) → Q (.ref b) H') : rSlA K (.ref a) lo hi H Q := by
  obtain _ | _ | _ | _ | _ | @⟨_, xs, _, ha, na, hw, hr⟩ := r
  refine ⟨a, xs, rfl, SqT.of ha, fun w => ?_, fun w b nb => ?_⟩
  · refine q _ _ (Same.rfl' H) g (.tup ha na hw ?_)
    have z := hr.cut lo hi
    rw [cut_whole w] at z
    exact z
  · exact q _ _ (same_new nb _) (g.new nb) (.tup upd_same (g.ne nb).symm (Nat.le_trans (cutV_length _ _ _) hw) ((hr.cut lo hi).same (same_new nb _)))
theorem rd_cat {a b : Addr} {ds es : List PyData} (r1 : Rp p H (.ref a) (.tuple ds)) (r2 : Rp p H (.ref b) (.tuple es)) (g : Bag p c H) (hl : ds.length + es.length ≤ 100000)
    (q : ∀ t H', Same H H' → Bag p c H' → Rp p H' (.ref t) (.tuple (ds ++ es)) → Q (.ref t) H') : rCatA K (.ref a) (.ref b) H Q := by
  have k2 := r2
  have k1 := r1
  obtain _ | _ | _ | _ | _ | @⟨_, xs, _, ha, na, hw, hr⟩ := r1
  obtain _ | _ | _ | _ | _ | @⟨_, ys, _, hb, nb, hw2, hr2⟩ := r2
  have l1 := hr.length
  have l2 := hr2.length
  have hs := sl
  refine ⟨a, b, xs, ys, rfl, rfl, SqT.of ha, SqT.of hb, by omega, fun e => ?_, fun _ e => ?_, fun _ _ t nt => ?_⟩
  · subst e
    cases ds with
    | nil => exact q _ _ (Same.rfl' H) g k2
    | cons _ _ => cases l1
  · subst e
    cases es with
    | nil => rw [List.append_nil] at q; exact q _ _ (Same.rfl' H) g k1
    | cons _ _ => cases l2
  · exact q _ _ (same_new nt _) (g.new nt) (.tup upd_same (g.ne nt).symm (by rw [List.length_append]; omega) ((hr.append hr2).same (same_new nt _)))
end
/-! ### how deep and wide, what its texts are -/
def fit : Nat → PyData → Prop
  | 0, .tuple _ => False
  | n + 1, .tuple ds => ds.length ≤ 3000 ∧ ∀ d ∈ ds, fit n d
  | _, _ => True
inductive Her (P : Str → Prop) : PyData → Prop
  | tup {ds : List PyData} : (∀ d ∈ ds, Her P d) → Her P (.tuple ds)
  | str {z : Str} : P z → Her P (.str z)
  | non : Her P .none
  | bl (b : Bool) : Her P (.bool b)
  | int (i : Int) : Her P (.int i)
  | lst (ds : List PyData) : Her P (.list ds)
theorem Her.mem {P : Str → Prop} {ds : List PyData} (h : Her P (.tuple ds)) : ∀ d ∈ ds, Her P d := by
  cases h with
  | tup h => exact h
theorem Her.cut {P : Str → Prop} {ds : List PyData} (h : Her P (.tuple ds)) (lo hi : Option Int) : Her P (.tuple (cutD ds lo hi)) := .tup fun d m => h.mem d (cutD_mem m)
theorem Her.app {P : Str → Prop} {ds es : List PyData} (h : Her P (.tuple ds)) (k : Her P (.tuple es)) : Her P (.tuple (ds ++ es)) := .tup fun d m => by
  rcases List.mem_append.mp m with m | m
  · exact h.mem d m
  · exact k.mem d m
theorem Her.one {P : Str → Prop} {d : PyData} (h : Her P d) : Her P (.tuple [d]) := .tup fun e m => by rw [List.mem_singleton.mp m]; exact h
/-- one level less, if there is one -/
def spv (sp : Nat → Sp) (n : Nat) : Sp := fun vs H Q E => ∃ m, n = m + 1 ∧ sp m vs H Q E
/-- a thing spoilt: some data, its texts from the two -/
def sp_spoilt (n : Nat) : Sp := fun vs H Q _ => ∃ (p : Addr) (c : Int) (v o : V) (d e : PyData), vs = [.ref p, v, o] ∧ Bag p c H ∧ Rp p H v d ∧ Rp p H o e ∧ fit n d ∧
  ∀ v' d' H', Rp p H' v' d' → (∀ P, Her P d → Her P e → Her P d') → But p H H' → Bag p c H' → Q v' H'
def sp_bag (K : PySem.W.Frag) : Sp := fun vs H Q _ => ∃ (a : Addr) (ns : List Int) (k : Nat), vs = [.ref a, .int k] ∧ SqL K H a (ns.map V.int) ∧ ∀ p H', H p = none → Same H H' → Bag p k H' → Q (.ref p) H'
def sp_draw : Sp := fun vs H Q _ => ∃ (p : Addr) (c m : Int), vs = [.ref p, .int m] ∧ Bag p c H ∧ 0 < m ∧ m.natAbs < 2 ^ 100 ∧ ∀ r H', 0 ≤ r → r < m → But p H H' → Bag p c H' → Q (.int r) H'
/-- an int at least 1 and at most 10 ** 12 -/
def sp_pos : Sp := fun vs H Q _ => ∃ (p : Addr) (c : Int), vs = [.ref p] ∧ Bag p c H ∧ ∀ r H', 1 ≤ r → r ≤ 1000000000000 → But p H H' → Bag p c H' → Q (.int r) H'
end Mus
namespace Mus
open PySem L2
/-- no list in it -/
inductive NoL : PyData → Prop
  | tup {ds : List PyData} : (∀ d ∈ ds, NoL d) → NoL (.tuple ds)
  | str (z : Str) : NoL (.str z)
  | non : NoL .none
  | bl (b : Bool) : NoL (.bool b)
  | int (i : Int) : NoL (.int i)
theorem NoL.mem {ds : List PyData} (h : NoL (.tuple ds)) : ∀ d ∈ ds, NoL d := by
  cases h with
  | tup h => exact h
theorem NoL.two {a b : PyData} (h : NoL a) (k : NoL b) : NoL (.tuple [a, b]) := .tup fun d m => by
  rcases List.mem_cons.mp m with rfl | m
  · exact h
  · rw [List.mem_singleton.mp m]; exact k
theorem NoL.three {a b c : PyData} (h : NoL a) (k : NoL b) (l : NoL c) : NoL (.tuple [a, b, c]) := .tup fun d m => by
  rcases List.mem_cons.mp m with rfl | m
  · exact h
  · rcases List.mem_cons.mp m with rfl | m
    · exact k
    · rw [List.mem_singleton.mp m]; exact l
mutual
theorem Rp.upL {p D : Addr} {H H' : Hp} {ys : List V} (hD : H D = some (.lst ys)) (k : ∀ b o, H b = some o → b ≠ p → b ≠ D → H' b = some o) : ∀ {v : V} {d : PyData}, Rp p H v d → NoL d → Rp p H' v d
  | _, _, .non, _ => .non
  | _, _, .bl b, _ => .bl b
  | _, _, .int i, _ => .int i
  | _, _, .str x, _ => .str x
  | _, _, .lst h n r, z => nomatch z
  | _, _, .tup h n l r, z => .tup (k _ _ h n (ne_of h hD (by intro z; cases z))) n l (Rps.upL hD k r z.mem)
theorem Rps.upL {p D : Addr} {H H' : Hp} {ys : List V} (hD : H D = some (.lst ys)) (k : ∀ b o, H b = some o → b ≠ p → b ≠ D → H' b = some o) : ∀ {vs : List V} {ds : List PyData}, Rps p H vs ds → (∀ d ∈ ds, NoL d) → Rps p H' vs ds
  | _, _, .nil, _ => .nil
  | _, _, .cons a b, z => .cons (Rp.upL hD k a (z _ List.mem_cons_self)) (Rps.upL hD k b fun d m => z d (List.mem_cons_of_mem _ m))
end
/-- a change at the list at D -/
theorem Rps.updL {p D : Addr} {H : Hp} {ys : List V} {o : HO} (hD : H D = some (.lst ys)) {vs : List V} {ds : List PyData} (r : Rps p H vs ds) (z : ∀ d ∈ ds, NoL d) : Rps p (upd H D o) vs ds :=
  r.upL hD (fun b o h _ n => by rw [upd_ne n]; exact h) z
theorem Rp.updL {p D : Addr} {H : Hp} {ys : List V} {o : HO} (hD : H D = some (.lst ys)) {v : V} {d : PyData} (r : Rp p H v d) (z : NoL d) : Rp p (upd H D o) v d :=
  r.upL hD (fun b o h _ n => by rw [upd_ne n]; exact h) z
end Mus

set_option maxRecDepth 100000
set_option maxHeartbeats 4000000
/-! Methods and makers of own classes, as DefOk is for defs. -/
namespace Mus
open PySem L2
structure MethOk (P : Program) (w : World) (K : PySem.W.Frag) (mg : Str → Option Value) (base : Heap) (CX : CXT) (C : Addr) (x : Str) (ps : List Str) (k : Nat) (sp : Sp) where
  f : Addr
  fd : FuncData
  G : FnOk P w K mg base CX k f fd ps sp
  m : Meth K C x f
  b : Binds K fd ps []
structure MethAt (K : PySem.W.Frag) (C : Addr) (x qual : Str) (ps : List Str) (st : Stmt) where
  f : Addr
  fd : FuncData
  F : Fun K x qual st f fd
  m : Meth K C x f
  b : Binds K fd ps []
def MethAt.ok {P : Program} {w : World} {K : PySem.W.Frag} {mg : Str → Option Value} {base : Heap} {CX : CXT} {C : Addr} {x qual : Str} {ps : List Str} {st : Stmt} {k : Nat} {sp : Sp} (d : MethAt K C x qual ps st) (h : ∀ {f : Addr} {fd : FuncData}, Fun K x qual st f fd → FnOk P w K mg base CX k f fd ps sp) : MethOk P w K mg base CX C x ps k sp :=
  ⟨d.f, d.fd, h d.F, d.m, d.b⟩
/-- a class whose __init__ keeps the promise -/
structure MkOk (P : Program) (w : World) (K : PySem.W.Frag) (mg : Str → Option Value) (base : Heap) (C : Addr) (x : Str) (ps : List Str) (k : Nat) (sp : Sp) where
  f : Addr
  fd : FuncData
  G : FnOk P w K mg base CX0 k f fd ps sp
  M : Mk K C f
  g : mg x = some (.ref C)
  b : Binds K fd ps []
def MethAt.mk' {P : Program} {w : World} {K : PySem.W.Frag} {mg : Str → Option Value} {base : Heap} {C : Addr} {x : Str} {qual : Str} {ps : List Str} {st : Stmt} {k : Nat} {sp : Sp} (d : MethAt K C "__init__" qual ps st) (hm : PySem.W.makesIn K C = true) (hk : PySem.W.keepIn K (.ref C) = true) (g : mg x = some (.ref C))
    (h : ∀ {f : Addr} {fd : FuncData}, Fun K "__init__" qual st f fd → FnOk P w K mg base CX0 k f fd ps sp) : MkOk P w K mg base C x ps k sp :=
  ⟨d.f, d.fd, h d.F, ⟨hm, d.m.at_, d.m.fn, hk⟩, g, d.b⟩
section
variable {X : Cx} {C : Addr} {x m : Str} {ps : List Str} {j k : Nat} {sp : Sp} {o e : Expr} {es : List Expr} {to : TE} {t : TA} {p pos apos : Pos}
theorem pmeth {pl : Sem Bool} (c : MethOk X.prog X.w X.K X.mg X.base CX0 C m ps j sp) (cl : Cls X.K C) (ho : PE X o to) (hr : Room k X.A) (ha : PA X (e :: es) t) (hj : j ≤ k := by first | decide | omega)
    (st0 : starEach (e :: es) X.env = (false, eval e X.env) :: starEach es X.env := by rfl) (pl0 : (backTo pos (starEach es X.env)).any (·.1) = false := by rfl)
    (ht : eval (.Call (.Attribute o m apos) (e :: es) [] pos) X.env = (do
      let v ← eval o X.env; standAt apos.atName; let (f, one) ← holding [v] (getMethod v m pl)
      callWith pos f one (backTo pos (starEach (e :: es) X.env)) (backToKw pos (keywordEach [] X.env))) := by rfl) :
    PE X (.Call (.Attribute o m apos) (e :: es) [] pos) (tMeth C m sp [] E0 to t) := pe_meth ho cl c.m c.G (hr.mono hj) c.b .nil pass0 ha st0 pl0 ht
theorem pmeth0 {pl : Sem Bool} (c : MethOk X.prog X.w X.K X.mg X.base CX0 C m ps j sp) (cl : Cls X.K C) (ho : PE X o to) (hr : Room k X.A) (hj : j ≤ k := by first | decide | omega)
    (ht : eval (.Call (.Attribute o m apos) [] [] pos) X.env = (do
      let v ← eval o X.env; standAt apos.atName; let (f, one) ← holding [v] (getMethod v m pl)
      callWith pos f one (backTo pos (starEach [] X.env)) (backToKw pos (keywordEach [] X.env))) := by rfl) :
    PE X (.Call (.Attribute o m apos) [] [] pos) (tMeth C m sp [] E0 to tNil) := pe_meth0 ho cl c.m c.G (hr.mono hj) c.b .nil pass0 ht
theorem pmake (c : MkOk X.prog X.w X.K X.mg X.base C x ps j sp) (hr : Room k X.A) (ha : PA X (e :: es) t) (hj : j + 1 ≤ k := by first | decide | omega) (hg : Gl X x := by rfl)
    (d0 : (x == ("__debug__" : Str)) = false := by decide) (st0 : starEach (e :: es) X.env = (false, eval e X.env) :: starEach es X.env := by rfl) (pl0 : (backTo pos (starEach es X.env)).any (·.1) = false := by rfl) :
    PE X (.Call (.Name x p) (e :: es) [] pos) (tMake C sp [] E0 t) := pe_make c.M c.G (hr.mono hj) hg c.g c.b .nil pass0 ha d0 st0 pl0
theorem pmake0 (c : MkOk X.prog X.w X.K X.mg X.base C x ps j sp) (hr : Room k X.A) (hj : j + 1 ≤ k := by first | decide | omega) (hg : Gl X x := by rfl) (d0 : (x == ("__debug__" : Str)) = false := by decide) :
    PE X (.Call (.Name x p) [] [] pos) (tMake C sp [] E0 tNil) := pe_make0 c.M c.G (hr.mono hj) hg c.g c.b .nil pass0 d0
end
end Mus

set_option maxRecDepth 100000
set_option maxHeartbeats 4000000
/-! The texts of lives, as lists of signs. -/
namespace Mus
open PySem L2 TL PySem.NumText
def allD (l : List Nat) : Bool := l.all fun c => decide (48 ≤ c) && decide (c ≤ 57)
theorem allD_iff {l : List Nat} : allD l = true ↔ AllDigits l := by
  unfold allD AllDigits
  rw [List.all_eq_true]
  constructor
  · intro h c hc
    have := h c hc
    rw [Bool.and_eq_true, decide_eq_true_eq, decide_eq_true_eq] at this
    exact this
  · intro h c hc
    rw [Bool.and_eq_true, decide_eq_true_eq, decide_eq_true_eq]
    exact h c hc
/-- the text of a life -/
def lifeT (n : Nat) : List Nat := numL n ++ 61 :: numL n
/-- the life of a text, or 0 -/
def lifeF (l : List Nat) : Nat :=
  if (l.takeWhile fun c => decide (c ≠ 61)).length ≤ 13 ∧ allD (l.takeWhile fun c => decide (c ≠ 61)) = true ∧ (l.takeWhile fun c => decide (c ≠ 61)) ≠ [] then
    (if 1 ≤ digitsVal (l.takeWhile fun c => decide (c ≠ 61)) ∧ digitsVal (l.takeWhile fun c => decide (c ≠ 61)) ≤ 1000000000000 ∧ lifeT (digitsVal (l.takeWhile fun c => decide (c ≠ 61))) = l then digitsVal (l.takeWhile fun c => decide (c ≠ 61)) else 0)
  else 0
theorem lifeF_ne {l : List Nat} (h : lifeF l ≠ 0) : ∃ n, l = lifeT n ∧ 1 ≤ n ∧ n ≤ 1000000000000 ∧ lifeF l = n := by
  unfold lifeF at h ⊢
  by_cases h1 : (l.takeWhile fun c => decide (c ≠ 61)).length ≤ 13 ∧ allD (l.takeWhile fun c => decide (c ≠ 61)) = true ∧ (l.takeWhile fun c => decide (c ≠ 61)) ≠ []
  · rw [if_pos h1] at h ⊢
    by_cases h2 : 1 ≤ digitsVal (l.takeWhile fun c => decide (c ≠ 61)) ∧ digitsVal (l.takeWhile fun c => decide (c ≠ 61)) ≤ 1000000000000 ∧ lifeT (digitsVal (l.takeWhile fun c => decide (c ≠ 61))) = l
    · rw [if_pos h2] at h ⊢
      exact ⟨_, h2.2.2.symm, h2.1, h2.2.1, rfl⟩
    · rw [if_neg h2] at h; exact absurd rfl h
  · rw [if_neg h1] at h; exact absurd rfl h
theorem take_free {d r : List Nat} (h : 61 ∉ d) : (d ++ 61 :: r).takeWhile (fun c => decide (c ≠ 61)) = d := by
  induction d with
  | nil => simp [List.takeWhile]
  | cons c d ih =>
    have hc : c ≠ 61 := fun e => h (by rw [e]; exact List.mem_cons_self)
    rw [List.cons_append, List.takeWhile_cons, decide_eq_true hc, if_pos rfl, ih fun m => h (List.mem_cons_of_mem _ m)]
theorem dig_free {d : List Nat} (h : AllDigits d) : 61 ∉ d := fun m => by have := h 61 m; omega
theorem numL_head0 : ∀ n : Nat, 1 ≤ n → ∃ c r, numL n = c :: r ∧ 49 ≤ c := by
  intro n
  induction n using Nat.strongRecOn with
  | _ n ih =>
    intro h
    by_cases h10 : n < 10
    · exact ⟨48 + n, [], numL_lt h10, by omega⟩
    · obtain ⟨c, r, e, hc⟩ := ih (n / 10) (by omega) (by omega)
      exact ⟨c, r ++ [48 + n % 10], by rw [numL_step (by omega), e, List.cons_append], hc⟩
theorem map_chars : ∀ {l : List Nat}, AllDigits l → (l.map Char.ofNat).map Char.toNat = l
  | [], _ => rfl
  | c :: l, h => by
    have hc := h.head
    have e : (Char.ofNat c).toNat = c := by
      have : c = 48 ∨ c = 49 ∨ c = 50 ∨ c = 51 ∨ c = 52 ∨ c = 53 ∨ c = 54 ∨ c = 55 ∨ c = 56 ∨ c = 57 := by omega
      rcases this with rfl | rfl | rfl | rfl | rfl | rfl | rfl | rfl | rfl | rfl <;> decide
    rw [List.map_cons, List.map_cons, e, map_chars h.tail]
theorem numL_back {d : List Nat} (h : AllDigits d) {c : Nat} {r : List Nat} (e : d = c :: r) (hc : 49 ≤ c) : numL (digitsVal d) = d := by
  unfold numL
  rw [toDigits_digitsVal r.length d (by rw [e]; rfl) h (.inr ⟨c, r, e, hc⟩), map_chars h]
theorem lifeF_T {n : Nat} (h1 : 1 ≤ n) (h2 : n ≤ 1000000000000) : lifeF (lifeT n) = n := by
  unfold lifeF lifeT
  rw [take_free (dig_free (numL_digits n)), numL_val]
  have hl : (numL n).length ≤ 13 := numL_len (k := 13) (by decide) (by omega)
  rw [if_pos ⟨hl, allD_iff.mpr (numL_digits n), numL_ne n⟩, if_pos ⟨h1, h2, rfl⟩]
theorem lifeF_big {n : Nat} (h : n = 0 ∨ 1000000000000 < n) : lifeF (lifeT n) = 0 := by
  cases e : lifeF (lifeT n) with
  | zero => rfl
  | succ k =>
    exfalso
    obtain ⟨m, e1, e2, e3, _⟩ := lifeF_ne (l := lifeT n) (by rw [e]; simp)
    have hl := congrArg List.length e1
    unfold lifeT at e1 hl
    rw [List.length_append, List.length_append, List.length_cons, List.length_cons] at hl
    have := (List.append_inj e1 (by omega)).1
    have := numL_inj this
    omega
/-- the law's way -/
def chk (d : List Nat) : Nat := if allD d = true then (if d.length > 13 ∨ d.head? = some 48 ∨ digitsVal d > 1000000000000 then 0 else digitsVal d) else 0
def Half (l : List Nat) (k : Nat) : Prop := l[k]? = some 61 ∧ l.take k = l.drop (k + 1)
theorem half_eq {l : List Nat} {k : Nat} (h : Half l k) : l = l.take k ++ 61 :: l.take k := by
  obtain ⟨h1, h2⟩ := h
  obtain ⟨hk, e⟩ := List.getElem?_eq_some_iff.mp h1
  have e2 := List.take_append_drop k l
  rw [List.drop_eq_getElem_cons hk, e, ← h2] at e2
  exact e2.symm
theorem halves {d e : List Nat} (h : d ++ 61 :: d = e ++ 61 :: e) : d = e := by
  have hl := congrArg List.length h
  rw [List.length_append, List.length_append, List.length_cons, List.length_cons] at hl
  exact (List.append_inj h (by omega)).1
theorem due_yes {l : List Nat} {k : Nat} (h1 : 1 ≤ k) (hk : k < l.length) (h : Half l k) : chk (l.take k) = lifeF l := by
  have e := half_eq h
  have hlen : (l.take k).length = k := by rw [List.length_take]; omega
  generalize l.take k = d at e hlen
  subst e
  cases hd : allD d with
  | false =>
    have e1 : chk d = 0 := by unfold chk; rw [hd]; rfl
    rw [e1]
    cases e2 : lifeF (d ++ 61 :: d) with
    | zero => rfl
    | succ m =>
      exfalso
      obtain ⟨n, e3, _⟩ := lifeF_ne (l := d ++ 61 :: d) (by rw [e2]; simp)
      have := halves e3
      rw [this, allD_iff.mpr (numL_digits n)] at hd
      cases hd
  | true =>
    have ad := allD_iff.mp hd
    have tw := take_free (r := d) (dig_free ad)
    have dne : d ≠ [] := fun z => by rw [z] at hlen; simp at hlen; omega
    unfold chk lifeF
    rw [tw, hd, if_pos rfl]
    by_cases h13 : d.length ≤ 13
    · rw [if_pos (show d.length ≤ 13 ∧ true = true ∧ d ≠ [] from ⟨h13, rfl, dne⟩)]
      obtain ⟨c, r, ec⟩ : ∃ c r, d = c :: r := by
        cases d with
        | nil => exact absurd rfl dne
        | cons c r => exact ⟨c, r, rfl⟩
      have hc := ad c (by rw [ec]; exact List.mem_cons_self)
      by_cases h48 : c = 48
      · rw [if_pos (.inr (.inl (by rw [ec, h48]; rfl)))]
        rw [if_neg]
        rintro ⟨q1, _, q3⟩
        have e5 := halves q3
        obtain ⟨c', r', e6, e7⟩ := numL_head0 _ q1
        rw [e5, ec] at e6
        cases e6
        omega
      · by_cases hv : digitsVal d > 1000000000000
        · rw [if_pos (.inr (.inr hv)), if_neg (by rintro ⟨_, q2, _⟩; omega)]
        · have e8 := numL_back ad ec (by omega)
          have n1 : ¬ (d.length > 13 ∨ d.head? = some 48 ∨ digitsVal d > 1000000000000) := by
            rintro (q | q | q)
            · omega
            · rw [ec] at q; simp at q; exact h48 q
            · exact hv q
          have n2 : 1 ≤ digitsVal d ∧ digitsVal d ≤ 1000000000000 ∧ lifeT (digitsVal d) = d ++ 61 :: d := by
            refine ⟨?_, by omega, ?_⟩
            · rw [ec]; exact digitsVal_pos (by omega)
            · unfold lifeT; rw [e8]
          rw [if_neg n1, if_pos n2]
    · rw [if_pos (.inl (by omega)), if_neg (by rintro ⟨q, _⟩; exact h13 q)]
theorem due_no {l : List Nat} (h : ∀ k, 1 ≤ k → k < l.length → ¬ Half l k) : lifeF l = 0 := by
  cases e2 : lifeF l with
  | zero => rfl
  | succ m =>
    exfalso
    obtain ⟨n, e3, _⟩ := lifeF_ne (l := l) (by rw [e2]; simp)
    have hp : 1 ≤ (numL n).length := List.length_pos_iff.mpr (numL_ne n)
    refine h (numL n).length hp ?_ ⟨?_, ?_⟩
    · rw [e3]; unfold lifeT; rw [List.length_append, List.length_cons]; omega
    · rw [e3]; unfold lifeT; rw [List.getElem?_append_right (Nat.le_refl _), Nat.sub_self]; rfl
    · rw [e3]; unfold lifeT
      rw [List.take_left, ← List.drop_drop, List.drop_left]; rfl
end Mus

set_option maxRecDepth 100000
set_option maxHeartbeats 4000000
namespace Mus
open PySem L2 TL PySem.NumText
/-- a text n times, n from 0 -/
theorem op_mul_strN {X : Cx} : OpR X (binaryOp .Mult) (fun x y H Q => ∃ (z : Str) (n : Int), x = .str z ∧ y = .int n ∧ 0 ≤ n ∧ n ≤ 1000 ∧ 1 ≤ z.length ∧ z.length ≤ 1000 ∧ ∀ r : Str, TL.tl r = (List.replicate n.toNat (TL.tl z)).flatten → Q (.str r) H) := by
  intro pins s σ H x y v u Q I rx ry h
  obtain ⟨z, n, rfl, rfl, h2, h3, h4, h5, q⟩ := h
  by_cases n2 : 2 ≤ n
  · exact op_mul_str pins s σ H _ _ v u Q I rx ry ⟨z, n, rfl, rfl, n2, h3, h4, h5, q⟩
  obtain ⟨t, rfl⟩ := rx
  obtain ⟨t', rfl⟩ := ry
  have hr : (decide (n < -(2 ^ 63 : Int)) || decide (n ≥ 2 ^ 63)) = false := by
    rw [decide_eq_false (by omega), decide_eq_false (by omega)]; rfl
  have hl : Builtin.Str.tooLong (z.length * n.toNat) = false := by
    unfold Builtin.Str.tooLong
    have e : sizeLine = 16777216 := sizeLine_eq
    have : z.length * n.toNat ≤ 1000 * 1 := Nat.mul_le_mul h5 (by omega)
    rw [decide_eq_false (by omega)]
  have hz : z.length ≤ sizeLine := by rw [sizeLine_eq]; omega
  by_cases n0 : n = 0
  · subst n0
    refine PySem.P.mul_str hr (fun a _ => absurd (by decide) a) (fun a _ => absurd (by decide) a) ?_
    rw [if_pos (by decide)]
    exact ⟨by decide, .str _, H, I.tok _, ⟨_, rfl⟩, q _ (by simp; rfl)⟩
  · have e : n = 1 := by omega
    subst e
    refine PySem.P.mul_str hr (fun _ a => by simp at a) (fun _ a => by simp at a) ?_
    rw [if_neg (by decide), if_pos (by simp)]
    exact ⟨.str _, H, I, ⟨_, rfl⟩, q _ (by simp)⟩
end Mus

set_option maxRecDepth 100000
set_option maxHeartbeats 4000000
/-! Errors of the program's own: made without arguments, let out by methods. -/
namespace Mus
open PySem PySem.Spec PyProof.Rows L2
section
variable {X : Cx} {C : Addr} {bmB : List Value} {B newId initId : String}
theorem pmk_own0 {x : Str} {p pos : Pos} (F : ExcBaseFacts B newId initId bmB) (q : PySem.W.excIn X.K C bmB newId = true) (gC : X.mg x = some (.ref C)) (kC : PySem.W.keepIn X.K (.ref C) = true) (r : Raises X (.ref C)) (hg : Gl X x := by rfl)
    (hdb : (x == ("__debug__" : Str)) = false := by decide) : PMk X (.Call (.Name x p) [] [] pos) (fun _ H Q => Q (.ref C) none H) := by
  intro pins s σ H Q I h
  refine wpAny_Call_Name_kw (ld_glob I hg gC ?_ hdb)
  refine PySem.W.callWith_K0 I.kIn kC ?_
  show wpAny _ _ (call (.ref C) []) _ _ _
  obtain ⟨mem, g, dw, tn, io⟩ := s
  obtain ⟨chain, N, nm0, qn, bs, hdct, sn, sub, ab, col, dd, k0, k1, k2, k3, k5, mN, cC, hN, hni, T⟩ := exc_obj I.kIn q
  exact wpAny_call_exc_subT F T cC hN hni (fun h' a hm => mk_of I hm r h (I.hok.gone hm.new)) (by show 0 ≤ sizeLine; rw [sizeLine_eq]; omega)
end
section
variable {X : Cx} {C : Addr} {x m : Str} {ps : List Str} {j k : Nat} {sp : Sp} {o e : Expr} {es : List Expr} {to : TE} {t : TA} {p pos apos : Pos} {W : WX} {E : XK}
/-- o.m(e, ..), what it lets out leaves this def, too -/
theorem pmethE {pl : Sem Bool} (c : MethOk X.prog X.w X.K X.mg X.base (L2.CX X.prog X.w) C m ps j sp) (cl : Cls X.K C) (tk : Takes X W) (hW : ∀ cls d σ H, E cls d H → W cls d σ H) (ho : PE X o to) (hr : Room k X.A) (ha : PA X (e :: es) t) (hj : j ≤ k := by first | decide | omega)
    (st0 : starEach (e :: es) X.env = (false, eval e X.env) :: starEach es X.env := by rfl) (pl0 : (backTo pos (starEach es X.env)).any (·.1) = false := by rfl)
    (ht : eval (.Call (.Attribute o m apos) (e :: es) [] pos) X.env = (do
      let v ← eval o X.env; standAt apos.atName; let (f, one) ← holding [v] (getMethod v m pl)
      callWith pos f one (backTo pos (starEach (e :: es) X.env)) (backToKw pos (keywordEach [] X.env))) := by rfl) :
    PE X (.Call (.Attribute o m apos) (e :: es) [] pos) (tMeth C m sp [] E to t) := pe_meth ho cl c.m c.G (hr.mono hj) c.b .nil (passes_call tk hW) ha st0 pl0 ht
/-- f(e, ..), the same of a def -/
theorem pcallE (c : DefOk X.prog X.w X.K X.mg X.base (L2.CX X.prog X.w) x ps j sp) (tk : Takes X W) (hW : ∀ cls d σ H, E cls d H → W cls d σ H) (hr : Room k X.A) (ha : PA X (e :: es) t) (hj : j ≤ k := by first | decide | omega) (hg : Gl X x := by rfl)
    (db0 : (x == ("__debug__" : Str)) = false := by decide) (st0 : starEach (e :: es) X.env = (false, eval e X.env) :: starEach es X.env := by rfl) (pl0 : (backTo pos (starEach es X.env)).any (·.1) = false := by rfl) :
    PE X (.Call (.Name x p) (e :: es) [] pos) (tCall sp [] E t) := pe_call c.G (hr.mono hj) hg c.m c.kp c.b .nil (passes_call tk hW) ha db0 st0 pl0
end
end Mus

set_option maxRecDepth 100000
set_option maxHeartbeats 4000000
/-! Torn texts of lives. -/
namespace Mus
open PySem L2 TL PySem.NumText
def full (n : Nat) : List Nat := if n = 0 then [] else lifeT n
def mix (a f k : Nat) : List Nat := (lifeT a).take k ++ (full f).drop k
theorem fold_lt : ∀ (d : List Nat) (acc : Nat), AllDigits d → d.foldl (fun acc c => acc * 10 + (c - 48)) acc < (acc + 1) * 10 ^ d.length := by
  intro d
  induction d with
  | nil => intro acc _; simp
  | cons c d ih =>
    intro acc h
    have hc := h.head
    have := ih (acc * 10 + (c - 48)) h.tail
    rw [List.foldl_cons, List.length_cons, Nat.pow_succ]
    have h2 : (acc * 10 + (c - 48) + 1) * 10 ^ d.length ≤ ((acc + 1) * 10) * 10 ^ d.length := Nat.mul_le_mul_right _ (by omega)
    have h3 : (acc + 1) * (10 ^ d.length * 10) = ((acc + 1) * 10) * 10 ^ d.length := by rw [Nat.mul_assoc, Nat.mul_comm 10]
    omega
theorem val_lt (d : List Nat) (h : AllDigits d) : digitsVal d < 10 ^ d.length := by
  have := fold_lt d 0 h
  rw [Nat.zero_add, Nat.one_mul] at this
  exact this
theorem num_mono {f a : Nat} (h : f ≤ a) : (numL f).length ≤ (numL a).length := by
  have h1 := val_lt (numL a) (numL_digits a)
  rw [numL_val] at h1
  exact numL_len (List.length_pos_iff.mpr (numL_ne a)) (by omega)
theorem lifeT_len (n : Nat) : (lifeT n).length = 2 * (numL n).length + 1 := by
  unfold lifeT
  rw [List.length_append, List.length_cons]; omega
theorem full_len {f a : Nat} (h : f ≤ a) : (full f).length ≤ (lifeT a).length := by
  unfold full
  split
  · exact Nat.zero_le _
  · rw [lifeT_len, lifeT_len]
    have := num_mono h
    omega
theorem mix_zero (a f : Nat) : mix a f 0 = full f := by unfold mix; simp
theorem mix_torn {a f : Nat} (h : f ≤ a) (j k : Nat) : (lifeT a).take k ++ (mix a f j).drop k = mix a f (max k j) := by
  have hl := full_len h
  unfold mix
  generalize lifeT a = N at hl ⊢
  generalize full f = F at hl ⊢
  rw [List.drop_append, List.length_take, List.drop_drop]
  by_cases hkj : k ≤ j
  · rw [Nat.max_eq_right hkj, ← List.append_assoc]
    have e1 : N.take k ++ (N.take j).drop k = N.take j := by
      have := List.take_append_drop k (N.take j)
      rwa [List.take_take, Nat.min_eq_left hkj] at this
    rw [e1]
    congr 1
    by_cases hn : k ≤ N.length
    · rw [show k - min j N.length = 0 by omega, Nat.add_zero]
    · rw [List.drop_eq_nil_of_le (by omega), List.drop_eq_nil_of_le (by omega)]
  · rw [Nat.max_eq_left (by omega), List.drop_eq_nil_of_le (by rw [List.length_take]; omega), List.nil_append]
    congr 1
    by_cases hn : j ≤ N.length
    · rw [show j + (k - min j N.length) = k by omega]
    · rw [List.drop_eq_nil_of_le (by omega), List.drop_eq_nil_of_le (by omega)]
theorem free_no {n : Nat} {l : List Nat} (h : 61 ∉ l) (e : l = lifeT n) : False := by
  apply h
  rw [e]
  unfold lifeT
  exact List.mem_append_right _ List.mem_cons_self
theorem split_free {d e r s : List Nat} (hd : 61 ∉ d) (he : 61 ∉ e) (h : d ++ 61 :: r = e ++ 61 :: s) : d = e ∧ r = s := by
  have t1 := take_free (r := r) hd
  rw [h, take_free he] at t1
  subst t1
  exact ⟨rfl, (List.cons.inj (List.append_cancel_left h)).2⟩
theorem num_free (n : Nat) : 61 ∉ numL n := dig_free (numL_digits n)
theorem mix_life {a f k : Nat} : lifeF (mix a f k) = 0 ∨ lifeF (mix a f k) = f ∨ (lifeF (mix a f k) = a ∧ mix a f k = lifeT a) := by
  by_cases h0 : lifeF (mix a f k) = 0
  · exact .inl h0
  right
  obtain ⟨n, e, h1, _, hn⟩ := lifeF_ne h0
  rw [hn]
  unfold mix at e
  by_cases hk : (numL a).length + 1 ≤ k
  · right
    have e1 : (lifeT a).take k = numL a ++ 61 :: (numL a).take (k - (numL a).length - 1) := by
      unfold lifeT
      rw [List.take_append, List.take_of_length_le (by omega), show k - (numL a).length = (k - (numL a).length - 1) + 1 by omega, List.take_succ_cons]
      rfl
    rw [e1, List.append_assoc, List.cons_append] at e
    have := split_free (num_free a) (num_free n) e
    have e2 := numL_inj this.1
    refine ⟨e2.symm, ?_⟩
    unfold mix
    rw [e1, List.append_assoc, List.cons_append, e]
    rw [e2]
  · left
    have e1 : (lifeT a).take k = (numL a).take k := by
      unfold lifeT
      rw [List.take_append, show k - (numL a).length = 0 by omega, List.take_zero, List.append_nil]
    have fr : 61 ∉ (numL a).take k := fun m => num_free a (List.mem_of_mem_take m)
    rw [e1] at e
    unfold full at e
    split at e
    · rw [List.drop_nil, List.append_nil] at e
      exact (free_no fr e).elim
    · unfold lifeT at e
      by_cases hg : k ≤ (numL f).length
      · rw [List.drop_append, show k - (numL f).length = 0 by omega, List.drop_zero, ← List.append_assoc] at e
        have fr2 : 61 ∉ (numL a).take k ++ (numL f).drop k := fun m => by
          rcases List.mem_append.mp m with m | m
          · exact fr m
          · exact num_free f (List.mem_of_mem_drop m)
        have := split_free fr2 (num_free n) e
        exact (numL_inj this.2).symm
      · exfalso
        rw [List.drop_append, List.drop_eq_nil_of_le (by omega), List.nil_append, show k - (numL f).length = (k - (numL f).length - 1) + 1 by omega, List.drop_succ_cons] at e
        refine free_no (n := n) ?_ e
        intro m
        rcases List.mem_append.mp m with m | m
        · exact fr m
        · exact num_free f (List.mem_of_mem_drop m)
theorem full_life {m : Nat} (h : m ≤ 1000000000000) : lifeF (full m) = m := by
  unfold full
  split
  · rename_i e; rw [e]; rfl
  · exact lifeF_T (by omega) h
/-- the two texts between two calls -/
def Mix (m : Nat) (t : List Nat) : Prop := ∃ f k, f ≤ m ∧ t = mix (m + 1) f k
def St2 (x y : List Nat) (m : Nat) : Prop := max (lifeF x) (lifeF y) = m ∧ if lifeF x ≤ lifeF y then Mix m x ∧ y = full m else Mix m y ∧ x = full m
theorem Mix.full {m f : Nat} (h : f ≤ m) : Mix m (full f) := ⟨f, 0, h, (mix_zero _ _).symm⟩
theorem st_first {x y : List Nat} {m : Nat} (hm : m ≤ 1000000000000) (h1 : Mix m x) (h2 : y = full m) (h3 : lifeF x ≤ m) : St2 x y m := by
  have e := full_life hm
  subst h2
  refine ⟨by rw [e]; omega, ?_⟩
  rw [if_pos (by rw [e]; exact h3)]
  exact ⟨h1, rfl⟩
theorem full_of {t : List Nat} {m : Nat} (h : lifeF t = m) (h0 : 1 ≤ m) : t = full m := by
  obtain ⟨n, e, _, _, hn⟩ := lifeF_ne (l := t) (by omega)
  unfold full
  rw [if_neg (by omega), e, show n = m by omega]
theorem st_second {x y : List Nat} {m : Nat} (hm : m ≤ 1000000000000) (h0 : 1 ≤ m) (h1 : Mix m y) (h2 : x = full m) (h3 : lifeF y ≤ m) : St2 x y m := by
  have e := full_life hm
  subst h2
  refine ⟨by rw [e]; omega, ?_⟩
  by_cases h : lifeF y = m
  · rw [if_pos (by rw [e, h]; exact Nat.le_refl _)]
    exact ⟨.full (Nat.le_refl _), full_of h h0⟩
  · rw [if_neg (by rw [e]; omega)]
    exact ⟨h1, rfl⟩
theorem full_succ (m : Nat) : full (m + 1) = lifeT (m + 1) := if_neg (by omega)
theorem st_full {x y : List Nat} {m : Nat} (hm : m + 1 ≤ 1000000000000) (h : St2 x y m) : if lifeF x ≤ lifeF y then St2 (lifeT (m + 1)) y (m + 1) else St2 x (lifeT (m + 1)) (m + 1) := by
  obtain ⟨_, h2⟩ := h
  by_cases hc : lifeF x ≤ lifeF y
  · rw [if_pos hc] at h2 ⊢
    rw [h2.2]
    exact st_second hm (by omega) (.full (by omega)) (full_succ m).symm (by rw [full_life (by omega)]; omega)
  · rw [if_neg hc] at h2 ⊢
    rw [h2.2]
    exact st_first hm (.full (by omega)) (full_succ m).symm (by rw [full_life (by omega)]; omega)
theorem st_torn {x y : List Nat} {m : Nat} (hm : m + 1 ≤ 1000000000000) (h : St2 x y m) (k : Nat) :
    if lifeF x ≤ lifeF y then ∃ m', (m' = m ∨ m' = m + 1) ∧ St2 ((lifeT (m + 1)).take k ++ x.drop k) y m' else ∃ m', (m' = m ∨ m' = m + 1) ∧ St2 x ((lifeT (m + 1)).take k ++ y.drop k) m' := by
  obtain ⟨h0, h2⟩ := h
  by_cases hc : lifeF x ≤ lifeF y
  · rw [if_pos hc] at h2 ⊢
    obtain ⟨⟨f, j, hf, rfl⟩, rfl⟩ := h2
    rw [mix_torn (by omega)]
    rcases mix_life (a := m + 1) (f := f) (k := max k j) with e | e | ⟨e, e2⟩
    · exact ⟨m, .inl rfl, st_first (by omega) ⟨f, _, hf, rfl⟩ rfl (by omega)⟩
    · exact ⟨m, .inl rfl, st_first (by omega) ⟨f, _, hf, rfl⟩ rfl (by omega)⟩
    · rw [e2]
      exact ⟨m + 1, .inr rfl, st_second hm (by omega) (.full (by omega)) (full_succ m).symm (by rw [full_life (by omega)]; omega)⟩
  · rw [if_neg hc] at h2 ⊢
    obtain ⟨⟨f, j, hf, rfl⟩, rfl⟩ := h2
    have m1 : 1 ≤ m := by rw [full_life (by omega)] at hc; omega
    rw [mix_torn (by omega)]
    rcases mix_life (a := m + 1) (f := f) (k := max k j) with e | e | ⟨e, e2⟩
    · exact ⟨m, .inl rfl, st_second (by omega) m1 ⟨f, _, hf, rfl⟩ rfl (by omega)⟩
    · exact ⟨m, .inl rfl, st_second (by omega) m1 ⟨f, _, hf, rfl⟩ rfl (by omega)⟩
    · rw [e2]
      exact ⟨m + 1, .inr rfl, st_first hm (.full (by omega)) (full_succ m).symm (by rw [full_life (by omega)]; omega)⟩
/-- two texts at the start -/
theorem st_start {a b : Nat} (ha : a ≤ 1000000000000) (hb : b ≤ 1000000000000) (h : 1 ≤ a ∨ 1 ≤ b ∨ (a = 0 ∧ b = 0)) : St2 (full a) (full b) (max a b) := by
  by_cases hc : a ≤ b
  · rw [Nat.max_eq_right hc]
    exact st_first hb (.full hc) rfl (by rw [full_life ha]; exact hc)
  · rw [Nat.max_eq_left (by omega)]
    exact st_second ha (by omega) (.full (by omega)) rfl (by rw [full_life hb]; omega)
end Mus

set_option maxRecDepth 100000
set_option maxHeartbeats 4000000
namespace Mus
open PySem L2 TL PySem.NumText
local macro_rules | `(tactic| walk_at "rd") => `(tactic| first
  | refine ⟨_, rfl, ?_⟩ | refine ⟨(True.intro : True), ?_⟩
  | refine ⟨_, _, rfl, rfl, (⟨by decide, by decide, by decide⟩ : CPow _ _), ?_⟩
  | refine ⟨_, _, rfl, rfl, (⟨by decide, by decide⟩ : CDiv _ _), ?_⟩
  | refine ⟨_, _, rfl, rfl, (by show (0 : Int) < _; decide), ?_⟩
  | refine ⟨_, _, rfl, rfl, ?_⟩ | refine ⟨rfl, ?_⟩ | refine iteT ?_ | refine iteF ?_ | refine ⟨_, _, rfl, ?_⟩ | refine .inl ⟨_, rfl, ?_⟩
  | refine ⟨_, _, _, _, _, rfl, (by assumption), (by assumption), (by assumption), rfl, ?_⟩ | refine ⟨_, _, _, _, rfl, rfl, SqT.of (by assumption), rfl, ?_⟩ | refine ⟨_, _, rfl, SqT.of (by assumption), rfl, ?_⟩
  | refine ⟨_, _, _, _, _, rfl, .ty _, Rp.ty (by assumption), kit_int _, ?_⟩ | refine ⟨_, _, _, _, _, rfl, .ty _, Rp.ty (by assumption), kit_bool _, ?_⟩
  | refine ⟨_, _, _, _, _, rfl, .ty _, Rp.ty (by assumption), kit_str _, ?_⟩ | refine ⟨_, _, _, _, _, rfl, .ty _, Rp.ty (by assumption), kit_tup _, ?_⟩)
local macro_rules | `(tactic| walk_at "cal") => `(tactic| first
  | refine ⟨_, _, _, _, _, rfl, (by assumption), ?_⟩ | refine ⟨_, _, _, _, _, rfl, (by assumption), (by assumption), ?_⟩)
local macro_rules | `(tactic| walk_at "sq") => `(tactic| first
  | refine ⟨_, _, rfl, Or.inr (SqT.of (by assumption)), ?_⟩ | refine ⟨_, _, _, _, rfl, rfl, SqT.of (by assumption), rfl, ?_⟩)
local macro_rules | `(tactic| walk_at "rds") => `(tactic| repeat first | walk_at "rd" | walk_at "cal" | walk_at "sq")
def top (i : Nat) : Stmt := PySem.Challenge.pw_mustercall_k12_whole_no_life_twice.main.body.getD i (.Pass ⟨0, 0, 0, 0⟩)
structure Tx (K : PySem.W.Frag) (mg : Str → Option Value) (C CC CE : Addr) : Prop where
  b_len : mg "len" = none
  b_isinstance : mg "isinstance" = none
  b_int : mg "int" = none
  b_bool : mg "bool" = none
  b_str : mg "str" = none
  b_range : mg "range" = none
  b_min : mg "min" = none
  b_max : mg "max" = none
  g_Cells : mg "Cells" = some (.ref C)
  cl_Cells : Cls K C
  n_Cells__texts : NoAttr K C "_texts"
  n_Cells__has_crashed : NoAttr K C "_has_crashed"
  n_Cells__passing : NoAttr K C "_passing"
  n_Cells__keep : NoAttr K C "_keep"
  g_DiskCrashed : mg "DiskCrashed" = some (.ref CC)
  x_DiskCrashed : PySem.W.excIn K CC [.type "ValueError", .type "Exception", .type "BaseException", .type "object"] "ValueError.__new__" = true
  k_DiskCrashed : PySem.W.keepIn K (.ref CC) = true
  b_DiskCrashed : PySem.W.subIn K (.ref CC) (.type "BaseException") = some true
  t_DiskCrashed : PySem.W.typeIn K (.ref CC) = some (.type "type")
  g_DiskError : mg "DiskError" = some (.ref CE)
  x_DiskError : PySem.W.excIn K CE [.type "ValueError", .type "Exception", .type "BaseException", .type "object"] "ValueError.__new__" = true
  k_DiskError : PySem.W.keepIn K (.ref CE) = true
  b_DiskError : PySem.W.subIn K (.ref CE) (.type "BaseException") = some true
  t_DiskError : PySem.W.typeIn K (.ref CE) = some (.type "type")
  m_CC : PySem.W.exmOne K (.ref CC) (.ref CC) = some true
  m_EC : PySem.W.exmOne K (.ref CE) (.ref CC) = some false
  m_EE : PySem.W.exmOne K (.ref CE) (.ref CE) = some true
  c_MOST_NUMBER : ∃ t, mg "MOST_NUMBER" = some (.int 1000000000000 t)
/-! ### the disk -/
def pasV : Option Int → V
  | none => .non
  | some i => .int i
def cf (l : Addr) (dead : Bool) (pas : Option Int) (keep : Int) : List (Str × V) := [("_texts", .ref l), ("_has_crashed", .bl dead), ("_passing", pasV pas), ("_keep", .int keep)]
structure CAt (C : Addr) (H : Hp) (p l : Addr) (ts : Str × Str) (dead : Bool) (pas : Option Int) (keep : Int) : Prop where
  ob : ∃ dx, H p = some (.ins C dx (cf l dead pas keep))
  hl : H l = some (.lst [.str ts.1, .str ts.2])
theorem CAt.same {C : Addr} {H H' : Hp} {p l : Addr} {ts : Str × Str} {dead : Bool} {pas : Option Int} {keep : Int} (c : CAt C H p l ts dead pas keep) (s : Same H H') : CAt C H' p l ts dead pas keep := by
  obtain ⟨⟨dx, h⟩, h2⟩ := c
  exact ⟨⟨dx, s _ _ h⟩, s _ _ h2⟩
theorem CAt.ne {C : Addr} {H : Hp} {p l : Addr} {ts : Str × Str} {dead : Bool} {pas : Option Int} {keep : Int} (c : CAt C H p l ts dead pas keep) : p ≠ l := by
  obtain ⟨⟨dx, h⟩, h2⟩ := c
  exact ne_of h h2 (by intro z; cases z)
def getT (ts : Str × Str) (i : Int) : Str := if i = 0 then ts.1 else ts.2
def setT (ts : Str × Str) (i : Int) (z : Str) : Str × Str := if i = 0 then (z, ts.2) else (ts.1, z)
def torn (new old : Str) (k : Int) : Str := cutS new none (some k) ++ cutS old (some k) none
theorem sIx_pos (n : Nat) {k : Int} (h : 0 ≤ k) (d : Nat) : HT.sIx n d (some k) = min k.toNat n := by
  obtain ⟨m, rfl⟩ := Int.eq_ofNat_of_zero_le h
  rw [HT.sIx_nat, Int.toNat_natCast]
theorem torn_len (a b : Str) {k : Int} (h : 0 ≤ k) {n : Nat} (ha : a.length ≤ n) (hb : b.length ≤ n) : (torn a b k).length ≤ n := by
  unfold torn
  rw [len_tl, tl_append, List.length_append]
  have e1 : (tl (cutS a none (some k))).length = min k.toNat a.length := by
    show ((a.cps.toList.drop 0).take (HT.sIx a.length a.length (some k) - 0)).length = _
    rw [sIx_pos _ h, List.drop_zero, Nat.sub_zero, List.length_take]
    show min _ (tl a).length = _
    rw [← len_tl]; omega
  have e2 : (tl (cutS b (some k) none)).length = b.length - min k.toNat b.length := by
    show ((b.cps.toList.drop (HT.sIx b.length 0 (some k))).take (b.length - HT.sIx b.length 0 (some k))).length = _
    rw [sIx_pos _ h, List.length_take, List.length_drop]
    show min _ ((tl b).length - _) = _
    rw [← len_tl]; omega
  rw [e1, e2]; omega
theorem cut_len' (z : Str) (lo hi : Option Int) : (cutS z lo hi).length ≤ z.length := by
  rw [len_tl, len_tl]
  show ((z.cps.toList.drop _).take _).length ≤ _
  rw [List.length_take, List.length_drop]
  show min _ ((tl z).length - _) ≤ _
  omega
def okC (du dv : PyData) : Bool := isInt du 0 1 && dStr dv
def sp_init (C : Addr) : Sp := fun vs H Q _ => ∃ (p dx : Addr), vs = [.ref p] ∧ H p = some (.ins C dx []) ∧
  ∀ l H', H l = none → CAt C H' p l (Str.ofString "", Str.ofString "") false none 0 → (∀ b o, H b = some o → b ≠ p → H' b = some o) → Q .non H'
def sp_check (C CC CE : Addr) : Sp := fun vs H Q E => ∃ (q p l : Addr) (ts : Str × Str) (dead : Bool) (pas : Option Int) (keep : Int) (u v : V) (du dv : PyData), vs = [.ref p, u, v] ∧ CAt C H p l ts dead pas keep ∧ Rp q H u du ∧ Rp q H v dv ∧
  (dead = true → E (.ref CC) none H) ∧ (dead = false → okC du dv = false → E (.ref CE) none H) ∧ (dead = false → okC du dv = true → Q .non H)
def sp_read (C CC CE : Addr) : Sp := fun vs H Q E => ∃ (q p l : Addr) (ts : Str × Str) (dead : Bool) (pas : Option Int) (keep : Int) (u : V) (du : PyData), vs = [.ref p, u] ∧ CAt C H p l ts dead pas keep ∧ Rp q H u du ∧
  (dead = true → E (.ref CC) none H) ∧ (dead = false → isInt du 0 1 = false → E (.ref CE) none H) ∧ (∀ i, du = .int i → 0 ≤ i → i ≤ 1 → dead = false → Q (.str (getT ts i)) H)
def Keeps (p l : Addr) (H H' : Hp) : Prop := ∀ b o, H b = some o → b ≠ p → b ≠ l → H' b = some o
def sp_write (C CC CE : Addr) : Sp := fun vs H Q E => ∃ (q p l : Addr) (ts : Str × Str) (dead : Bool) (pas : Option Int) (keep : Int) (u v : V) (du dv : PyData), vs = [.ref p, u, v] ∧ CAt C H p l ts dead pas keep ∧ Rp q H u du ∧ Rp q H v dv ∧ 0 ≤ keep ∧ ts.1.length ≤ 1000 ∧ ts.2.length ≤ 1000 ∧ (∀ z, dv = .str z → z.length ≤ 1000) ∧
  (dead = true → E (.ref CC) none H) ∧ (dead = false → okC du dv = false → E (.ref CE) none H) ∧
  (∀ i z, du = .int i → dv = .str z → 0 ≤ i → i ≤ 1 → dead = false →
    (pas = some 0 → ∀ H', CAt C H' p l (setT ts i (torn z (getT ts i) keep)) true (some 0) keep → Keeps p l H H' → E (.ref CC) none H') ∧
    (pas ≠ some 0 → ∀ H', CAt C H' p l (setT ts i z) false (pas.map (· - 1)) keep → Keeps p l H H' → Q .non H'))
def sp_arm (C : Addr) : Sp := fun vs H Q _ => ∃ (p l : Addr) (ts : Str × Str) (dead : Bool) (pas : Option Int) (keep n k : Int), vs = [.ref p, .int n, .int k] ∧ CAt C H p l ts dead pas keep ∧ ∀ H', CAt C H' p l ts dead (some n) k → Keeps p l H H' → Q .non H'
def sp_crash (C : Addr) : Sp := fun vs H Q _ => ∃ (p l : Addr) (ts : Str × Str) (dead : Bool) (pas : Option Int) (keep : Int), vs = [.ref p] ∧ CAt C H p l ts dead pas keep ∧ ∀ H', CAt C H' p l ts false none keep → Keeps p l H H' → Q .non H'
theorem log_small {i : Int} (h : i.natAbs < 2 ^ 1000) : i.natAbs.log2 < 1920 := Nat.lt_of_lt_of_le (PySem.Flt.log2_lt_of (by omega) h) (by omega)
theorem tl_nat {i : Int} (h : 0 ≤ i) : tl (Str.ofString (toString i)) = numL i.toNat := by
  obtain ⟨n, rfl⟩ := Int.eq_ofNat_of_zero_le h
  exact tl_num n
def sp_life_text : Sp := fun vs H Q _ => ∃ i : Int, vs = [.int i] ∧ 0 ≤ i ∧ i < 100000000000000000000 ∧ ∀ y : Str, tl y = lifeT i.toNat → Q (.str y) H
def sp_digits : Sp := fun vs H Q _ => ∃ z : Str, vs = [.str z] ∧ Q (.bl (allD (tl z) && !(tl z).isEmpty)) H
def sp_life_of : Sp := fun vs H Q _ => ∃ z : Str, vs = [.str z] ∧ (tl z).length ≤ 1000 ∧ ∀ H', Same H H' → Q (.int (lifeF (tl z) : Nat)) H'
theorem dec_ascii : ∀ c, c < 128 → Unicode.isDecimal c = (decide (48 ≤ c) && decide (c ≤ 57)) := by decide +kernel
theorem big_dec {c : Nat} (h : ¬ c < 128) : (decide (48 ≤ c) && decide (c ≤ 57)) = false := by
  rw [decide_eq_false (show ¬ c ≤ 57 by omega), Bool.and_false]
theorem ascii_dec (z : Str) : (Txt.isascii z && Txt.isdecimal z) = (allD (tl z) && !(tl z).isEmpty) := by
  unfold Txt.isascii Txt.isdecimal allD
  have e1 : z.cps.all (fun x => decide (x < 128)) = (tl z).all (fun x => decide (x < 128)) := by unfold tl; rw [Array.all_toList]
  have e2 : z.cps.all Unicode.isDecimal = (tl z).all Unicode.isDecimal := by unfold tl; rw [Array.all_toList]
  have e3 : decide (z.length > 0) = !(tl z).isEmpty := by
    rw [len_tl]
    cases tl z with
    | nil => rfl
    | cons a r => simp
  rw [e1, e2, e3]
  generalize tl z = l
  have e4 : ∀ l : List Nat, (l.all (fun x => decide (x < 128)) && l.all Unicode.isDecimal) = l.all fun c => decide (48 ≤ c) && decide (c ≤ 57) := by
    intro l
    induction l with
    | nil => rfl
    | cons c r ih =>
      rw [List.all_cons, List.all_cons, List.all_cons, ← ih]
      by_cases hc : c < 128
      · rw [dec_ascii c hc, decide_eq_true hc, Bool.true_and]
        cases (decide (48 ≤ c) && decide (c ≤ 57)) <;> cases r.all (fun x => decide (x < 128)) <;> rfl
      · rw [big_dec hc, decide_eq_false hc]; simp
  rw [← e4]
  cases l.all (fun x => decide (x < 128)) <;> cases l.all Unicode.isDecimal <;> cases (!l.isEmpty) <;> rfl
theorem part_take (z y : Str) (hy : tl y = [61]) : tl (Txt.partition z y).1 = (tl z).takeWhile fun c => decide (c ≠ 61) := by
  by_cases h : 61 ∈ tl z
  · obtain ⟨a, b, e, ha⟩ : ∃ a b, tl z = a ++ 61 :: b ∧ 61 ∉ a := by
      generalize tl z = l at h
      clear z y hy
      induction l with
      | nil => exact absurd h List.not_mem_nil
      | cons c r ih =>
        by_cases hc : c = 61
        · exact ⟨[], r, by rw [hc]; rfl, List.not_mem_nil⟩
        · have hr : 61 ∈ r := by
            rcases List.mem_cons.mp h with h | h
            · exact absurd h.symm hc
            · exact h
          obtain ⟨a, b, e, ha⟩ := ih hr
          refine ⟨c :: a, b, by rw [e]; rfl, fun m => ?_⟩
          rcases List.mem_cons.mp m with m | m
          · exact hc m.symm
          · exact ha m
    have ez : z = (⟨a.toArray⟩ : Str) ++ y ++ (⟨b.toArray⟩ : Str) := ext_tl (by show tl z = tl _; rw [tl_append, tl_append, hy, tl_mk a, tl_mk b, e, List.append_assoc]; rfl)
    rw [ez, partition_app (s := 61) (S := []) hy (by rw [tl_mk a]; exact ha)]
    show tl _ = _
    rw [tl_append, tl_append, hy, tl_mk a, tl_mk b, List.append_assoc]
    exact (take_free ha).symm
  · rw [partition_none (s := 61) (S := []) hy h]
    show tl z = _
    generalize tl z = l at h
    clear z y hy
    induction l with
    | nil => rfl
    | cons c r ih =>
      have hc : c ≠ 61 := fun e => h (by rw [e]; exact List.mem_cons_self)
      rw [List.takeWhile_cons, decide_eq_true hc, if_pos rfl, ← ih fun m => h (List.mem_cons_of_mem _ m)]
section
variable {P : Program} {w : World} {K : PySem.W.Frag} {mg : Str → Option Value} {base : Heap} {C CC CE : Addr}
abbrev s_is_integer : Stmt := top 11
abbrev N_is_integer : List Str := ["value", "least", "greatest"]
abbrev P_is_integer : List Str := ["value", "least", "greatest"]
theorem sc_is_integer : FnScope N_is_integer P_is_integer (defScope s_is_integer) := ⟨rfl, rfl, rfl, by decide +kernel, rfl, by decide +kernel, by decide +kernel⟩
theorem ok_is_integer {f : Addr} {fd : FuncData} (T : Tx K mg C CC CE) (F : Fun K "is_integer" "is_integer" s_is_integer f fd) : FnOk P w K mg base CX0 1 f fd P_is_integer spI := by
  have nd := sc_is_integer.nd
  refine F.ok sc_is_integer (fun vs H Q E h => ?_) (fun cdv A outer s H vs Q E hr h => ?_)
  · obtain ⟨_, _, _, _, _, rfl, _⟩ := h
    rfl
  · obtain ⟨p, v, d, a, b, rfl, hd, q⟩ := h
    refine ⟨_, (pss_cons (ps_if (PW.pt (pw_or (pt_not (pt_val (pe_callB call_isi (by rfl) T.b_isinstance (by decide +kernel) (pa_cons (pv 0) (pa_cons (pe_ty "int" T.b_int) pa_nil))))) (pw_or1 (pt_val (pe_callB call_isi (by rfl) T.b_isinstance (by decide +kernel) (pa_cons (pv 0) (pa_cons (pe_ty "bool" T.b_bool) pa_nil)))))))
        (pss_one (ps_ret pe_bl))
        pss_nil)
      (pss_one (ps_ret (pe_chain op_le op_le (pv 1) (pv 0) (pv 2))))), ?_⟩
    have hd' := hd
    cases hd <;> walk_at "rds"
    case int =>
      refine iB (fun h => ?_) (fun h => ?_)
      · walk_at "rds"
        exact ansB q (by simp [isInt, h])
      · exact ansB q (by simp [isInt, h])
    all_goals exact q
abbrev s_Cells___init__ : Stmt := inClass (top 13) 0
abbrev N_Cells___init__ : List Str := ["self"]
abbrev P_Cells___init__ : List Str := ["self"]
theorem sc_Cells___init__ : FnScope N_Cells___init__ P_Cells___init__ (defScope s_Cells___init__) := ⟨rfl, rfl, rfl, by decide +kernel, rfl, by decide +kernel, by decide +kernel⟩
theorem ok_init {f : Addr} {fd : FuncData} (T : Tx K mg C CC CE) (F : Fun K "__init__" "Cells.__init__" s_Cells___init__ f fd) : FnOk P w K mg base CX0 1 f fd P_Cells___init__ (sp_init C) := by
  have nd := sc_Cells___init__.nd
  refine F.ok sc_Cells___init__ (fun vs H Q E h => ?_) (fun cdv A outer s H vs Q E hr h => ?_)
  · obtain ⟨_, _, rfl, _⟩ := h
    rfl
  · obtain ⟨p, dx, rfl, hp, q⟩ := h
    have hs := sl
    refine ⟨_, (pss_cons (ps_fld (pv 0) (pe_lst (pa_cons pe_str (pa_cons pe_str pa_nil))) rfl)
      (pss_cons (ps_fld (pv 0) pe_bl rfl)
      (pss_cons (ps_fld (pv 0) pe_non rfl)
      (pss_one (ps_fld (pv 0) pe_int rfl))))), ?_⟩
    refine ⟨by show 2 ≤ sizeLine; omega, fun l nl => ?_⟩
    have pl := ne_of_none hp nl
    refine ⟨_, rfl, p, C, dx, [], rfl, (by rw [upd_ne pl]; exact hp), T.cl_Cells, T.n_Cells__texts, (by decide), ?_⟩
    refine ⟨_, rfl, p, C, dx, _, rfl, upd_same, T.cl_Cells, T.n_Cells__has_crashed, (by show 1 < 1000; decide), ?_⟩
    refine ⟨_, rfl, p, C, dx, _, rfl, upd_same, T.cl_Cells, T.n_Cells__passing, (by show 2 < 1000; decide), ?_⟩
    refine ⟨_, rfl, p, C, dx, _, rfl, upd_same, T.cl_Cells, T.n_Cells__keep, (by show 3 < 1000; decide), ?_⟩
    refine q l _ nl ⟨⟨dx, upd_same⟩, ?_⟩ fun b o h n => ?_
    · rw [upd_ne pl.symm, upd_ne pl.symm, upd_ne pl.symm, upd_ne pl.symm]; exact upd_same
    · rw [upd_ne n, upd_ne n, upd_ne n, upd_ne n, upd_ne (ne_of_none h nl)]; exact h
abbrev s_Cells__check : Stmt := inClass (top 13) 5
abbrev N_Cells__check : List Str := ["self", "cell", "text"]
abbrev P_Cells__check : List Str := ["self", "cell", "text"]
theorem sc_Cells__check : FnScope N_Cells__check P_Cells__check (defScope s_Cells__check) := ⟨rfl, rfl, rfl, by decide +kernel, rfl, by decide +kernel, by decide +kernel⟩
theorem ok_check {f : Addr} {fd : FuncData} (T : Tx K mg C CC CE) (c_is_integer : DefOk P w K mg base CX0 "is_integer" P_is_integer 1 spI) (F : Fun K "_check" "Cells._check" s_Cells__check f fd) : FnOk P w K mg base (L2.CX P w) 2 f fd P_Cells__check (sp_check C CC CE) := by
  have nd := sc_Cells__check.nd
  refine F.okX sc_Cells__check (fun vs H Q E h => ?_) (fun cdv A outer s H vs Q E hr h => ?_)
  · obtain ⟨_, _, _, _, _, _, _, _, _, _, _, rfl, _⟩ := h
    rfl
  · obtain ⟨q0, p, l, ts, dead, pas, keep, u, v, du, dv, rfl, hc, hu, hv, q1, q2, q3⟩ := h
    obtain ⟨⟨dx, ho⟩, hl⟩ := id hc
    have c1 := T.cl_Cells
    have n1 := T.n_Cells__has_crashed
    refine ⟨_, (pss_cons (ps_if (pt_val (pe_fld (pv 0) (by rfl)))
        (pss_one (ps_raise rfl (takes_of rfl rfl rfl rfl) (pmk_own0 PySem.F.excBase_ValueError T.x_DiskCrashed T.g_DiskCrashed T.k_DiskCrashed (raises_own T.b_DiskCrashed T.t_DiskCrashed))))
        pss_nil)
      (pss_one (ps_if (PW.pt (pw_or (pt_not (pt_val (pcall c_is_integer hr (pa_cons (pv 1) (pa_cons pe_int (pa_cons pe_int pa_nil)))))) (pw_or1 (pt_not (pt_val (pe_callB call_isi (by rfl) T.b_isinstance (by decide +kernel) (pa_cons (pv 2) (pa_cons (pe_ty "str" T.b_str) pa_nil))))))))
        (pss_one (ps_raise rfl (takes_of rfl rfl rfl rfl) (pmk_own0 PySem.F.excBase_ValueError T.x_DiskError T.g_DiskError T.k_DiskError (raises_own T.b_DiskError T.t_DiskError))))
        pss_nil))), ?_⟩
    walk_at "rds"
    refine iB (fun h => ?_) (fun h => ?_)
    · exact q1 h
    · have q2 := q2 h
      have q3 := q3 h
      walk_at "rds"
      refine iB (fun h2 => ?_) (fun h2 => ?_)
      · refine q2 ?_
        unfold okC
        cases e : isInt du 0 1 with
        | false => rfl
        | true => rw [e] at h2; cases h2
      · have e1 : isInt du 0 1 = true := by
          cases e : isInt du 0 1 with
          | true => rfl
          | false => rw [e] at h2; cases h2
        walk_at "rds"
        refine iB (fun h3 => ?_) (fun h3 => ?_)
        · refine q2 ?_
          unfold okC
          cases e : dStr dv with
          | false => rw [Bool.and_false]
          | true => rw [e] at h3; cases h3
        · refine q3 ?_
          unfold okC
          rw [e1]
          cases e : dStr dv with
          | true => rfl
          | false => rw [e] at h3; cases h3
abbrev s_Cells_read : Stmt := inClass (top 13) 1
abbrev N_Cells_read : List Str := ["self", "cell"]
abbrev P_Cells_read : List Str := ["self", "cell"]
theorem sc_Cells_read : FnScope N_Cells_read P_Cells_read (defScope s_Cells_read) := ⟨rfl, rfl, rfl, by decide +kernel, rfl, by decide +kernel, by decide +kernel⟩
theorem ok_read {f : Addr} {fd : FuncData} (T : Tx K mg C CC CE) (m_Cells__check : MethOk P w K mg base (L2.CX P w) C "_check" P_Cells__check 2 (sp_check C CC CE)) (F : Fun K "read" "Cells.read" s_Cells_read f fd) : FnOk P w K mg base (L2.CX P w) 3 f fd P_Cells_read (sp_read C CC CE) := by
  have nd := sc_Cells_read.nd
  refine F.okX sc_Cells_read (fun vs H Q E h => ?_) (fun cdv A outer s H vs Q E hr h => ?_)
  · obtain ⟨_, _, _, _, _, _, _, _, _, rfl, _⟩ := h
    rfl
  · obtain ⟨q0, p, l, ts, dead, pas, keep, u, du, rfl, hc, hu, q1, q2, q3⟩ := h
    obtain ⟨⟨dx, ho⟩, hl⟩ := id hc
    have c1 := T.cl_Cells
    have n1 := T.n_Cells__texts
    refine ⟨_, (pss_cons (ps_expr (pmethE m_Cells__check T.cl_Cells (takes_of rfl rfl rfl rfl) (fun _ _ _ _ h => h) (pv 0) hr (pa_cons (pv 1) (pa_cons pe_str pa_nil))))
      (pss_one (ps_ret (pe_ix ix_list (pe_fld (pv 0) (by rfl)) (pv 1) (fun _ _ => rfl))))), ?_⟩
    walk_at "rds"
    refine ⟨p, dx, _, rfl, ho, rfl, ?_⟩
    walk_at "rds"
    refine ⟨q0, p, l, ts, dead, pas, keep, u, _, du, _, rfl, hc, hu, .str _, q1, fun hd hk => ?_, fun hd hk => ?_⟩
    · refine q2 hd ?_
      unfold okC at hk
      rw [show dStr (.str (Str.ofString "")) = true from rfl, Bool.and_true] at hk
      exact hk
    · unfold okC at hk
      rw [show dStr (.str (Str.ofString "")) = true from rfl, Bool.and_true] at hk
      obtain ⟨i, rfl, i0, i1⟩ := isInt_int hk
      cases hu
      walk_at "rds"
      have hi : i = 0 ∨ i = 1 := by omega
      rcases hi with rfl | rfl
      · exact ⟨l, _, _, _, rfl, rfl, SqL.of hl, rfl, q3 0 rfl (by decide) (by decide) hd⟩
      · exact ⟨l, _, _, _, rfl, rfl, SqL.of hl, rfl, q3 1 rfl (by decide) (by decide) hd⟩
abbrev s_Cells_arm : Stmt := inClass (top 13) 3
abbrev N_Cells_arm : List Str := ["self", "count", "keep"]
abbrev P_Cells_arm : List Str := ["self", "count", "keep"]
theorem sc_Cells_arm : FnScope N_Cells_arm P_Cells_arm (defScope s_Cells_arm) := ⟨rfl, rfl, rfl, by decide +kernel, rfl, by decide +kernel, by decide +kernel⟩
theorem ok_arm {f : Addr} {fd : FuncData} (T : Tx K mg C CC CE) (F : Fun K "arm" "Cells.arm" s_Cells_arm f fd) : FnOk P w K mg base CX0 1 f fd P_Cells_arm (sp_arm C) := by
  have nd := sc_Cells_arm.nd
  refine F.ok sc_Cells_arm (fun vs H Q E h => ?_) (fun cdv A outer s H vs Q E hr h => ?_)
  · obtain ⟨_, _, _, _, _, _, _, _, rfl, _⟩ := h
    rfl
  · obtain ⟨p, l, ts, dead, pas, keep, n, k, rfl, hc, q⟩ := h
    have pl := hc.ne
    obtain ⟨⟨dx, ho⟩, hl⟩ := id hc
    refine ⟨_, (pss_cons (ps_fld (pv 0) (pv 1) rfl)
      (pss_one (ps_fld (pv 0) (pv 2) rfl))), ?_⟩
    refine ⟨_, rfl, _, rfl, p, C, dx, _, rfl, ho, T.cl_Cells, T.n_Cells__passing, (by show 4 < 1000; decide), ?_⟩
    refine ⟨_, rfl, _, rfl, p, C, dx, _, rfl, upd_same, T.cl_Cells, T.n_Cells__keep, (by show 4 < 1000; decide), ?_⟩
    exact q _ ⟨⟨dx, upd_same⟩, by rw [upd_ne pl.symm, upd_ne pl.symm]; exact hl⟩ fun b o h n1 _ => by rw [upd_ne n1, upd_ne n1]; exact h
abbrev s_Cells_crash : Stmt := inClass (top 13) 4
abbrev N_Cells_crash : List Str := ["self"]
abbrev P_Cells_crash : List Str := ["self"]
theorem sc_Cells_crash : FnScope N_Cells_crash P_Cells_crash (defScope s_Cells_crash) := ⟨rfl, rfl, rfl, by decide +kernel, rfl, by decide +kernel, by decide +kernel⟩
theorem ok_crash {f : Addr} {fd : FuncData} (T : Tx K mg C CC CE) (F : Fun K "crash" "Cells.crash" s_Cells_crash f fd) : FnOk P w K mg base CX0 1 f fd P_Cells_crash (sp_crash C) := by
  have nd := sc_Cells_crash.nd
  refine F.ok sc_Cells_crash (fun vs H Q E h => ?_) (fun cdv A outer s H vs Q E hr h => ?_)
  · obtain ⟨_, _, _, _, _, _, rfl, _⟩ := h
    rfl
  · obtain ⟨p, l, ts, dead, pas, keep, rfl, hc, q⟩ := h
    have pl := hc.ne
    obtain ⟨⟨dx, ho⟩, hl⟩ := id hc
    refine ⟨_, (pss_cons (ps_fld (pv 0) pe_bl rfl)
      (pss_one (ps_fld (pv 0) pe_non rfl))), ?_⟩
    refine ⟨_, rfl, p, C, dx, _, rfl, ho, T.cl_Cells, T.n_Cells__has_crashed, (by show 4 < 1000; decide), ?_⟩
    refine ⟨_, rfl, p, C, dx, _, rfl, upd_same, T.cl_Cells, T.n_Cells__passing, (by show 4 < 1000; decide), ?_⟩
    exact q _ ⟨⟨dx, upd_same⟩, by rw [upd_ne pl.symm, upd_ne pl.symm]; exact hl⟩ fun b o h n1 _ => by rw [upd_ne n1, upd_ne n1]; exact h
abbrev s_Cells_write : Stmt := inClass (top 13) 2
abbrev N_Cells_write : List Str := ["self", "cell", "text"]
abbrev P_Cells_write : List Str := ["self", "cell", "text"]
theorem sc_Cells_write : FnScope N_Cells_write P_Cells_write (defScope s_Cells_write) := ⟨rfl, rfl, rfl, by decide +kernel, rfl, by decide +kernel, by decide +kernel⟩
theorem ok_write {f : Addr} {fd : FuncData} (T : Tx K mg C CC CE) (m_Cells__check : MethOk P w K mg base (L2.CX P w) C "_check" P_Cells__check 2 (sp_check C CC CE)) (F : Fun K "write" "Cells.write" s_Cells_write f fd) : FnOk P w K mg base (L2.CX P w) 3 f fd P_Cells_write (sp_write C CC CE) := by
  have nd := sc_Cells_write.nd
  refine F.okX sc_Cells_write (fun vs H Q E h => ?_) (fun cdv A outer s H vs Q E hr h => ?_)
  · obtain ⟨_, _, _, _, _, _, _, _, _, _, _, rfl, _⟩ := h
    rfl
  · obtain ⟨q0, p, l, ts, dead, pas, keep, u, v, du, dv, rfl, hc, hu, hv, k0, l1, l2, lz, q1, q2, q3⟩ := h
    have hs := sl
    have pl := hc.ne
    obtain ⟨⟨dx, ho⟩, hl⟩ := id hc
    have c1 := T.cl_Cells
    have n1 := T.n_Cells__texts
    have n2 := T.n_Cells__passing
    have n3 := T.n_Cells__keep
    refine ⟨_, (pss_cons (ps_expr (pmethE m_Cells__check T.cl_Cells (takes_of rfl rfl rfl rfl) (fun _ _ _ _ h => h) (pv 0) hr (pa_cons (pv 1) (pa_cons (pv 2) pa_nil))))
      (pss_cons (ps_if (pt_cmpR op_eq (pe_fld (pv 0) (by rfl)) pe_int (nomark _))
        (pss_cons (ps_fld (pv 0) pe_bl rfl)
        (pss_cons (ps_asg (pe_op op_add_str (pe_slice sl_str (pv 2) po_none (po_some (pe_fld (pv 0) (by rfl)))) (pe_slice sl_str (pe_ix ix_list (pe_fld (pv 0) (by rfl)) (pv 1) (fun _ _ => rfl)) (po_some (pe_fld (pv 0) (by rfl))) po_none)) (pg_sub (pe_fld (pv 0) (by rfl)) (pv 1) set_list))
        (pss_one (ps_raise rfl (takes_of rfl rfl rfl rfl) (pmk_own0 PySem.F.excBase_ValueError T.x_DiskCrashed T.g_DiskCrashed T.k_DiskCrashed (raises_own T.b_DiskCrashed T.t_DiskCrashed))))))
        pss_nil)
      (pss_cons (ps_if (pt_cmpR op_notN (pe_fld (pv 0) (by rfl)) pe_non (nomark _))
        (pss_one (ps_fldaug (pv 0) pe_int in_sub))
        pss_nil)
      (pss_one (ps_asg (pv 2) (pg_sub (pe_fld (pv 0) (by rfl)) (pv 1) set_list)))))), ?_⟩
    walk_at "rds"
    refine ⟨p, dx, _, rfl, ho, rfl, ?_⟩
    walk_at "rds"
    refine ⟨q0, p, l, ts, dead, pas, keep, u, v, du, dv, rfl, hc, hu, hv, q1, q2, fun hd hk => ?_⟩
    unfold okC at hk
    rw [Bool.and_eq_true] at hk
    obtain ⟨i, rfl, i0, i1⟩ := isInt_int hk.1
    obtain ⟨z, rfl⟩ : ∃ z, dv = .str z := by cases dv <;> first | exact ⟨_, rfl⟩ | cases hk.2
    cases hu
    cases hv
    obtain ⟨q4, q5⟩ := q3 i z rfl rfl i0 i1 hd
    have lz := lz z rfl
    have hfin : ∀ (H1 : Hp) (ns : Str × Str) (nd : Bool) (np : Option Int), Keeps p l H H1 → H1 p = some (.ins C dx (cf l nd np keep)) → H1 l = some (.lst [.str ts.1, .str ts.2]) →
        CAt C (upd H1 l (.lst [.str ns.1, .str ns.2])) p l ns nd np keep ∧ Keeps p l H (upd H1 l (.lst [.str ns.1, .str ns.2])) := fun H1 ns nd np kp hp1 _ =>
      ⟨⟨⟨dx, by rw [upd_ne pl]; exact hp1⟩, upd_same⟩, fun b o h n1 n2 => by rw [upd_ne n2]; exact kp b o h n1 n2⟩
    have hi : i = 0 ∨ i = 1 := by omega
    have lo : (getT ts i).length ≤ 1000 := by unfold getT; split <;> assumption
    have hat : atI [V.str ts.1, V.str ts.2] i = some (.str (getT ts i)) := by rcases hi with rfl | rfl <;> rfl
    have hset : ∀ y : Str, ∃ j, ixN 2 i = some j ∧ ([V.str ts.1, V.str ts.2] : List V).set j (.str y) = [.str (setT ts i y).1, .str (setT ts i y).2] := fun y => by
      rcases hi with rfl | rfl
      · exact ⟨0, rfl, rfl⟩
      · exact ⟨1, rfl, rfl⟩
    have ho' := ho
    cases pas with
    | none =>
      walk_at "rds"
      obtain ⟨j, hj, hs2⟩ := hset z
      refine ⟨l, _, _, j, rfl, rfl, hl, hj, ?_⟩
      rw [hs2]
      obtain ⟨r1, r2⟩ := hfin H (setT ts i z) false none (fun b o h _ _ => h) (hd ▸ ho) hl
      exact q5 (by simp) _ r1 r2
    | some n =>
      walk_at "rds"
      refine iB (fun h => ?_) (fun h => ?_)
      · have e0 : n = 0 := V.int.inj (of_decide_eq_true h)
        subst e0
        walk_at "rds"
        refine ⟨p, C, dx, _, rfl, ho, c1, T.n_Cells__has_crashed, (by show 4 < 1000; decide), ?_⟩
        have ho1 : (upd H p (.ins C dx (putF "_has_crashed" (.bl true) (cf l dead (some 0) keep)))) p = some (.ins C dx (cf l true (some 0) keep)) := upd_same
        have hl1 : (upd H p (.ins C dx (putF "_has_crashed" (.bl true) (cf l dead (some 0) keep)))) l = some (.lst [.str ts.1, .str ts.2]) := by rw [upd_ne pl.symm]; exact hl
        have k1 : Keeps p l H (upd H p (.ins C dx (putF "_has_crashed" (.bl true) (cf l dead (some 0) keep)))) := fun b o h n1 _ => by rw [upd_ne n1]; exact h
        generalize upd H p _ = H1 at *
        walk_at "rds"
        refine ⟨by omega, ?_⟩
        walk_at "rds"
        refine ⟨l, _, _, _, rfl, rfl, SqL.of hl1, hat, ?_⟩
        walk_at "rds"
        refine ⟨by omega, ?_⟩
        have a1 := cut_len' z none (some keep)
        have a2 := cut_len' (getT ts i) (some keep) none
        refine ⟨_, _, rfl, rfl, by omega, ?_⟩
        walk_at "rds"
        obtain ⟨j, hj, hs2⟩ := hset (torn z (getT ts i) keep)
        refine ⟨l, _, _, j, rfl, rfl, hl1, hj, ?_⟩
        have e3 : cutS z none (some keep) ++ cutS (getT ts i) (some keep) none = torn z (getT ts i) keep := rfl
        rw [e3, hs2]
        obtain ⟨r1, r2⟩ := hfin H1 (setT ts i (torn z (getT ts i) keep)) true (some 0) k1 ho1 hl1
        exact q4 rfl _ r1 r2
      · have n0 : n ≠ 0 := fun e => of_decide_eq_false h (by rw [e]; rfl)
        walk_at "rds"
        refine ⟨dx, _, ho, by show 4 < 1000; decide, ?_⟩
        have ho1 : (upd H p (.ins C dx (putF "_passing" (.int (n - 1)) (cf l dead (some n) keep)))) p = some (.ins C dx (cf l dead (some (n - 1)) keep)) := upd_same
        have hl1 : (upd H p (.ins C dx (putF "_passing" (.int (n - 1)) (cf l dead (some n) keep)))) l = some (.lst [.str ts.1, .str ts.2]) := by rw [upd_ne pl.symm]; exact hl
        have k1 : Keeps p l H (upd H p (.ins C dx (putF "_passing" (.int (n - 1)) (cf l dead (some n) keep)))) := fun b o h n1 _ => by rw [upd_ne n1]; exact h
        generalize upd H p _ = H1 at *
        walk_at "rds"
        obtain ⟨j, hj, hs2⟩ := hset z
        refine ⟨l, _, _, j, rfl, rfl, hl1, hj, ?_⟩
        rw [hs2]
        obtain ⟨r1, r2⟩ := hfin H1 (setT ts i z) false (some (n - 1)) k1 (hd ▸ ho1) hl1
        exact q5 (fun e => n0 (Option.some.inj e)) _ r1 r2
end
section
variable {P : Program} {w : World} {K : PySem.W.Frag} {mg : Str → Option Value} {base : Heap} {C CC CE : Addr}
abbrev s_life_text : Stmt := top 2
abbrev N_life_text : List Str := ["life"]
abbrev P_life_text : List Str := ["life"]
theorem sc_life_text : FnScope N_life_text P_life_text (defScope s_life_text) := ⟨rfl, rfl, rfl, by decide +kernel, rfl, by decide +kernel, by decide +kernel⟩
theorem ok_life_text {f : Addr} {fd : FuncData} (T : Tx K mg C CC CE) (F : Fun K "life_text" "life_text" s_life_text f fd) : FnOk P w K mg base CX0 (1) f fd P_life_text (sp_life_text) := by
  have nd := sc_life_text.nd
  refine F.ok sc_life_text (fun vs H Q E h => ?_) (fun cdv A outer s H vs Q E hr h => ?_)
  · obtain ⟨_, rfl, _⟩ := h
    rfl
  · obtain ⟨i, rfl, h0, h1, q⟩ := h
    have hs := sl
    refine ⟨_, (pss_one (ps_ret (pe_joined (.cons (pe_fmt (pv 0)) (.cons pe_str (.cons (pe_fmt (pv 0)) .nil)))))), ?_⟩
    have e1 := tl_nat h0
    have hn := numL_len (n := i.toNat) (k := 20) (by omega) (by omega)
    have t1 : tl (Str.empty ++ Str.ofString (toString i)) = numL i.toNat := by rw [tl_append, e1]; rfl
    have t2 : tl (Str.empty ++ Str.ofString (toString i) ++ Str.ofString "=") = numL i.toNat ++ [61] := by rw [tl_append, t1]; rfl
    have t3 : tl (Str.empty ++ Str.ofString (toString i) ++ Str.ofString "=" ++ Str.ofString (toString i)) = numL i.toNat ++ [61] ++ numL i.toNat := by rw [tl_append, t2, e1]
    have l1 : (Str.empty ++ Str.ofString (toString i)).length ≤ sizeLine := by rw [len_tl, t1]; omega
    have l2 : (Str.empty ++ Str.ofString (toString i) ++ Str.ofString "=").length ≤ sizeLine := by rw [len_tl, t2, List.length_append, List.length_singleton]; omega
    have l3 : (Str.empty ++ Str.ofString (toString i) ++ Str.ofString "=" ++ Str.ofString (toString i)).length ≤ sizeLine := by rw [len_tl, t3, List.length_append, List.length_append, List.length_singleton]; omega
    refine ⟨_, rfl, .inr ⟨i, rfl, log_small (by omega), _, rfl, l1, _, rfl, l2, _, rfl, .inr ⟨i, rfl, log_small (by omega), _, rfl, l3, ?_⟩⟩⟩
    exact q _ (by rw [t3, List.append_assoc]; rfl)
abbrev s__are_digits : Stmt := top 4
abbrev N__are_digits : List Str := ["text"]
abbrev P__are_digits : List Str := ["text"]
theorem sc__are_digits : FnScope N__are_digits P__are_digits (defScope s__are_digits) := ⟨rfl, rfl, rfl, by decide +kernel, rfl, by decide +kernel, by decide +kernel⟩
theorem ok__are_digits {f : Addr} {fd : FuncData} (T : Tx K mg C CC CE) (F : Fun K "_are_digits" "_are_digits" s__are_digits f fd) : FnOk P w K mg base CX0 (1) f fd P__are_digits (sp_digits) := by
  have nd := sc__are_digits.nd
  refine F.ok sc__are_digits (fun vs H Q E h => ?_) (fun cdv A outer s H vs Q E hr h => ?_)
  · obtain ⟨_, rfl, _⟩ := h
    rfl
  · obtain ⟨z, rfl, q⟩ := h
    refine ⟨_, (pss_one (ps_ret (pe_and (pe_bm0 PySem.F.plainAttrs_str PySem.F.slot_str_isascii PySem.F.type_str_isascii mt_isascii (pv 0)) (pe_one (pe_bm0 PySem.F.plainAttrs_str PySem.F.slot_str_isdecimal PySem.F.type_str_isdecimal mt_isdecimal (pv 0)))))), ?_⟩
    rw [← ascii_dec] at q
    walk_at "rds"
    refine iB (fun h => ?_) (fun h => ?_)
    · walk_at "rds"
      rw [h, Bool.true_and] at q
      exact q
    · rw [h, Bool.false_and] at q
      exact q
abbrev s_life_of : Stmt := top 3
abbrev N_life_of : List Str := ["text", "digits", "life"]
abbrev P_life_of : List Str := ["text"]
theorem sc_life_of : FnScope N_life_of P_life_of (defScope s_life_of) := ⟨rfl, rfl, rfl, by decide +kernel, rfl, by decide +kernel, by decide +kernel⟩
theorem ok_life_of {f : Addr} {fd : FuncData} (T : Tx K mg C CC CE) (c_life_text : DefOk P w K mg base CX0 "life_text" P_life_text 1 (sp_life_text)) (c__are_digits : DefOk P w K mg base CX0 "_are_digits" P__are_digits 1 (sp_digits))(F : Fun K "life_of" "life_of" s_life_of f fd) : FnOk P w K mg base CX0 (2) f fd P_life_of (sp_life_of) := by
  have nd := sc_life_of.nd
  refine F.ok sc_life_of (fun vs H Q E h => ?_) (fun cdv A outer s H vs Q E hr h => ?_)
  · obtain ⟨_, rfl, _⟩ := h
    rfl
  · obtain ⟨z, rfl, hz, q⟩ := h
    have hs := sl
    have hl := len_tl z
    refine ⟨_, (pss_cons (ps_if (pt_not (pt_val (pe_callB call_isi (by rfl) T.b_isinstance (by decide +kernel) (pa_cons (pv 0) (pa_cons (pe_ty "str" T.b_str) pa_nil)))))
        (pss_one (ps_ret pe_int))
        pss_nil)
      (pss_cons (ps_set (i := 1) nd rfl (Or.inl rfl) (pe_ix ix_tup (pe_partition (pv 0) pe_str) pe_int (fun _ _ => rfl)))
      (pss_cons (ps_if (PW.pt (pw_or (pt_cmpR op_gt (pe_callB call_len_str (by rfl) T.b_len (by decide +kernel) (pa_cons (pv 1) pa_nil)) (pe_callB call_len_str (by rfl) T.b_len (by decide +kernel) (pa_cons (pe_callTy call_str_int (by rfl) T.b_str (by decide +kernel) (pa_cons (pe_const T.c_MOST_NUMBER) pa_nil)) pa_nil)) (nomark _)) (pw_or1 (pt_not (pt_val (pcall c__are_digits hr (pa_cons (pv 1) pa_nil)))))))
        (pss_one (ps_ret pe_int))
        pss_nil)
      (pss_cons (ps_set (i := 2) nd rfl (Or.inl rfl) (pe_callTy call_int_str (by rfl) T.b_int (by decide +kernel) (pa_cons (pv 1) pa_nil)))
      (pss_cons (ps_if (PW.pt (pw_or (pt_not (pt_chain op_le op_le pe_int (pv 2) (pe_const T.c_MOST_NUMBER))) (pw_or1 (pt_cmpR op_ne (pcall c_life_text hr (pa_cons (pv 2) pa_nil)) (pv 0) (nomark _)))))
        (pss_one (ps_ret pe_int))
        pss_nil)
      (pss_one (ps_ret (pv 2)))))))), ?_⟩
    refine ⟨_, rfl, _, _, _, _, true, rfl, .ty _, .base (.str z), kit_ty (by decide +kernel), _, rfl, iteF ?_⟩
    walk_at "rds"
    refine ⟨⟨_, rfl⟩, ?_⟩
    walk_at "rds"
    refine ⟨by omega, fun p np => ?_⟩
    have st := same_new np (.tup [.str (Txt.partition z (Str.ofString "=")).1, .str (Txt.partition z (Str.ofString "=")).2.1, .str (Txt.partition z (Str.ofString "=")).2.2])
    have q := q _ st
    have hp := part_take z (Str.ofString "=") (by decide)
    have hd : ((tl z).takeWhile fun c => decide (c ≠ 61)).length ≤ 1000 := Nat.le_trans (List.takeWhile_prefix _).length_le hz
    have hp0 : (upd H p (.tup [.str (Txt.partition z (Str.ofString "=")).1, .str (Txt.partition z (Str.ofString "=")).2.1, .str (Txt.partition z (Str.ofString "=")).2.2])) p = some (.tup [.str (Txt.partition z (Str.ofString "=")).1, .str (Txt.partition z (Str.ofString "=")).2.1, .str (Txt.partition z (Str.ofString "=")).2.2]) := upd_same
    walk_at "rds"
    generalize upd H p _ = H1 at *
    generalize (Txt.partition z (Str.ofString "=")).1 = y at hp ⊢
    have hy := len_tl y
    rw [hp] at hy
    have l13 : (Str.ofString (toString (1000000000000 : Int))).length = 13 := by decide
    refine ⟨by omega, ?_⟩
    walk_at "rds"
    refine ⟨log_small (by decide), ?_⟩
    walk_at "rds"
    refine ⟨by rw [l13]; omega, ?_⟩
    walk_at "rds"
    have no0 : ∀ h : ¬ ((tl y).length ≤ 13 ∧ allD (tl y) = true ∧ tl y ≠ []), lifeF (tl z) = 0 := fun h => by
      unfold lifeF; rw [← hp]; exact if_neg h
    have hly := len_tl y
    refine iB (fun h => ?_) (fun h => ?_)
    · have h2 := of_decide_eq_true h
      rw [l13] at h2
      rw [no0 (by rintro ⟨a, _⟩; omega)] at q
      exact q
    · have h2 := of_decide_eq_false h
      rw [l13] at h2
      walk_at "rds"
      refine iB (fun h => ?_) (fun h => ?_)
      · rw [no0 (by
          rintro ⟨_, b, c⟩
          rw [b] at h
          cases hy2 : tl y with
          | nil => exact c hy2
          | cons _ _ => rw [hy2] at h; simp at h)] at q
        exact q
      · have hA : allD (tl y) = true ∧ tl y ≠ [] := by
          cases ha : allD (tl y) with
          | false => rw [ha] at h; cases h
          | true =>
            refine ⟨rfl, fun e => ?_⟩
            rw [ha, e] at h; cases h
        have hv := intText_digits (x := y) (allD_iff.mp hA.1) hA.2 (by omega)
        walk_at "rds"
        refine ⟨y, _, rfl, hv, by omega, ?_⟩
        change Q (V.int ((lifeF (tl z) : Nat) : Int)) H1 at q
        have eF : lifeF (tl z) = if 1 ≤ digitsVal (tl y) ∧ digitsVal (tl y) ≤ 1000000000000 ∧ lifeT (digitsVal (tl y)) = tl z then digitsVal (tl y) else 0 := by
          unfold lifeF
          rw [← hp, if_pos ⟨by omega, hA.1, hA.2⟩]
        have eV : digitsVal y.cps.toList = digitsVal (tl y) := rfl
        rw [eV]
        generalize digitsVal (tl y) = n at eF ⊢
        have no1 : ¬ (1 ≤ n ∧ n ≤ 1000000000000 ∧ lifeT n = tl z) → lifeF (tl z) = 0 := fun h => eF.trans (if_neg h)
        walk_at "rds"
        refine iB (fun h => ?_) (fun h => ?_)
        · have h1 : (1 : Int) ≤ (n : Int) := of_decide_eq_true h
          walk_at "rds"
          refine iB (fun h2 => ?_) (fun h2 => ?_)
          · have h3 : ¬ (n : Int) ≤ 1000000000000 := fun c => by rw [decide_eq_true c] at h2; cases h2
            rw [no1 (by rintro ⟨_, b, _⟩; omega)] at q
            exact q
          · have h3 : (n : Int) ≤ 1000000000000 := by
              cases hd : decide ((n : Int) ≤ 1000000000000) with
              | true => exact of_decide_eq_true hd
              | false => rw [hd] at h2; cases h2
            walk_at "rds"
            refine ⟨by omega, by omega, fun u hu => ?_⟩
            rw [Int.toNat_natCast] at hu
            walk_at "rds"
            refine iB (fun h4 => ?_) (fun h4 => ?_)
            · rw [no1 (by
                rintro ⟨_, _, c⟩
                have : u = z := ext_tl (hu.trans c)
                rw [this, decide_eq_true rfl] at h4; cases h4)] at q
              exact q
            · have h5 : u = z := by
                cases hd : decide (V.str u = V.str z) with
                | true => exact V.str.inj (of_decide_eq_true hd)
                | false => rw [hd] at h4; cases h4
              walk_at "rds"
              rw [if_pos ⟨by omega, by omega, by rw [← hu, h5]⟩] at eF
              rw [eF] at q
              exact q
        · have h1 : ¬ (1 : Int) ≤ (n : Int) := of_decide_eq_false h
          refine ⟨_, rfl, iteT ?_⟩
          rw [no1 (by rintro ⟨a, _⟩; omega)] at q
          exact q
end
end Mus

set_option maxRecDepth 100000
set_option maxHeartbeats 4000000
namespace Mus
open PySem L2 TL PySem.NumText
local macro_rules | `(tactic| walk_at "rd") => `(tactic| first
  | refine ⟨_, rfl, ?_⟩ | refine ⟨(True.intro : True), ?_⟩
  | refine ⟨_, _, rfl, rfl, (⟨by decide, by decide, by decide⟩ : CPow _ _), ?_⟩
  | refine ⟨_, _, rfl, rfl, (⟨by decide, by decide⟩ : CDiv _ _), ?_⟩
  | refine ⟨_, _, rfl, rfl, (by show (0 : Int) < _; decide), ?_⟩
  | refine ⟨_, _, rfl, rfl, ?_⟩ | refine ⟨rfl, ?_⟩ | refine iteT ?_ | refine iteF ?_ | refine ⟨_, _, rfl, ?_⟩ | refine .inl ⟨_, rfl, ?_⟩
  | refine ⟨_, _, _, _, _, rfl, (by assumption), (by assumption), (by assumption), rfl, ?_⟩ | refine ⟨_, _, _, _, rfl, rfl, SqT.of (by assumption), rfl, ?_⟩ | refine ⟨_, _, rfl, SqT.of (by assumption), rfl, ?_⟩
  | refine ⟨_, _, _, _, _, rfl, .ty _, Rp.ty (by assumption), kit_int _, ?_⟩ | refine ⟨_, _, _, _, _, rfl, .ty _, Rp.ty (by assumption), kit_bool _, ?_⟩
  | refine ⟨_, _, _, _, _, rfl, .ty _, Rp.ty (by assumption), kit_str _, ?_⟩ | refine ⟨_, _, _, _, _, rfl, .ty _, Rp.ty (by assumption), kit_tup _, ?_⟩)
local macro_rules | `(tactic| walk_at "cal") => `(tactic| first
  | refine ⟨_, _, _, _, _, rfl, (by assumption), ?_⟩ | refine ⟨_, _, _, _, _, rfl, (by assumption), (by assumption), ?_⟩)
local macro_rules | `(tactic| walk_at "sq") => `(tactic| first
  | refine ⟨_, _, rfl, Or.inr (SqT.of (by assumption)), ?_⟩ | refine ⟨_, _, _, _, rfl, rfl, SqT.of (by assumption), rfl, ?_⟩)
local macro_rules | `(tactic| walk_at "rds") => `(tactic| repeat first | walk_at "rd" | walk_at "cal" | walk_at "sq")
/-- the life that comes next -/
def nextL (ts : Str × Str) : Nat := max (lifeF (tl ts.1)) (lifeF (tl ts.2)) + 1
def cellL (ts : Str × Str) : Int := if lifeF (tl ts.1) ≤ lifeF (tl ts.2) then 0 else 1
def sp_next (C CC : Addr) : Sp := fun vs H Q E => ∃ (p l : Addr) (ts : Str × Str) (dead : Bool) (pas : Option Int) (keep : Int), vs = [.ref p] ∧ CAt C H p l ts dead pas keep ∧ 0 ≤ keep ∧ ts.1.length ≤ 1000 ∧ ts.2.length ≤ 1000 ∧
  (dead = true → E (.ref CC) none H) ∧
  (dead = false → ∀ z : Str, tl z = lifeT (nextL ts) →
    (pas = some 0 → ∀ H', CAt C H' p l (setT ts (cellL ts) (torn z (getT ts (cellL ts)) keep)) true (some 0) keep → Keeps p l H H' → E (.ref CC) none H') ∧
    (pas ≠ some 0 → ∀ H', CAt C H' p l (setT ts (cellL ts) z) false (pas.map (· - 1)) keep → Keeps p l H H' → Q (.int (nextL ts : Nat)) H'))
theorem max_int (a b : Nat) : (if (b : Int) > (a : Int) then (b : Int) else (a : Int)) + 1 = ((max a b + 1 : Nat) : Int) := by
  split <;> omega
theorem lifeF_le (l : List Nat) : lifeF l ≤ 1000000000000 := by
  by_cases h : lifeF l = 0
  · omega
  · obtain ⟨n, _, _, h2, h3⟩ := lifeF_ne h
    omega
section
variable {P : Program} {w : World} {K : PySem.W.Frag} {mg : Str → Option Value} {base : Heap} {C CC CE : Addr}
abbrev s_next_life : Stmt := top 5
abbrev N_next_life : List Str := ["cells", "first", "second", "life", "lesser"]
abbrev P_next_life : List Str := ["cells"]
theorem sc_next_life : FnScope N_next_life P_next_life (defScope s_next_life) := ⟨rfl, rfl, rfl, by decide +kernel, rfl, by decide +kernel, by decide +kernel⟩
theorem ok_next_life {f : Addr} {fd : FuncData} (T : Tx K mg C CC CE) (m_Cells_read : MethOk P w K mg base (L2.CX P w) C "read" P_Cells_read 3 (sp_read C CC CE)) (m_Cells_write : MethOk P w K mg base (L2.CX P w) C "write" P_Cells_write 3 (sp_write C CC CE))
    (c_life_text : DefOk P w K mg base CX0 "life_text" P_life_text 1 (sp_life_text)) (c_life_of : DefOk P w K mg base CX0 "life_of" P_life_of 2 (sp_life_of)) (F : Fun K "next_life" "next_life" s_next_life f fd) : FnOk P w K mg base (L2.CX P w) 4 f fd P_next_life (sp_next C CC) := by
  have nd := sc_next_life.nd
  refine F.okX sc_next_life (fun vs H Q E h => ?_) (fun cdv A outer s H vs Q E hr h => ?_)
  · obtain ⟨_, _, _, _, _, _, rfl, _⟩ := h
    rfl
  · obtain ⟨p, l, ts, dead, pas, keep, rfl, hc, k0, l1, l2, q1, q2⟩ := h
    have hs := sl
    have pl := hc.ne
    obtain ⟨⟨dx, ho⟩, hl⟩ := id hc
    have t1 := len_tl ts.1
    have t2 := len_tl ts.2
    refine ⟨_, (pss_cons (ps_set (i := 1) nd rfl (Or.inl rfl) (pcall c_life_of hr (pa_cons (pmethE m_Cells_read T.cl_Cells (takes_of rfl rfl rfl rfl) (fun _ _ _ _ h => h) (pv 0) hr (pa_cons pe_int pa_nil)) pa_nil)))
      (pss_cons (ps_set (i := 2) nd rfl (Or.inl rfl) (pcall c_life_of hr (pa_cons (pmethE m_Cells_read T.cl_Cells (takes_of rfl rfl rfl rfl) (fun _ _ _ _ h => h) (pv 0) hr (pa_cons pe_int pa_nil)) pa_nil)))
      (pss_cons (ps_set (i := 3) nd rfl (Or.inl rfl) (pe_op op_add (pe_callB (call_max2 rfl) (by rfl) T.b_max (by decide +kernel) (pa_cons (pv 1) (pa_cons (pv 2) pa_nil))) pe_int))
      (pss_cons (ps_set (i := 4) nd rfl (Or.inl rfl) (pe_ifExp (pt_cmpR op_le (pv 1) (pv 2) (nomark _)) pe_int pe_int))
      (pss_cons (ps_expr (pmethE m_Cells_write T.cl_Cells (takes_of rfl rfl rfl rfl) (fun _ _ _ _ h => h) (pv 0) hr (pa_cons (pv 4) (pa_cons (pcall c_life_text hr (pa_cons (pv 3) pa_nil)) pa_nil))))
      (pss_one (ps_ret (pv 3)))))))), ?_⟩
    walk_at "rds"
    refine ⟨p, dx, _, rfl, ho, rfl, ?_⟩
    walk_at "rds"
    refine ⟨p, p, l, ts, dead, pas, keep, _, _, rfl, hc, .int 0, q1, fun _ h => (by cases h), fun i e _ _ hd => ?_⟩
    cases e
    have q2 := q2 hd
    walk_at "rds"
    refine ⟨by show (tl ts.1).length ≤ _; omega, fun H1 s1 => ?_⟩
    have hc1 := hc.same s1
    obtain ⟨⟨dx1, ho1⟩, hl1⟩ := id hc1
    walk_at "rds"
    refine ⟨p, dx1, _, rfl, ho1, rfl, ?_⟩
    walk_at "rds"
    refine ⟨p, p, l, ts, dead, pas, keep, _, _, rfl, hc1, .int 1, fun h => (by rw [hd] at h; cases h), fun _ h => (by cases h), fun i e _ _ hd => ?_⟩
    cases e
    walk_at "rds"
    refine ⟨by show (tl ts.2).length ≤ _; omega, fun H2 s2 => ?_⟩
    have hc2 := hc1.same s2
    obtain ⟨⟨dx2, ho2⟩, hl2⟩ := id hc2
    have b1 := lifeF_le (tl ts.1)
    have b2 := lifeF_le (tl ts.2)
    have g0 : getT ts 0 = ts.1 := rfl
    have g1 : getT ts 1 = ts.2 := rfl
    walk_at "rds"
    simp only [g0, g1, max_int]
    have en : ((max (lifeF (tl ts.1)) (lifeF (tl ts.2)) + 1 : Nat) : Int) = (nextL ts : Nat) := rfl
    rw [en]
    have nb : nextL ts ≤ 1000000000001 := by unfold nextL; omega
    have h13 : (numL (nextL ts)).length ≤ 13 := numL_len (k := 13) (by decide) (by omega)
    refine iB (fun h => ?_) (fun h => ?_)
    case' refine_1 =>
      have ec : cellL ts = 0 := if_pos (by have := of_decide_eq_true h; omega)
    case' refine_2 =>
      have ec : cellL ts = 1 := if_neg (by have := of_decide_eq_false h; omega)
    all_goals
      rw [ec] at q2
      walk_at "rds"
      refine ⟨p, dx2, _, rfl, ho2, rfl, ?_⟩
      walk_at "rds"
      refine ⟨by omega, by omega, fun z hz => ?_⟩
      rw [Int.toNat_natCast] at hz
      obtain ⟨q3, q4⟩ := q2 z hz
      have lz : z.length ≤ 1000 := by rw [len_tl, hz]; unfold lifeT; rw [List.length_append, List.length_cons]; omega
      have ss := s1.trans s2
      have kk : ∀ H', Keeps p l H2 H' → Keeps p l H H' := fun H' k b o h n1 n2 => k b o (ss b o h) n1 n2
      refine ⟨p, p, l, ts, dead, pas, keep, _, _, _, _, rfl, hc2, .int _, .str z, k0, l1, l2, fun z' e => (by cases e; exact lz), fun h => (by rw [hd] at h; cases h), fun _ h => (by cases h), fun i z' e1 e2 _ _ _ => ?_⟩
      cases e1
      cases e2
      refine ⟨fun hp H' c k => q3 hp H' c (kk H' k), fun hp H' c k => ?_⟩
      walk_at "rds"
      exact q4 hp H' c (kk H' k)
end
end Mus

set_option maxRecDepth 100000
set_option maxHeartbeats 4000000
namespace Mus
open PySem L2 TL PySem.NumText
local macro_rules | `(tactic| walk_at "rd") => `(tactic| first
  | refine ⟨_, rfl, ?_⟩ | refine ⟨(True.intro : True), ?_⟩
  | refine ⟨_, _, rfl, rfl, (⟨by decide, by decide, by decide⟩ : CPow _ _), ?_⟩
  | refine ⟨_, _, rfl, rfl, (⟨by decide, by decide⟩ : CDiv _ _), ?_⟩
  | refine ⟨_, _, rfl, rfl, (by show (0 : Int) < _; decide), ?_⟩
  | refine ⟨_, _, rfl, rfl, ?_⟩ | refine ⟨rfl, ?_⟩ | refine iteT ?_ | refine iteF ?_ | refine ⟨_, _, rfl, ?_⟩ | refine .inl ⟨_, rfl, ?_⟩
  | refine ⟨_, _, _, _, _, rfl, (by assumption), (by assumption), (by assumption), rfl, ?_⟩ | refine ⟨_, _, _, _, rfl, rfl, SqT.of (by assumption), rfl, ?_⟩ | refine ⟨_, _, rfl, SqT.of (by assumption), rfl, ?_⟩
  | refine ⟨_, _, _, _, _, rfl, .ty _, Rp.ty (by assumption), kit_int _, ?_⟩ | refine ⟨_, _, _, _, _, rfl, .ty _, Rp.ty (by assumption), kit_bool _, ?_⟩
  | refine ⟨_, _, _, _, _, rfl, .ty _, Rp.ty (by assumption), kit_str _, ?_⟩ | refine ⟨_, _, _, _, _, rfl, .ty _, Rp.ty (by assumption), kit_tup _, ?_⟩)
local macro_rules | `(tactic| walk_at "cal") => `(tactic| first
  | refine ⟨_, _, _, _, _, rfl, (by assumption), ?_⟩ | refine ⟨_, _, _, _, _, rfl, (by assumption), (by assumption), ?_⟩)
local macro_rules | `(tactic| walk_at "sq") => `(tactic| first
  | refine ⟨_, _, rfl, Or.inr (SqT.of (by assumption)), ?_⟩ | refine ⟨_, _, _, _, rfl, rfl, SqT.of (by assumption), rfl, ?_⟩)
local macro_rules | `(tactic| walk_at "rds") => `(tactic| repeat first | walk_at "rd" | walk_at "cal" | walk_at "sq")
def sp_cell (K : PySem.W.Frag) : Sp := fun vs H Q _ => ∃ (a : Addr) (ns : List Int) (k : Int), vs = [.ref a, .int k] ∧ 0 ≤ k ∧ SqL K H a (ns.map V.int) ∧ ∀ x, Q (.int x) H
def sp_ltext : Sp := fun vs H Q _ => ∃ i : Int, vs = [.int i] ∧ 0 ≤ i ∧ i < 100000000000000000000 ∧ ∀ y : Str, tl y = full i.toNat → Q (.str y) H
def sp_counted (C : Addr) : Sp := fun vs H Q _ => ∃ (p l : Addr) (ts : Str × Str) (dead : Bool) (pas : Option Int) (keep : Int), vs = [.ref p] ∧ CAt C H p l ts dead pas keep ∧ 0 ≤ keep ∧ ts.1.length ≤ 1000 ∧ ts.2.length ≤ 1000 ∧
  (dead = true → ∀ t, H t = none → Q (.ref t) (upd H t (.lst []))) ∧
  (dead = false → ∀ z : Str, tl z = lifeT (nextL ts) →
    (pas = some 0 → ∀ H' t, CAt C H' p l (setT ts (cellL ts) (torn z (getT ts (cellL ts)) keep)) true (some 0) keep → Keeps p l H H' → H' t = some (.lst []) → t ≠ p → t ≠ l → H t = none → Q (.ref t) H') ∧
    (pas ≠ some 0 → ∀ H' t, CAt C H' p l (setT ts (cellL ts) z) false (pas.map (· - 1)) keep → Keeps p l H H' → H' t = some (.lst [.int (nextL ts : Nat)]) → t ≠ p → t ≠ l → H t = none → Q (.ref t) H'))
section
variable {P : Program} {w : World} {K : PySem.W.Frag} {mg : Str → Option Value} {base : Heap} {C CC CE : Addr}
abbrev s__law_cell : Stmt := top 15
abbrev N__law_cell : List Str := ["script", "k"]
abbrev P__law_cell : List Str := ["script", "k"]
theorem sc__law_cell : FnScope N__law_cell P__law_cell (defScope s__law_cell) := ⟨rfl, rfl, rfl, by decide +kernel, rfl, by decide +kernel, by decide +kernel⟩
theorem ok__law_cell {f : Addr} {fd : FuncData} (T : Tx K mg C CC CE) (F : Fun K "_law_cell" "_law_cell" s__law_cell f fd) : FnOk P w K mg base CX0 (1) f fd P__law_cell (sp_cell K) := by
  have nd := sc__law_cell.nd
  refine F.ok sc__law_cell (fun vs H Q E h => ?_) (fun cdv A outer s H vs Q E hr h => ?_)
  · obtain ⟨_, _, _, rfl, _⟩ := h
    rfl
  · obtain ⟨a, ns, k, rfl, k0, hS, q⟩ := h
    refine ⟨_, (pss_cons (ps_if (pt_cmpR op_lt (pv 1) (pe_callB call_len_seq (by rfl) T.b_len (by decide +kernel) (pa_cons (pv 0) pa_nil)) (nomark _))
        (pss_one (ps_ret (pe_callTy call_int1 (by rfl) T.b_int (by decide +kernel) (pa_cons (pe_ix ix_list (pv 0) (pv 1) (fun _ _ => rfl)) pa_nil))))
        pss_nil)
      (pss_one (ps_ret pe_int))), ?_⟩
    have hl : (ns.map V.int).length = ns.length := List.length_map _
    walk_at "rds"
    refine ⟨a, _, rfl, .inl hS, ?_⟩
    walk_at "rds"
    refine iB (fun h => ?_) (fun h => ?_)
    · have hk : k < (((ns.map V.int).length : Nat) : Int) := of_decide_eq_true h
      have hk2 : k.toNat < ns.length := by omega
      walk_at "rds"
      refine ⟨a, _, _, .int ns[k.toNat], rfl, rfl, hS, at_int k0 (by rw [List.getElem?_map, List.getElem?_eq_getElem hk2]; rfl), ?_⟩
      walk_at "rds"
      exact q _
    · exact q _
abbrev s__law_text : Stmt := top 17
abbrev N__law_text : List Str := ["number"]
abbrev P__law_text : List Str := ["number"]
theorem sc__law_text : FnScope N__law_text P__law_text (defScope s__law_text) := ⟨rfl, rfl, rfl, by decide +kernel, rfl, by decide +kernel, by decide +kernel⟩
theorem ok__law_text {f : Addr} {fd : FuncData} (T : Tx K mg C CC CE) (F : Fun K "_law_text" "_law_text" s__law_text f fd) : FnOk P w K mg base CX0 (1) f fd P__law_text (sp_ltext) := by
  have nd := sc__law_text.nd
  refine F.ok sc__law_text (fun vs H Q E h => ?_) (fun cdv A outer s H vs Q E hr h => ?_)
  · obtain ⟨_, rfl, _⟩ := h
    rfl
  · obtain ⟨i, rfl, h0, h1, q⟩ := h
    have hs := sl
    refine ⟨_, (pss_cons (ps_if (pt_cmpR op_eq (pv 0) pe_int (nomark _))
        (pss_one (ps_ret pe_str))
        pss_nil)
      (pss_one (ps_ret (pe_op op_add_str (pe_op op_add_str (pe_callTy call_str_int (by rfl) T.b_str (by decide +kernel) (pa_cons (pv 0) pa_nil)) pe_str) (pe_callTy call_str_int (by rfl) T.b_str (by decide +kernel) (pa_cons (pv 0) pa_nil)))))), ?_⟩
    have en := tl_nat h0
    have hn := numL_len (n := i.toNat) (k := 20) (by omega) (by omega)
    walk_at "rds"
    refine iB (fun h => ?_) (fun h => ?_)
    · have e : i = 0 := V.int.inj (of_decide_eq_true h)
      subst e
      exact q _ rfl
    · have e : i ≠ 0 := fun e => of_decide_eq_false h (by rw [e])
      have tE : tl (Str.ofString "=") = [61] := by decide
      have u1 : tl (Str.ofString (toString i) ++ Str.ofString "=") = numL i.toNat ++ [61] := by rw [tl_append, en, tE]
      walk_at "rds"
      refine ⟨log_small (by omega), ?_⟩
      walk_at "rds"
      refine ⟨by rw [len_tl, len_tl, en, tE]; show _ + 1 ≤ _; omega, ?_⟩
      walk_at "rds"
      refine ⟨log_small (by omega), ?_⟩
      walk_at "rds"
      refine ⟨by rw [len_tl, len_tl, u1, en, List.length_append]; show _ + 1 + _ ≤ _; omega, ?_⟩
      refine q _ ?_
      rw [tl_append, u1, en]
      unfold full
      rw [if_neg (by omega)]
      unfold lifeT
      rw [List.append_assoc]; rfl
abbrev s__law_counted : Stmt := top 16
abbrev N__law_counted : List Str := ["cells"]
abbrev P__law_counted : List Str := ["cells"]
theorem sc__law_counted : FnScope N__law_counted P__law_counted (defScope s__law_counted) := ⟨rfl, rfl, rfl, by decide +kernel, rfl, by decide +kernel, by decide +kernel⟩
theorem ok__law_counted {f : Addr} {fd : FuncData} (T : Tx K mg C CC CE) (c_next_life : DefOk P w K mg base (L2.CX P w) "next_life" P_next_life 4 (sp_next C CC)) (F : Fun K "_law_counted" "_law_counted" s__law_counted f fd) : FnOk P w K mg base CX0 5 f fd P__law_counted (sp_counted C) := by
  have nd := sc__law_counted.nd
  refine F.ok sc__law_counted (fun vs H Q E h => ?_) (fun cdv A outer s H vs Q E hr h => ?_)
  · obtain ⟨_, _, _, _, _, _, rfl, _⟩ := h
    rfl
  · obtain ⟨p, l, ts, dead, pas, keep, rfl, hc, k0, l1, l2, q1, q2⟩ := h
    have hs := sl
    refine ⟨_, (pss_one (ps_try_only (tb := fun W => tRet (tLst (tCons (tCallS (sp_next C CC) (WE W) (tCons (tVar 0) tNil)) tNil))) (ts := fun _ _ _ => tRet (tLst tNil)) (Wout := fun _ _ _ _ => False) rfl rfl ⟨rfl, by decide, .inl T.g_DiskCrashed⟩ takes0
      (fun W pn xe tk _ => pss_one (ps_ret (by exact (pe_lst (pa_cons (pe_callS c_next_life.G (hr.mono (by decide)) rfl c_next_life.m c_next_life.kp c_next_life.b (fun σ => passAt tk σ) (by exact (pa_cons (pv 0) pa_nil))) pa_nil)))))
      (fun a oe cls d pn _ _ => pss_one (ps_ret (by exact (pe_lst pa_nil)))))), ?_⟩
    have pl := hc.ne
    obtain ⟨⟨dx, ho⟩, hl⟩ := id hc
    refine ⟨_, rfl, p, l, ts, dead, pas, keep, rfl, hc, k0, l1, l2, fun hd => ?_, fun hd z hz => ?_⟩
    · refine ⟨true, T.m_CC, fun _ a _ => ?_, fun h => by cases h⟩
      exact ⟨by show 0 ≤ sizeLine; omega, fun t nt => q1 hd t nt⟩
    · obtain ⟨q3, q4⟩ := q2 hd z hz
      refine ⟨fun hp H' c kk => ?_, fun hp H' c kk => ?_⟩
      · refine ⟨true, T.m_CC, fun _ a _ => ?_, fun h => by cases h⟩
        refine ⟨by show 0 ≤ sizeLine; omega, fun t nt => ?_⟩
        obtain ⟨⟨dx', ho'⟩, hl'⟩ := id c
        have n1 := ne_of_none ho' nt
        have n2 := ne_of_none hl' nt
        refine q3 hp _ t (c.same (same_new nt _)) (fun b o h a1 a2 => same_new nt _ _ _ (kk b o h a1 a2)) upd_same n1.symm n2.symm ?_
        cases e : H t with
        | none => rfl
        | some o =>
          have := kk t o e n1.symm n2.symm
          rw [nt] at this; cases this
      · refine ⟨by show 1 ≤ sizeLine; omega, fun t nt => ?_⟩
        obtain ⟨⟨dx', ho'⟩, hl'⟩ := id c
        have n1 := ne_of_none ho' nt
        have n2 := ne_of_none hl' nt
        refine q4 hp _ t (c.same (same_new nt _)) (fun b o h a1 a2 => same_new nt _ _ _ (kk b o h a1 a2)) upd_same n1.symm n2.symm ?_
        cases e : H t with
        | none => rfl
        | some o =>
          have := kk t o e n1.symm n2.symm
          rw [nt] at this; cases this
def sp_first : Sp := fun vs H Q _ => ∃ i : Int, vs = [.int i] ∧ ∀ t H' (a b : Int), Same H H' → H' t = some (.lst [.int a, .int b]) → 0 ≤ a → a ≤ 100000000000 → 0 ≤ b → b ≤ 100000000000 → (1 ≤ a ∨ 1 ≤ b) → Q (.ref t) H'
theorem zeros_val : ∀ n : Nat, digitsVal (49 :: List.replicate n 48) = 10 ^ n := by
  intro n
  induction n with
  | zero => rfl
  | succ n ih =>
    rw [List.replicate_succ', ← List.cons_append, digitsVal_snoc, ih, Nat.pow_succ]; omega
theorem flat_rep (n c : Nat) : (List.replicate n [c]).flatten = List.replicate n c := by
  induction n with
  | zero => rfl
  | succ n ih => rw [List.replicate_succ, List.flatten_cons, ih, List.replicate_succ]; rfl
theorem pickA (a b c d : Int) {k : Int} (h0 : 0 ≤ k) (h1 : k < 4) : ∃ x : Int, atI [V.int a, V.int b, V.int c, V.int d] k = some (V.int x) ∧ (x = a ∨ x = b ∨ x = c ∨ x = d) := by
  have h : k = 0 ∨ k = 1 ∨ k = 2 ∨ k = 3 := by omega
  rcases h with rfl | rfl | rfl | rfl
  · exact ⟨a, rfl, .inl rfl⟩
  · exact ⟨b, rfl, .inr (.inl rfl)⟩
  · exact ⟨c, rfl, .inr (.inr (.inl rfl))⟩
  · exact ⟨d, rfl, .inr (.inr (.inr rfl))⟩
abbrev s__law_first : Stmt := top 18
abbrev N__law_first : List Str := ["start", "near", "one", "other"]
abbrev P__law_first : List Str := ["start"]
theorem sc__law_first : FnScope N__law_first P__law_first (defScope s__law_first) := ⟨rfl, rfl, rfl, by decide +kernel, rfl, by decide +kernel, by decide +kernel⟩
theorem ok__law_first {f : Addr} {fd : FuncData} (T : Tx K mg C CC CE) (F : Fun K "_law_first" "_law_first" s__law_first f fd) : FnOk P w K mg base CX0 (1) f fd P__law_first (sp_first) := by
  have nd := sc__law_first.nd
  refine F.ok sc__law_first (fun vs H Q E h => ?_) (fun cdv A outer s H vs Q E hr h => ?_)
  · obtain ⟨_, rfl, _⟩ := h
    rfl
  · obtain ⟨i, rfl, q⟩ := h
    have hs := sl
    refine ⟨_, (pss_cons (ps_set (i := 1) nd rfl (Or.inl rfl) (pe_op op_sub (pe_op op_sub (pe_op op_mul pe_int (pe_callTy call_int_str (by rfl) T.b_int (by decide +kernel) (pa_cons (pe_op op_add_str pe_str (pe_op op_mul_strN pe_str (pe_op op_mod (pe_op op_fdiv (pv 0) pe_int) pe_int))) pa_nil))) pe_int) (pe_op op_mod (pe_op op_fdiv (pv 0) pe_int) pe_int)))
      (pss_cons (ps_set (i := 2) nd rfl (Or.inl rfl) (pe_callB (call_max2 rfl) (by rfl) T.b_max (by decide +kernel) (pa_cons pe_int (pa_cons (pv 1) pa_nil))))
      (pss_cons (ps_set (i := 3) nd rfl (Or.inl rfl) (pe_ix ix_list (pe_lst (pa_cons (pe_op op_sub (pv 2) pe_int) (pa_cons (pv 2) (pa_cons pe_int (pa_cons (pe_op op_add pe_int (pe_op op_mod (pe_op op_fdiv (pv 0) pe_int) (pv 2))) pa_nil))))) (pe_op op_mod (pe_op op_fdiv (pv 0) pe_int) pe_int) (fun _ _ => rfl)))
      (pss_one (ps_ret (pe_ix ix_list (pe_lst (pa_cons (pe_lst (pa_cons (pv 2) (pa_cons (pv 3) pa_nil))) (pa_cons (pe_lst (pa_cons (pv 3) (pa_cons (pv 2) pa_nil))) pa_nil))) (pe_op op_mod (pe_op op_fdiv (pv 0) pe_int) pe_int) (fun _ _ => rfl))))))), ?_⟩
    walk_at "rds"
    refine ⟨by omega, by omega, by decide, by decide, fun rz hrz => ?_⟩
    have t0 : tl (Str.ofString "0") = [48] := by decide
    have t1 : tl (Str.ofString "1") = [49] := by decide
    rw [t0, flat_rep] at hrz
    have hlr := len_tl rz
    rw [hrz, List.length_replicate] at hlr
    have h11 : (i / 3 % 11).toNat ≤ 10 := by omega
    refine ⟨_, _, rfl, rfl, by rw [len_tl, t1]; show 1 + _ ≤ _; omega, ?_⟩
    have tz : tl (Str.ofString "1" ++ rz) = 49 :: List.replicate (i / 3 % 11).toNat 48 := by rw [tl_append, t1, hrz]; rfl
    have tlz := len_tl (Str.ofString "1" ++ rz)
    rw [tz, List.length_cons, List.length_replicate] at tlz
    have hv := intText_digits (x := Str.ofString "1" ++ rz) (by
      show AllDigits (tl (Str.ofString "1" ++ rz))
      rw [tz]
      intro c hc
      rcases List.mem_cons.mp hc with e | e
      · omega
      · have := List.eq_of_mem_replicate e; omega) (by show tl (Str.ofString "1" ++ rz) ≠ []; rw [tz]; simp) (by omega)
    have ev : digitsVal (Str.ofString "1" ++ rz).cps.toList = 10 ^ (i / 3 % 11).toNat := by
      show digitsVal (tl (Str.ofString "1" ++ rz)) = _
      rw [tz]; exact zeros_val _
    rw [ev] at hv
    have p11 : 10 ^ (i / 3 % 11).toNat ≤ 10 ^ 10 := Nat.pow_le_pow_right (by decide) h11
    have p1 : 1 ≤ 10 ^ (i / 3 % 11).toNat := Nat.pow_pos (by decide)
    walk_at "rds"
    refine ⟨_, _, rfl, hv, by omega, ?_⟩
    generalize 10 ^ (i / 3 % 11).toNat = pw at *
    refine ⟨_, _, rfl, rfl, .inl ⟨by decide, by decide⟩, ?_⟩
    walk_at "rds"
    have o1 : 2 ≤ (if 10 * (pw : Int) - 1 - i / 33 % 12 > 2 then 10 * (pw : Int) - 1 - i / 33 % 12 else 2) := by split <;> omega
    have o2 : (if 10 * (pw : Int) - 1 - i / 33 % 12 > 2 then 10 * (pw : Int) - 1 - i / 33 % 12 else 2) ≤ 100000000000 := by split <;> omega
    generalize (if 10 * (pw : Int) - 1 - i / 33 % 12 > 2 then 10 * (pw : Int) - 1 - i / 33 % 12 else 2) = one at *
    refine ⟨(by show (0:Int) < _; omega), ?_⟩
    have om := Int.emod_nonneg (i / 396) (show one ≠ 0 by omega)
    have om2 := Int.emod_lt_of_pos (i / 396) (show (0:Int) < one by omega)
    walk_at "rds"
    refine ⟨by show 4 ≤ sizeLine; omega, fun t nt => ?_⟩
    obtain ⟨x, hx, hx2⟩ := pickA (one - 1) one 0 (1 + i / 396 % one) (k := i / 30 % 4) (by omega) (by omega)
    walk_at "rds"
    refine ⟨t, _, _, _, rfl, rfl, .inl (.inl upd_same), hx, ?_⟩
    have s1 := same_new nt (.lst [.int (one - 1), .int one, .int 0, .int (1 + i / 396 % one)])
    change gName 3 _ _ (upd H t (.lst [.int (one - 1), .int one, .int 0, .int (1 + i / 396 % one)])) _
    generalize upd H t _ = H1 at s1 ⊢
    walk_at "rds"
    refine ⟨by show 2 ≤ sizeLine; omega, fun ta na => ?_⟩
    walk_at "rds"
    refine ⟨by show 2 ≤ sizeLine; omega, fun tb nb => ?_⟩
    walk_at "rds"
    refine ⟨by show 2 ≤ sizeLine; omega, fun tc nc => ?_⟩
    walk_at "rds"
    have s4 := (s1.trans (same_new na _)).trans ((same_new nb _).trans (same_new nc (.lst [.ref ta, .ref tb])))
    have ha := ((same_new nb (.lst [.int x, .int one])).trans (same_new nc (.lst [.ref ta, .ref tb]))) ta _ (upd_same (o := .lst [.int one, .int x]))
    have hb := (same_new nc (.lst [.ref ta, .ref tb])) tb _ (upd_same (o := .lst [.int x, .int one]))
    obtain e | e : i / 1000 % 2 = 0 ∨ i / 1000 % 2 = 1 := by omega
    · refine ⟨tc, _, _, .ref ta, rfl, rfl, .inl (.inl upd_same), by show atI _ (i / 1000 % 2) = _; rw [e]; rfl, ?_⟩
      exact q ta _ one x s4 ha (by omega) (by omega) (by omega) (by omega) (by omega)
    · refine ⟨tc, _, _, .ref tb, rfl, rfl, .inl (.inl upd_same), by show atI _ (i / 1000 % 2) = _; rw [e]; rfl, ?_⟩
      exact q tb _ x one s4 hb (by omega) (by omega) (by omega) (by omega) (by omega)
def sp_copied (C : Addr) : Sp := fun vs H Q _ => ∃ (p l : Addr) (ts : Str × Str) (pas : Option Int) (keep : Int), vs = [.ref p] ∧ CAt C H p l ts false pas keep ∧ ts.1.length ≤ 1000 ∧ ts.2.length ≤ 1000 ∧
  ∀ H' p' l', CAt C H' p' l' ts false none 0 → Same H H' → Q (.ref p') H'
abbrev s__law_copied : Stmt := top 19
abbrev N__law_copied : List Str := ["cells", "fresh"]
abbrev P__law_copied : List Str := ["cells"]
theorem sc__law_copied : FnScope N__law_copied P__law_copied (defScope s__law_copied) := ⟨rfl, rfl, rfl, by decide +kernel, rfl, by decide +kernel, by decide +kernel⟩
theorem ok__law_copied {f : Addr} {fd : FuncData} (T : Tx K mg C CC CE) (k_Cells : MkOk P w K mg base C "Cells" P_Cells___init__ 1 (sp_init C)) (m_Cells_read : MethOk P w K mg base (L2.CX P w) C "read" P_Cells_read 3 (sp_read C CC CE)) (m_Cells_write : MethOk P w K mg base (L2.CX P w) C "write" P_Cells_write 3 (sp_write C CC CE)) (F : Fun K "_law_copied" "_law_copied" s__law_copied f fd) : FnOk P w K mg base CX0 4 f fd P__law_copied (sp_copied C) := by
  have nd := sc__law_copied.nd
  refine F.ok sc__law_copied (fun vs H Q E h => ?_) (fun cdv A outer s H vs Q E hr h => ?_)
  · obtain ⟨_, _, _, _, _, rfl, _⟩ := h
    rfl
  · obtain ⟨p, l, ts, pas, keep, rfl, hc, l1, l2, q⟩ := h
    have hs := sl
    refine ⟨_, (pss_cons (ps_set (i := 1) nd rfl (Or.inl rfl) (pmake0 k_Cells hr))
      (pss_cons (ps_expr (pmethE m_Cells_write T.cl_Cells takes0 (fun _ _ _ _ h => h) (pv 1) hr (pa_cons pe_int (pa_cons (pmethE m_Cells_read T.cl_Cells takes0 (fun _ _ _ _ h => h) (pv 0) hr (pa_cons pe_int pa_nil)) pa_nil))))
      (pss_cons (ps_expr (pmethE m_Cells_write T.cl_Cells takes0 (fun _ _ _ _ h => h) (pv 1) hr (pa_cons pe_int (pa_cons (pmethE m_Cells_read T.cl_Cells takes0 (fun _ _ _ _ h => h) (pv 0) hr (pa_cons pe_int pa_nil)) pa_nil))))
      (pss_one (ps_ret (pv 1)))))), ?_⟩
    obtain ⟨⟨dx, ho⟩, hl⟩ := id hc
    have e0 : (Str.ofString "").length ≤ 1000 := by decide
    intro x dy nx ny nyx
    have upp : ∀ b, b ≠ x → b ≠ dy → (upd (upd H dy (.own x)) x (.ins C dy [])) b = H b := fun b h1 h2 => by unfold upd; rw [if_neg h1, if_neg h2]
    refine ⟨x, dy, rfl, upd_same, fun l' H1 nl hc1 kk => ⟨rfl, ?_⟩⟩
    have nl' : H l' = none := by
      have n1 : l' ≠ x := fun e => by rw [e, upd_same] at nl; cases nl
      have n2 : l' ≠ dy := fun e => by
        rw [e] at nl n1
        unfold upd at nl; rw [if_neg n1, if_pos rfl] at nl; cases nl
      rw [← upp l' n1 n2]; exact nl
    have s1 : Same H H1 := fun b o h => kk b o (by rw [upp b (ne_of_none h nx) (ne_of_none h ny)]; exact h) (ne_of_none h nx)
    have sK : ∀ H2 H3, Same H H2 → Keeps x l' H2 H3 → Same H H3 := fun H2 H3 s k b o h => k b o (s b o h) (ne_of_none h nx) (ne_of_none h nl')
    obtain ⟨⟨dx1, ho1⟩, _⟩ := id hc1
    obtain ⟨⟨dxp, hop⟩, _⟩ := id (hc.same s1)
    walk_at "rds"
    refine ⟨x, dx1, _, rfl, ho1, rfl, ?_⟩
    walk_at "rds"
    refine ⟨p, dxp, _, rfl, hop, rfl, ?_⟩
    walk_at "rds"
    refine ⟨p, p, l, ts, false, pas, keep, _, _, rfl, hc.same s1, .int 0, fun h => (by cases h), fun _ h => (by cases h), fun i e _ _ hd => ?_⟩
    cases e
    walk_at "rds"
    refine ⟨p, x, l', _, false, none, 0, _, _, _, _, rfl, hc1, .int 0, .str _, Int.le_refl 0, e0, e0, fun z' e => (by cases e; exact l1), fun h => (by cases h), fun _ h => (by cases h), fun i z' e1 e2 _ _ _ => ?_⟩
    cases e1
    cases e2
    refine ⟨fun hp => (by cases hp), fun _ H2 hc2 k2 => ?_⟩
    have s2 := sK _ _ s1 k2
    obtain ⟨⟨dx2, ho2⟩, _⟩ := id hc2
    obtain ⟨⟨dxq, hoq⟩, _⟩ := id (hc.same s2)
    walk_at "rds"
    refine ⟨x, dx2, _, rfl, ho2, rfl, ?_⟩
    walk_at "rds"
    refine ⟨p, dxq, _, rfl, hoq, rfl, ?_⟩
    walk_at "rds"
    refine ⟨p, p, l, ts, false, pas, keep, _, _, rfl, hc.same s2, .int 1, fun h => (by cases h), fun _ h => (by cases h), fun i e _ _ hd => ?_⟩
    cases e
    walk_at "rds"
    refine ⟨p, x, l', _, false, none, 0, _, _, _, _, rfl, hc2, .int 1, .str _, Int.le_refl 0, l1, e0, fun z' e => (by cases e; exact l2), fun h => (by cases h), fun _ h => (by cases h), fun i z' e1 e2 _ _ _ => ?_⟩
    cases e1
    cases e2
    refine ⟨fun hp => (by cases hp), fun _ H3 hc3 k3 => ?_⟩
    walk_at "rds"
    exact q _ _ _ hc3 (sK _ _ s2 k3)
end
end Mus

set_option maxRecDepth 100000
set_option maxHeartbeats 4000000
namespace Mus
open PySem L2 TL PySem.NumText
local macro_rules | `(tactic| walk_at "rd") => `(tactic| first
  | refine ⟨_, rfl, ?_⟩ | refine ⟨(True.intro : True), ?_⟩
  | refine ⟨_, _, rfl, rfl, (⟨by decide, by decide, by decide⟩ : CPow _ _), ?_⟩
  | refine ⟨_, _, rfl, rfl, (⟨by decide, by decide⟩ : CDiv _ _), ?_⟩
  | refine ⟨_, _, rfl, rfl, (by show (0 : Int) < _; decide), ?_⟩
  | refine ⟨_, _, rfl, rfl, ?_⟩ | refine ⟨rfl, ?_⟩ | refine iteT ?_ | refine iteF ?_ | refine ⟨_, _, rfl, ?_⟩ | refine .inl ⟨_, rfl, ?_⟩
  | refine ⟨_, _, _, _, _, rfl, (by assumption), (by assumption), (by assumption), rfl, ?_⟩ | refine ⟨_, _, _, _, rfl, rfl, SqT.of (by assumption), rfl, ?_⟩ | refine ⟨_, _, rfl, SqT.of (by assumption), rfl, ?_⟩
  | refine ⟨_, _, _, _, _, rfl, .ty _, Rp.ty (by assumption), kit_int _, ?_⟩ | refine ⟨_, _, _, _, _, rfl, .ty _, Rp.ty (by assumption), kit_bool _, ?_⟩
  | refine ⟨_, _, _, _, _, rfl, .ty _, Rp.ty (by assumption), kit_str _, ?_⟩ | refine ⟨_, _, _, _, _, rfl, .ty _, Rp.ty (by assumption), kit_tup _, ?_⟩)
local macro_rules | `(tactic| walk_at "cal") => `(tactic| first
  | refine ⟨_, _, _, _, _, rfl, (by assumption), ?_⟩ | refine ⟨_, _, _, _, _, rfl, (by assumption), (by assumption), ?_⟩)
local macro_rules | `(tactic| walk_at "sq") => `(tactic| first
  | refine ⟨_, _, rfl, Or.inr (SqT.of (by assumption)), ?_⟩ | refine ⟨_, _, _, _, rfl, rfl, SqT.of (by assumption), rfl, ?_⟩)
local macro_rules | `(tactic| walk_at "rds") => `(tactic| repeat first | walk_at "rd" | walk_at "cal" | walk_at "sq")
def Asc (z : Str) : Prop := ∀ c ∈ tl z, c < 128
theorem asc_life {z : Str} {n : Nat} (h : tl z = lifeT n) : Asc z := by
  intro c hc
  rw [h] at hc
  unfold lifeT at hc
  rcases List.mem_append.mp hc with m | m
  · have := numL_digits n c m; omega
  · rcases List.mem_cons.mp m with m | m
    · omega
    · have := numL_digits n c m; omega
theorem strOk_asc {z : Str} (h : Asc z) : PyData.strOk z = true := by
  unfold PyData.strOk
  rw [← Array.all_toList, List.all_eq_true]
  intro c hc
  have := h c hc
  exact decide_eq_true (by omega)
theorem asc_cut {z : Str} {lo hi : Option Int} (h : Asc z) : Asc (cutS z lo hi) := by
  intro c hc
  have hc : c ∈ (z.cps.toList.drop _).take _ := hc
  exact h c (List.mem_of_mem_drop (List.mem_of_mem_take hc))
theorem asc_torn {a b : Str} {k : Int} (ha : Asc a) (hb : Asc b) : Asc (torn a b k) := by
  intro c hc
  unfold torn at hc
  rw [tl_append] at hc
  rcases List.mem_append.mp hc with m | m
  · exact asc_cut ha c m
  · exact asc_cut hb c m
theorem asc_set {ts : Str × Str} {i : Int} {z : Str} (h1 : Asc ts.1) (h2 : Asc ts.2) (h : Asc z) : Asc (setT ts i z).1 ∧ Asc (setT ts i z).2 := by
  unfold setT
  split
  · exact ⟨h, h2⟩
  · exact ⟨h1, h⟩
def sp_lcall (C : Addr) : Sp := fun vs H Q _ => ∃ (p l : Addr) (ts : Str × Str) (pas : Option Int) (kc left keep : Int), vs = [.ref p, .int left, .int keep] ∧ CAt C H p l ts false pas kc ∧ (left = 0 ↔ pas = some 0) ∧ (left = 0 → kc = keep) ∧ 0 ≤ kc ∧ ts.1.length ≤ 1000 ∧ ts.2.length ≤ 1000 ∧ Asc ts.1 ∧ Asc ts.2 ∧
  (left = 0 → ∀ H' t (z : Str), tl z = lifeT (nextL ts) → CAt C H' p l (setT ts (cellL ts) (torn z (getT ts (cellL ts)) keep)) false none kc → Keeps p l H H' → H' t = some (.lst []) → Q (.ref t) H') ∧
  (left ≠ 0 → ∀ H' t (z : Str), tl z = lifeT (nextL ts) → CAt C H' p l (setT ts (cellL ts) z) false (pas.map (· - 1)) kc → Keeps p l H H' → H' t = some (.lst [.int (nextL ts : Nat)]) → Q (.ref t) H')
section
variable {P : Program} {w : World} {K : PySem.W.Frag} {mg : Str → Option Value} {base : Heap} {C CC CE : Addr}
abbrev s__law_call : Stmt := top 20
abbrev N__law_call : List Str := ["cells", "left", "keep", "texts", "found", "due", "at", "told"]
abbrev P__law_call : List Str := ["cells", "left", "keep"]
theorem sc__law_call : FnScope N__law_call P__law_call (defScope s__law_call) := ⟨rfl, rfl, rfl, by decide +kernel, rfl, by decide +kernel, by decide +kernel⟩
theorem ok__law_call {f : Addr} {fd : FuncData} (T : Tx K mg C CC CE) (m_Cells_read : MethOk P w K mg base (L2.CX P w) C "read" P_Cells_read 3 (sp_read C CC CE)) (m_Cells_crash : MethOk P w K mg base CX0 C "crash" P_Cells_crash 1 (sp_crash C)) (c_life_of : DefOk P w K mg base CX0 "life_of" P_life_of 2 (sp_life_of)) (c__law_text : DefOk P w K mg base CX0 "_law_text" P__law_text 1 (sp_ltext)) (c__law_counted : DefOk P w K mg base CX0 "_law_counted" P__law_counted 5 (sp_counted C)) (F : Fun K "_law_call" "_law_call" s__law_call f fd) : FnOk P w K mg base CX0 6 f fd P__law_call (sp_lcall C) := by
  have nd := sc__law_call.nd
  refine F.ok sc__law_call (fun vs H Q E h => ?_) (fun cdv A outer s H vs Q E hr h => ?_)
  · obtain ⟨_, _, _, _, _, _, _, rfl, _⟩ := h
    rfl
  · obtain ⟨p, l, ts, pas, kc, left, keep, rfl, hc, hlp, hkk, k0, l1, l2, a1, a2, q1, q2⟩ := h
    have hs := sl
    refine ⟨_, (pss_cons (ps_set (i := 3) nd rfl (Or.inl rfl) (pe_lst (pa_cons (pmethE m_Cells_read T.cl_Cells takes0 (fun _ _ _ _ h => h) (pv 0) hr (pa_cons pe_int pa_nil)) (pa_cons (pmethE m_Cells_read T.cl_Cells takes0 (fun _ _ _ _ h => h) (pv 0) hr (pa_cons pe_int pa_nil)) pa_nil))))
      (pss_cons (ps_set (i := 4) nd rfl (Or.inl rfl) (pe_lst (pa_cons (pcall c_life_of hr (pa_cons (pe_ix ix_list (pv 3) pe_int (fun _ _ => rfl)) pa_nil)) (pa_cons (pcall c_life_of hr (pa_cons (pe_ix ix_list (pv 3) pe_int (fun _ _ => rfl)) pa_nil)) pa_nil))))
      (pss_cons (ps_set (i := 5) nd rfl (Or.inl rfl) (pe_op op_add (pe_callB (call_max2 rfl) (by rfl) T.b_max (by decide +kernel) (pa_cons (pe_ix ix_list (pv 4) pe_int (fun _ _ => rfl)) (pa_cons (pe_ix ix_list (pv 4) pe_int (fun _ _ => rfl)) pa_nil))) pe_int))
      (pss_cons (ps_set (i := 6) nd rfl (Or.inl rfl) (pe_callTy call_int1 (by rfl) T.b_int (by decide +kernel) (pa_cons (pe_cmpR op_lt (pe_ix ix_list (pv 4) pe_int (fun _ _ => rfl)) (pe_ix ix_list (pv 4) pe_int (fun _ _ => rfl)) (nomark _)) pa_nil)))
      (pss_cons (ps_set (i := 7) nd rfl (Or.inl rfl) (pcall c__law_counted hr (pa_cons (pv 0) pa_nil)))
      (pss_cons (ps_if (pt_cmpR op_eq (pv 1) pe_int (nomark _))
        (pss_cons (ps_if (PW.pt (pw_or (pt_cmpR op_gt (pe_callB call_len_seq (by rfl) T.b_len (by decide +kernel) (pa_cons (pv 7) pa_nil)) pe_int (nomark _)) (pw_or1 (pt_cmpR op_gt (pe_callB call_len_seq (by rfl) T.b_len (by decide +kernel) (pa_cons (pcall c__law_counted hr (pa_cons (pv 0) pa_nil)) pa_nil)) pe_int (nomark _)))))
          (pss_one (ps_ret pe_non))
          pss_nil)
        (pss_cons (ps_expr (pmeth0 m_Cells_crash T.cl_Cells (pv 0) hr))
        (pss_one (ps_asg (pe_op op_add_str (pe_slice sl_str (pcall c__law_text hr (pa_cons (pv 5) pa_nil)) po_none (po_some (pv 2))) (pe_slice sl_str (pe_ix ix_list (pv 3) (pv 6) (fun _ _ => rfl)) (po_some (pv 2)) po_none)) (pg_sub (pv 3) (pv 6) set_list)))))
        (pss_cons (ps_if (PW.pt (pw_or (pt_cmpR op_eq (pe_callB call_len_seq (by rfl) T.b_len (by decide +kernel) (pa_cons (pv 7) pa_nil)) pe_int (nomark _)) (pw_or (pt_val (pe_callB call_isi (by rfl) T.b_isinstance (by decide +kernel) (pa_cons (pe_ix ix_list (pv 7) pe_int (fun _ _ => rfl)) (pa_cons (pe_ty "bool" T.b_bool) pa_nil)))) (pw_or1 (pt_cmpR op_ne (pe_ix ix_list (pv 7) pe_int (fun _ _ => rfl)) (pv 5) (nomark _))))))
          (pss_one (ps_ret pe_non))
          pss_nil)
        (pss_one (ps_asg (pcall c__law_text hr (pa_cons (pv 5) pa_nil)) (pg_sub (pv 3) (pv 6) set_list)))))
      (pss_cons (ps_if (pt_cmpR (op_neD hr.units) (pe_lst (pa_cons (pmethE m_Cells_read T.cl_Cells takes0 (fun _ _ _ _ h => h) (pv 0) hr (pa_cons pe_int pa_nil)) (pa_cons (pmethE m_Cells_read T.cl_Cells takes0 (fun _ _ _ _ h => h) (pv 0) hr (pa_cons pe_int pa_nil)) pa_nil))) (pv 3) (nomark _))
        (pss_one (ps_ret pe_non))
        pss_nil)
      (pss_one (ps_ret (pv 7)))))))))), ?_⟩
    obtain ⟨⟨dx, ho⟩, hl⟩ := id hc
    walk_at "rds"
    refine ⟨p, dx, _, rfl, ho, rfl, ?_⟩
    walk_at "rds"
    refine ⟨p, p, l, ts, false, pas, kc, _, _, rfl, hc, .int 0, fun h => (by cases h), fun _ h => (by cases h), fun i e _ _ hd => ?_⟩
    cases e
    walk_at "rds"
    refine ⟨p, dx, _, rfl, ho, rfl, ?_⟩
    walk_at "rds"
    refine ⟨p, p, l, ts, false, pas, kc, _, _, rfl, hc, .int 1, fun h => (by cases h), fun _ h => (by cases h), fun i e _ _ hd => ?_⟩
    cases e
    walk_at "rds"
    refine ⟨by show 2 ≤ sizeLine; omega, fun tt ntt => ?_⟩
    have s1 := same_new ntt (.lst [.str ts.1, .str ts.2])
    have h1t : upd H tt (.lst [.str ts.1, .str ts.2]) tt = _ := upd_same
    change gName 3 _ _ (upd H tt (.lst [.str ts.1, .str ts.2])) _
    have tp : tt ≠ p := (ne_of_none ho ntt).symm
    have tl' : tt ≠ l := (ne_of_none hl ntt).symm
    generalize upd H tt _ = H1 at s1 h1t ⊢
    walk_at "rds"
    refine ⟨tt, _, _, .str ts.1, rfl, rfl, .inl (.inl h1t), rfl, ?_⟩
    walk_at "rds"
    refine ⟨by rw [← len_tl]; exact l1, fun H2 s2 => ?_⟩
    walk_at "rds"
    refine ⟨tt, _, _, .str ts.2, rfl, rfl, .inl (.inl (s2 _ _ h1t)), rfl, ?_⟩
    walk_at "rds"
    refine ⟨by rw [← len_tl]; exact l2, fun H3 s3 => ?_⟩
    walk_at "rds"
    refine ⟨by show 2 ≤ sizeLine; omega, fun tf ntf => ?_⟩
    have s4 := same_new ntf (.lst [.int (lifeF (tl ts.1) : Nat), .int (lifeF (tl ts.2) : Nat)])
    have h4f : upd H3 tf (.lst [.int (lifeF (tl ts.1) : Nat), .int (lifeF (tl ts.2) : Nat)]) tf = _ := upd_same
    change gName 4 _ _ (upd H3 tf (.lst [.int (lifeF (tl ts.1) : Nat), .int (lifeF (tl ts.2) : Nat)])) _
    generalize upd H3 tf _ = H4 at s4 h4f ⊢
    have s04 := ((s1.trans s2).trans s3).trans s4
    have h4t := s4 _ _ (s3 _ _ (s2 _ _ h1t))
    walk_at "rds"
    refine ⟨tf, _, _, .int _, rfl, rfl, .inl (.inl h4f), rfl, ?_⟩
    walk_at "rds"
    refine ⟨tf, _, _, .int _, rfl, rfl, .inl (.inl h4f), rfl, ?_⟩
    walk_at "rds"
    simp only [max_int]
    have en : ((max (lifeF (tl ts.1)) (lifeF (tl ts.2)) + 1 : Nat) : Int) = (nextL ts : Nat) := rfl
    rw [en]
    refine ⟨tf, _, _, .int _, rfl, rfl, .inl (.inl h4f), rfl, ?_⟩
    walk_at "rds"
    refine ⟨tf, _, _, .int _, rfl, rfl, .inl (.inl h4f), rfl, ?_⟩
    walk_at "rds"
    refine .inr ⟨_, rfl, ?_⟩
    have ea : (if decide (((lifeF (tl ts.2) : Nat) : Int) < ((lifeF (tl ts.1) : Nat) : Int)) = true then (1 : Int) else 0) = cellL ts := by
      unfold cellL
      by_cases h : lifeF (tl ts.1) ≤ lifeF (tl ts.2)
      · rw [if_pos h, decide_eq_false (by omega)]; rfl
      · rw [if_neg h, decide_eq_true (by omega)]; rfl
    rw [ea]
    walk_at "rds"
    have hi : cellL ts = 0 ∨ cellL ts = 1 := by unfold cellL; split <;> simp
    have lg : (getT ts (cellL ts)).length ≤ 1000 := by unfold getT; split <;> assumption
    have hat : atI [V.str ts.1, V.str ts.2] (cellL ts) = some (.str (getT ts (cellL ts))) := by rcases hi with e | e <;> rw [e] <;> rfl
    have hset : ∀ y : Str, ∃ j, ixN 2 (cellL ts) = some j ∧ ([V.str ts.1, V.str ts.2] : List V).set j (.str y) = [.str (setT ts (cellL ts) y).1, .str (setT ts (cellL ts) y).2] := fun y => by
      rcases hi with e | e <;> rw [e]
      · exact ⟨0, rfl, rfl⟩
      · exact ⟨1, rfl, rfl⟩
    have b1 := lifeF_le (tl ts.1)
    have b2 := lifeF_le (tl ts.2)
    have nb : nextL ts ≤ 1000000000001 := by unfold nextL; omega
    have n1 : 1 ≤ nextL ts := by unfold nextL; omega
    have h13 : (numL (nextL ts)).length ≤ 13 := numL_len (k := 13) (by decide) (by omega)
    refine ⟨p, l, ts, false, pas, kc, rfl, hc.same s04, k0, l1, l2, fun h => (by cases h), fun _ z hz => ?_⟩
    have lz : z.length ≤ 27 := by rw [len_tl, hz]; unfold lifeT; rw [List.length_append, List.length_cons]; omega
    refine ⟨fun hp H5 t5 hc5 k5 e5 n5p n5l n5 => ?torn, fun hp H5 t5 hc5 k5 e5 n5p n5l n5 => ?fine⟩
    case' torn =>
      have hl0 := hlp.mpr hp
      have h5t := k5 _ _ h4t tp tl'
      subst hl0
      have ek := hkk rfl
      subst ek
      have lz : z.length ≤ 1000 := by omega
      have lt5 : (setT ts (cellL ts) (torn z (getT ts (cellL ts)) kc)).1.length ≤ 1000 ∧ (setT ts (cellL ts) (torn z (getT ts (cellL ts)) kc)).2.length ≤ 1000 := by
        have := torn_len z (getT ts (cellL ts)) k0 lz lg
        unfold setT
        split <;> exact ⟨by assumption, by assumption⟩
      walk_at "rds"
      refine ⟨t5, _, rfl, .inl (.of e5), ?_⟩
      walk_at "rds"
      refine ⟨p, l, _, true, _, kc, rfl, hc5, k0, lt5.1, lt5.2, fun _ t6 n6 => ?_, fun h => (by cases h)⟩
      have s6 := same_new n6 (.lst [])
      have e6 : upd H5 t6 (.lst []) t6 = _ := upd_same
      generalize upd H5 t6 _ = H6 at s6 e6 ⊢
      walk_at "rds"
      refine ⟨t6, _, rfl, .inl (.of e6), ?_⟩
      walk_at "rds"
      obtain ⟨⟨dx5, ho5⟩, hl5⟩ := id (hc5.same s6)
      refine ⟨p, dx5, _, rfl, ho5, rfl, ?_⟩
      walk_at "rds"
      refine ⟨p, l, _, true, _, kc, rfl, hc5.same s6, fun H7 hc7 k7 => ?_⟩
      have h7t := k7 _ _ (s6 _ _ h5t) tp tl'
      walk_at "rds"
      refine ⟨by omega, by omega, fun y hy => ?_⟩
      have ey : y = z := ext_tl (by rw [hy, hz, Int.toNat_natCast]; exact if_neg (by unfold nextL; omega))
      subst ey
      walk_at "rds"
      refine ⟨by omega, ?_⟩
      walk_at "rds"
      refine ⟨tt, _, _, _, rfl, rfl, .of h7t, hat, ?_⟩
      walk_at "rds"
      refine ⟨by omega, ?_⟩
      have c1 := cut_len' y none (some kc)
      have c2 := cut_len' (getT ts (cellL ts)) (some kc) none
      refine ⟨_, _, rfl, rfl, by omega, ?_⟩
      walk_at "rds"
      obtain ⟨j, hj, hs2⟩ := hset (torn y (getT ts (cellL ts)) kc)
      refine ⟨tt, _, _, j, rfl, rfl, h7t, hj, ?_⟩
      have e3 : cutS y none (some kc) ++ cutS (getT ts (cellL ts)) (some kc) none = torn y (getT ts (cellL ts)) kc := rfl
      rw [e3, hs2]
      generalize hns : setT ts (cellL ts) (torn y (getT ts (cellL ts)) kc) = ns at hc7 ⊢
      have e8 := k7 _ _ (s6 _ _ e5) n5p n5l
      have c8 := fun (H' : Hp) (b : Addr) (o : HO) (s : Same (upd H7 tt (.lst [.str ns.1, .str ns.2])) H') (h : H7 b = some o) (n : b ≠ tt) => s b o (by rw [upd_ne n]; exact h)
      have hq : ∀ H', Same (upd H7 tt (.lst [.str ns.1, .str ns.2])) H' → CAt C H' p l ns false none kc ∧ Q (.ref t5) H' := fun H' s8 => by
        obtain ⟨⟨dx7, ho7⟩, hl7⟩ := id hc7
        have hc9 : CAt C H' p l ns false none kc := ⟨⟨dx7, c8 _ _ _ s8 ho7 tp.symm⟩, c8 _ _ _ s8 hl7 tl'.symm⟩
        refine ⟨hc9, q1 rfl _ _ y hz (hns ▸ hc9) (fun b o h n1 n2 => c8 _ _ _ s8 (k7 _ _ (s6 _ _ (k5 _ _ (s04 _ _ h) n1 n2)) n1 n2) (ne_of_none h ntt)) (c8 _ _ _ s8 e8 (ne_of_none h4t n5).symm)⟩
      have ha : Asc ns.1 ∧ Asc ns.2 := hns ▸ asc_set a1 a2 (asc_torn (asc_life hz) (by unfold getT; split <;> assumption))
      have h8t : upd H7 tt (.lst [.str ns.1, .str ns.2]) tt = _ := upd_same
      generalize upd H7 tt (.lst [.str ns.1, .str ns.2]) = H8 at hq h8t ⊢
      clear hc7 hc5 q1 q2 lt5 hset
    case' fine =>
      have hl0 : left ≠ 0 := fun e => hp (hlp.mp e)
      have h5t := k5 _ _ h4t tp tl'
      have hi5 : Rp p H5 (.int (nextL ts : Nat)) (.int (nextL ts : Nat)) := .int _
      walk_at "rds"
      refine iB (fun h => absurd (V.int.inj (of_decide_eq_true h)) hl0) (fun h => ?_)
      walk_at "rds"
      refine ⟨t5, _, rfl, .inl (.of e5), ?_⟩
      walk_at "rds"
      refine ⟨t5, _, _, _, rfl, rfl, .of e5, rfl, ?_⟩
      walk_at "rds"
      refine ⟨t5, _, _, _, rfl, rfl, .of e5, rfl, ?_⟩
      walk_at "rds"
      refine iB (fun h => (by simp at h)) (fun _ => ?_)
      walk_at "rds"
      refine ⟨by omega, by omega, fun y hy => ?_⟩
      have ey : y = z := ext_tl (by rw [hy, hz, Int.toNat_natCast]; exact if_neg (by unfold nextL; omega))
      subst ey
      walk_at "rds"
      obtain ⟨j, hj, hs2⟩ := hset y
      refine ⟨tt, _, _, j, rfl, rfl, h5t, hj, ?_⟩
      rw [hs2]
      generalize hns : setT ts (cellL ts) y = ns at hc5 ⊢
      have c8 := fun (H' : Hp) (b : Addr) (o : HO) (s : Same (upd H5 tt (.lst [.str ns.1, .str ns.2])) H') (h : H5 b = some o) (n : b ≠ tt) => s b o (by rw [upd_ne n]; exact h)
      have hq : ∀ H', Same (upd H5 tt (.lst [.str ns.1, .str ns.2])) H' → CAt C H' p l ns false (pas.map (· - 1)) kc ∧ Q (.ref t5) H' := fun H' s8 => by
        obtain ⟨⟨dx7, ho7⟩, hl7⟩ := id hc5
        have hc9 : CAt C H' p l ns false (pas.map (· - 1)) kc := ⟨⟨dx7, c8 _ _ _ s8 ho7 tp.symm⟩, c8 _ _ _ s8 hl7 tl'.symm⟩
        refine ⟨hc9, q2 hl0 _ _ y hz (hns ▸ hc9) (fun b o h n1 n2 => c8 _ _ _ s8 (k5 _ _ (s04 _ _ h) n1 n2) (ne_of_none h ntt)) (c8 _ _ _ s8 e5 (ne_of_none h4t n5).symm)⟩
      have ha : Asc ns.1 ∧ Asc ns.2 := hns ▸ asc_set a1 a2 (asc_life hz)
      have h8t : upd H5 tt (.lst [.str ns.1, .str ns.2]) tt = _ := upd_same
      generalize upd H5 tt (.lst [.str ns.1, .str ns.2]) = H8 at hq h8t ⊢
      clear hc5 q1 q2 hset
    all_goals
      have hl8 := (hq H8 (fun _ _ h => h)).1
      obtain ⟨⟨dx8, ho8⟩, _⟩ := id hl8
      have g0 : getT ns 0 = ns.1 := rfl
      have g1 : getT ns 1 = ns.2 := rfl
      have hsd : SeqAt.shaped (.list [.str ns.1, .str ns.2]) = true := by
        simp [SeqAt.shaped, PyData.canLay0, PyData.canLayAll0, strOk_asc ha.1, strOk_asc ha.2, PyData.depth, PyData.depthAll]
      have he : PyData.eqv (.list [.str ns.1, .str ns.2]) (.list [.str ns.1, .str ns.2]) = true := SeqAt.eqv_refl _ (SeqAt.canLay_of_shaped hsd)
      walk_at "rds"
      refine ⟨p, dx8, _, rfl, ho8, rfl, ?_⟩
      walk_at "rds"
      refine ⟨p, p, l, ns, false, _, kc, _, _, rfl, hl8, .int 0, fun h => (by cases h), fun _ h => (by cases h), fun i e _ _ hd => ?_⟩
      cases e
      walk_at "rds"
      refine ⟨p, dx8, _, rfl, ho8, rfl, ?_⟩
      walk_at "rds"
      refine ⟨p, p, l, ns, false, _, kc, _, _, rfl, hl8, .int 1, fun h => (by cases h), fun _ h => (by cases h), fun i e _ _ hd => ?_⟩
      cases e
      walk_at "rds"
      refine ⟨by show 2 ≤ sizeLine; omega, fun t9 n9 => ?_⟩
      have s9 := same_new n9 (.lst [.str ns.1, .str ns.2])
      walk_at "rds"
      refine ⟨.list [.str ns.1, .str ns.2], .list [.str ns.1, .str ns.2], .lst (.of upd_same) (.cons (.str _) (.cons (.str _) .nil)), .lst (.of (s9 _ _ h8t)) (.cons (.str _) (.cons (.str _) .nil)), hsd, hsd, ?_⟩
      rw [he]
      walk_at "rds"
      exact (hq _ s9).2
end
end Mus

set_option maxRecDepth 100000
set_option maxHeartbeats 4000000
namespace Mus
open PySem L2 TL PySem.NumText
local macro_rules | `(tactic| walk_at "rd") => `(tactic| first
  | refine ⟨_, rfl, ?_⟩ | refine ⟨(True.intro : True), ?_⟩
  | refine ⟨_, _, rfl, rfl, (⟨by decide, by decide, by decide⟩ : CPow _ _), ?_⟩
  | refine ⟨_, _, rfl, rfl, (⟨by decide, by decide⟩ : CDiv _ _), ?_⟩
  | refine ⟨_, _, rfl, rfl, (by show (0 : Int) < _; decide), ?_⟩
  | refine ⟨_, _, rfl, rfl, ?_⟩ | refine ⟨rfl, ?_⟩ | refine iteT ?_ | refine iteF ?_ | refine ⟨_, _, rfl, ?_⟩ | refine .inl ⟨_, rfl, ?_⟩
  | refine ⟨_, _, _, _, _, rfl, (by assumption), (by assumption), (by assumption), rfl, ?_⟩ | refine ⟨_, _, _, _, rfl, rfl, SqT.of (by assumption), rfl, ?_⟩ | refine ⟨_, _, rfl, SqT.of (by assumption), rfl, ?_⟩
  | refine ⟨_, _, _, _, _, rfl, .ty _, Rp.ty (by assumption), kit_int _, ?_⟩ | refine ⟨_, _, _, _, _, rfl, .ty _, Rp.ty (by assumption), kit_bool _, ?_⟩
  | refine ⟨_, _, _, _, _, rfl, .ty _, Rp.ty (by assumption), kit_str _, ?_⟩ | refine ⟨_, _, _, _, _, rfl, .ty _, Rp.ty (by assumption), kit_tup _, ?_⟩)
local macro_rules | `(tactic| walk_at "cal") => `(tactic| first
  | refine ⟨_, _, _, _, _, rfl, (by assumption), ?_⟩ | refine ⟨_, _, _, _, _, rfl, (by assumption), (by assumption), ?_⟩)
local macro_rules | `(tactic| walk_at "sq") => `(tactic| first
  | refine ⟨_, _, rfl, Or.inr (SqT.of (by assumption)), ?_⟩ | refine ⟨_, _, _, _, rfl, rfl, SqT.of (by assumption), rfl, ?_⟩)
local macro_rules | `(tactic| walk_at "rds") => `(tactic| repeat first | walk_at "rd" | walk_at "cal" | walk_at "sq")
theorem tl_torn (a b : Str) {k : Int} (h : 0 ≤ k) : tl (torn a b k) = (tl a).take k.toNat ++ (tl b).drop k.toNat := by
  unfold torn
  rw [tl_append]
  have e1 : tl (cutS a none (some k)) = (tl a).take k.toNat := by
    show (a.cps.toList.drop 0).take (HT.sIx a.length a.length (some k) - 0) = _
    rw [sIx_pos _ h, List.drop_zero, Nat.sub_zero, len_tl]
    show (tl a).take _ = _
    rcases Nat.le_total k.toNat (tl a).length with h | h
    · rw [Nat.min_eq_left h]
    · rw [Nat.min_eq_right h, List.take_length, List.take_of_length_le h]
  have e2 : tl (cutS b (some k) none) = (tl b).drop k.toNat := by
    show (b.cps.toList.drop (HT.sIx b.length 0 (some k))).take (b.length - HT.sIx b.length 0 (some k)) = _
    rw [sIx_pos _ h, len_tl]
    show ((tl b).drop _).take _ = _
    rcases Nat.le_total k.toNat (tl b).length with h | h
    · rw [Nat.min_eq_left h, List.take_of_length_le (by rw [List.length_drop]; omega)]
    · rw [Nat.min_eq_right h, List.drop_of_length_le h, List.drop_of_length_le (Nat.le_refl _), List.take_nil]
  rw [e1, e2]
def St (ts : Str × Str) (m : Nat) : Prop := St2 (tl ts.1) (tl ts.2) m
theorem St.next {ts : Str × Str} {m : Nat} (h : St ts m) : nextL ts = m + 1 := congrArg (· + 1) h.1
theorem St.fine {ts : Str × Str} {m : Nat} {z : Str} (hm : m + 1 ≤ 1000000000000) (h : St ts m) (hz : tl z = lifeT (nextL ts)) : St (setT ts (cellL ts) z) (m + 1) := by
  rw [h.next] at hz
  have := st_full hm h
  unfold St cellL setT
  by_cases hc : lifeF (tl ts.1) ≤ lifeF (tl ts.2)
  · rw [if_pos hc] at this
    rw [if_pos hc, if_pos rfl]
    show St2 (tl z) (tl ts.2) _
    rw [hz]; exact this
  · rw [if_neg hc] at this
    rw [if_neg hc, if_neg (by decide)]
    show St2 (tl ts.1) (tl z) _
    rw [hz]; exact this
theorem St.torn {ts : Str × Str} {m : Nat} {z : Str} {k : Int} (k0 : 0 ≤ k) (hm : m + 1 ≤ 1000000000000) (h : St ts m) (hz : tl z = lifeT (nextL ts)) : ∃ m', (m' = m ∨ m' = m + 1) ∧ St (setT ts (cellL ts) (torn z (getT ts (cellL ts)) k)) m' := by
  rw [h.next] at hz
  have := st_torn hm h k.toNat
  unfold St cellL setT getT
  by_cases hc : lifeF (tl ts.1) ≤ lifeF (tl ts.2)
  · rw [if_pos hc] at this
    rw [if_pos hc, if_pos rfl, if_pos rfl]
    obtain ⟨m', h1, h2⟩ := this
    refine ⟨m', h1, ?_⟩
    show St2 (tl (Mus.torn z ts.1 k)) (tl ts.2) _
    rw [tl_torn _ _ k0, hz]; exact h2
  · rw [if_neg hc] at this
    rw [if_neg hc, if_neg (by decide), if_neg (by decide)]
    obtain ⟨m', h1, h2⟩ := this
    refine ⟨m', h1, ?_⟩
    show St2 (tl ts.1) (tl (Mus.torn z ts.2 k)) _
    rw [tl_torn _ _ k0, hz]; exact h2
def Fit (z : Str) : Prop := z.length ≤ 27 ∧ Asc z
theorem fit_life {z : Str} {n : Nat} (hn : n ≤ 1000000000001) (h : tl z = lifeT n) : Fit z := by
  refine ⟨?_, asc_life h⟩
  have h13 : (numL n).length ≤ 13 := numL_len (k := 13) (by decide) (by omega)
  rw [len_tl, h, lifeT_len]; omega
theorem fit_full {z : Str} {n : Nat} (hn : n ≤ 1000000000001) (h : tl z = full n) : Fit z := by
  unfold full at h
  split at h
  · refine ⟨by rw [len_tl, h]; exact Nat.zero_le _, fun c hc => by rw [h] at hc; cases hc⟩
  · exact fit_life hn h
theorem fit_set {ts : Str × Str} {i : Int} {z : Str} (h1 : Fit ts.1) (h2 : Fit ts.2) (h : Fit z) : Fit (setT ts i z).1 ∧ Fit (setT ts i z).2 := by
  unfold setT
  split
  · exact ⟨h, h2⟩
  · exact ⟨h1, h⟩
theorem fit_torn {ts : Str × Str} {i : Int} {z : Str} {k : Int} (k0 : 0 ≤ k) (h1 : Fit ts.1) (h2 : Fit ts.2) (h : Fit z) : Fit (torn z (getT ts i) k) := by
  unfold getT
  split
  · exact ⟨torn_len _ _ k0 h.1 h1.1, asc_torn h.2 h1.2⟩
  · exact ⟨torn_len _ _ k0 h.1 h2.1, asc_torn h.2 h2.2⟩
theorem sq_keeps {K : PySem.W.Frag} {C : Addr} {H H' : Hp} {a p l : Addr} {ns : List Int} {ts : Str × Str} {dead : Bool} {pas : Option Int} {kc : Int} (h : SqL K H a (ns.map V.int)) (c : CAt C H p l ts dead pas kc) (k : Keeps p l H H') : SqL K H' a (ns.map V.int) := by
  obtain ⟨⟨dx, ho⟩, hl⟩ := c
  rcases h with (h | ⟨o, h⟩) | h
  · refine .inl (.inl (k _ _ h (ne_of h ho (by intro z; cases z)) (ne_of h hl fun z => ?_)))
    injection z with z
    cases ns with
    | nil => cases z
    | cons n ns => rw [List.map_cons] at z; injection z with z; cases z
  · exact .inl (.inr ⟨o, k _ _ h (ne_of h ho (by intro z; cases z)) (ne_of h hl (by intro z; cases z))⟩)
  · exact .inr h
def sp_law (K : PySem.W.Frag) : Sp := fun vs H Q _ => ∃ (a : Addr) (ns : List Int), vs = [.ref a] ∧ SqL K H a (ns.map V.int) ∧ ns.length ≤ 63 ∧ ∀ H', Q (.bl true) H'
structure Lw (K : PySem.W.Frag) (C a : Addr) (ns : List Int) (H : Hp) (p l : Addr) (ts : Str × Str) (pas : Option Int) (kc : Int) (m : Nat) (last calls keep : Int) (i : Nat) : Prop where
  hS : SqL K H a (ns.map V.int)
  hc : CAt C H p l ts false pas kc
  k0 : 0 ≤ kc
  kk : 0 ≤ keep
  f1 : Fit ts.1
  f2 : Fit ts.2
  st : St ts m
  le1 : last ≤ m
  le2 : (m : Int) ≤ last + calls
  le3 : m ≤ 100000000000 + i
def LeftOk (i : Nat) (pas : Option Int) (kc left keep : Int) : Prop := (pas = none ∧ 1000000000 - (i : Int) ≤ left) ∨ (pas = some left ∧ 0 ≤ left ∧ left ≤ 1 ∧ kc = keep)
def LeftMid (i : Nat) (pas : Option Int) (kc left keep : Int) : Prop := (pas = none ∧ (left = -1 ∨ 1000000000 - (i : Int) ≤ left)) ∨ (pas = some left ∧ left = 0 ∧ kc = keep)
section
variable {P : Program} {w : World} {K : PySem.W.Frag} {mg : Str → Option Value} {base : Heap} {C CC CE : Addr}
abbrev s_law : Stmt := top 21
abbrev N_law : List Str := ["script", "cells", "start", "last", "lives", "calls", "left", "keep", "k", "cell", "told"]
abbrev P_law : List Str := ["script"]
theorem sc_law : FnScope N_law P_law (defScope s_law) := ⟨rfl, rfl, rfl, by decide +kernel, rfl, by decide +kernel, by decide +kernel⟩
theorem ok_law {f : Addr} {fd : FuncData} (T : Tx K mg C CC CE) (k_Cells : MkOk P w K mg base C "Cells" P_Cells___init__ 1 (sp_init C)) (m_Cells_write : MethOk P w K mg base (L2.CX P w) C "write" P_Cells_write 3 (sp_write C CC CE)) (m_Cells_arm : MethOk P w K mg base CX0 C "arm" P_Cells_arm 1 (sp_arm C)) (m_Cells_crash : MethOk P w K mg base CX0 C "crash" P_Cells_crash 1 (sp_crash C))
    (c__law_cell : DefOk P w K mg base CX0 "_law_cell" P__law_cell 1 (sp_cell K)) (c__law_first : DefOk P w K mg base CX0 "_law_first" P__law_first 1 (sp_first)) (c__law_text : DefOk P w K mg base CX0 "_law_text" P__law_text 1 (sp_ltext)) (c__law_call : DefOk P w K mg base CX0 "_law_call" P__law_call 6 (sp_lcall C)) (c__law_copied : DefOk P w K mg base CX0 "_law_copied" P__law_copied 4 (sp_copied C)) (F : Fun K "law" "law" s_law f fd) : FnOk P w K mg base CX0 7 f fd P_law (sp_law K) := by
  have nd := sc_law.nd
  refine F.ok sc_law (fun vs H Q E h => ?_) (fun cdv A outer s H vs Q E hr h => ?_)
  · obtain ⟨_, _, rfl, _⟩ := h
    rfl
  · obtain ⟨a, ns, rfl, hS, h63, q⟩ := h
    have hu := hu_of hr
    have hs := sl
    refine ⟨_, (pss_cons (ps_set (i := 1) nd rfl (Or.inl rfl) (pmake0 k_Cells hr))
      (pss_cons (ps_set (i := 2) nd rfl (Or.inl rfl) (pcall c__law_cell hr (pa_cons (pv 0) (pa_cons pe_int pa_nil))))
      (pss_cons (ps_set (i := 3) nd rfl (Or.inl rfl) pe_int)
      (C8.pss_cut (ps_if (pt_cmpR op_gt (pe_op op_mod (pv 2) pe_int) pe_int (nomark _))
        (pss_cons (ps_set (i := 4) nd rfl (Or.inl rfl) (pcall c__law_first hr (pa_cons (pv 2) pa_nil)))
        (pss_cons (ps_expr (pmethE m_Cells_write T.cl_Cells takes0 (fun _ _ _ _ h => h) (pv 1) hr (pa_cons pe_int (pa_cons (pcall c__law_text hr (pa_cons (pe_ix ix_list (pv 4) pe_int (fun _ _ => rfl)) pa_nil)) pa_nil))))
        (pss_cons (ps_expr (pmethE m_Cells_write T.cl_Cells takes0 (fun _ _ _ _ h => h) (pv 1) hr (pa_cons pe_int (pa_cons (pcall c__law_text hr (pa_cons (pe_ix ix_list (pv 4) pe_int (fun _ _ => rfl)) pa_nil)) pa_nil))))
        (pss_one (ps_set (i := 3) nd rfl (Or.inl rfl) (pe_callB (cr_max rfl) (by rfl) T.b_max (by decide +kernel) (pa_cons (pv 4) pa_nil)))))))
        pss_nil)
      (pss_cons (ps_set (i := 5) nd rfl (Or.inl rfl) pe_int)
      (pss_cons (ps_set (i := 6) nd rfl (Or.inl rfl) (pe_op op_pow pe_int pe_int))
      (pss_cons (ps_set (i := 7) nd rfl (Or.inl rfl) pe_int)
      (pss_cons (ps_for PassesOwn.never rfl (pi_range2 (by rfl) T.b_range (pa_cons pe_int (pa_cons (pe_callB call_len_seq (by rfl) T.b_len (by decide +kernel) (pa_cons (pv 0) pa_nil)) pa_nil))) (pg_name (i := 8) nd rfl (Or.inl rfl))
        (pss_cons (ps_set (i := 9) nd rfl (Or.inl rfl) (pcall c__law_cell hr (pa_cons (pv 0) (pa_cons (pv 8) pa_nil))))
        (C8.pss_cut (ps_if (pt_cmpR op_gt (pe_op op_mod (pv 9) pe_int) pe_int (nomark _))
          (pss_cons (ps_set (i := 6) nd rfl (Or.inl rfl) (pe_op op_mod (pe_op op_fdiv (pv 9) pe_int) pe_int))
          (pss_cons (ps_set (i := 7) nd rfl (Or.inl rfl) (pe_op op_mod (pe_op op_fdiv (pv 9) pe_int) pe_int))
          (pss_one (ps_expr (pmeth m_Cells_arm T.cl_Cells (pv 1) hr (pa_cons (pv 6) (pa_cons (pv 7) pa_nil)))))))
          pss_nil)
        (pss_cons (ps_set (i := 10) nd rfl (Or.inl rfl) (pcall c__law_call hr (pa_cons (pv 1) (pa_cons (pv 6) (pa_cons (pv 7) pa_nil)))))
        (pss_cons (ps_if (pt_cmpR op_isN (pv 10) pe_non (nomark _))
          (pss_one (ps_ret pe_bl))
          pss_nil)
        (pss_cons (ps_set (i := 5) nd rfl (Or.inl rfl) (pe_op op_add (pv 5) pe_int))
        (pss_cons (ps_set (i := 6) nd rfl (Or.inl rfl) (pe_op op_sub (pv 6) pe_int))
        (C8.pss_cut (ps_if (pt_cmpR op_gt (pe_callB call_len_seq (by rfl) T.b_len (by decide +kernel) (pa_cons (pv 10) pa_nil)) pe_int (nomark _))
          (pss_cons (ps_if (PW.pt (pw_or (pt_cmpR op_le (pe_ix ix_list (pv 10) pe_int (fun _ _ => rfl)) (pv 3) (nomark _)) (pw_or1 (pt_cmpR op_gt (pe_ix ix_list (pv 10) pe_int (fun _ _ => rfl)) (pe_op op_add (pv 3) (pv 5)) (nomark _)))))
            (pss_one (ps_ret pe_bl))
            pss_nil)
          (pss_cons (ps_set (i := 3) nd rfl (Or.inl rfl) (pe_ix ix_list (pv 10) pe_int (fun _ _ => rfl)))
          (pss_one (ps_set (i := 5) nd rfl (Or.inl rfl) pe_int))))
          pss_nil)
        (C8.pss_cut (ps_if (pt_cmpR op_lt (pv 6) pe_int (nomark _))
          (pss_one (ps_set (i := 6) nd rfl (Or.inl rfl) (pe_op op_pow pe_int pe_int)))
          (pss_one (ps_if (pt_cmpR op_eq (pe_op op_mod (pe_op op_fdiv (pv 9) pe_int) pe_int) pe_int (nomark _))
            (pss_cons (ps_expr (pmeth0 m_Cells_crash T.cl_Cells (pv 1) hr))
            (pss_one (ps_set (i := 6) nd rfl (Or.inl rfl) (pe_op op_pow pe_int pe_int))))
            pss_nil)))
        (pss_one (ps_if (PW.pt (pw_and (pt_cmpR op_eq (pe_op op_mod (pe_op op_fdiv (pv 9) pe_int) pe_int) pe_int (nomark _)) (pw_and1 (pt_cmpR op_gt (pv 6) (pe_op op_pow pe_int pe_int) (nomark _)))))
          (pss_one (ps_set (i := 1) nd rfl (Or.inl rfl) (pcall c__law_copied hr (pa_cons (pv 1) pa_nil))))
          pss_nil)))))))))))
      (pss_one (ps_ret pe_bl)))))))))), ?_⟩
    have hl : (ns.map V.int).length = ns.length := List.length_map _
    intro x dy nx ny nyx
    have upp : ∀ b, b ≠ x → b ≠ dy → (upd (upd H dy (.own x)) x (.ins C dy [])) b = H b := fun b h1 h2 => by unfold upd; rw [if_neg h1, if_neg h2]
    refine ⟨x, dy, rfl, upd_same, fun l H1 nl hc1 kk => ⟨rfl, ?_⟩⟩
    have s1 : Same H H1 := fun b o h => kk b o (by rw [upp b (ne_of_none h nx) (ne_of_none h ny)]; exact h) (ne_of_none h nx)
    have hS1 := s1.seq hS
    walk_at "rds"
    refine ⟨a, ns, 0, rfl, by decide, hS1, fun start => ?_⟩
    walk_at "rds"
    refine ⟨fun σ' H' => ∃ (x4 : Option V) (ts : Str × Str) (m : Nat) (last : Int), σ' = [some (.ref a), some (.ref x), some (.int start), some (.int last), x4, none, none, none, none, none, none] ∧ Lw K C a ns H' x l ts none 0 m last 0 0 0, ?_, ?_⟩
    · walk_at "rds"
      refine iB (fun h => ?_) (fun h => ?_)
      · walk_at "rds"
        intro t H2 u v s2 ht u0 u1 v0 v1 uv
        have hc2 := hc1.same s2
        have hS2 := s2.seq hS1
        obtain ⟨⟨dx2, ho2⟩, hl2⟩ := id hc2
        walk_at "rds"
        refine ⟨x, dx2, _, rfl, ho2, rfl, ?_⟩
        walk_at "rds"
        refine ⟨t, _, _, _, rfl, rfl, .of ht, rfl, ?_⟩
        walk_at "rds"
        refine ⟨u0, by omega, fun y1 hy1 => ?_⟩
        have g1 := fit_full (by omega) hy1
        have e0 : (Str.ofString "").length ≤ 1000 := by decide
        refine ⟨a, x, l, _, false, none, 0, _, _, _, _, rfl, hc2, .int 0, .str y1, Int.le_refl 0, e0, e0, fun z' e => (by cases e; exact Nat.le_trans g1.1 (by decide)), fun h => (by cases h), fun _ h => (by cases h), fun i z' e1 e2 _ _ _ => ?_⟩
        cases e1
        cases e2
        refine ⟨fun hp => (by cases hp), fun _ H3 hc3 k3 => ?_⟩
        have hc3 : CAt C H3 x l (y1, Str.ofString "") false none 0 := hc3
        have hS3 := sq_keeps hS2 hc2 k3
        have ht3 := k3 _ _ ht (ne_of ht ho2 (by intro z; cases z)) (ne_of ht hl2 (by intro z; injection z with z; injection z with z; cases z))
        obtain ⟨⟨dx3, ho3⟩, hl3⟩ := id hc3
        walk_at "rds"
        refine ⟨x, dx3, _, rfl, ho3, rfl, ?_⟩
        walk_at "rds"
        refine ⟨t, _, _, _, rfl, rfl, .of ht3, rfl, ?_⟩
        walk_at "rds"
        refine ⟨v0, by omega, fun y2 hy2 => ?_⟩
        have g2 := fit_full (by omega) hy2
        refine ⟨a, x, l, _, false, none, 0, _, _, _, _, rfl, hc3, .int 1, .str y2, Int.le_refl 0, Nat.le_trans g1.1 (by decide), e0, fun z' e => (by cases e; exact Nat.le_trans g2.1 (by decide)), fun h => (by cases h), fun _ h => (by cases h), fun i z' e1 e2 _ _ _ => ?_⟩
        cases e1
        cases e2
        refine ⟨fun hp => (by cases hp), fun _ H4 hc4 k4 => ?_⟩
        have hc4 : CAt C H4 x l (y1, y2) false none 0 := hc4
        have hS4 := sq_keeps hS3 hc3 k4
        have ht4 := k4 _ _ ht3 (ne_of ht3 ho3 (by intro z; cases z)) (ne_of ht3 hl3 (by intro z; injection z with z; injection z with z; cases z))
        walk_at "rds"
        refine ⟨t, [u, v], rfl, .of ht4, by simp, fun mx hm1 hm2 => ?_⟩
        have em : mx = ((max u.toNat v.toNat : Nat) : Int) := by
          have h1 := hm2 u (by simp)
          have h2 := hm2 v (by simp)
          rcases List.mem_cons.mp hm1 with e | e
          · omega
          · rcases List.mem_cons.mp e with e | e
            · omega
            · cases e
        subst em
        refine ⟨_, (y1, y2), max u.toNat v.toNat, _, rfl, hS4, hc4, Int.le_refl 0, Int.le_refl 0, g1, g2, ?_, by omega, by omega, by omega⟩
        show St2 (tl y1) (tl y2) _
        rw [hy1, hy2]
        exact st_start (by omega) (by omega) (by omega)
      · have e0 : tl (Str.ofString "") = full 0 := by decide
        refine ⟨_, (Str.ofString "", Str.ofString ""), 0, _, rfl, hS1, hc1, Int.le_refl 0, Int.le_refl 0, fit_full (by decide) e0, fit_full (by decide) e0, ?_, by omega, by omega, by omega⟩
        show St2 (tl (Str.ofString "")) (tl (Str.ofString "")) _
        rw [e0]
        exact st_start (by omega) (by omega) (.inr (.inr ⟨rfl, rfl⟩))
    · rintro σ' H2 ⟨x4, ts, m, last, rfl, L⟩
      walk_at "rds"
      refine ⟨a, _, rfl, .inl L.hS, ?_⟩
      refine ⟨_, _, rfl, ⟨by decide, by decide, by omega, by omega⟩, ?_⟩
      refine for_range (lo := 1) (n := (((ns.map V.int).length : Int) - 1).toNat) (fun i σ H' => ∃ (x l : Addr) (ts : Str × Str) (pas : Option Int) (kc : Int) (m : Nat) (last calls left keep : Int) (x4 x8 x9 x10 : Option V), σ = [some (.ref a), some (.ref x), some (.int start), some (.int last), x4, some (.int calls), some (.int left), some (.int keep), x8, x9, x10] ∧ Lw K C a ns H' x l ts pas kc m last calls keep i ∧ LeftOk i pas kc left keep) ?_ ?_ ?_
      · exact ⟨x, l, ts, none, 0, m, last, 0, 1000000000, 0, _, _, _, _, rfl, L, .inl ⟨rfl, by omega⟩⟩
      · clear L ts m last x4 hS1 s1 kk hc1 nl upp nyx ny nx
        rintro i σ H3 hi ⟨x, l, ts, pas, kc, m, last, calls, left, keep, x4, x8, x9, x10, rfl, L, lo⟩
        have hi63 : i < 63 := by omega
        walk_at "rds"
        refine ⟨a, ns, 1 + (i : Int), rfl, by omega, L.hS, fun cell => ?_⟩
        walk_at "rds"
        refine ⟨fun σ' H' => ∃ (pas : Option Int) (kc left keep : Int), σ' = [some (.ref a), some (.ref x), some (.int start), some (.int last), x4, some (.int calls), some (.int left), some (.int keep), some (.int (1 + (i : Int))), some (.int cell), x10] ∧ Lw K C a ns H' x l ts pas kc m last calls keep i ∧ LeftOk i pas kc left keep, ?_, ?_⟩
        · obtain ⟨⟨dx3, ho3⟩, hl3⟩ := id L.hc
          walk_at "rds"
          refine iB (fun h => ?_) (fun h => ?_)
          · walk_at "rds"
            refine ⟨x, dx3, _, rfl, ho3, rfl, ?_⟩
            walk_at "rds"
            refine ⟨x, l, ts, false, pas, kc, _, _, rfl, L.hc, fun H4 hc4 k4 => ?_⟩
            walk_at "rds"
            exact ⟨_, _, _, _, rfl, ⟨sq_keeps L.hS L.hc k4, hc4, by omega, by omega, L.f1, L.f2, L.st, L.le1, L.le2, L.le3⟩, .inr ⟨rfl, by omega, by omega, rfl⟩⟩
          · exact ⟨pas, kc, left, keep, rfl, L, lo⟩
        · clear L lo pas kc left keep
          rintro σ' H4 ⟨pas, kc, left, keep, rfl, L, lo⟩
          walk_at "rds"
          have hlp : left = 0 ↔ pas = some 0 := by
            rcases lo with ⟨rfl, h⟩ | ⟨rfl, _⟩
            · exact ⟨fun e => (by omega), fun e => (by cases e)⟩
            · exact ⟨fun e => (by rw [e]), fun e => Option.some.inj e⟩
          have hkk : left = 0 → kc = keep := fun e => by
            rcases lo with ⟨rfl, h⟩ | ⟨rfl, _, _, h⟩
            · omega
            · exact h
          have m12 : m + 1 ≤ 1000000000000 := by have := L.le3; omega
          refine ⟨x, l, ts, pas, kc, left, keep, rfl, L.hc, hlp, hkk, L.k0, Nat.le_trans L.f1.1 (by decide), Nat.le_trans L.f2.1 (by decide), L.f1.2, L.f2.2, fun hl0 H5 t z hz hc5 k5 ht => ?torn, fun hl0 H5 t z hz hc5 k5 ht => ?fine⟩
          case' torn =>
            obtain ⟨m', hm', st'⟩ := L.st.torn L.kk m12 hz
            have fz := fit_life (by rw [L.st.next]; omega) hz
            have ff := fit_set (i := cellL ts) L.f1 L.f2 (fit_torn (i := cellL ts) L.kk L.f1 L.f2 fz)
            have L5 : Lw K C a ns H5 x l (setT ts (cellL ts) (torn z (getT ts (cellL ts)) keep)) none kc m' last (calls + 1) keep (i + 1) := ⟨sq_keeps L.hS L.hc k5, hc5, L.k0, L.kk, ff.1, ff.2, st', by have := L.le1; omega, by have := L.le2; omega, by have := L.le3; omega⟩
            generalize setT ts (cellL ts) (torn z (getT ts (cellL ts)) keep) = ts5 at *
            walk_at "rds"
            refine ⟨fun σ' H' => ∃ (ts : Str × Str) (pas : Option Int) (m : Nat) (last calls left : Int), σ' = [some (.ref a), some (.ref x), some (.int start), some (.int last), x4, some (.int calls), some (.int left), some (.int keep), some (.int (1 + (i : Int))), some (.int cell), some (.ref t)] ∧ Lw K C a ns H' x l ts pas kc m last calls keep (i + 1) ∧ LeftMid (i + 1) pas kc left keep, ?_, ?rest⟩
            · walk_at "rds"
              refine ⟨t, _, rfl, .inl (.of ht), ?_⟩
              walk_at "rds"
              exact ⟨_, _, _, _, _, _, rfl, L5, .inl ⟨rfl, .inl (by omega)⟩⟩
          case' fine =>
            have st' := L.st.fine m12 hz
            have fz := fit_life (by rw [L.st.next]; omega) hz
            have ff := fit_set (i := cellL ts) L.f1 L.f2 fz
            have en := L.st.next
            have L5 : Lw K C a ns H5 x l (setT ts (cellL ts) z) (pas.map (· - 1)) kc (m + 1) (nextL ts : Nat) 0 keep (i + 1) := ⟨sq_keeps L.hS L.hc k5, hc5, L.k0, L.kk, ff.1, ff.2, st', by omega, by omega, by have := L.le3; omega⟩
            have lm : LeftMid (i + 1) (pas.map (· - 1)) kc (left - 1) keep := by
              rcases lo with ⟨rfl, h⟩ | ⟨rfl, h1, h2, h3⟩
              · exact .inl ⟨rfl, .inr (by omega)⟩
              · exact .inr ⟨rfl, by omega, h3⟩
            generalize setT ts (cellL ts) z = ts5 at *
            generalize pas.map (· - 1) = pas5 at *
            walk_at "rds"
            refine ⟨fun σ' H' => ∃ (ts : Str × Str) (pas : Option Int) (m : Nat) (last calls left : Int), σ' = [some (.ref a), some (.ref x), some (.int start), some (.int last), x4, some (.int calls), some (.int left), some (.int keep), some (.int (1 + (i : Int))), some (.int cell), some (.ref t)] ∧ Lw K C a ns H' x l ts pas kc m last calls keep (i + 1) ∧ LeftMid (i + 1) pas kc left keep, ?_, ?rest⟩
            · have le1 := L.le1
              have le2 := L.le2
              walk_at "rds"
              refine ⟨t, _, rfl, .inl (.of ht), ?_⟩
              walk_at "rds"
              refine ⟨t, _, _, _, rfl, rfl, .of ht, rfl, ?_⟩
              walk_at "rds"
              refine iB (fun h => absurd (of_decide_eq_true h) (by omega)) (fun _ => ?_)
              walk_at "rds"
              refine ⟨t, _, _, _, rfl, rfl, .of ht, rfl, ?_⟩
              walk_at "rds"
              refine iB (fun h => absurd (of_decide_eq_true h) (by omega)) (fun _ => ?_)
              walk_at "rds"
              refine ⟨t, _, _, _, rfl, rfl, .of ht, rfl, ?_⟩
              walk_at "rds"
              exact ⟨_, _, _, _, _, _, rfl, L5, lm⟩
          all_goals
            clear L hlp hkk m12 hz k5 ht lo hl0 hc5 L5
            have e9 : (10 : Int) ^ Int.toNat 9 = 1000000000 := by decide
            have e8 : (10 : Int) ^ Int.toNat 8 = 100000000 := by decide
            rintro σ' H6 ⟨ts, pas, m, last, calls, left, rfl, L, lo⟩
            refine ⟨fun σ' H' => ∃ (pas : Option Int) (left : Int), σ' = [some (.ref a), some (.ref x), some (.int start), some (.int last), x4, some (.int calls), some (.int left), some (.int keep), some (.int (1 + (i : Int))), some (.int cell), some (.ref t)] ∧ Lw K C a ns H' x l ts pas kc m last calls keep (i + 1) ∧ LeftOk (i + 1) pas kc left keep, ?_, ?_⟩
            · obtain ⟨⟨dx6, ho6⟩, hl6⟩ := id L.hc
              walk_at "rds"
              refine iB (fun h => ?_) (fun h => ?_)
              · have h := of_decide_eq_true h
                walk_at "rds"
                refine ⟨pas, _, rfl, L, .inl ⟨?_, by omega⟩⟩
                rcases lo with ⟨e, _⟩ | ⟨_, e, _⟩
                · exact e
                · omega
              · have h := of_decide_eq_false h
                walk_at "rds"
                refine iB (fun h2 => ?_) (fun h2 => ?_)
                · walk_at "rds"
                  refine ⟨x, dx6, _, rfl, ho6, rfl, ?_⟩
                  walk_at "rds"
                  refine ⟨x, l, ts, false, pas, kc, rfl, L.hc, fun H7 hc7 k7 => ?_⟩
                  walk_at "rds"
                  exact ⟨none, _, rfl, ⟨sq_keeps L.hS L.hc k7, hc7, L.k0, L.kk, L.f1, L.f2, L.st, L.le1, L.le2, L.le3⟩, .inl ⟨rfl, by omega⟩⟩
                · refine ⟨pas, left, rfl, L, ?_⟩
                  rcases lo with ⟨e, h3⟩ | ⟨e, h3, h4⟩
                  · exact .inl ⟨e, by omega⟩
                  · exact .inr ⟨e, by omega, by omega, h4⟩
            · clear L lo pas left
              rintro σ' H7 ⟨pas, left, rfl, L, lo⟩
              walk_at "rds"
              refine iB (fun h => ?_) (fun h => ?_)
              · walk_at "rds"
                refine iB (fun h2 => ?_) (fun h2 => ?_)
                · have h2 := of_decide_eq_true h2
                  walk_at "rds"
                  refine ⟨x, l, ts, pas, kc, rfl, L.hc, Nat.le_trans L.f1.1 (by decide), Nat.le_trans L.f2.1 (by decide), fun H8 p' l' hc8 s8 => ?_⟩
                  refine ⟨p', l', ts, none, 0, m, last, calls, left, keep, _, _, _, _, rfl, ⟨s8.seq L.hS, hc8, Int.le_refl 0, L.kk, L.f1, L.f2, L.st, L.le1, L.le2, L.le3⟩, ?_⟩
                  rcases lo with ⟨e, h3⟩ | ⟨e, h3, h4, _⟩
                  · exact .inl ⟨rfl, h3⟩
                  · omega
                · exact ⟨x, l, ts, pas, kc, m, last, calls, left, keep, _, _, _, _, rfl, L, lo⟩
              · exact ⟨x, l, ts, pas, kc, m, last, calls, left, keep, _, _, _, _, rfl, L, lo⟩
      · rintro σ H3 ⟨x, l, ts, pas, kc, m, last, calls, left, keep, x4, x8, x9, x10, rfl, L, lo⟩
        walk_at "rds"
        exact q _
end
end Mus

set_option maxRecDepth 100000
set_option maxHeartbeats 4000000
namespace Mus
open PySem L2
def at_mk {K : PySem.W.Frag} {h : Heap} {mg : Str → Option Value} {x : Str} {ps : List Str} {st : Stmt} {f : Addr} {oc : Value} {od an : Option Addr} {osl : Array (Option Value)} {kV dc pm cd ct : Value} (X : K.In h) (G : h.Ns mainGlobals mg) (a : PySem.W.nsIn K mainGlobals x = some (some (.ref f)))
    (l : K.lookup f = some ⟨oc, od, .func (PySem.W.fnOf x x (defArgs st) (defBody st) (defScope st) .none kV dc pm an cd ct), osl⟩) (c : PySem.W.codeIn K cd x = true) (k : PySem.W.keepIn K (.ref f) = true)
    (hb : ∀ (kV doc pm : Value) (an : Option Addr) (cdv ct : Value) (us : List Value), us.length = ps.length → bindArgs (PySem.W.fnOf x x (defArgs st) (defBody st) (defScope st) .none kV doc pm an cdv ct) ⟨us, []⟩ = pure (ps.zip us)) : DefAt K mg x ps st :=
  ⟨f, _, fun_mk (st := st) l c k, PySem.W.mg_of X G a, (fun_mk (st := st) l c k).binds hb⟩
def meth_mk {K : PySem.W.Frag} {C : Addr} {x qual : Str} {ps : List Str} {st : Stmt} {f : Addr} {oc : Value} {od an : Option Addr} {osl : Array (Option Value)} {kV dc pm cd ct : Value} (a : PySem.W.findIn K (.ref C) x = some (some (.ref f))) (i : PySem.W.isFn K (.ref f) = true)
    (l : K.lookup f = some ⟨oc, od, .func (PySem.W.fnOf x qual (defArgs st) (defBody st) (defScope st) .none kV dc pm an cd ct), osl⟩) (c : PySem.W.codeIn K cd qual = true) (k : PySem.W.keepIn K (.ref f) = true)
    (hb : ∀ (kV doc pm : Value) (an : Option Addr) (cdv ct : Value) (us : List Value), us.length = ps.length → bindArgs (PySem.W.fnOf x qual (defArgs st) (defBody st) (defScope st) .none kV doc pm an cdv ct) ⟨us, []⟩ = pure (ps.zip us)) : MethAt K C x qual ps st :=
  ⟨f, _, fun_mk (st := st) l c k, ⟨a, i, k⟩, (fun_mk (st := st) l c k).binds hb⟩
theorem walk_ofX {l : PySem.W.OpenLaw} {n k : Nat} {q : Program} {loose : List Str} {XP : (Str → Option Value) → Heap → Prop} {YP : World → Heap → Prop} {d : DefRec} {K : Params → PySem.W.Frag} {sp : World → Sp} {x : Str}
    (most : l.most = some n) (few : n ≤ sizeLine) (nod : d.params.defaults = []) (room : Room k callerA) (kin : ∀ (w : World) (h : Heap), YP w h → (K w.params).In h)
    (F : ∀ (w : World) (mg : Str → Option Value) (at1 : Addr) (h : Heap), (K w.params).In h → h.Ns mainGlobals mg → XP mg h → mg d.name = some (.ref at1) →
      ∃ fd : FuncData, (∀ (s : Shared) (u : Value), BindsTo s fd ⟨[u], []⟩ [(x, u)]) ∧ ∀ base : Heap, (K w.params).In base → base.Ns mainGlobals mg → FnOk l.prog w (K w.params) mg base CX0 k at1 fd [x] (sp w))
    (hsp : ∀ (w : World) (H : Hp) (a : Addr) (ns : List Int), ns.length ≤ n → Only H → SqL (K w.params) H a (ns.map V.int) → sp w [.ref a] H (fun v _ => v = .bl true) fun _ _ _ => False) :
    PySem.W.WalkO q loose XP YP l.row.toRowW d [] (fun f vs => PySem.call f vs) := by
  refine Att.attach_call most nod fun w sb sc mg mB at1 o pm1 cd1 doc1 a vs ns G Y ho1 hd1 hc1 hm1 ob1 in1 ln1 hg1 => ?_
  have inK := kin w _ Y
  obtain ⟨fd, bnd, pr⟩ := F w mg at1 _ inK G.T.g G.X hm1
  exact law_call inK G.T.g G.T.b G.T.builtins G.T.nolimit hg1 ob1 in1 (Nat.le_trans ln1 few) room pr bnd (fun H hO hS => hsp w H a ns ln1 hO hS) fun H e s' z => z
theorem loose_int {n : Str} {i : Int} {mg : Str → Option Value} {h : Heap} (x : PySem.W.LooseAre [(n, PySem.W.WData.int i)] mg h) : ∃ t, mg n = some (.int i t) := by
  obtain ⟨v, h1, h2⟩ := x.val _ (List.mem_singleton.mpr rfl)
  cases h2
  exact ⟨_, h1⟩
theorem all_mk {l : PySem.W.OpenLaw} {w : World} {K : PySem.W.Frag} {h : Heap} {mg : Str → Option Value} {fa : Addr} (X : K.In h) (G : h.Ns mainGlobals mg) (hfa : mg "law" = some (.ref fa)) (hL0 : ∃ t, mg "MOST_NUMBER" = some (.int 1000000000000 t))
    {C_Cells : Addr}
    {C_DiskCrashed : Addr}
    {C_DiskError : Addr}
    {odx_Cells___init__ anx_Cells___init__ : Option Addr} {slx_Cells___init__ : Array (Option Value)} {ocx_Cells___init__ kVx_Cells___init__ dcx_Cells___init__ pmx_Cells___init__ cdx_Cells___init__ ctx_Cells___init__ : Value} {fx_Cells___init__ : Addr}
    {odx_Cells_read anx_Cells_read : Option Addr} {slx_Cells_read : Array (Option Value)} {ocx_Cells_read kVx_Cells_read dcx_Cells_read pmx_Cells_read cdx_Cells_read ctx_Cells_read : Value} {fx_Cells_read : Addr}
    {odx_Cells_write anx_Cells_write : Option Addr} {slx_Cells_write : Array (Option Value)} {ocx_Cells_write kVx_Cells_write dcx_Cells_write pmx_Cells_write cdx_Cells_write ctx_Cells_write : Value} {fx_Cells_write : Addr}
    {odx_Cells_arm anx_Cells_arm : Option Addr} {slx_Cells_arm : Array (Option Value)} {ocx_Cells_arm kVx_Cells_arm dcx_Cells_arm pmx_Cells_arm cdx_Cells_arm ctx_Cells_arm : Value} {fx_Cells_arm : Addr}
    {odx_Cells_crash anx_Cells_crash : Option Addr} {slx_Cells_crash : Array (Option Value)} {ocx_Cells_crash kVx_Cells_crash dcx_Cells_crash pmx_Cells_crash cdx_Cells_crash ctx_Cells_crash : Value} {fx_Cells_crash : Addr}
    {odx_Cells__check anx_Cells__check : Option Addr} {slx_Cells__check : Array (Option Value)} {ocx_Cells__check kVx_Cells__check dcx_Cells__check pmx_Cells__check cdx_Cells__check ctx_Cells__check : Value} {fx_Cells__check : Addr}
    {odx_life_text anx_life_text : Option Addr} {slx_life_text : Array (Option Value)} {ocx_life_text kVx_life_text dcx_life_text pmx_life_text cdx_life_text ctx_life_text : Value} {fx_life_text : Addr}
    {odx_life_of anx_life_of : Option Addr} {slx_life_of : Array (Option Value)} {ocx_life_of kVx_life_of dcx_life_of pmx_life_of cdx_life_of ctx_life_of : Value} {fx_life_of : Addr}
    {odx__are_digits anx__are_digits : Option Addr} {slx__are_digits : Array (Option Value)} {ocx__are_digits kVx__are_digits dcx__are_digits pmx__are_digits cdx__are_digits ctx__are_digits : Value} {fx__are_digits : Addr}
    {odx_next_life anx_next_life : Option Addr} {slx_next_life : Array (Option Value)} {ocx_next_life kVx_next_life dcx_next_life pmx_next_life cdx_next_life ctx_next_life : Value} {fx_next_life : Addr}
    {odx_is_integer anx_is_integer : Option Addr} {slx_is_integer : Array (Option Value)} {ocx_is_integer kVx_is_integer dcx_is_integer pmx_is_integer cdx_is_integer ctx_is_integer : Value} {fx_is_integer : Addr}
    {odx__law_cell anx__law_cell : Option Addr} {slx__law_cell : Array (Option Value)} {ocx__law_cell kVx__law_cell dcx__law_cell pmx__law_cell cdx__law_cell ctx__law_cell : Value} {fx__law_cell : Addr}
    {odx__law_counted anx__law_counted : Option Addr} {slx__law_counted : Array (Option Value)} {ocx__law_counted kVx__law_counted dcx__law_counted pmx__law_counted cdx__law_counted ctx__law_counted : Value} {fx__law_counted : Addr}
    {odx__law_text anx__law_text : Option Addr} {slx__law_text : Array (Option Value)} {ocx__law_text kVx__law_text dcx__law_text pmx__law_text cdx__law_text ctx__law_text : Value} {fx__law_text : Addr}
    {odx__law_first anx__law_first : Option Addr} {slx__law_first : Array (Option Value)} {ocx__law_first kVx__law_first dcx__law_first pmx__law_first cdx__law_first ctx__law_first : Value} {fx__law_first : Addr}
    {odx__law_copied anx__law_copied : Option Addr} {slx__law_copied : Array (Option Value)} {ocx__law_copied kVx__law_copied dcx__law_copied pmx__law_copied cdx__law_copied ctx__law_copied : Value} {fx__law_copied : Addr}
    {odx__law_call anx__law_call : Option Addr} {slx__law_call : Array (Option Value)} {ocx__law_call kVx__law_call dcx__law_call pmx__law_call cdx__law_call ctx__law_call : Value} {fx__law_call : Addr}
    {odx_law anx_law : Option Addr} {slx_law : Array (Option Value)} {ocx_law kVx_law dcx_law pmx_law cdx_law ctx_law : Value} {fx_law : Addr}
    (aC_Cells : PySem.W.nsIn K mainGlobals "Cells" = some (some (.ref C_Cells)))
    (aC_DiskCrashed : PySem.W.nsIn K mainGlobals "DiskCrashed" = some (some (.ref C_DiskCrashed)))
    (aC_DiskError : PySem.W.nsIn K mainGlobals "DiskError" = some (some (.ref C_DiskError)))
    (pg_Cells : PySem.W.plainGet K C_Cells Str.empty = true)
    (hd_Cells : PySem.W.hasDictIn K C_Cells = true)
    (po_Cells : PySem.W.plainOver K C_Cells = true)
    (sa_Cells : PySem.W.findIn K (.ref C_Cells) "__setattr__" = some (some (.builtin "object.__setattr__")))
    (mk_Cells : PySem.W.makesIn K C_Cells = true)
    (kc_Cells : PySem.W.keepIn K (.ref C_Cells) = true)
    (n_Cells__texts : PySem.W.findIn K (.ref C_Cells) "_texts" = some none)
    (n_Cells__has_crashed : PySem.W.findIn K (.ref C_Cells) "_has_crashed" = some none)
    (n_Cells__passing : PySem.W.findIn K (.ref C_Cells) "_passing" = some none)
    (n_Cells__keep : PySem.W.findIn K (.ref C_Cells) "_keep" = some none)
    (ax_Cells___init__ : PySem.W.findIn K (.ref C_Cells) "__init__" = some (some (.ref fx_Cells___init__)))
    (ix_Cells___init__ : PySem.W.isFn K (.ref fx_Cells___init__) = true)
    (lx_Cells___init__ : K.lookup fx_Cells___init__ = some ⟨ocx_Cells___init__, odx_Cells___init__, .func (PySem.W.fnOf "__init__" "Cells.__init__" (defArgs s_Cells___init__) (defBody s_Cells___init__) (defScope s_Cells___init__) .none kVx_Cells___init__ dcx_Cells___init__ pmx_Cells___init__ anx_Cells___init__ cdx_Cells___init__ ctx_Cells___init__), slx_Cells___init__⟩)
    (cx_Cells___init__ : PySem.W.codeIn K cdx_Cells___init__ "Cells.__init__" = true)
    (kx_Cells___init__ : PySem.W.keepIn K (.ref fx_Cells___init__) = true)
    (ax_Cells_read : PySem.W.findIn K (.ref C_Cells) "read" = some (some (.ref fx_Cells_read)))
    (ix_Cells_read : PySem.W.isFn K (.ref fx_Cells_read) = true)
    (lx_Cells_read : K.lookup fx_Cells_read = some ⟨ocx_Cells_read, odx_Cells_read, .func (PySem.W.fnOf "read" "Cells.read" (defArgs s_Cells_read) (defBody s_Cells_read) (defScope s_Cells_read) .none kVx_Cells_read dcx_Cells_read pmx_Cells_read anx_Cells_read cdx_Cells_read ctx_Cells_read), slx_Cells_read⟩)
    (cx_Cells_read : PySem.W.codeIn K cdx_Cells_read "Cells.read" = true)
    (kx_Cells_read : PySem.W.keepIn K (.ref fx_Cells_read) = true)
    (ax_Cells_write : PySem.W.findIn K (.ref C_Cells) "write" = some (some (.ref fx_Cells_write)))
    (ix_Cells_write : PySem.W.isFn K (.ref fx_Cells_write) = true)
    (lx_Cells_write : K.lookup fx_Cells_write = some ⟨ocx_Cells_write, odx_Cells_write, .func (PySem.W.fnOf "write" "Cells.write" (defArgs s_Cells_write) (defBody s_Cells_write) (defScope s_Cells_write) .none kVx_Cells_write dcx_Cells_write pmx_Cells_write anx_Cells_write cdx_Cells_write ctx_Cells_write), slx_Cells_write⟩)
    (cx_Cells_write : PySem.W.codeIn K cdx_Cells_write "Cells.write" = true)
    (kx_Cells_write : PySem.W.keepIn K (.ref fx_Cells_write) = true)
    (ax_Cells_arm : PySem.W.findIn K (.ref C_Cells) "arm" = some (some (.ref fx_Cells_arm)))
    (ix_Cells_arm : PySem.W.isFn K (.ref fx_Cells_arm) = true)
    (lx_Cells_arm : K.lookup fx_Cells_arm = some ⟨ocx_Cells_arm, odx_Cells_arm, .func (PySem.W.fnOf "arm" "Cells.arm" (defArgs s_Cells_arm) (defBody s_Cells_arm) (defScope s_Cells_arm) .none kVx_Cells_arm dcx_Cells_arm pmx_Cells_arm anx_Cells_arm cdx_Cells_arm ctx_Cells_arm), slx_Cells_arm⟩)
    (cx_Cells_arm : PySem.W.codeIn K cdx_Cells_arm "Cells.arm" = true)
    (kx_Cells_arm : PySem.W.keepIn K (.ref fx_Cells_arm) = true)
    (ax_Cells_crash : PySem.W.findIn K (.ref C_Cells) "crash" = some (some (.ref fx_Cells_crash)))
    (ix_Cells_crash : PySem.W.isFn K (.ref fx_Cells_crash) = true)
    (lx_Cells_crash : K.lookup fx_Cells_crash = some ⟨ocx_Cells_crash, odx_Cells_crash, .func (PySem.W.fnOf "crash" "Cells.crash" (defArgs s_Cells_crash) (defBody s_Cells_crash) (defScope s_Cells_crash) .none kVx_Cells_crash dcx_Cells_crash pmx_Cells_crash anx_Cells_crash cdx_Cells_crash ctx_Cells_crash), slx_Cells_crash⟩)
    (cx_Cells_crash : PySem.W.codeIn K cdx_Cells_crash "Cells.crash" = true)
    (kx_Cells_crash : PySem.W.keepIn K (.ref fx_Cells_crash) = true)
    (ax_Cells__check : PySem.W.findIn K (.ref C_Cells) "_check" = some (some (.ref fx_Cells__check)))
    (ix_Cells__check : PySem.W.isFn K (.ref fx_Cells__check) = true)
    (lx_Cells__check : K.lookup fx_Cells__check = some ⟨ocx_Cells__check, odx_Cells__check, .func (PySem.W.fnOf "_check" "Cells._check" (defArgs s_Cells__check) (defBody s_Cells__check) (defScope s_Cells__check) .none kVx_Cells__check dcx_Cells__check pmx_Cells__check anx_Cells__check cdx_Cells__check ctx_Cells__check), slx_Cells__check⟩)
    (cx_Cells__check : PySem.W.codeIn K cdx_Cells__check "Cells._check" = true)
    (kx_Cells__check : PySem.W.keepIn K (.ref fx_Cells__check) = true)
    (x_DiskCrashed : PySem.W.excIn K C_DiskCrashed [.type "ValueError", .type "Exception", .type "BaseException", .type "object"] "ValueError.__new__" = true)
    (k_DiskCrashed : PySem.W.keepIn K (.ref C_DiskCrashed) = true)
    (b_DiskCrashed : PySem.W.subIn K (.ref C_DiskCrashed) (.type "BaseException") = some true)
    (t_DiskCrashed : PySem.W.typeIn K (.ref C_DiskCrashed) = some (.type "type"))
    (x_DiskError : PySem.W.excIn K C_DiskError [.type "ValueError", .type "Exception", .type "BaseException", .type "object"] "ValueError.__new__" = true)
    (k_DiskError : PySem.W.keepIn K (.ref C_DiskError) = true)
    (b_DiskError : PySem.W.subIn K (.ref C_DiskError) (.type "BaseException") = some true)
    (t_DiskError : PySem.W.typeIn K (.ref C_DiskError) = some (.type "type"))
    (m_CC : PySem.W.exmOne K (.ref C_DiskCrashed) (.ref C_DiskCrashed) = some true)
    (m_EC : PySem.W.exmOne K (.ref C_DiskError) (.ref C_DiskCrashed) = some false)
    (m_EE : PySem.W.exmOne K (.ref C_DiskError) (.ref C_DiskError) = some true)
    (ax_life_text : PySem.W.nsIn K mainGlobals "life_text" = some (some (.ref fx_life_text)))
    (lx_life_text : K.lookup fx_life_text = some ⟨ocx_life_text, odx_life_text, .func (PySem.W.fnOf "life_text" "life_text" (defArgs s_life_text) (defBody s_life_text) (defScope s_life_text) .none kVx_life_text dcx_life_text pmx_life_text anx_life_text cdx_life_text ctx_life_text), slx_life_text⟩)
    (cx_life_text : PySem.W.codeIn K cdx_life_text "life_text" = true)
    (kx_life_text : PySem.W.keepIn K (.ref fx_life_text) = true)
    (ax_life_of : PySem.W.nsIn K mainGlobals "life_of" = some (some (.ref fx_life_of)))
    (lx_life_of : K.lookup fx_life_of = some ⟨ocx_life_of, odx_life_of, .func (PySem.W.fnOf "life_of" "life_of" (defArgs s_life_of) (defBody s_life_of) (defScope s_life_of) .none kVx_life_of dcx_life_of pmx_life_of anx_life_of cdx_life_of ctx_life_of), slx_life_of⟩)
    (cx_life_of : PySem.W.codeIn K cdx_life_of "life_of" = true)
    (kx_life_of : PySem.W.keepIn K (.ref fx_life_of) = true)
    (ax__are_digits : PySem.W.nsIn K mainGlobals "_are_digits" = some (some (.ref fx__are_digits)))
    (lx__are_digits : K.lookup fx__are_digits = some ⟨ocx__are_digits, odx__are_digits, .func (PySem.W.fnOf "_are_digits" "_are_digits" (defArgs s__are_digits) (defBody s__are_digits) (defScope s__are_digits) .none kVx__are_digits dcx__are_digits pmx__are_digits anx__are_digits cdx__are_digits ctx__are_digits), slx__are_digits⟩)
    (cx__are_digits : PySem.W.codeIn K cdx__are_digits "_are_digits" = true)
    (kx__are_digits : PySem.W.keepIn K (.ref fx__are_digits) = true)
    (ax_next_life : PySem.W.nsIn K mainGlobals "next_life" = some (some (.ref fx_next_life)))
    (lx_next_life : K.lookup fx_next_life = some ⟨ocx_next_life, odx_next_life, .func (PySem.W.fnOf "next_life" "next_life" (defArgs s_next_life) (defBody s_next_life) (defScope s_next_life) .none kVx_next_life dcx_next_life pmx_next_life anx_next_life cdx_next_life ctx_next_life), slx_next_life⟩)
    (cx_next_life : PySem.W.codeIn K cdx_next_life "next_life" = true)
    (kx_next_life : PySem.W.keepIn K (.ref fx_next_life) = true)
    (ax_is_integer : PySem.W.nsIn K mainGlobals "is_integer" = some (some (.ref fx_is_integer)))
    (lx_is_integer : K.lookup fx_is_integer = some ⟨ocx_is_integer, odx_is_integer, .func (PySem.W.fnOf "is_integer" "is_integer" (defArgs s_is_integer) (defBody s_is_integer) (defScope s_is_integer) .none kVx_is_integer dcx_is_integer pmx_is_integer anx_is_integer cdx_is_integer ctx_is_integer), slx_is_integer⟩)
    (cx_is_integer : PySem.W.codeIn K cdx_is_integer "is_integer" = true)
    (kx_is_integer : PySem.W.keepIn K (.ref fx_is_integer) = true)
    (ax__law_cell : PySem.W.nsIn K mainGlobals "_law_cell" = some (some (.ref fx__law_cell)))
    (lx__law_cell : K.lookup fx__law_cell = some ⟨ocx__law_cell, odx__law_cell, .func (PySem.W.fnOf "_law_cell" "_law_cell" (defArgs s__law_cell) (defBody s__law_cell) (defScope s__law_cell) .none kVx__law_cell dcx__law_cell pmx__law_cell anx__law_cell cdx__law_cell ctx__law_cell), slx__law_cell⟩)
    (cx__law_cell : PySem.W.codeIn K cdx__law_cell "_law_cell" = true)
    (kx__law_cell : PySem.W.keepIn K (.ref fx__law_cell) = true)
    (ax__law_counted : PySem.W.nsIn K mainGlobals "_law_counted" = some (some (.ref fx__law_counted)))
    (lx__law_counted : K.lookup fx__law_counted = some ⟨ocx__law_counted, odx__law_counted, .func (PySem.W.fnOf "_law_counted" "_law_counted" (defArgs s__law_counted) (defBody s__law_counted) (defScope s__law_counted) .none kVx__law_counted dcx__law_counted pmx__law_counted anx__law_counted cdx__law_counted ctx__law_counted), slx__law_counted⟩)
    (cx__law_counted : PySem.W.codeIn K cdx__law_counted "_law_counted" = true)
    (kx__law_counted : PySem.W.keepIn K (.ref fx__law_counted) = true)
    (ax__law_text : PySem.W.nsIn K mainGlobals "_law_text" = some (some (.ref fx__law_text)))
    (lx__law_text : K.lookup fx__law_text = some ⟨ocx__law_text, odx__law_text, .func (PySem.W.fnOf "_law_text" "_law_text" (defArgs s__law_text) (defBody s__law_text) (defScope s__law_text) .none kVx__law_text dcx__law_text pmx__law_text anx__law_text cdx__law_text ctx__law_text), slx__law_text⟩)
    (cx__law_text : PySem.W.codeIn K cdx__law_text "_law_text" = true)
    (kx__law_text : PySem.W.keepIn K (.ref fx__law_text) = true)
    (ax__law_first : PySem.W.nsIn K mainGlobals "_law_first" = some (some (.ref fx__law_first)))
    (lx__law_first : K.lookup fx__law_first = some ⟨ocx__law_first, odx__law_first, .func (PySem.W.fnOf "_law_first" "_law_first" (defArgs s__law_first) (defBody s__law_first) (defScope s__law_first) .none kVx__law_first dcx__law_first pmx__law_first anx__law_first cdx__law_first ctx__law_first), slx__law_first⟩)
    (cx__law_first : PySem.W.codeIn K cdx__law_first "_law_first" = true)
    (kx__law_first : PySem.W.keepIn K (.ref fx__law_first) = true)
    (ax__law_copied : PySem.W.nsIn K mainGlobals "_law_copied" = some (some (.ref fx__law_copied)))
    (lx__law_copied : K.lookup fx__law_copied = some ⟨ocx__law_copied, odx__law_copied, .func (PySem.W.fnOf "_law_copied" "_law_copied" (defArgs s__law_copied) (defBody s__law_copied) (defScope s__law_copied) .none kVx__law_copied dcx__law_copied pmx__law_copied anx__law_copied cdx__law_copied ctx__law_copied), slx__law_copied⟩)
    (cx__law_copied : PySem.W.codeIn K cdx__law_copied "_law_copied" = true)
    (kx__law_copied : PySem.W.keepIn K (.ref fx__law_copied) = true)
    (ax__law_call : PySem.W.nsIn K mainGlobals "_law_call" = some (some (.ref fx__law_call)))
    (lx__law_call : K.lookup fx__law_call = some ⟨ocx__law_call, odx__law_call, .func (PySem.W.fnOf "_law_call" "_law_call" (defArgs s__law_call) (defBody s__law_call) (defScope s__law_call) .none kVx__law_call dcx__law_call pmx__law_call anx__law_call cdx__law_call ctx__law_call), slx__law_call⟩)
    (cx__law_call : PySem.W.codeIn K cdx__law_call "_law_call" = true)
    (kx__law_call : PySem.W.keepIn K (.ref fx__law_call) = true)
    (ax_law : PySem.W.nsIn K mainGlobals "law" = some (some (.ref fx_law)))
    (lx_law : K.lookup fx_law = some ⟨ocx_law, odx_law, .func (PySem.W.fnOf "law" "law" (defArgs s_law) (defBody s_law) (defScope s_law) .none kVx_law dcx_law pmx_law anx_law cdx_law ctx_law), slx_law⟩)
    (cx_law : PySem.W.codeIn K cdx_law "law" = true)
    (kx_law : PySem.W.keepIn K (.ref fx_law) = true)
    (zlen : PySem.W.nsIn K mainGlobals "len" = some none)
    (zisinstance : PySem.W.nsIn K mainGlobals "isinstance" = some none)
    (zint : PySem.W.nsIn K mainGlobals "int" = some none)
    (zbool : PySem.W.nsIn K mainGlobals "bool" = some none)
    (zstr : PySem.W.nsIn K mainGlobals "str" = some none)
    (zrange : PySem.W.nsIn K mainGlobals "range" = some none)
    (zmin : PySem.W.nsIn K mainGlobals "min" = some none)
    (zmax : PySem.W.nsIn K mainGlobals "max" = some none) :
    ∃ fd : FuncData, (∀ (s : Shared) (v : Value), BindsTo s fd ⟨[v], []⟩ [("script", v)]) ∧ ∀ base : Heap, K.In base → base.Ns mainGlobals mg → FnOk l.prog w K mg base CX0 7 fa fd ["script"] (sp_law K) := by
  have e := hfa.symm.trans (PySem.W.mg_of X G ax_law)
  cases e
  have T : Tx K mg C_Cells C_DiskCrashed C_DiskError := {
    b_len := PySem.W.mg_none_of X G zlen
    b_isinstance := PySem.W.mg_none_of X G zisinstance
    b_int := PySem.W.mg_none_of X G zint
    b_bool := PySem.W.mg_none_of X G zbool
    b_str := PySem.W.mg_none_of X G zstr
    b_range := PySem.W.mg_none_of X G zrange
    b_min := PySem.W.mg_none_of X G zmin
    b_max := PySem.W.mg_none_of X G zmax
    c_MOST_NUMBER := hL0
    g_Cells := PySem.W.mg_of X G aC_Cells
    cl_Cells := ⟨pg_Cells, hd_Cells, po_Cells, sa_Cells⟩
    n_Cells__texts := n_Cells__texts
    n_Cells__has_crashed := n_Cells__has_crashed
    n_Cells__passing := n_Cells__passing
    n_Cells__keep := n_Cells__keep
    g_DiskCrashed := PySem.W.mg_of X G aC_DiskCrashed
    x_DiskCrashed := x_DiskCrashed
    k_DiskCrashed := k_DiskCrashed
    b_DiskCrashed := b_DiskCrashed
    t_DiskCrashed := t_DiskCrashed
    g_DiskError := PySem.W.mg_of X G aC_DiskError
    x_DiskError := x_DiskError
    k_DiskError := k_DiskError
    b_DiskError := b_DiskError
    t_DiskError := t_DiskError
    m_CC := m_CC
    m_EC := m_EC
    m_EE := m_EE }
  let a_Cells___init__ : MethAt K C_Cells "__init__" "Cells.__init__" P_Cells___init__ s_Cells___init__ := meth_mk ax_Cells___init__ ix_Cells___init__ lx_Cells___init__ cx_Cells___init__ kx_Cells___init__ fun _ _ _ _ _ _ us hl => match us, hl with | [_], _ => rfl
  let a_Cells_read : MethAt K C_Cells "read" "Cells.read" P_Cells_read s_Cells_read := meth_mk ax_Cells_read ix_Cells_read lx_Cells_read cx_Cells_read kx_Cells_read fun _ _ _ _ _ _ us hl => match us, hl with | [_, _], _ => rfl
  let a_Cells_write : MethAt K C_Cells "write" "Cells.write" P_Cells_write s_Cells_write := meth_mk ax_Cells_write ix_Cells_write lx_Cells_write cx_Cells_write kx_Cells_write fun _ _ _ _ _ _ us hl => match us, hl with | [_, _, _], _ => rfl
  let a_Cells_arm : MethAt K C_Cells "arm" "Cells.arm" P_Cells_arm s_Cells_arm := meth_mk ax_Cells_arm ix_Cells_arm lx_Cells_arm cx_Cells_arm kx_Cells_arm fun _ _ _ _ _ _ us hl => match us, hl with | [_, _, _], _ => rfl
  let a_Cells_crash : MethAt K C_Cells "crash" "Cells.crash" P_Cells_crash s_Cells_crash := meth_mk ax_Cells_crash ix_Cells_crash lx_Cells_crash cx_Cells_crash kx_Cells_crash fun _ _ _ _ _ _ us hl => match us, hl with | [_], _ => rfl
  let a_Cells__check : MethAt K C_Cells "_check" "Cells._check" P_Cells__check s_Cells__check := meth_mk ax_Cells__check ix_Cells__check lx_Cells__check cx_Cells__check kx_Cells__check fun _ _ _ _ _ _ us hl => match us, hl with | [_, _, _], _ => rfl
  let a_life_text : DefAt K mg "life_text" P_life_text s_life_text := at_mk X G ax_life_text lx_life_text cx_life_text kx_life_text fun _ _ _ _ _ _ us hl => match us, hl with | [_], _ => rfl
  let a_life_of : DefAt K mg "life_of" P_life_of s_life_of := at_mk X G ax_life_of lx_life_of cx_life_of kx_life_of fun _ _ _ _ _ _ us hl => match us, hl with | [_], _ => rfl
  let a__are_digits : DefAt K mg "_are_digits" P__are_digits s__are_digits := at_mk X G ax__are_digits lx__are_digits cx__are_digits kx__are_digits fun _ _ _ _ _ _ us hl => match us, hl with | [_], _ => rfl
  let a_next_life : DefAt K mg "next_life" P_next_life s_next_life := at_mk X G ax_next_life lx_next_life cx_next_life kx_next_life fun _ _ _ _ _ _ us hl => match us, hl with | [_], _ => rfl
  let a_is_integer : DefAt K mg "is_integer" P_is_integer s_is_integer := at_mk X G ax_is_integer lx_is_integer cx_is_integer kx_is_integer fun _ _ _ _ _ _ us hl => match us, hl with | [_, _, _], _ => rfl
  let a__law_cell : DefAt K mg "_law_cell" P__law_cell s__law_cell := at_mk X G ax__law_cell lx__law_cell cx__law_cell kx__law_cell fun _ _ _ _ _ _ us hl => match us, hl with | [_, _], _ => rfl
  let a__law_counted : DefAt K mg "_law_counted" P__law_counted s__law_counted := at_mk X G ax__law_counted lx__law_counted cx__law_counted kx__law_counted fun _ _ _ _ _ _ us hl => match us, hl with | [_], _ => rfl
  let a__law_text : DefAt K mg "_law_text" P__law_text s__law_text := at_mk X G ax__law_text lx__law_text cx__law_text kx__law_text fun _ _ _ _ _ _ us hl => match us, hl with | [_], _ => rfl
  let a__law_first : DefAt K mg "_law_first" P__law_first s__law_first := at_mk X G ax__law_first lx__law_first cx__law_first kx__law_first fun _ _ _ _ _ _ us hl => match us, hl with | [_], _ => rfl
  let a__law_copied : DefAt K mg "_law_copied" P__law_copied s__law_copied := at_mk X G ax__law_copied lx__law_copied cx__law_copied kx__law_copied fun _ _ _ _ _ _ us hl => match us, hl with | [_], _ => rfl
  let a__law_call : DefAt K mg "_law_call" P__law_call s__law_call := at_mk X G ax__law_call lx__law_call cx__law_call kx__law_call fun _ _ _ _ _ _ us hl => match us, hl with | [_, _, _], _ => rfl
  have F_law := fun_mk (st := s_law) lx_law cx_law kx_law
  refine ⟨PySem.W.fnOf "law" "law" (defArgs s_law) (defBody s_law) (defScope s_law) .none kVx_law dcx_law pmx_law anx_law cdx_law ctx_law, fun s v => .of_eq rfl, fun base _ _ => ?_⟩
  let k_Cells : MkOk l.prog w K mg base C_Cells "Cells" P_Cells___init__ 1 (sp_init C_Cells) := a_Cells___init__.mk' mk_Cells kc_Cells T.g_Cells fun F => ok_init T F
  let c_is_integer : DefOk l.prog w K mg base CX0 "is_integer" P_is_integer 1 (spI) := a_is_integer.ok fun F => ok_is_integer T  F
  let m_Cells__check : MethOk l.prog w K mg base (L2.CX l.prog w) C_Cells "_check" P_Cells__check 2 (sp_check C_Cells C_DiskCrashed C_DiskError) := a_Cells__check.ok fun F => ok_check T c_is_integer F
  let m_Cells_read : MethOk l.prog w K mg base (L2.CX l.prog w) C_Cells "read" P_Cells_read 3 (sp_read C_Cells C_DiskCrashed C_DiskError) := a_Cells_read.ok fun F => ok_read T m_Cells__check F
  let m_Cells_write : MethOk l.prog w K mg base (L2.CX l.prog w) C_Cells "write" P_Cells_write 3 (sp_write C_Cells C_DiskCrashed C_DiskError) := a_Cells_write.ok fun F => ok_write T m_Cells__check F
  let m_Cells_arm : MethOk l.prog w K mg base (CX0) C_Cells "arm" P_Cells_arm 1 (sp_arm C_Cells) := a_Cells_arm.ok fun F => ok_arm T  F
  let m_Cells_crash : MethOk l.prog w K mg base (CX0) C_Cells "crash" P_Cells_crash 1 (sp_crash C_Cells) := a_Cells_crash.ok fun F => ok_crash T  F
  let c_life_text : DefOk l.prog w K mg base CX0 "life_text" P_life_text 1 (sp_life_text) := a_life_text.ok fun F => ok_life_text T  F
  let c__are_digits : DefOk l.prog w K mg base CX0 "_are_digits" P__are_digits 1 (sp_digits) := a__are_digits.ok fun F => ok__are_digits T  F
  let c_life_of : DefOk l.prog w K mg base CX0 "life_of" P_life_of 2 (sp_life_of) := a_life_of.ok fun F => ok_life_of T c_life_text c__are_digits F
  let c_next_life : DefOk l.prog w K mg base (L2.CX l.prog w) "next_life" P_next_life 4 (sp_next C_Cells C_DiskCrashed) := a_next_life.ok fun F => ok_next_life T m_Cells_read m_Cells_write c_life_text c_life_of F
  let c__law_cell : DefOk l.prog w K mg base CX0 "_law_cell" P__law_cell 1 (sp_cell K) := a__law_cell.ok fun F => ok__law_cell T  F
  let c__law_text : DefOk l.prog w K mg base CX0 "_law_text" P__law_text 1 (sp_ltext) := a__law_text.ok fun F => ok__law_text T  F
  let c__law_counted : DefOk l.prog w K mg base CX0 "_law_counted" P__law_counted 5 (sp_counted C_Cells) := a__law_counted.ok fun F => ok__law_counted T c_next_life F
  let c__law_first : DefOk l.prog w K mg base CX0 "_law_first" P__law_first 1 (sp_first) := a__law_first.ok fun F => ok__law_first T  F
  let c__law_copied : DefOk l.prog w K mg base CX0 "_law_copied" P__law_copied 4 (sp_copied C_Cells) := a__law_copied.ok fun F => ok__law_copied T k_Cells m_Cells_read m_Cells_write F
  let c__law_call : DefOk l.prog w K mg base CX0 "_law_call" P__law_call 6 (sp_lcall C_Cells) := a__law_call.ok fun F => ok__law_call T m_Cells_read m_Cells_crash c_life_of c__law_text c__law_counted F
  exact ok_law T k_Cells m_Cells_write m_Cells_arm m_Cells_crash c__law_cell c__law_first c__law_text c__law_call c__law_copied F_law
end Mus
open PySem PySem.W PyProof.Rows
set_option maxRecDepth 100000 in
set_option maxHeartbeats 0 in
theorem PySem.Challenge.cw_mustercall_k12_whole_no_life_twice_holds : PySem.Challenge.rw_mustercall_k12_whole_no_life_twice.Holds := by
  w_on; o_law; k_head; (case hw => w_witness2)
  k_fill
  refine Mus.walk_ofX (l := PySem.Challenge.rw_mustercall_k12_whole_no_life_twice) (n := 63) (k := 7) (x := "script") (sp := fun w => Mus.sp_law (_ : PySem.W.Frag)) rfl (by decide) rfl ⟨rfl, by decide, by decide⟩ (fun w h Y => PySem.W.kIn_of Y) ?F (fun _ _ a ns hl _ hS => ⟨a, ns, rfl, hS, hl, fun _ => rfl⟩)
  case F =>
    intro w mg fa h KX G XX hmg
    refine' Mus.all_mk KX G hmg (Mus.loose_int XX.2) ?aC_Cells ?aC_DiskCrashed ?aC_DiskError ?pg_Cells ?hd_Cells ?po_Cells ?sa_Cells ?mk_Cells ?kc_Cells ?n_Cells__texts ?n_Cells__has_crashed ?n_Cells__passing ?n_Cells__keep ?ax_Cells___init__ ?ix_Cells___init__ ?lx_Cells___init__ ?cx_Cells___init__ ?kx_Cells___init__ ?ax_Cells_read ?ix_Cells_read ?lx_Cells_read ?cx_Cells_read ?kx_Cells_read ?ax_Cells_write ?ix_Cells_write ?lx_Cells_write ?cx_Cells_write ?kx_Cells_write ?ax_Cells_arm ?ix_Cells_arm ?lx_Cells_arm ?cx_Cells_arm ?kx_Cells_arm ?ax_Cells_crash ?ix_Cells_crash ?lx_Cells_crash ?cx_Cells_crash ?kx_Cells_crash ?ax_Cells__check ?ix_Cells__check ?lx_Cells__check ?cx_Cells__check ?kx_Cells__check ?x_DiskCrashed ?k_DiskCrashed ?b_DiskCrashed ?t_DiskCrashed ?x_DiskError ?k_DiskError ?b_DiskError ?t_DiskError ?m_CC ?m_EC ?m_EE ?ax_life_text ?lx_life_text ?cx_life_text ?kx_life_text ?ax_life_of ?lx_life_of ?cx_life_of ?kx_life_of ?ax__are_digits ?lx__are_digits ?cx__are_digits ?kx__are_digits ?ax_next_life ?lx_next_life ?cx_next_life ?kx_next_life ?ax_is_integer ?lx_is_integer ?cx_is_integer ?kx_is_integer ?ax__law_cell ?lx__law_cell ?cx__law_cell ?kx__law_cell ?ax__law_counted ?lx__law_counted ?cx__law_counted ?kx__law_counted ?ax__law_text ?lx__law_text ?cx__law_text ?kx__law_text ?ax__law_first ?lx__law_first ?cx__law_first ?kx__law_first ?ax__law_copied ?lx__law_copied ?cx__law_copied ?kx__law_copied ?ax__law_call ?lx__law_call ?cx__law_call ?kx__law_call ?ax_law ?lx_law ?cx_law ?kx_law ?zlen ?zisinstance ?zint ?zbool ?zstr ?zrange ?zmin ?zmax
    (case aC_Cells => first | k_is | rfl)
    (case aC_DiskCrashed => first | k_is | rfl)
    (case aC_DiskError => first | k_is | rfl)
    (case pg_Cells => first | k_is | rfl)
    (case hd_Cells => first | k_is | rfl)
    (case po_Cells => first | k_is | rfl)
    (case sa_Cells => first | k_is | rfl)
    (case mk_Cells => first | k_is | rfl)
    (case kc_Cells => first | k_is | rfl)
    (case n_Cells__texts => first | k_is | rfl)
    (case n_Cells__has_crashed => first | k_is | rfl)
    (case n_Cells__passing => first | k_is | rfl)
    (case n_Cells__keep => first | k_is | rfl)
    (case ax_Cells___init__ => first | k_is | rfl)
    (case ix_Cells___init__ => first | k_is | rfl)
    (case lx_Cells___init__ => first | k_is | rfl)
    (case cx_Cells___init__ => first | k_is | rfl)
    (case kx_Cells___init__ => first | k_is | rfl)
    (case ax_Cells_read => first | k_is | rfl)
    (case ix_Cells_read => first | k_is | rfl)
    (case lx_Cells_read => first | k_is | rfl)
    (case cx_Cells_read => first | k_is | rfl)
    (case kx_Cells_read => first | k_is | rfl)
    (case ax_Cells_write => first | k_is | rfl)
    (case ix_Cells_write => first | k_is | rfl)
    (case lx_Cells_write => first | k_is | rfl)
    (case cx_Cells_write => first | k_is | rfl)
    (case kx_Cells_write => first | k_is | rfl)
    (case ax_Cells_arm => first | k_is | rfl)
    (case ix_Cells_arm => first | k_is | rfl)
    (case lx_Cells_arm => first | k_is | rfl)
    (case cx_Cells_arm => first | k_is | rfl)
    (case kx_Cells_arm => first | k_is | rfl)
    (case ax_Cells_crash => first | k_is | rfl)
    (case ix_Cells_crash => first | k_is | rfl)
    (case lx_Cells_crash => first | k_is | rfl)
    (case cx_Cells_crash => first | k_is | rfl)
    (case kx_Cells_crash => first | k_is | rfl)
    (case ax_Cells__check => first | k_is | rfl)
    (case ix_Cells__check => first | k_is | rfl)
    (case lx_Cells__check => first | k_is | rfl)
    (case cx_Cells__check => first | k_is | rfl)
    (case kx_Cells__check => first | k_is | rfl)
    (case x_DiskCrashed => k_exc)
    (case k_DiskCrashed => first | k_is | rfl)
    (case b_DiskCrashed => first | k_is | rfl)
    (case t_DiskCrashed => first | k_is | rfl)
    (case x_DiskError => k_exc)
    (case k_DiskError => first | k_is | rfl)
    (case b_DiskError => first | k_is | rfl)
    (case t_DiskError => first | k_is | rfl)
    (case m_CC => first | k_is | rfl)
    (case m_EC => first | k_is | rfl)
    (case m_EE => first | k_is | rfl)
    (case ax_life_text => first | k_is | rfl)
    (case lx_life_text => first | k_is | rfl)
    (case cx_life_text => first | k_is | rfl)
    (case kx_life_text => first | k_is | rfl)
    (case ax_life_of => first | k_is | rfl)
    (case lx_life_of => first | k_is | rfl)
    (case cx_life_of => first | k_is | rfl)
    (case kx_life_of => first | k_is | rfl)
    (case ax__are_digits => first | k_is | rfl)
    (case lx__are_digits => first | k_is | rfl)
    (case cx__are_digits => first | k_is | rfl)
    (case kx__are_digits => first | k_is | rfl)
    (case ax_next_life => first | k_is | rfl)
    (case lx_next_life => first | k_is | rfl)
    (case cx_next_life => first | k_is | rfl)
    (case kx_next_life => first | k_is | rfl)
    (case ax_is_integer => first | k_is | rfl)
    (case lx_is_integer => first | k_is | rfl)
    (case cx_is_integer => first | k_is | rfl)
    (case kx_is_integer => first | k_is | rfl)
    (case ax__law_cell => first | k_is | rfl)
    (case lx__law_cell => first | k_is | rfl)
    (case cx__law_cell => first | k_is | rfl)
    (case kx__law_cell => first | k_is | rfl)
    (case ax__law_counted => first | k_is | rfl)
    (case lx__law_counted => first | k_is | rfl)
    (case cx__law_counted => first | k_is | rfl)
    (case kx__law_counted => first | k_is | rfl)
    (case ax__law_text => first | k_is | rfl)
    (case lx__law_text => first | k_is | rfl)
    (case cx__law_text => first | k_is | rfl)
    (case kx__law_text => first | k_is | rfl)
    (case ax__law_first => first | k_is | rfl)
    (case lx__law_first => first | k_is | rfl)
    (case cx__law_first => first | k_is | rfl)
    (case kx__law_first => first | k_is | rfl)
    (case ax__law_copied => first | k_is | rfl)
    (case lx__law_copied => first | k_is | rfl)
    (case cx__law_copied => first | k_is | rfl)
    (case kx__law_copied => first | k_is | rfl)
    (case ax__law_call => first | k_is | rfl)
    (case lx__law_call => first | k_is | rfl)
    (case cx__law_call => first | k_is | rfl)
    (case kx__law_call => first | k_is | rfl)
    (case ax_law => first | k_is | rfl)
    (case lx_law => first | k_is | rfl)
    (case cx_law => first | k_is | rfl)
    (case kx_law => first | k_is | rfl)
    (case zlen => first | k_is | rfl)
    (case zisinstance => first | k_is | rfl)
    (case zint => first | k_is | rfl)
    (case zbool => first | k_is | rfl)
    (case zstr => first | k_is | rfl)
    (case zrange => first | k_is | rfl)
    (case zmin => first | k_is | rfl)
    (case zmax => first | k_is | rfl)

