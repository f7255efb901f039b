import PyProof.Rows.All
import Wide.All
import OpenK.AllK
import Wide.FinOn
import HandS.Base
import HandS.Call
import HandS.List
import HandS.Comp
import HandS.Ends
import HandS.Iter
import HandS.Text
import HandS.Words
import HandS.WordsList
import HandS.Wide
import HandS.IsInst
import HandS.TupAny
import HandS.Dict
import HandS.WordsDict
import HandS.Conv
import HandS.More
import HandS.Codes
import HandS.SortRule
import HandS.Walk
import HandS.FStr
import HandS.StrMore
import PySem.Challenge.RW_mustercall_k11_texts_of_lives
set_option Elab.async false
set_option linter.all false
set_option maxRecDepth 100000
set_option maxHeartbeats 4000000
/-! What my proofs share: a def with its promise as one thing, small rules, heaps. -/
namespace Mus
open PySem L2
/-- a def of the text that keeps a promise, and all that a call of it asks -/
structure DefOk (P : Program) (w : World) (K : PySem.W.Frag) (mg : Str → Option Value) (base : Heap) (CX : CXT) (x : Str) (ps : List Str) (k : Nat) (sp : Sp) where
  f : Addr
  fd : FuncData
  G : FnOk P w K mg base CX k f fd ps sp
  m : mg x = some (.ref f)
  kp : PySem.W.keepIn K (.ref f) = true
  b : Binds K fd ps []
def DefOk.mono {P : Program} {w : World} {K : PySem.W.Frag} {mg : Str → Option Value} {base : Heap} {CX : CXT} {x : Str} {ps : List Str} {j k : Nat} {sp : Sp} (c : DefOk P w K mg base CX x ps j sp) (h : j ≤ k) : DefOk P w K mg base CX x ps k sp :=
  ⟨c.f, c.fd, c.G.mono h, c.m, c.kp, c.b⟩
/-- a def of the text as the top left it: no promise yet -/
structure DefAt (K : PySem.W.Frag) (mg : Str → Option Value) (x : Str) (ps : List Str) (st : Stmt) where
  f : Addr
  fd : FuncData
  F : Fun K x x st f fd
  m : mg x = some (.ref f)
  b : Binds K fd ps []
def DefAt.ok {P : Program} {w : World} {K : PySem.W.Frag} {mg : Str → Option Value} {base : Heap} {CX : CXT} {x : Str} {ps : List Str} {st : Stmt} {k : Nat} {sp : Sp} (d : DefAt K mg x ps st) (h : ∀ {f : Addr} {fd : FuncData}, Fun K x x st f fd → FnOk P w K mg base CX k f fd ps sp) : DefOk P w K mg base CX x ps k sp :=
  ⟨d.f, d.fd, h d.F, d.m, d.F.kp, d.b⟩
section
variable {X : Cx}
theorem pcall {x : Str} {ps : List Str} {j k : Nat} {sp : Sp} {e : Expr} {es : List Expr} {t : TA} {p pos : Pos} (c : DefOk X.prog X.w X.K X.mg X.base CX0 x ps j sp) (hr : Room k X.A) (ha : PA X (e :: es) t) (hj : j ≤ k := by first | decide | omega) (hg : Gl X x := by rfl)
    (db0 : (x == ("__debug__" : Str)) = false := by decide) (st0 : starEach (e :: es) X.env = (false, eval e X.env) :: starEach es X.env := by rfl) (pl0 : (backTo pos (starEach es X.env)).any (·.1) = false := by rfl) :
    PE X (.Call (.Name x p) (e :: es) [] pos) (tCall sp [] E0 t) := pe_call c.G (hr.mono hj) hg c.m c.kp c.b .nil pass0 ha db0 st0 pl0
/-- a text n times -/
theorem op_mul_str : OpR X (binaryOp .Mult) (fun x y H Q => ∃ (z : Str) (n : Int), x = .str z ∧ y = .int n ∧ 2 ≤ n ∧ n ≤ 1000 ∧ 1 ≤ z.length ∧ z.length ≤ 1000 ∧ ∀ r : Str, TL.tl r = (List.replicate n.toNat (TL.tl z)).flatten → Q (.str r) H) := by
  intro pins s σ H x y v u Q I rx ry h
  obtain ⟨z, n, rfl, rfl, h2, h3, h4, h5, q⟩ := h
  obtain ⟨t, rfl⟩ := rx
  obtain ⟨t', rfl⟩ := ry
  have n1 : ¬ n < 1 := by omega
  have n2 : ¬ (n == 1 || z.length == 0) = true := by
    rw [Bool.or_eq_true, beq_iff_eq, beq_iff_eq]; omega
  have hr : (decide (n < -(2 ^ 63 : Int)) || decide (n ≥ 2 ^ 63)) = false := by
    rw [decide_eq_false (by omega), decide_eq_false (by omega)]; rfl
  have hm : z.length * n.toNat ≤ 1000 * 1000 := Nat.mul_le_mul h5 (by omega)
  have hl : Builtin.Str.tooLong (z.length * n.toNat) = false := by
    unfold Builtin.Str.tooLong
    have e : sizeLine = 16777216 := sizeLine_eq
    rw [decide_eq_false (by omega)]
  have hb : ¬ ((z.length : Int) > (2 ^ 63 - 1) / n) := by
    have : (1000 : Int) ≤ (2 ^ 63 - 1) / n := by
      rw [Int.le_ediv_iff_mul_le (by omega)]
      omega
    omega
  refine PySem.P.mul_str hr (fun _ _ => hb) (fun _ _ => hl) ?_
  rw [if_neg n1, if_neg n2]
  have hf : ∀ (k : Nat) (acc : Array Nat), ((List.replicate k z.cps).foldl (· ++ ·) acc).toList = acc.toList ++ (List.replicate k z.cps.toList).flatten := by
    intro k
    induction k with
    | zero => intro acc; simp
    | succ k ih =>
      intro acc
      rw [List.replicate_succ, List.foldl_cons, ih, List.replicate_succ, List.flatten_cons, Array.toList_append, List.append_assoc]
  have hr : TL.tl (⟨(List.replicate n.toNat z.cps).foldl (· ++ ·) #[]⟩ : Str) = (List.replicate n.toNat (TL.tl z)).flatten := by
    show ((List.replicate n.toNat z.cps).foldl (· ++ ·) #[]).toList = _
    rw [hf]; rfl
  have hlen : (⟨(List.replicate n.toNat z.cps).foldl (· ++ ·) #[]⟩ : Str).length ≤ sizeLine := by
    rw [TL.len_tl, hr]
    have e : sizeLine = 16777216 := sizeLine_eq
    have z2 : ((List.replicate n.toNat (TL.tl z)).flatten).length = z.length * n.toNat := by
      rw [TL.len_tl]
      generalize n.toNat = k
      induction k with
      | zero => rfl
      | succ k ih => rw [List.replicate_succ, List.flatten_cons, List.length_append, ih, Nat.mul_succ, Nat.add_comm]
    omega
  exact ⟨hlen, .str _, H, I.tok _, ⟨_, rfl⟩, q _ hr⟩
/-- for c in a text -/
theorem for_str {z : Str} {g : TG} {tb : TS} {D : Ends} {σ : St} {H : Hp} (Pv : Nat → St → Hp → Prop) (h0 : Pv 0 σ H)
    (hs : ∀ i c σ H, (TL.tl z)[i]? = some c → Pv i σ H → g (.str ⟨#[c]⟩) σ H fun σ2 H2 => tb { D with nx := Pv (i + 1), ct := Pv (i + 1), bk := D.nx } σ2 H2) (hd : ∀ σ H, Pv (TL.tl z).length σ H → D.nx σ H) :
    ∃ W : Nat → Nat → St → Hp → Prop, (∃ m, W 0 m σ H) ∧ ∀ i m σ H, W i m σ H →
      ((Its z).stop i H ∧ D.nx σ H) ∨ ((Its z).go i H ∧ ∃ N : St → Hp → Prop, (∀ σ' H', N σ' H' → ∃ m', m' < m ∧ W (i + 1) m' σ' H') ∧ ∀ x H', (Its z).yld i H x H' → g x σ H' fun σ2 H2 => tb { D with nx := N, ct := N, bk := D.nx } σ2 H2) := by
  have hl : (TL.tl z).length = z.cps.size := Array.length_toList
  refine ⟨fun i m σ H => m = (TL.tl z).length - i ∧ i ≤ (TL.tl z).length ∧ Pv i σ H, ⟨(TL.tl z).length, rfl, Nat.zero_le _, h0⟩, ?_⟩
  rintro i m σ H ⟨rfl, le1, pv1⟩
  by_cases lt1 : i < (TL.tl z).length
  · refine .inr ⟨(by show i < z.cps.size; omega), Pv (i + 1), fun σ' H' p' => ⟨(TL.tl z).length - (i + 1), by omega, rfl, lt1, p'⟩, fun x H' y => ?_⟩
    obtain ⟨e, c, hc, ex⟩ := y
    subst e
    subst ex
    exact hs i c σ H' (by rw [Array.getElem?_toList]; exact hc) pv1
  · have e : i = (TL.tl z).length := by omega
    subst e
    exact .inl ⟨(by show z.cps.size ≤ _; omega), hd σ H pv1⟩
end
/-! ### heaps -/
/-- all but what stands at p is as it was -/
def But (p : Addr) (H H' : Hp) : Prop := ∀ b o, H b = some o → b ≠ p → H' b = some o
theorem But.refl (p : Addr) (H : Hp) : But p H H := fun _ _ h _ => h
theorem But.trans {p : Addr} {H H1 H2 : Hp} (a : But p H H1) (b : But p H1 H2) : But p H H2 := fun c o h n => b c o (a c o h n) n
theorem But.of {p : Addr} {H H' : Hp} (a : Same H H') : But p H H' := fun c o h _ => a c o h
theorem same_new {H : Hp} {p : Addr} (h : H p = none) (o : HO) : Same H (upd H p o) := fun b u q => by rw [upd_ne (ne_of_none q h)]; exact q
theorem but_upd {H : Hp} {p : Addr} (o : HO) : But p H (upd H p o) := fun b u q n => by rw [upd_ne n]; exact q
theorem same_seqT {K : PySem.W.Frag} {H H' : Hp} {a : Addr} {xs : List V} (e : Same H H') (h : SqT K H a xs) : SqT K H' a xs := by
  rcases h with (h | ⟨o, h⟩) | h
  · exact .inl (.inl (e _ _ h))
  · exact .inl (.inr ⟨o, e _ _ h⟩)
  · exact .inr h
/-- tuples stay where only a list may change -/
theorem But.seqT {K : PySem.W.Frag} {H H' : Hp} {p a : Addr} {xs ys : List V} (e : But p H H') (hp : H p = some (.lst ys)) (h : SqT K H a xs) : SqT K H' a xs := by
  rcases h with (h | ⟨o, h⟩) | h
  · exact .inl (.inl (e _ _ h (ne_of h hp (by intro z; cases z))))
  · exact .inl (.inr ⟨o, e _ _ h (ne_of h hp (by intro z; cases z))⟩)
  · exact .inr h
theorem But.seqL {K : PySem.W.Frag} {H H' : Hp} {p a : Addr} {xs : List V} (e : But p H H') (hp : a ≠ p) (h : SqL K H a xs) : SqL K H' a xs := by
  rcases h with (h | ⟨o, h⟩) | h
  · exact .inl (.inl (e _ _ h hp))
  · exact .inl (.inr ⟨o, e _ _ h hp⟩)
  · exact .inr h
end Mus

set_option maxRecDepth 100000
set_option maxHeartbeats 4000000
/-! Plain data of any kind in the heap, beside one list (the bag, at p) that changes. -/
namespace Mus
open PySem L2
theorem sl : sizeLine = 16777216 := sizeLine_eq
theorem dT {p : Prop} [Decidable p] {A B : Prop} (h : p) (a : A) : if decide p = true then A else B := by
  rw [decide_eq_true h]; exact iteT a
theorem dF {p : Prop} [Decidable p] {A B : Prop} (h : ¬ p) (b : B) : if decide p = true then A else B := by
  rw [decide_eq_false h]; exact iteF b
theorem nT {p : Prop} [Decidable p] {A B : Prop} (h : ¬ p) (a : A) : if (!decide p) = true then A else B := by
  rw [decide_eq_false h]; exact iteT a
theorem nF {p : Prop} [Decidable p] {A B : Prop} (h : p) (b : B) : if (!decide p) = true then A else B := by
  rw [decide_eq_true h]; exact iteF b
theorem at_int {α : Type} {xs : List α} {i : Int} {v : α} (h0 : 0 ≤ i) (h : xs[i.toNat]? = some v) : atI xs i = some v := by
  have e : i = ((i.toNat : Nat) : Int) := by omega
  rw [e]
  exact atI_nat h
theorem pe_const {X : Cx} {x : Str} {i : Int} {pos : Pos} (hm : ∃ t, X.mg x = some (.int i t)) (hg : Gl X x := by rfl) (hd : (x == ("__debug__" : Str)) = false := by decide) : PE X (.Name x pos) (tC (.int i)) := by
  obtain ⟨t, h⟩ := hm
  exact pe_glob hg h ⟨t, rfl⟩ hd
theorem pe_ty {X : Cx} {x : Str} {pos : Pos} (n : String) (hm : X.mg x = none) (hv : bootBuiltins x = some (.type n) := by decide +kernel) (hg : Gl X x := by rfl) (hn : x ≠ "__name__" := by decide) (hd : (x == ("__debug__" : Str)) = false := by decide) : PE X (.Name x pos) (tC (.ty n)) := pe_bltn hg hm hv rfl hn hd
theorem pe_cls {X : Cx} {x : Str} {C : Addr} {pos : Pos} (hm : X.mg x = some (.ref C)) (hg : Gl X x := by rfl) (hd : (x == ("__debug__" : Str)) = false := by decide) : PE X (.Name x pos) (tC (.ref C)) := pe_glob (v := .ref C) hg hm rfl hd
mutual
/-- the value v stands for the data d, all of it tracked and none of it at p -/
inductive Rp (p : Addr) (H : Hp) : V → PyData → Prop
  | non : Rp p H .non .none
  | bl (b : Bool) : Rp p H (.bl b) (.bool b)
  | int (i : Int) : Rp p H (.int i) (.int i)
  | str (x : Str) : Rp p H (.str x) (.str x)
  | lst {a : Addr} {xs : List V} {ds : List PyData} : H a = some (.lst xs) → a ≠ p → Rps p H xs ds → Rp p H (.ref a) (.list ds)
  | tup {a : Addr} {xs : List V} {ds : List PyData} : H a = some (.tup xs) → a ≠ p → xs.length ≤ 100000 → Rps p H xs ds → Rp p H (.ref a) (.tuple ds)
inductive Rps (p : Addr) (H : Hp) : List V → List PyData → Prop
  | nil : Rps p H [] []
  | cons {v : V} {vs : List V} {d : PyData} {ds : List PyData} : Rp p H v d → Rps p H vs ds → Rps p H (v :: vs) (d :: ds)
end
mutual
theorem Rp.mono {p : Addr} {H H' : Hp} (k : But p H H') : ∀ {v : V} {d : PyData}, Rp p H v d → Rp p H' v d
  | _, _, .non => .non
  | _, _, .bl b => .bl b
  | _, _, .int i => .int i
  | _, _, .str x => .str x
  | _, _, .lst h n r => .lst (k _ _ h n) n (Rps.mono k r)
  | _, _, .tup h n l r => .tup (k _ _ h n) n l (Rps.mono k r)
theorem Rps.mono {p : Addr} {H H' : Hp} (k : But p H H') : ∀ {vs : List V} {ds : List PyData}, Rps p H vs ds → Rps p H' vs ds
  | _, _, .nil => .nil
  | _, _, .cons a b => .cons (Rp.mono k a) (Rps.mono k b)
end
mutual
theorem Rp.dp {p : Addr} {K : PySem.W.Frag} {H : Hp} : ∀ {v : V} {d : PyData}, Rp p H v d → Dp K H v d
  | _, _, .non => .non
  | _, _, .bl b => .bl b
  | _, _, .int i => .int i
  | _, _, .str x => .str x
  | _, _, .lst h n r => .lst (SqL.of h) (Rps.dp r)
  | _, _, .tup h n _ r => .tup (SqT.of h) (Rps.dp r)
theorem Rps.dp {p : Addr} {K : PySem.W.Frag} {H : Hp} : ∀ {vs : List V} {ds : List PyData}, Rps p H vs ds → DpAll K H vs ds
  | _, _, .nil => .nil
  | _, _, .cons a b => .cons (Rp.dp a) (Rps.dp b)
end
theorem Rp.same {p : Addr} {H H' : Hp} {v : V} {d : PyData} (k : Same H H') (h : Rp p H v d) : Rp p H' v d := h.mono (But.of k)
theorem Rps.same {p : Addr} {H H' : Hp} {vs : List V} {ds : List PyData} (k : Same H H') (h : Rps p H vs ds) : Rps p H' vs ds := h.mono (But.of k)
theorem Rps.length {p : Addr} {H : Hp} : ∀ {vs : List V} {ds : List PyData}, Rps p H vs ds → vs.length = ds.length
  | _, _, .nil => rfl
  | _, _, .cons _ r => by rw [List.length_cons, List.length_cons, Rps.length r]
theorem Rps.at {p : Addr} {H : Hp} : ∀ {vs : List V} {ds : List PyData} {i : Nat} {v : V}, Rps p H vs ds → vs[i]? = some v → ∃ d, ds[i]? = some d ∧ Rp p H v d
  | _, _, i, v, .nil, h => by simp at h
  | _, _, 0, v, .cons a _, h => by cases h; exact ⟨_, rfl, a⟩
  | _, _, i + 1, v, .cons _ r, h => Rps.at (i := i) r (by simpa using h)
theorem Rps.get {p : Addr} {H : Hp} : ∀ {vs : List V} {ds : List PyData} {i : Nat} {d : PyData}, Rps p H vs ds → ds[i]? = some d → ∃ v, vs[i]? = some v ∧ Rp p H v d
  | _, _, i, v, .nil, h => by simp at h
  | _, _, 0, v, .cons a _, h => by cases h; exact ⟨_, rfl, a⟩
  | _, _, i + 1, v, .cons _ r, h => Rps.get (i := i) r (by simpa using h)
theorem Rps.append {p : Addr} {H : Hp} : ∀ {vs ws : List V} {ds es : List PyData}, Rps p H vs ds → Rps p H ws es → Rps p H (vs ++ ws) (ds ++ es)
  | _, _, _, _, .nil, r => r
  | _, _, _, _, .cons a q, r => .cons a (Rps.append q r)
theorem Rps.take {p : Addr} {H : Hp} : ∀ {vs : List V} {ds : List PyData} (n : Nat), Rps p H vs ds → Rps p H (vs.take n) (ds.take n)
  | _, _, 0, _ => .nil
  | _, _, n + 1, .nil => .nil
  | _, _, n + 1, .cons a q => .cons a (Rps.take n q)
theorem Rps.drop {p : Addr} {H : Hp} : ∀ {vs : List V} {ds : List PyData} (n : Nat), Rps p H vs ds → Rps p H (vs.drop n) (ds.drop n)
  | _, _, 0, r => r
  | _, _, n + 1, .nil => .nil
  | _, _, n + 1, .cons a q => Rps.drop n q
/-! ### classes of data -/
def tyD : PyData → Value
  | .none => .type "NoneType" | .bool _ => .type "bool" | .int _ => .type "int" | .str _ => .type "str" | .list _ => .type "list" | .tuple _ => .type "tuple" | .dict _ => .type "dict"
theorem Rp.ty {p : Addr} {K : PySem.W.Frag} {H : Hp} {v : V} {d : PyData} (h : Rp p H v d) : TyX K H v (tyD d) := by
  cases h with
  | non => exact .base .non
  | bl b => exact .base (.bl b)
  | int i => exact .base (.int i)
  | str x => exact .base (.str x)
  | lst h _ _ => exact .base (.lst h)
  | tup h _ _ _ => exact .base (.tup h)
def dInt : PyData → Bool
  | .int _ => true | .bool _ => true | _ => false
def dBool : PyData → Bool
  | .bool _ => true | _ => false
def dStr : PyData → Bool
  | .str _ => true | _ => false
def dTup : PyData → Bool
  | .tuple _ => true | _ => false
theorem kit_int {K : PySem.W.Frag} : ∀ d : PyData, PySem.W.kitOne K (tyD d) (.type "int") = some (dInt d)
  | .none => kit_ty (r := false) (by decide +kernel)
  | .bool _ => kit_ty (r := true) (by decide +kernel)
  | .int _ => kit_ty (r := true) (by decide +kernel)
  | .str _ => kit_ty (r := false) (by decide +kernel)
  | .list _ => kit_ty (r := false) (by decide +kernel)
  | .tuple _ => kit_ty (r := false) (by decide +kernel)
  | .dict _ => kit_ty (r := false) (by decide +kernel)
theorem kit_bool {K : PySem.W.Frag} : ∀ d : PyData, PySem.W.kitOne K (tyD d) (.type "bool") = some (dBool d)
  | .none => kit_ty (r := false) (by decide +kernel)
  | .bool _ => kit_ty (r := true) (by decide +kernel)
  | .int _ => kit_ty (r := false) (by decide +kernel)
  | .str _ => kit_ty (r := false) (by decide +kernel)
  | .list _ => kit_ty (r := false) (by decide +kernel)
  | .tuple _ => kit_ty (r := false) (by decide +kernel)
  | .dict _ => kit_ty (r := false) (by decide +kernel)
theorem kit_str {K : PySem.W.Frag} : ∀ d : PyData, PySem.W.kitOne K (tyD d) (.type "str") = some (dStr d)
  | .none => kit_ty (r := false) (by decide +kernel)
  | .bool _ => kit_ty (r := false) (by decide +kernel)
  | .int _ => kit_ty (r := false) (by decide +kernel)
  | .str _ => kit_ty (r := true) (by decide +kernel)
  | .list _ => kit_ty (r := false) (by decide +kernel)
  | .tuple _ => kit_ty (r := false) (by decide +kernel)
  | .dict _ => kit_ty (r := false) (by decide +kernel)
theorem kit_tup {K : PySem.W.Frag} : ∀ d : PyData, PySem.W.kitOne K (tyD d) (.type "tuple") = some (dTup d)
  | .none => kit_ty (r := false) (by decide +kernel)
  | .bool _ => kit_ty (r := false) (by decide +kernel)
  | .int _ => kit_ty (r := false) (by decide +kernel)
  | .str _ => kit_ty (r := false) (by decide +kernel)
  | .list _ => kit_ty (r := false) (by decide +kernel)
  | .tuple _ => kit_ty (r := true) (by decide +kernel)
  | .dict _ => kit_ty (r := false) (by decide +kernel)
end Mus
namespace Mus
open PySem L2
/-! ### members and view ids, as functions of data -/
def isInt (d : PyData) (a b : Int) : Bool := match d with | .int i => decide (a ≤ i) && decide (i ≤ b) | _ => false
def isProc (c d : PyData) : Bool := match c with | .int n => (decide (1 ≤ n) && decide (n ≤ 12)) && isInt d 0 (n - 1) | _ => false
def isMem (c : PyData) : PyData → Bool
  | .tuple [x, y] => isProc c x && isInt y 1 1000000000000
  | _ => false
def isVid (c : PyData) : PyData → Bool
  | .tuple [x, y] => isInt x 0 1000000000000 && isMem c y
  | _ => false
def procOf : PyData → Int
  | .tuple (.int i :: _) => i
  | _ => 0
def memsFrom (c : PyData) : Int → List PyData → Bool
  | _, [] => true
  | l, d :: ds => isMem c d && decide (l < procOf d) && memsFrom c (procOf d) ds
def isMems (c : PyData) : PyData → Bool
  | .tuple ds => !ds.isEmpty && memsFrom c (-1) ds
  | _ => false
theorem isProc_int {c d : PyData} (h : isProc c d = true) : ∃ n i, c = .int n ∧ d = .int i ∧ 1 ≤ n ∧ n ≤ 12 ∧ 0 ≤ i ∧ i < n := by
  cases c <;> try (simp [isProc] at h; done)
  rename_i n
  cases d <;> try (simp [isProc, isInt] at h; done)
  rename_i i
  simp [isProc, isInt] at h
  exact ⟨n, i, rfl, rfl, by omega, by omega, by omega, by omega⟩
theorem isInt_int {d : PyData} {a b : Int} (h : isInt d a b = true) : ∃ i, d = .int i ∧ a ≤ i ∧ i ≤ b := by
  cases d <;> try (simp [isInt] at h; done)
  rename_i i
  simp [isInt] at h
  exact ⟨i, rfl, h.1, h.2⟩
theorem isMem_int {c d : PyData} (h : isMem c d = true) : ∃ n i l, c = .int n ∧ d = .tuple [.int i, .int l] ∧ 1 ≤ n ∧ n ≤ 12 ∧ 0 ≤ i ∧ i < n ∧ 1 ≤ l ∧ l ≤ 1000000000000 := by
  unfold isMem at h
  split at h
  · rename_i x y
    rw [Bool.and_eq_true] at h
    obtain ⟨n, i, rfl, rfl, h1, h2, h3, h4⟩ := isProc_int h.1
    obtain ⟨l, rfl, h5, h6⟩ := isInt_int h.2
    exact ⟨n, i, l, rfl, rfl, h1, h2, h3, h4, h5, h6⟩
  · cases h
/-! ### promises: a truth told of data, nothing changed -/
def spI : Sp := fun vs H Q _ => ∃ (p : Addr) (v : V) (d : PyData) (a b : Int), vs = [v, .int a, .int b] ∧ Rp p H v d ∧ Q (.bl (isInt d a b)) H
def spB1 (f : PyData → Bool) : Sp := fun vs H Q _ => ∃ (p : Addr) (v : V) (d : PyData), vs = [v] ∧ Rp p H v d ∧ Q (.bl (f d)) H
def spB2 (f : PyData → PyData → Bool) : Sp := fun vs H Q _ => ∃ (p : Addr) (u v : V) (c d : PyData), vs = [u, v] ∧ Rp p H u c ∧ Rp p H v d ∧ Q (.bl (f c d)) H
/-- the same where new things may have come -/
def spS1 (f : PyData → Bool) : Sp := fun vs H Q _ => ∃ (p : Addr) (v : V) (d : PyData), vs = [v] ∧ Rp p H v d ∧ ∀ H', Same H H' → Q (.bl (f d)) H'
def spS2 (f : PyData → PyData → Bool) : Sp := fun vs H Q _ => ∃ (p : Addr) (u v : V) (c d : PyData), vs = [u, v] ∧ Rp p H u c ∧ Rp p H v d ∧ ∀ H', Same H H' → Q (.bl (f c d)) H'
theorem ansB {Q : VK} {H : Hp} {b c : Bool} (q : Q (.bl b) H) (e : b = c) : Q (.bl c) H := e ▸ q
theorem iB {A B : Prop} {b : Bool} (h1 : b = true → A) (h2 : b = false → B) : if b = true then A else B := by
  cases b
  · exact iteF (h2 rfl)
  · exact iteT (h1 rfl)
theorem vint_ne {a b : Int} (h : a ≠ b) : ¬ V.int a = V.int b := fun e => h (V.int.inj e)
theorem drop_cons {α : Type} {xs : List α} {i : Nat} {x : α} (h : xs[i]? = some x) : xs.drop i = x :: xs.drop (i + 1) := by
  obtain ⟨hi, e⟩ := List.getElem?_eq_some_iff.mp h
  rw [List.drop_eq_getElem_cons hi, e]
section
variable {P : Program} {w : World} {K : PySem.W.Frag} {mg : Str → Option Value} {base : Heap}
theorem no_call {CX : CXT} {k : Nat} {f : Addr} {fd : FuncData} {ps : List Str} {sp : Sp} (no : ∀ vs H Q E, ¬ sp vs H Q E) : FnOk P w K mg base CX k f fd ps sp :=
  ⟨fun vs H Q E h => absurd h (no vs H Q E), fun A outer s H args us vs Q E _ _ _ _ h => absurd h (no vs H Q E)⟩
end
end Mus

set_option maxRecDepth 100000
set_option maxHeartbeats 4000000
/-! The bag of a law's draws, new things beside it, displays of data, tuples cut and joined. -/
namespace Mus
open PySem L2
def Bag (p : Addr) (c : Int) (H : Hp) : Prop := ∃ x y : Int, H p = some (.lst [.int x, .int y, .int c])
theorem Bag.seqT {K : PySem.W.Frag} {p : Addr} {c : Int} {H H' : Hp} (g : Bag p c H) (b : But p H H') {a : Addr} {xs : List V} (h : SqT K H a xs) : SqT K H' a xs := by
  obtain ⟨x, y, hp⟩ := g
  exact b.seqT hp h
theorem Bag.ne {p D : Addr} {c : Int} {H : Hp} (g : Bag p c H) (h : H D = none) : p ≠ D := by
  obtain ⟨x, y, hp⟩ := g
  exact ne_of_none hp h
theorem Bag.upd {p D : Addr} {c : Int} {H : Hp} {o : HO} (g : Bag p c H) (h : p ≠ D) : Bag p c (upd H D o) := by
  obtain ⟨x, y, hp⟩ := g
  exact ⟨x, y, by rw [upd_ne h]; exact hp⟩
theorem Bag.new {p D : Addr} {c : Int} {H : Hp} {o : HO} (g : Bag p c H) (h : H D = none) : Bag p c (L2.upd H D o) := g.upd (g.ne h)
theorem Bag.same {p : Addr} {c : Int} {H H' : Hp} (g : Bag p c H) (s : Same H H') : Bag p c H' := by
  obtain ⟨x, y, hp⟩ := g
  exact ⟨x, y, s _ _ hp⟩
/-- a new thing -/
theorem But.new {p D : Addr} {H H' : Hp} {o : HO} (b : But p H H') (h : H' D = none) : But p H (L2.upd H' D o) := fun a u e n => by
  have z := b a u e n
  rw [upd_ne (ne_of_none z h)]; exact z
/-- a change at what was not there at first -/
theorem But.later {p D : Addr} {H H' : Hp} {o : HO} (b : But p H H') (h : H D = none) : But p H (L2.upd H' D o) := fun a u e n => by
  rw [upd_ne (ne_of_none e h)]; exact b a u e n
theorem But.free {p D : Addr} {H H' : Hp} (b : But p H H') (h : H' D = none) (n : D ≠ p) : H D = none := by
  cases e : H D with
  | none => rfl
  | some o =>
    have z := b D o e n
    rw [h] at z; cases z
/-! ### displays -/
/-- the expression gives the int i, and that is all -/
def DI (te : TE) (σ : St) (i : Int) : Prop := ∀ (H : Hp) (Q : VK), Q (.int i) H → te σ H Q
/-- the expression gives the data d, new things beside what was -/
def DE (p : Addr) (te : TE) (σ : St) (d : PyData) : Prop := ∀ (c : Int) (H : Hp) (Q : VK), Bag p c H → (∀ v H', Same H H' → Bag p c H' → Rp p H' v d → Q v H') → te σ H Q
def DEs (p : Addr) (ta : TA) (σ : St) (ds : List PyData) : Prop := ∀ (c : Int) (H : Hp) (Q : List V → Hp → Prop), Bag p c H → (∀ vs H', Same H H' → Bag p c H' → Rps p H' vs ds → Q vs H') → ta σ H Q
section
variable {p : Addr} {σ : St} {te ta1 tb1 : TE} {ta : TA} {i j : Int} {d : PyData} {ds : List PyData}
theorem Same.rfl' (H : Hp) : Same H H := fun _ _ h => h
theorem di_c : DI (tC (.int i)) σ i := fun _ _ q => q
theorem di_v {n : Nat} (h : σ[n]? = some (some (.int i))) : DI (tVar n) σ i := fun _ _ q => ⟨_, h, q⟩
theorem di_op {f : Int → Int → Int} (h1 : DI ta1 σ i) (h2 : DI tb1 σ j) : DI (tOp (rI0 fun i j => .int (f i j)) ta1 tb1) σ (f i j) := fun H Q q => h1 H _ (h2 H _ ⟨i, j, rfl, rfl, q⟩)
theorem di_opC {C : Int → Int → Prop} {f : Int → Int → Int} (h1 : DI ta1 σ i) (h2 : DI tb1 σ j) (hc : C i j) : DI (tOp (rI C fun i j => .int (f i j)) ta1 tb1) σ (f i j) := fun H Q q => h1 H _ (h2 H _ ⟨i, j, rfl, rfl, hc, q⟩)
theorem di_neg (h1 : DI te σ i) : DI (tUn (rU fun i => .int (-i)) te) σ (-i) := fun H Q q => h1 H _ ⟨i, rfl, q⟩
theorem de_i (h : DI te σ i) : DE p te σ (.int i) := fun c H Q g q => h H Q (q _ H (Same.rfl' H) g (.int i))
theorem de_bl {b : Bool} : DE p (tC (.bl b)) σ (.bool b) := fun c H Q g q => q _ H (Same.rfl' H) g (.bl b)
theorem de_str {z : Str} : DE p (tC (.str z)) σ (.str z) := fun c H Q g q => q _ H (Same.rfl' H) g (.str z)
theorem de_non : DE p (tC .non) σ .none := fun c H Q g q => q _ H (Same.rfl' H) g .non
theorem des_nil : DEs p tNil σ [] := fun c H Q g q => q [] H (Same.rfl' H) g .nil
theorem des_cons (h1 : DE p te σ d) (h2 : DEs p ta σ ds) : DEs p (tCons te ta) σ (d :: ds) := fun c H Q g q =>
  h1 c H _ g fun v H1 s1 g1 r1 => h2 c H1 _ g1 fun vs H2 s2 g2 r2 => q _ H2 (s1.trans s2) g2 (.cons (r1.same s2) r2)
theorem de_tup (h : DEs p ta σ ds) (hl : ds.length ≤ 1000) : DE p (tTup ta) σ (.tuple ds) := fun c H Q g q =>
  h c H _ g fun vs H1 s1 g1 r1 => ⟨by have := r1.length; have := sl; omega, fun a na => q _ _ (s1.trans (same_new na _)) (g1.new na) (.tup upd_same (g1.ne na).symm (by have := r1.length; omega) (r1.same (same_new na _)))⟩
theorem de_lst (h : DEs p ta σ ds) (hl : ds.length ≤ 1000) : DE p (tLst ta) σ (.list ds) := fun c H Q g q =>
  h c H _ g fun vs H1 s1 g1 r1 => ⟨by have := r1.length; have := sl; omega, fun a na => q _ _ (s1.trans (same_new na _)) (g1.new na) (.lst upd_same (g1.ne na).symm (r1.same (same_new na _)))⟩
theorem de_lstN (n : Nat) (R : PyData → Prop) {c : Int} {H : Hp} {Q : VK} (h : ∃ ds, DEs p ta σ ds ∧ ds.length = n ∧ ∀ d ∈ ds, R d) (hn : n ≤ 1000) (g : Bag p c H)
    (q : ∀ ds v H', ds.length = n → (∀ d ∈ ds, R d) → Same H H' → Bag p c H' → Rp p H' v (.list ds) → Q v H') : tLst ta σ H Q := by
  obtain ⟨ds, h1, h2, h3⟩ := h
  exact de_lst h1 (by omega) c H Q g fun v H' => q ds v H' h2 h3
theorem de_cat {es : List PyData} (h1 : DE p ta1 σ (.list ds)) (h2 : DE p tb1 σ (.list es)) (hl : ds.length + es.length ≤ 1000) : DE p (tOp rCat ta1 tb1) σ (.list (ds ++ es)) := fun c H Q g q =>
  h1 c H _ g fun v H1 s1 g1 r1 => h2 c H1 _ g1 fun u H2 s2 g2 r2 => by
    obtain _ | _ | _ | _ | @⟨a, xs, _, ha, na, hr⟩ | _ := r1.same s2
    obtain _ | _ | _ | _ | @⟨b, ys, _, hb, nb, hr2⟩ | _ := r2
    refine ⟨a, b, xs, ys, rfl, rfl, ha, hb, ?_, fun t nt => q _ _ (s1.trans (s2.trans (same_new nt _))) (g2.new nt) (.lst upd_same (g2.ne nt).symm ((hr.append hr2).same (same_new nt _)))⟩
    have := hr.length; have := hr2.length; have := sl; omega
theorem de_varD {n : Nat} {v : V} (h : σ[n]? = some (some v)) (hd : ∀ H, Rp p H v d) : DE p (tVar n) σ d := fun c H Q g q => ⟨_, h, q _ H (Same.rfl' H) g (hd H)⟩
end
/-! ### tuples cut and joined -/
def cutD (ds : List PyData) (lo hi : Option Int) : List PyData := (ds.drop (HT.sIx ds.length 0 lo)).take (HT.sIx ds.length ds.length hi - HT.sIx ds.length 0 lo)
theorem Rps.cut {p : Addr} {H : Hp} {vs : List V} {ds : List PyData} (r : Rps p H vs ds) (lo hi : Option Int) : Rps p H (cutV vs lo hi) (cutD ds lo hi) := by
  unfold cutV cutD
  rw [r.length]
  exact (r.drop _).take _
theorem cutD_len (ds : List PyData) (lo hi : Option Int) : (cutD ds lo hi).length ≤ ds.length := by
  unfold cutD
  rw [List.length_take, List.length_drop]; omega
theorem cutD_mem {ds : List PyData} {lo hi : Option Int} {d : PyData} (h : d ∈ cutD ds lo hi) : d ∈ ds := List.mem_of_mem_drop (List.mem_of_mem_take h)
theorem cut_whole {xs : List V} {lo hi : Option Int} (h : HT.sIx xs.length 0 lo = 0 ∧ HT.sIx xs.length xs.length hi = xs.length) : cutV xs lo hi = xs := by
  unfold cutV
  rw [h.1, h.2, List.drop_zero, Nat.sub_zero, List.take_length]
section
variable {K : PySem.W.Frag} {p : Addr} {c : Int} {H : Hp} {Q : VK}
theorem rd_cut {a : Addr} {ds : List PyData} {lo hi : Option Int} (r : Rp p H (.ref a) (.tuple ds)) (g : Bag p c H)
    (q : ∀ b H', Same H H' → Bag p c H' → Rp p H' (.ref b) (.tuple (cutD ds lo hi)) → Q (.ref b) H') : rSlA K (.ref a) lo hi H Q := by
  obtain _ | _ | _ | _ | _ | @⟨_, xs, _, ha, na, hw, hr⟩ := r
  refine ⟨a, xs, rfl, SqT.of ha, fun w => ?_, fun w b nb => ?_⟩
  · refine q _ _ (Same.rfl' H) g (.tup ha na hw ?_)
    have z := hr.cut lo hi
    rw [cut_whole w] at z
    exact z
  · exact q _ _ (same_new nb _) (g.new nb) (.tup upd_same (g.ne nb).symm (Nat.le_trans (cutV_length _ _ _) hw) ((hr.cut lo hi).same (same_new nb _)))
theorem rd_cat {a b : Addr} {ds es : List PyData} (r1 : Rp p H (.ref a) (.tuple ds)) (r2 : Rp p H (.ref b) (.tuple es)) (g : Bag p c H) (hl : ds.length + es.length ≤ 100000)
    (q : ∀ t H', Same H H' → Bag p c H' → Rp p H' (.ref t) (.tuple (ds ++ es)) → Q (.ref t) H') : rCatA K (.ref a) (.ref b) H Q := by
  have k2 := r2
  have k1 := r1
  obtain _ | _ | _ | _ | _ | @⟨_, xs, _, ha, na, hw, hr⟩ := r1
  obtain _ | _ | _ | _ | _ | @⟨_, ys, _, hb, nb, hw2, hr2⟩ := r2
  have l1 := hr.length
  have l2 := hr2.length
  have hs := sl
  refine ⟨a, b, xs, ys, rfl, rfl, SqT.of ha, SqT.of hb, by omega, fun e => ?_, fun _ e => ?_, fun _ _ t nt => ?_⟩
  · subst e
    cases ds with
    | nil => exact q _ _ (Same.rfl' H) g k2
    | cons _ _ => cases l1
  · subst e
    cases es with
    | nil => rw [List.append_nil] at q; exact q _ _ (Same.rfl' H) g k1
    | cons _ _ => cases l2
  · exact q _ _ (same_new nt _) (g.new nt) (.tup upd_same (g.ne nt).symm (by rw [List.length_append]; omega) ((hr.append hr2).same (same_new nt _)))
end
/-! ### how deep and wide, what its texts are -/
def fit : Nat → PyData → Prop
  | 0, .tuple _ => False
  | n + 1, .tuple ds => ds.length ≤ 3000 ∧ ∀ d ∈ ds, fit n d
  | _, _ => True
inductive Her (P : Str → Prop) : PyData → Prop
  | tup {ds : List PyData} : (∀ d ∈ ds, Her P d) → Her P (.tuple ds)
  | str {z : Str} : P z → Her P (.str z)
  | non : Her P .none
  | bl (b : Bool) : Her P (.bool b)
  | int (i : Int) : Her P (.int i)
  | lst (ds : List PyData) : Her P (.list ds)
theorem Her.mem {P : Str → Prop} {ds : List PyData} (h : Her P (.tuple ds)) : ∀ d ∈ ds, Her P d := by
  cases h with
  | tup h => exact h
theorem Her.cut {P : Str → Prop} {ds : List PyData} (h : Her P (.tuple ds)) (lo hi : Option Int) : Her P (.tuple (cutD ds lo hi)) := .tup fun d m => h.mem d (cutD_mem m)
theorem Her.app {P : Str → Prop} {ds es : List PyData} (h : Her P (.tuple ds)) (k : Her P (.tuple es)) : Her P (.tuple (ds ++ es)) := .tup fun d m => by
  rcases List.mem_append.mp m with m | m
  · exact h.mem d m
  · exact k.mem d m
theorem Her.one {P : Str → Prop} {d : PyData} (h : Her P d) : Her P (.tuple [d]) := .tup fun e m => by rw [List.mem_singleton.mp m]; exact h
/-- one level less, if there is one -/
def spv (sp : Nat → Sp) (n : Nat) : Sp := fun vs H Q E => ∃ m, n = m + 1 ∧ sp m vs H Q E
/-- a thing spoilt: some data, its texts from the two -/
def sp_spoilt (n : Nat) : Sp := fun vs H Q _ => ∃ (p : Addr) (c : Int) (v o : V) (d e : PyData), vs = [.ref p, v, o] ∧ Bag p c H ∧ Rp p H v d ∧ Rp p H o e ∧ fit n d ∧
  ∀ v' d' H', Rp p H' v' d' → (∀ P, Her P d → Her P e → Her P d') → But p H H' → Bag p c H' → Q v' H'
def sp_bag (K : PySem.W.Frag) : Sp := fun vs H Q _ => ∃ (a : Addr) (ns : List Int) (k : Nat), vs = [.ref a, .int k] ∧ SqL K H a (ns.map V.int) ∧ ∀ p H', H p = none → Same H H' → Bag p k H' → Q (.ref p) H'
def sp_draw : Sp := fun vs H Q _ => ∃ (p : Addr) (c m : Int), vs = [.ref p, .int m] ∧ Bag p c H ∧ 0 < m ∧ m.natAbs < 2 ^ 100 ∧ ∀ r H', 0 ≤ r → r < m → But p H H' → Bag p c H' → Q (.int r) H'
/-- an int at least 1 and at most 10 ** 12 -/
def sp_pos : Sp := fun vs H Q _ => ∃ (p : Addr) (c : Int), vs = [.ref p] ∧ Bag p c H ∧ ∀ r H', 1 ≤ r → r ≤ 1000000000000 → But p H H' → Bag p c H' → Q (.int r) H'
end Mus
namespace Mus
open PySem L2
/-- no list in it -/
inductive NoL : PyData → Prop
  | tup {ds : List PyData} : (∀ d ∈ ds, NoL d) → NoL (.tuple ds)
  | str (z : Str) : NoL (.str z)
  | non : NoL .none
  | bl (b : Bool) : NoL (.bool b)
  | int (i : Int) : NoL (.int i)
theorem NoL.mem {ds : List PyData} (h : NoL (.tuple ds)) : ∀ d ∈ ds, NoL d := by
  cases h with
  | tup h => exact h
theorem NoL.two {a b : PyData} (h : NoL a) (k : NoL b) : NoL (.tuple [a, b]) := .tup fun d m => by
  rcases List.mem_cons.mp m with rfl | m
  · exact h
  · rw [List.mem_singleton.mp m]; exact k
theorem NoL.three {a b c : PyData} (h : NoL a) (k : NoL b) (l : NoL c) : NoL (.tuple [a, b, c]) := .tup fun d m => by
  rcases List.mem_cons.mp m with rfl | m
  · exact h
  · rcases List.mem_cons.mp m with rfl | m
    · exact k
    · rw [List.mem_singleton.mp m]; exact l
mutual
theorem Rp.upL {p D : Addr} {H H' : Hp} {ys : List V} (hD : H D = some (.lst ys)) (k : ∀ b o, H b = some o → b ≠ p → b ≠ D → H' b = some o) : ∀ {v : V} {d : PyData}, Rp p H v d → NoL d → Rp p H' v d
  | _, _, .non, _ => .non
  | _, _, .bl b, _ => .bl b
  | _, _, .int i, _ => .int i
  | _, _, .str x, _ => .str x
  | _, _, .lst h n r, z => nomatch z
  | _, _, .tup h n l r, z => .tup (k _ _ h n (ne_of h hD (by intro z; cases z))) n l (Rps.upL hD k r z.mem)
theorem Rps.upL {p D : Addr} {H H' : Hp} {ys : List V} (hD : H D = some (.lst ys)) (k : ∀ b o, H b = some o → b ≠ p → b ≠ D → H' b = some o) : ∀ {vs : List V} {ds : List PyData}, Rps p H vs ds → (∀ d ∈ ds, NoL d) → Rps p H' vs ds
  | _, _, .nil, _ => .nil
  | _, _, .cons a b, z => .cons (Rp.upL hD k a (z _ List.mem_cons_self)) (Rps.upL hD k b fun d m => z d (List.mem_cons_of_mem _ m))
end
/-- a change at the list at D -/
theorem Rps.updL {p D : Addr} {H : Hp} {ys : List V} {o : HO} (hD : H D = some (.lst ys)) {vs : List V} {ds : List PyData} (r : Rps p H vs ds) (z : ∀ d ∈ ds, NoL d) : Rps p (upd H D o) vs ds :=
  r.upL hD (fun b o h _ n => by rw [upd_ne n]; exact h) z
theorem Rp.updL {p D : Addr} {H : Hp} {ys : List V} {o : HO} (hD : H D = some (.lst ys)) {v : V} {d : PyData} (r : Rp p H v d) (z : NoL d) : Rp p (upd H D o) v d :=
  r.upL hD (fun b o h _ n => by rw [upd_ne n]; exact h) z
end Mus

set_option maxRecDepth 100000
set_option maxHeartbeats 4000000
/-! Methods and makers of own classes, as DefOk is for defs. -/
namespace Mus
open PySem L2
structure MethOk (P : Program) (w : World) (K : PySem.W.Frag) (mg : Str → Option Value) (base : Heap) (CX : CXT) (C : Addr) (x : Str) (ps : List Str) (k : Nat) (sp : Sp) where
  f : Addr
  fd : FuncData
  G : FnOk P w K mg base CX k f fd ps sp
  m : Meth K C x f
  b : Binds K fd ps []
structure MethAt (K : PySem.W.Frag) (C : Addr) (x qual : Str) (ps : List Str) (st : Stmt) where
  f : Addr
  fd : FuncData
  F : Fun K x qual st f fd
  m : Meth K C x f
  b : Binds K fd ps []
def MethAt.ok {P : Program} {w : World} {K : PySem.W.Frag} {mg : Str → Option Value} {base : Heap} {CX : CXT} {C : Addr} {x qual : Str} {ps : List Str} {st : Stmt} {k : Nat} {sp : Sp} (d : MethAt K C x qual ps st) (h : ∀ {f : Addr} {fd : FuncData}, Fun K x qual st f fd → FnOk P w K mg base CX k f fd ps sp) : MethOk P w K mg base CX C x ps k sp :=
  ⟨d.f, d.fd, h d.F, d.m, d.b⟩
/-- a class whose __init__ keeps the promise -/
structure MkOk (P : Program) (w : World) (K : PySem.W.Frag) (mg : Str → Option Value) (base : Heap) (C : Addr) (x : Str) (ps : List Str) (k : Nat) (sp : Sp) where
  f : Addr
  fd : FuncData
  G : FnOk P w K mg base CX0 k f fd ps sp
  M : Mk K C f
  g : mg x = some (.ref C)
  b : Binds K fd ps []
def MethAt.mk' {P : Program} {w : World} {K : PySem.W.Frag} {mg : Str → Option Value} {base : Heap} {C : Addr} {x : Str} {qual : Str} {ps : List Str} {st : Stmt} {k : Nat} {sp : Sp} (d : MethAt K C "__init__" qual ps st) (hm : PySem.W.makesIn K C = true) (hk : PySem.W.keepIn K (.ref C) = true) (g : mg x = some (.ref C))
    (h : ∀ {f : Addr} {fd : FuncData}, Fun K "__init__" qual st f fd → FnOk P w K mg base CX0 k f fd ps sp) : MkOk P w K mg base C x ps k sp :=
  ⟨d.f, d.fd, h d.F, ⟨hm, d.m.at_, d.m.fn, hk⟩, g, d.b⟩
section
variable {X : Cx} {C : Addr} {x m : Str} {ps : List Str} {j k : Nat} {sp : Sp} {o e : Expr} {es : List Expr} {to : TE} {t : TA} {p pos apos : Pos}
theorem pmeth {pl : Sem Bool} (c : MethOk X.prog X.w X.K X.mg X.base CX0 C m ps j sp) (cl : Cls X.K C) (ho : PE X o to) (hr : Room k X.A) (ha : PA X (e :: es) t) (hj : j ≤ k := by first | decide | omega)
    (st0 : starEach (e :: es) X.env = (false, eval e X.env) :: starEach es X.env := by rfl) (pl0 : (backTo pos (starEach es X.env)).any (·.1) = false := by rfl)
    (ht : eval (.Call (.Attribute o m apos) (e :: es) [] pos) X.env = (do
      let v ← eval o X.env; standAt apos.atName; let (f, one) ← holding [v] (getMethod v m pl)
      callWith pos f one (backTo pos (starEach (e :: es) X.env)) (backToKw pos (keywordEach [] X.env))) := by rfl) :
    PE X (.Call (.Attribute o m apos) (e :: es) [] pos) (tMeth C m sp [] E0 to t) := pe_meth ho cl c.m c.G (hr.mono hj) c.b .nil pass0 ha st0 pl0 ht
theorem pmeth0 {pl : Sem Bool} (c : MethOk X.prog X.w X.K X.mg X.base CX0 C m ps j sp) (cl : Cls X.K C) (ho : PE X o to) (hr : Room k X.A) (hj : j ≤ k := by first | decide | omega)
    (ht : eval (.Call (.Attribute o m apos) [] [] pos) X.env = (do
      let v ← eval o X.env; standAt apos.atName; let (f, one) ← holding [v] (getMethod v m pl)
      callWith pos f one (backTo pos (starEach [] X.env)) (backToKw pos (keywordEach [] X.env))) := by rfl) :
    PE X (.Call (.Attribute o m apos) [] [] pos) (tMeth C m sp [] E0 to tNil) := pe_meth0 ho cl c.m c.G (hr.mono hj) c.b .nil pass0 ht
theorem pmake (c : MkOk X.prog X.w X.K X.mg X.base C x ps j sp) (hr : Room k X.A) (ha : PA X (e :: es) t) (hj : j + 1 ≤ k := by first | decide | omega) (hg : Gl X x := by rfl)
    (d0 : (x == ("__debug__" : Str)) = false := by decide) (st0 : starEach (e :: es) X.env = (false, eval e X.env) :: starEach es X.env := by rfl) (pl0 : (backTo pos (starEach es X.env)).any (·.1) = false := by rfl) :
    PE X (.Call (.Name x p) (e :: es) [] pos) (tMake C sp [] E0 t) := pe_make c.M c.G (hr.mono hj) hg c.g c.b .nil pass0 ha d0 st0 pl0
theorem pmake0 (c : MkOk X.prog X.w X.K X.mg X.base C x ps j sp) (hr : Room k X.A) (hj : j + 1 ≤ k := by first | decide | omega) (hg : Gl X x := by rfl) (d0 : (x == ("__debug__" : Str)) = false := by decide) :
    PE X (.Call (.Name x p) [] [] pos) (tMake C sp [] E0 tNil) := pe_make0 c.M c.G (hr.mono hj) hg c.g c.b .nil pass0 d0
end
end Mus

set_option maxRecDepth 100000
set_option maxHeartbeats 4000000
/-! The texts of lives, as lists of signs. -/
namespace Mus
open PySem L2 TL PySem.NumText
def allD (l : List Nat) : Bool := l.all fun c => decide (48 ≤ c) && decide (c ≤ 57)
theorem allD_iff {l : List Nat} : allD l = true ↔ AllDigits l := by
  unfold allD AllDigits
  rw [List.all_eq_true]
  constructor
  · intro h c hc
    have := h c hc
    rw [Bool.and_eq_true, decide_eq_true_eq, decide_eq_true_eq] at this
    exact this
  · intro h c hc
    rw [Bool.and_eq_true, decide_eq_true_eq, decide_eq_true_eq]
    exact h c hc
/-- the text of a life -/
def lifeT (n : Nat) : List Nat := numL n ++ 61 :: numL n
/-- the life of a text, or 0 -/
def lifeF (l : List Nat) : Nat :=
  if (l.takeWhile fun c => decide (c ≠ 61)).length ≤ 13 ∧ allD (l.takeWhile fun c => decide (c ≠ 61)) = true ∧ (l.takeWhile fun c => decide (c ≠ 61)) ≠ [] then
    (if 1 ≤ digitsVal (l.takeWhile fun c => decide (c ≠ 61)) ∧ digitsVal (l.takeWhile fun c => decide (c ≠ 61)) ≤ 1000000000000 ∧ lifeT (digitsVal (l.takeWhile fun c => decide (c ≠ 61))) = l then digitsVal (l.takeWhile fun c => decide (c ≠ 61)) else 0)
  else 0
theorem lifeF_ne {l : List Nat} (h : lifeF l ≠ 0) : ∃ n, l = lifeT n ∧ 1 ≤ n ∧ n ≤ 1000000000000 ∧ lifeF l = n := by
  unfold lifeF at h ⊢
  by_cases h1 : (l.takeWhile fun c => decide (c ≠ 61)).length ≤ 13 ∧ allD (l.takeWhile fun c => decide (c ≠ 61)) = true ∧ (l.takeWhile fun c => decide (c ≠ 61)) ≠ []
  · rw [if_pos h1] at h ⊢
    by_cases h2 : 1 ≤ digitsVal (l.takeWhile fun c => decide (c ≠ 61)) ∧ digitsVal (l.takeWhile fun c => decide (c ≠ 61)) ≤ 1000000000000 ∧ lifeT (digitsVal (l.takeWhile fun c => decide (c ≠ 61))) = l
    · rw [if_pos h2] at h ⊢
      exact ⟨_, h2.2.2.symm, h2.1, h2.2.1, rfl⟩
    · rw [if_neg h2] at h; exact absurd rfl h
  · rw [if_neg h1] at h; exact absurd rfl h
theorem take_free {d r : List Nat} (h : 61 ∉ d) : (d ++ 61 :: r).takeWhile (fun c => decide (c ≠ 61)) = d := by
  induction d with
  | nil => simp [List.takeWhile]
  | cons c d ih =>
    have hc : c ≠ 61 := fun e => h (by rw [e]; exact List.mem_cons_self)
    rw [List.cons_append, List.takeWhile_cons, decide_eq_true hc, if_pos rfl, ih fun m => h (List.mem_cons_of_mem _ m)]
theorem dig_free {d : List Nat} (h : AllDigits d) : 61 ∉ d := fun m => by have := h 61 m; omega
theorem numL_head0 : ∀ n : Nat, 1 ≤ n → ∃ c r, numL n = c :: r ∧ 49 ≤ c := by
  intro n
  induction n using Nat.strongRecOn with
  | _ n ih =>
    intro h
    by_cases h10 : n < 10
    · exact ⟨48 + n, [], numL_lt h10, by omega⟩
    · obtain ⟨c, r, e, hc⟩ := ih (n / 10) (by omega) (by omega)
      exact ⟨c, r ++ [48 + n % 10], by rw [numL_step (by omega), e, List.cons_append], hc⟩
theorem map_chars : ∀ {l : List Nat}, AllDigits l → (l.map Char.ofNat).map Char.toNat = l
  | [], _ => rfl
  | c :: l, h => by
    have hc := h.head
    have e : (Char.ofNat c).toNat = c := by
      have : c = 48 ∨ c = 49 ∨ c = 50 ∨ c = 51 ∨ c = 52 ∨ c = 53 ∨ c = 54 ∨ c = 55 ∨ c = 56 ∨ c = 57 := by omega
      rcases this with rfl | rfl | rfl | rfl | rfl | rfl | rfl | rfl | rfl | rfl <;> decide
    rw [List.map_cons, List.map_cons, e, map_chars h.tail]
theorem numL_back {d : List Nat} (h : AllDigits d) {c : Nat} {r : List Nat} (e : d = c :: r) (hc : 49 ≤ c) : numL (digitsVal d) = d := by
  unfold numL
  rw [toDigits_digitsVal r.length d (by rw [e]; rfl) h (.inr ⟨c, r, e, hc⟩), map_chars h]
theorem lifeF_T {n : Nat} (h1 : 1 ≤ n) (h2 : n ≤ 1000000000000) : lifeF (lifeT n) = n := by
  unfold lifeF lifeT
  rw [take_free (dig_free (numL_digits n)), numL_val]
  have hl : (numL n).length ≤ 13 := numL_len (k := 13) (by decide) (by omega)
  rw [if_pos ⟨hl, allD_iff.mpr (numL_digits n), numL_ne n⟩, if_pos ⟨h1, h2, rfl⟩]
theorem lifeF_big {n : Nat} (h : n = 0 ∨ 1000000000000 < n) : lifeF (lifeT n) = 0 := by
  cases e : lifeF (lifeT n) with
  | zero => rfl
  | succ k =>
    exfalso
    obtain ⟨m, e1, e2, e3, _⟩ := lifeF_ne (l := lifeT n) (by rw [e]; simp)
    have hl := congrArg List.length e1
    unfold lifeT at e1 hl
    rw [List.length_append, List.length_append, List.length_cons, List.length_cons] at hl
    have := (List.append_inj e1 (by omega)).1
    have := numL_inj this
    omega
/-- the law's way -/
def chk (d : List Nat) : Nat := if allD d = true then (if d.length > 13 ∨ d.head? = some 48 ∨ digitsVal d > 1000000000000 then 0 else digitsVal d) else 0
def Half (l : List Nat) (k : Nat) : Prop := l[k]? = some 61 ∧ l.take k = l.drop (k + 1)
theorem half_eq {l : List Nat} {k : Nat} (h : Half l k) : l = l.take k ++ 61 :: l.take k := by
  obtain ⟨h1, h2⟩ := h
  obtain ⟨hk, e⟩ := List.getElem?_eq_some_iff.mp h1
  have e2 := List.take_append_drop k l
  rw [List.drop_eq_getElem_cons hk, e, ← h2] at e2
  exact e2.symm
theorem halves {d e : List Nat} (h : d ++ 61 :: d = e ++ 61 :: e) : d = e := by
  have hl := congrArg List.length h
  rw [List.length_append, List.length_append, List.length_cons, List.length_cons] at hl
  exact (List.append_inj h (by omega)).1
theorem due_yes {l : List Nat} {k : Nat} (h1 : 1 ≤ k) (hk : k < l.length) (h : Half l k) : chk (l.take k) = lifeF l := by
  have e := half_eq h
  have hlen : (l.take k).length = k := by rw [List.length_take]; omega
  generalize l.take k = d at e hlen
  subst e
  cases hd : allD d with
  | false =>
    have e1 : chk d = 0 := by unfold chk; rw [hd]; rfl
    rw [e1]
    cases e2 : lifeF (d ++ 61 :: d) with
    | zero => rfl
    | succ m =>
      exfalso
      obtain ⟨n, e3, _⟩ := lifeF_ne (l := d ++ 61 :: d) (by rw [e2]; simp)
      have := halves e3
      rw [this, allD_iff.mpr (numL_digits n)] at hd
      cases hd
  | true =>
    have ad := allD_iff.mp hd
    have tw := take_free (r := d) (dig_free ad)
    have dne : d ≠ [] := fun z => by rw [z] at hlen; simp at hlen; omega
    unfold chk lifeF
    rw [tw, hd, if_pos rfl]
    by_cases h13 : d.length ≤ 13
    · rw [if_pos (show d.length ≤ 13 ∧ true = true ∧ d ≠ [] from ⟨h13, rfl, dne⟩)]
      obtain ⟨c, r, ec⟩ : ∃ c r, d = c :: r := by
        cases d with
        | nil => exact absurd rfl dne
        | cons c r => exact ⟨c, r, rfl⟩
      have hc := ad c (by rw [ec]; exact List.mem_cons_self)
      by_cases h48 : c = 48
      · rw [if_pos (.inr (.inl (by rw [ec, h48]; rfl)))]
        rw [if_neg]
        rintro ⟨q1, _, q3⟩
        have e5 := halves q3
        obtain ⟨c', r', e6, e7⟩ := numL_head0 _ q1
        rw [e5, ec] at e6
        cases e6
        omega
      · by_cases hv : digitsVal d > 1000000000000
        · rw [if_pos (.inr (.inr hv)), if_neg (by rintro ⟨_, q2, _⟩; omega)]
        · have e8 := numL_back ad ec (by omega)
          have n1 : ¬ (d.length > 13 ∨ d.head? = some 48 ∨ digitsVal d > 1000000000000) := by
            rintro (q | q | q)
            · omega
            · rw [ec] at q; simp at q; exact h48 q
            · exact hv q
          have n2 : 1 ≤ digitsVal d ∧ digitsVal d ≤ 1000000000000 ∧ lifeT (digitsVal d) = d ++ 61 :: d := by
            refine ⟨?_, by omega, ?_⟩
            · rw [ec]; exact digitsVal_pos (by omega)
            · unfold lifeT; rw [e8]
          rw [if_neg n1, if_pos n2]
    · rw [if_pos (.inl (by omega)), if_neg (by rintro ⟨q, _⟩; exact h13 q)]
theorem due_no {l : List Nat} (h : ∀ k, 1 ≤ k → k < l.length → ¬ Half l k) : lifeF l = 0 := by
  cases e2 : lifeF l with
  | zero => rfl
  | succ m =>
    exfalso
    obtain ⟨n, e3, _⟩ := lifeF_ne (l := l) (by rw [e2]; simp)
    have hp : 1 ≤ (numL n).length := List.length_pos_iff.mpr (numL_ne n)
    refine h (numL n).length hp ?_ ⟨?_, ?_⟩
    · rw [e3]; unfold lifeT; rw [List.length_append, List.length_cons]; omega
    · rw [e3]; unfold lifeT; rw [List.getElem?_append_right (Nat.le_refl _), Nat.sub_self]; rfl
    · rw [e3]; unfold lifeT
      rw [List.take_left, ← List.drop_drop, List.drop_left]; rfl
end Mus

set_option maxRecDepth 100000
set_option maxHeartbeats 4000000
namespace Mus
open PySem L2 TL PySem.NumText
/-- a text n times, n from 0 -/
theorem op_mul_strN {X : Cx} : OpR X (binaryOp .Mult) (fun x y H Q => ∃ (z : Str) (n : Int), x = .str z ∧ y = .int n ∧ 0 ≤ n ∧ n ≤ 1000 ∧ 1 ≤ z.length ∧ z.length ≤ 1000 ∧ ∀ r : Str, TL.tl r = (List.replicate n.toNat (TL.tl z)).flatten → Q (.str r) H) := by
  intro pins s σ H x y v u Q I rx ry h
  obtain ⟨z, n, rfl, rfl, h2, h3, h4, h5, q⟩ := h
  by_cases n2 : 2 ≤ n
  · exact op_mul_str pins s σ H _ _ v u Q I rx ry ⟨z, n, rfl, rfl, n2, h3, h4, h5, q⟩
  obtain ⟨t, rfl⟩ := rx
  obtain ⟨t', rfl⟩ := ry
  have hr : (decide (n < -(2 ^ 63 : Int)) || decide (n ≥ 2 ^ 63)) = false := by
    rw [decide_eq_false (by omega), decide_eq_false (by omega)]; rfl
  have hl : Builtin.Str.tooLong (z.length * n.toNat) = false := by
    unfold Builtin.Str.tooLong
    have e : sizeLine = 16777216 := sizeLine_eq
    have : z.length * n.toNat ≤ 1000 * 1 := Nat.mul_le_mul h5 (by omega)
    rw [decide_eq_false (by omega)]
  have hz : z.length ≤ sizeLine := by rw [sizeLine_eq]; omega
  by_cases n0 : n = 0
  · subst n0
    refine PySem.P.mul_str hr (fun a _ => absurd (by decide) a) (fun a _ => absurd (by decide) a) ?_
    rw [if_pos (by decide)]
    exact ⟨by decide, .str _, H, I.tok _, ⟨_, rfl⟩, q _ (by simp; rfl)⟩
  · have e : n = 1 := by omega
    subst e
    refine PySem.P.mul_str hr (fun _ a => by simp at a) (fun _ a => by simp at a) ?_
    rw [if_neg (by decide), if_pos (by simp)]
    exact ⟨.str _, H, I, ⟨_, rfl⟩, q _ (by simp)⟩
end Mus

set_option maxRecDepth 100000
set_option maxHeartbeats 4000000
namespace Mus
open PySem L2 TL PySem.NumText
local macro_rules | `(tactic| walk_at "rd") => `(tactic| first
  | refine ⟨_, rfl, ?_⟩ | refine ⟨(True.intro : True), ?_⟩
  | refine ⟨_, _, rfl, rfl, (⟨by decide, by decide, by decide⟩ : CPow _ _), ?_⟩
  | refine ⟨_, _, rfl, rfl, (⟨by decide, by decide⟩ : CDiv _ _), ?_⟩
  | refine ⟨_, _, rfl, rfl, (by show (0 : Int) < _; decide), ?_⟩
  | refine ⟨_, _, rfl, rfl, ?_⟩ | refine ⟨rfl, ?_⟩ | refine iteT ?_ | refine iteF ?_ | refine ⟨_, _, rfl, ?_⟩ | refine .inl ⟨_, rfl, ?_⟩
  | refine ⟨_, _, _, _, _, rfl, (by assumption), (by assumption), (by assumption), rfl, ?_⟩ | refine ⟨_, _, _, _, rfl, rfl, SqT.of (by assumption), rfl, ?_⟩ | refine ⟨_, _, rfl, SqT.of (by assumption), rfl, ?_⟩
  | refine ⟨_, _, _, _, _, rfl, .ty _, Rp.ty (by assumption), kit_int _, ?_⟩ | refine ⟨_, _, _, _, _, rfl, .ty _, Rp.ty (by assumption), kit_bool _, ?_⟩
  | refine ⟨_, _, _, _, _, rfl, .ty _, Rp.ty (by assumption), kit_str _, ?_⟩ | refine ⟨_, _, _, _, _, rfl, .ty _, Rp.ty (by assumption), kit_tup _, ?_⟩)
local macro_rules | `(tactic| walk_at "cal") => `(tactic| first
  | refine ⟨_, _, _, _, _, rfl, (by assumption), ?_⟩ | refine ⟨_, _, _, _, _, rfl, (by assumption), (by assumption), ?_⟩)
local macro_rules | `(tactic| walk_at "sq") => `(tactic| first
  | refine ⟨_, _, rfl, Or.inr (SqT.of (by assumption)), ?_⟩ | refine ⟨_, _, _, _, rfl, rfl, SqT.of (by assumption), rfl, ?_⟩)
local macro_rules | `(tactic| walk_at "rds") => `(tactic| repeat first | walk_at "rd" | walk_at "cal" | walk_at "sq")
def top (i : Nat) : Stmt := PySem.Challenge.pw_mustercall_k11_texts_of_lives.main.body.getD i (.Pass ⟨0, 0, 0, 0⟩)
structure Tx (mg : Str → Option Value) : Prop where
  b_len : mg "len" = none
  b_isinstance : mg "isinstance" = none
  b_int : mg "int" = none
  b_bool : mg "bool" = none
  b_str : mg "str" = none
  b_range : mg "range" = none
  b_min : mg "min" = none
  b_max : mg "max" = none
  c_MOST_NUMBER : ∃ t, mg "MOST_NUMBER" = some (.int 1000000000000 t)
theorem log_small {i : Int} (h : i.natAbs < 2 ^ 1000) : i.natAbs.log2 < 1920 := Nat.lt_of_lt_of_le (PySem.Flt.log2_lt_of (by omega) h) (by omega)
theorem tl_nat {i : Int} (h : 0 ≤ i) : tl (Str.ofString (toString i)) = numL i.toNat := by
  obtain ⟨n, rfl⟩ := Int.eq_ofNat_of_zero_le h
  exact tl_num n
def sp_life_text : Sp := fun vs H Q _ => ∃ i : Int, vs = [.int i] ∧ 0 ≤ i ∧ i < 100000000000000000000 ∧ ∀ y : Str, tl y = lifeT i.toNat → Q (.str y) H
def sp_digits : Sp := fun vs H Q _ => ∃ z : Str, vs = [.str z] ∧ Q (.bl (allD (tl z) && !(tl z).isEmpty)) H
def sp_life_of : Sp := fun vs H Q _ => ∃ z : Str, vs = [.str z] ∧ (tl z).length ≤ 1000 ∧ ∀ H', Same H H' → Q (.int (lifeF (tl z) : Nat)) H'
theorem dec_ascii : ∀ c, c < 128 → Unicode.isDecimal c = (decide (48 ≤ c) && decide (c ≤ 57)) := by decide +kernel
theorem big_dec {c : Nat} (h : ¬ c < 128) : (decide (48 ≤ c) && decide (c ≤ 57)) = false := by
  rw [decide_eq_false (show ¬ c ≤ 57 by omega), Bool.and_false]
theorem ascii_dec (z : Str) : (Txt.isascii z && Txt.isdecimal z) = (allD (tl z) && !(tl z).isEmpty) := by
  unfold Txt.isascii Txt.isdecimal allD
  have e1 : z.cps.all (fun x => decide (x < 128)) = (tl z).all (fun x => decide (x < 128)) := by unfold tl; rw [Array.all_toList]
  have e2 : z.cps.all Unicode.isDecimal = (tl z).all Unicode.isDecimal := by unfold tl; rw [Array.all_toList]
  have e3 : decide (z.length > 0) = !(tl z).isEmpty := by
    rw [len_tl]
    cases tl z with
    | nil => rfl
    | cons a r => simp
  rw [e1, e2, e3]
  generalize tl z = l
  have e4 : ∀ l : List Nat, (l.all (fun x => decide (x < 128)) && l.all Unicode.isDecimal) = l.all fun c => decide (48 ≤ c) && decide (c ≤ 57) := by
    intro l
    induction l with
    | nil => rfl
    | cons c r ih =>
      rw [List.all_cons, List.all_cons, List.all_cons, ← ih]
      by_cases hc : c < 128
      · rw [dec_ascii c hc, decide_eq_true hc, Bool.true_and]
        cases (decide (48 ≤ c) && decide (c ≤ 57)) <;> cases r.all (fun x => decide (x < 128)) <;> rfl
      · rw [big_dec hc, decide_eq_false hc]; simp
  rw [← e4]
  cases l.all (fun x => decide (x < 128)) <;> cases l.all Unicode.isDecimal <;> cases (!l.isEmpty) <;> rfl
theorem part_take (z y : Str) (hy : tl y = [61]) : tl (Txt.partition z y).1 = (tl z).takeWhile fun c => decide (c ≠ 61) := by
  by_cases h : 61 ∈ tl z
  · obtain ⟨a, b, e, ha⟩ : ∃ a b, tl z = a ++ 61 :: b ∧ 61 ∉ a := by
      generalize tl z = l at h
      clear z y hy
      induction l with
      | nil => exact absurd h List.not_mem_nil
      | cons c r ih =>
        by_cases hc : c = 61
        · exact ⟨[], r, by rw [hc]; rfl, List.not_mem_nil⟩
        · have hr : 61 ∈ r := by
            rcases List.mem_cons.mp h with h | h
            · exact absurd h.symm hc
            · exact h
          obtain ⟨a, b, e, ha⟩ := ih hr
          refine ⟨c :: a, b, by rw [e]; rfl, fun m => ?_⟩
          rcases List.mem_cons.mp m with m | m
          · exact hc m.symm
          · exact ha m
    have ez : z = (⟨a.toArray⟩ : Str) ++ y ++ (⟨b.toArray⟩ : Str) := ext_tl (by show tl z = tl _; rw [tl_append, tl_append, hy, tl_mk a, tl_mk b, e, List.append_assoc]; rfl)
    rw [ez, partition_app (s := 61) (S := []) hy (by rw [tl_mk a]; exact ha)]
    show tl _ = _
    rw [tl_append, tl_append, hy, tl_mk a, tl_mk b, List.append_assoc]
    exact (take_free ha).symm
  · rw [partition_none (s := 61) (S := []) hy h]
    show tl z = _
    generalize tl z = l at h
    clear z y hy
    induction l with
    | nil => rfl
    | cons c r ih =>
      have hc : c ≠ 61 := fun e => h (by rw [e]; exact List.mem_cons_self)
      rw [List.takeWhile_cons, decide_eq_true hc, if_pos rfl, ← ih fun m => h (List.mem_cons_of_mem _ m)]
section
variable {P : Program} {w : World} {K : PySem.W.Frag} {mg : Str → Option Value} {base : Heap}
abbrev s_life_text : Stmt := top 2
abbrev N_life_text : List Str := ["life"]
abbrev P_life_text : List Str := ["life"]
theorem sc_life_text : FnScope N_life_text P_life_text (defScope s_life_text) := ⟨rfl, rfl, rfl, by decide +kernel, rfl, by decide +kernel, by decide +kernel⟩
theorem ok_life_text {f : Addr} {fd : FuncData} (T : Tx mg) (F : Fun K "life_text" "life_text" s_life_text f fd) : FnOk P w K mg base CX0 (1) f fd P_life_text (sp_life_text) := by
  have nd := sc_life_text.nd
  refine F.ok sc_life_text (fun vs H Q E h => ?_) (fun cdv A outer s H vs Q E hr h => ?_)
  · obtain ⟨_, rfl, _⟩ := h
    rfl
  · obtain ⟨i, rfl, h0, h1, q⟩ := h
    have hs := sl
    refine ⟨_, (pss_one (ps_ret (pe_joined (.cons (pe_fmt (pv 0)) (.cons pe_str (.cons (pe_fmt (pv 0)) .nil)))))), ?_⟩
    have e1 := tl_nat h0
    have hn := numL_len (n := i.toNat) (k := 20) (by omega) (by omega)
    have t1 : tl (Str.empty ++ Str.ofString (toString i)) = numL i.toNat := by rw [tl_append, e1]; rfl
    have t2 : tl (Str.empty ++ Str.ofString (toString i) ++ Str.ofString "=") = numL i.toNat ++ [61] := by rw [tl_append, t1]; rfl
    have t3 : tl (Str.empty ++ Str.ofString (toString i) ++ Str.ofString "=" ++ Str.ofString (toString i)) = numL i.toNat ++ [61] ++ numL i.toNat := by rw [tl_append, t2, e1]
    have l1 : (Str.empty ++ Str.ofString (toString i)).length ≤ sizeLine := by rw [len_tl, t1]; omega
    have l2 : (Str.empty ++ Str.ofString (toString i) ++ Str.ofString "=").length ≤ sizeLine := by rw [len_tl, t2, List.length_append, List.length_singleton]; omega
    have l3 : (Str.empty ++ Str.ofString (toString i) ++ Str.ofString "=" ++ Str.ofString (toString i)).length ≤ sizeLine := by rw [len_tl, t3, List.length_append, List.length_append, List.length_singleton]; omega
    refine ⟨_, rfl, .inr ⟨i, rfl, log_small (by omega), _, rfl, l1, _, rfl, l2, _, rfl, .inr ⟨i, rfl, log_small (by omega), _, rfl, l3, ?_⟩⟩⟩
    exact q _ (by rw [t3, List.append_assoc]; rfl)
abbrev s__are_digits : Stmt := top 4
abbrev N__are_digits : List Str := ["text"]
abbrev P__are_digits : List Str := ["text"]
theorem sc__are_digits : FnScope N__are_digits P__are_digits (defScope s__are_digits) := ⟨rfl, rfl, rfl, by decide +kernel, rfl, by decide +kernel, by decide +kernel⟩
theorem ok__are_digits {f : Addr} {fd : FuncData} (T : Tx mg) (F : Fun K "_are_digits" "_are_digits" s__are_digits f fd) : FnOk P w K mg base CX0 (1) f fd P__are_digits (sp_digits) := by
  have nd := sc__are_digits.nd
  refine F.ok sc__are_digits (fun vs H Q E h => ?_) (fun cdv A outer s H vs Q E hr h => ?_)
  · obtain ⟨_, rfl, _⟩ := h
    rfl
  · obtain ⟨z, rfl, q⟩ := h
    refine ⟨_, (pss_one (ps_ret (pe_and (pe_bm0 PySem.F.plainAttrs_str PySem.F.slot_str_isascii PySem.F.type_str_isascii mt_isascii (pv 0)) (pe_one (pe_bm0 PySem.F.plainAttrs_str PySem.F.slot_str_isdecimal PySem.F.type_str_isdecimal mt_isdecimal (pv 0)))))), ?_⟩
    rw [← ascii_dec] at q
    walk_at "rds"
    refine iB (fun h => ?_) (fun h => ?_)
    · walk_at "rds"
      rw [h, Bool.true_and] at q
      exact q
    · rw [h, Bool.false_and] at q
      exact q
abbrev s_life_of : Stmt := top 3
abbrev N_life_of : List Str := ["text", "digits", "life"]
abbrev P_life_of : List Str := ["text"]
theorem sc_life_of : FnScope N_life_of P_life_of (defScope s_life_of) := ⟨rfl, rfl, rfl, by decide +kernel, rfl, by decide +kernel, by decide +kernel⟩
theorem ok_life_of {f : Addr} {fd : FuncData} (T : Tx mg) (c_life_text : DefOk P w K mg base CX0 "life_text" P_life_text 1 (sp_life_text)) (c__are_digits : DefOk P w K mg base CX0 "_are_digits" P__are_digits 1 (sp_digits))(F : Fun K "life_of" "life_of" s_life_of f fd) : FnOk P w K mg base CX0 (2) f fd P_life_of (sp_life_of) := by
  have nd := sc_life_of.nd
  refine F.ok sc_life_of (fun vs H Q E h => ?_) (fun cdv A outer s H vs Q E hr h => ?_)
  · obtain ⟨_, rfl, _⟩ := h
    rfl
  · obtain ⟨z, rfl, hz, q⟩ := h
    have hs := sl
    have hl := len_tl z
    refine ⟨_, (pss_cons (ps_if (pt_not (pt_val (pe_callB call_isi (by rfl) T.b_isinstance (by decide +kernel) (pa_cons (pv 0) (pa_cons (pe_ty "str" T.b_str) pa_nil)))))
        (pss_one (ps_ret pe_int))
        pss_nil)
      (pss_cons (ps_set (i := 1) nd rfl (Or.inl rfl) (pe_ix ix_tup (pe_partition (pv 0) pe_str) pe_int (fun _ _ => rfl)))
      (pss_cons (ps_if (PW.pt (pw_or (pt_cmpR op_gt (pe_callB call_len_str (by rfl) T.b_len (by decide +kernel) (pa_cons (pv 1) pa_nil)) (pe_callB call_len_str (by rfl) T.b_len (by decide +kernel) (pa_cons (pe_callTy call_str_int (by rfl) T.b_str (by decide +kernel) (pa_cons (pe_const T.c_MOST_NUMBER) pa_nil)) pa_nil)) (nomark _)) (pw_or1 (pt_not (pt_val (pcall c__are_digits hr (pa_cons (pv 1) pa_nil)))))))
        (pss_one (ps_ret pe_int))
        pss_nil)
      (pss_cons (ps_set (i := 2) nd rfl (Or.inl rfl) (pe_callTy call_int_str (by rfl) T.b_int (by decide +kernel) (pa_cons (pv 1) pa_nil)))
      (pss_cons (ps_if (PW.pt (pw_or (pt_not (pt_chain op_le op_le pe_int (pv 2) (pe_const T.c_MOST_NUMBER))) (pw_or1 (pt_cmpR op_ne (pcall c_life_text hr (pa_cons (pv 2) pa_nil)) (pv 0) (nomark _)))))
        (pss_one (ps_ret pe_int))
        pss_nil)
      (pss_one (ps_ret (pv 2)))))))), ?_⟩
    refine ⟨_, rfl, _, _, _, _, true, rfl, .ty _, .base (.str z), kit_ty (by decide +kernel), _, rfl, iteF ?_⟩
    walk_at "rds"
    refine ⟨⟨_, rfl⟩, ?_⟩
    walk_at "rds"
    refine ⟨by omega, fun p np => ?_⟩
    have st := same_new np (.tup [.str (Txt.partition z (Str.ofString "=")).1, .str (Txt.partition z (Str.ofString "=")).2.1, .str (Txt.partition z (Str.ofString "=")).2.2])
    have q := q _ st
    have hp := part_take z (Str.ofString "=") (by decide)
    have hd : ((tl z).takeWhile fun c => decide (c ≠ 61)).length ≤ 1000 := Nat.le_trans (List.takeWhile_prefix _).length_le hz
    have hp0 : (upd H p (.tup [.str (Txt.partition z (Str.ofString "=")).1, .str (Txt.partition z (Str.ofString "=")).2.1, .str (Txt.partition z (Str.ofString "=")).2.2])) p = some (.tup [.str (Txt.partition z (Str.ofString "=")).1, .str (Txt.partition z (Str.ofString "=")).2.1, .str (Txt.partition z (Str.ofString "=")).2.2]) := upd_same
    walk_at "rds"
    generalize upd H p _ = H1 at *
    generalize (Txt.partition z (Str.ofString "=")).1 = y at hp ⊢
    have hy := len_tl y
    rw [hp] at hy
    have l13 : (Str.ofString (toString (1000000000000 : Int))).length = 13 := by decide
    refine ⟨by omega, ?_⟩
    walk_at "rds"
    refine ⟨log_small (by decide), ?_⟩
    walk_at "rds"
    refine ⟨by rw [l13]; omega, ?_⟩
    walk_at "rds"
    have no0 : ∀ h : ¬ ((tl y).length ≤ 13 ∧ allD (tl y) = true ∧ tl y ≠ []), lifeF (tl z) = 0 := fun h => by
      unfold lifeF; rw [← hp]; exact if_neg h
    have hly := len_tl y
    refine iB (fun h => ?_) (fun h => ?_)
    · have h2 := of_decide_eq_true h
      rw [l13] at h2
      rw [no0 (by rintro ⟨a, _⟩; omega)] at q
      exact q
    · have h2 := of_decide_eq_false h
      rw [l13] at h2
      walk_at "rds"
      refine iB (fun h => ?_) (fun h => ?_)
      · rw [no0 (by
          rintro ⟨_, b, c⟩
          rw [b] at h
          cases hy2 : tl y with
          | nil => exact c hy2
          | cons _ _ => rw [hy2] at h; simp at h)] at q
        exact q
      · have hA : allD (tl y) = true ∧ tl y ≠ [] := by
          cases ha : allD (tl y) with
          | false => rw [ha] at h; cases h
          | true =>
            refine ⟨rfl, fun e => ?_⟩
            rw [ha, e] at h; cases h
        have hv := intText_digits (x := y) (allD_iff.mp hA.1) hA.2 (by omega)
        walk_at "rds"
        refine ⟨y, _, rfl, hv, by omega, ?_⟩
        change Q (V.int ((lifeF (tl z) : Nat) : Int)) H1 at q
        have eF : lifeF (tl z) = if 1 ≤ digitsVal (tl y) ∧ digitsVal (tl y) ≤ 1000000000000 ∧ lifeT (digitsVal (tl y)) = tl z then digitsVal (tl y) else 0 := by
          unfold lifeF
          rw [← hp, if_pos ⟨by omega, hA.1, hA.2⟩]
        have eV : digitsVal y.cps.toList = digitsVal (tl y) := rfl
        rw [eV]
        generalize digitsVal (tl y) = n at eF ⊢
        have no1 : ¬ (1 ≤ n ∧ n ≤ 1000000000000 ∧ lifeT n = tl z) → lifeF (tl z) = 0 := fun h => eF.trans (if_neg h)
        walk_at "rds"
        refine iB (fun h => ?_) (fun h => ?_)
        · have h1 : (1 : Int) ≤ (n : Int) := of_decide_eq_true h
          walk_at "rds"
          refine iB (fun h2 => ?_) (fun h2 => ?_)
          · have h3 : ¬ (n : Int) ≤ 1000000000000 := fun c => by rw [decide_eq_true c] at h2; cases h2
            rw [no1 (by rintro ⟨_, b, _⟩; omega)] at q
            exact q
          · have h3 : (n : Int) ≤ 1000000000000 := by
              cases hd : decide ((n : Int) ≤ 1000000000000) with
              | true => exact of_decide_eq_true hd
              | false => rw [hd] at h2; cases h2
            walk_at "rds"
            refine ⟨by omega, by omega, fun u hu => ?_⟩
            rw [Int.toNat_natCast] at hu
            walk_at "rds"
            refine iB (fun h4 => ?_) (fun h4 => ?_)
            · rw [no1 (by
                rintro ⟨_, _, c⟩
                have : u = z := ext_tl (hu.trans c)
                rw [this, decide_eq_true rfl] at h4; cases h4)] at q
              exact q
            · have h5 : u = z := by
                cases hd : decide (V.str u = V.str z) with
                | true => exact V.str.inj (of_decide_eq_true hd)
                | false => rw [hd] at h4; cases h4
              walk_at "rds"
              rw [if_pos ⟨by omega, by omega, by rw [← hu, h5]⟩] at eF
              rw [eF] at q
              exact q
        · have h1 : ¬ (1 : Int) ≤ (n : Int) := of_decide_eq_false h
          refine ⟨_, rfl, iteT ?_⟩
          rw [no1 (by rintro ⟨a, _⟩; omega)] at q
          exact q
end
end Mus

set_option maxRecDepth 100000
set_option maxHeartbeats 4000000
namespace Mus
open PySem L2 TL PySem.NumText
local macro_rules | `(tactic| walk_at "rd") => `(tactic| first
  | refine ⟨_, rfl, ?_⟩ | refine ⟨(True.intro : True), ?_⟩
  | refine ⟨_, _, rfl, rfl, (⟨by decide, by decide, by decide⟩ : CPow _ _), ?_⟩
  | refine ⟨_, _, rfl, rfl, (⟨by decide, by decide⟩ : CDiv _ _), ?_⟩
  | refine ⟨_, _, rfl, rfl, (by show (0 : Int) < _; decide), ?_⟩
  | refine ⟨_, _, rfl, rfl, ?_⟩ | refine ⟨rfl, ?_⟩ | refine iteT ?_ | refine iteF ?_ | refine ⟨_, _, rfl, ?_⟩ | refine .inl ⟨_, rfl, ?_⟩
  | refine ⟨_, _, _, _, _, rfl, (by assumption), (by assumption), (by assumption), rfl, ?_⟩ | refine ⟨_, _, _, _, rfl, rfl, SqT.of (by assumption), rfl, ?_⟩ | refine ⟨_, _, rfl, SqT.of (by assumption), rfl, ?_⟩
  | refine ⟨_, _, _, _, _, rfl, .ty _, Rp.ty (by assumption), kit_int _, ?_⟩ | refine ⟨_, _, _, _, _, rfl, .ty _, Rp.ty (by assumption), kit_bool _, ?_⟩
  | refine ⟨_, _, _, _, _, rfl, .ty _, Rp.ty (by assumption), kit_str _, ?_⟩ | refine ⟨_, _, _, _, _, rfl, .ty _, Rp.ty (by assumption), kit_tup _, ?_⟩)
local macro_rules | `(tactic| walk_at "cal") => `(tactic| first
  | refine ⟨_, _, _, _, _, rfl, (by assumption), ?_⟩ | refine ⟨_, _, _, _, _, rfl, (by assumption), (by assumption), ?_⟩)
local macro_rules | `(tactic| walk_at "sq") => `(tactic| first
  | refine ⟨_, _, rfl, Or.inr (SqT.of (by assumption)), ?_⟩ | refine ⟨_, _, _, _, rfl, rfl, SqT.of (by assumption), rfl, ?_⟩)
local macro_rules | `(tactic| walk_at "rds") => `(tactic| repeat first | walk_at "rd" | walk_at "cal" | walk_at "sq")
def sp_due : Sp := fun vs H Q _ => ∃ z : Str, vs = [.str z] ∧ (tl z).length ≤ 100 ∧ Q (.int (lifeF (tl z) : Nat)) H
def sp_changed : Sp := fun vs H Q _ => ∃ (z o : Str) (c : Int), vs = [.str z, .str o, .int c] ∧ (tl z).length ≤ 40 ∧ (tl o).length ≤ 40 ∧ ∀ y : Str, (tl y).length ≤ 100 → Q (.str y) H
def sp_cell (K : PySem.W.Frag) : Sp := fun vs H Q _ => ∃ (a : Addr) (ns : List Int) (k : Int), vs = [.ref a, .int k] ∧ 0 ≤ k ∧ SqL K H a (ns.map V.int) ∧ ∀ x, Q (.int x) H
def sp_law (K : PySem.W.Frag) : Sp := fun vs H Q _ => ∃ (a : Addr) (ns : List Int), vs = [.ref a] ∧ SqL K H a (ns.map V.int) ∧ ns.length ≤ 63 ∧ ∀ H', Q (.bl true) H'
theorem cut_lo (z : Str) {k : Int} (h0 : 0 ≤ k) (h1 : k.toNat ≤ (tl z).length) : tl (cutS z none (some k)) = (tl z).take k.toNat := by
  have hl := len_tl z
  obtain ⟨n, rfl⟩ := Int.eq_ofNat_of_zero_le h0
  show ((z.cps.toList.drop 0).take (HT.sIx z.length z.length (some ((n : Nat) : Int)) - 0)) = _
  rw [HT.sIx_nat, List.drop_zero, Nat.sub_zero, Int.toNat_natCast]
  rw [Int.toNat_natCast] at h1
  rw [Nat.min_eq_left (by omega)]
theorem cut_hi (z : Str) {k : Int} (h0 : 0 ≤ k) (h1 : k.toNat ≤ (tl z).length) : tl (cutS z (some k) none) = (tl z).drop k.toNat := by
  have hl := len_tl z
  obtain ⟨n, rfl⟩ := Int.eq_ofNat_of_zero_le h0
  show ((z.cps.toList.drop (HT.sIx z.length 0 (some ((n : Nat) : Int)))).take (z.length - HT.sIx z.length 0 (some ((n : Nat) : Int)))) = _
  rw [HT.sIx_nat, Int.toNat_natCast]
  rw [Int.toNat_natCast] at h1
  rw [Nat.min_eq_left (by omega)]
  exact List.take_of_length_le (by rw [List.length_drop]; show (tl z).length - n ≤ _; omega)
theorem cut_len (z : Str) (lo hi : Option Int) : (tl (cutS z lo hi)).length ≤ (tl z).length := by
  show ((z.cps.toList.drop _).take _).length ≤ _
  rw [List.length_take, List.length_drop]
  show min _ ((tl z).length - _) ≤ _
  omega
theorem dig_mem (d : Nat) : decide (d ∈ (Str.ofString "0123456789").cps.toList) = (decide (48 ≤ d) && decide (d ≤ 57)) := by
  have e : (Str.ofString "0123456789").cps.toList = [48, 49, 50, 51, 52, 53, 54, 55, 56, 57] := by decide
  rw [e, Bool.eq_iff_iff, decide_eq_true_eq, Bool.and_eq_true, decide_eq_true_eq, decide_eq_true_eq]
  simp only [List.mem_cons, List.not_mem_nil, or_false]
  omega
theorem allD_more {l : List Nat} {j d : Nat} (h : l[j]? = some d) (hp : allD (l.take j) = true) : allD (l.take (j + 1)) = (decide (48 ≤ d) && decide (d ≤ 57)) := by
  obtain ⟨hj, e⟩ := List.getElem?_eq_some_iff.mp h
  unfold allD at hp ⊢
  rw [List.take_succ_eq_append_getElem hj, List.all_append, hp, e]
  simp
theorem allD_not {l : List Nat} {j d : Nat} (h : l[j]? = some d) (hd : (decide (48 ≤ d) && decide (d ≤ 57)) = false) : allD l = false := by
  unfold allD
  rw [List.all_eq_false]
  exact ⟨d, List.mem_of_getElem? h, by rw [hd]; simp⟩
theorem str_eq (a b : Str) : decide (V.str a = V.str b) = decide (tl a = tl b) := by
  by_cases h : tl a = tl b
  · rw [decide_eq_true h, ext_tl h, decide_eq_true rfl]
  · rw [decide_eq_false h, decide_eq_false fun e => h (by rw [V.str.inj e])]
section
variable {P : Program} {w : World} {K : PySem.W.Frag} {mg : Str → Option Value} {base : Heap}
abbrev s__law_due : Stmt := top 7
abbrev N__law_due : List Str := ["text", "at", "digits", "sign"]
abbrev P__law_due : List Str := ["text"]
theorem sc__law_due : FnScope N__law_due P__law_due (defScope s__law_due) := ⟨rfl, rfl, rfl, by decide +kernel, rfl, by decide +kernel, by decide +kernel⟩
theorem ok__law_due {f : Addr} {fd : FuncData} (T : Tx mg) (F : Fun K "_law_due" "_law_due" s__law_due f fd) : FnOk P w K mg base CX0 (1) f fd P__law_due (sp_due) := by
  have nd := sc__law_due.nd
  refine F.ok sc__law_due (fun vs H Q E h => ?_) (fun cdv A outer s H vs Q E hr h => ?_)
  · obtain ⟨_, rfl, _⟩ := h
    rfl
  · obtain ⟨z, rfl, hz, q⟩ := h
    have hs := sl
    have hl := len_tl z
    refine ⟨_, (pss_cons (ps_for PassesOwn.never rfl (pi_range2 (by rfl) T.b_range (pa_cons pe_int (pa_cons (pe_callB call_len_str (by rfl) T.b_len (by decide +kernel) (pa_cons (pv 0) pa_nil)) pa_nil))) (pg_name (i := 1) nd rfl (Or.inl rfl))
        (pss_one (ps_if (PW.pt (pw_and (pt_cmpR op_eq (pe_ix ix_str (pv 0) (pv 1) (fun _ _ => rfl)) pe_str (nomark _)) (pw_and1 (pt_cmpR op_eq (pe_slice sl_str (pv 0) po_none (po_some (pv 1))) (pe_slice sl_str (pv 0) (po_some (pe_op op_add (pv 1) pe_int)) po_none) (nomark _)))))
          (pss_cons (ps_set (i := 2) nd rfl (Or.inl rfl) (pe_slice sl_str (pv 0) po_none (po_some (pv 1))))
          (pss_cons (ps_for PassesOwn.never rfl (pi_str (pv 2)) (pg_name (i := 3) nd rfl (Or.inl rfl))
            (pss_one (ps_if (pt_cmpR op_notIn_sign (pv 3) pe_str (by rfl))
              (pss_one (ps_ret pe_int))
              pss_nil)))
          (pss_cons (ps_if (PW.pt (pw_or (pt_cmpR op_gt (pe_callB call_len_str (by rfl) T.b_len (by decide +kernel) (pa_cons (pv 2) pa_nil)) pe_int (nomark _)) (pw_or (pt_cmpR op_eq (pe_ix ix_str (pv 2) pe_int (fun _ _ => rfl)) pe_str (nomark _)) (pw_or1 (pt_cmpR op_gt (pe_callTy call_int_str (by rfl) T.b_int (by decide +kernel) (pa_cons (pv 2) pa_nil)) (pe_op op_pow pe_int pe_int) (nomark _))))))
            (pss_one (ps_ret pe_int))
            pss_nil)
          (pss_one (ps_ret (pe_callTy call_int_str (by rfl) T.b_int (by decide +kernel) (pa_cons (pv 2) pa_nil)))))))
          pss_nil)))
      (pss_one (ps_ret pe_int))), ?_⟩
    walk_at "rds"
    refine ⟨by omega, ?_⟩
    refine ⟨_, _, rfl, ⟨by decide, by decide, by omega, by omega⟩, ?_⟩
    refine for_range (lo := 1) (n := ((z.length : Int) - 1).toNat) (fun i σ H' => H' = H ∧ ∃ (x1 x2 x3 : Option V), σ = [some (.str z), x1, x2, x3] ∧ ∀ k, 1 ≤ k → k < 1 + i → ¬ Half (tl z) k) ⟨rfl, _, _, _, rfl, fun k a b => by omega⟩ ?_ ?_
    · rintro i σ H' hi ⟨rfl, x1, x2, x3, rfl, hno⟩
      have hk : 1 + i < (tl z).length := by omega
      obtain ⟨c, hc⟩ : ∃ c, (tl z)[1 + i]? = some c := ⟨_, List.getElem?_eq_getElem hk⟩
      have ek : (1 + (i : Int)).toNat = 1 + i := by omega
      have ek2 : (1 + (i : Int) + 1).toNat = 1 + i + 1 := by omega
      walk_at "rds"
      refine ⟨z, _, c, rfl, rfl, by omega, at_int (by omega) (by rw [ek]; exact hc), ?_⟩
      walk_at "rds"
      have more : ¬ Half (tl z) (1 + i) → ∀ k, 1 ≤ k → k < 1 + (i + 1) → ¬ Half (tl z) k := fun h k a b => by
        by_cases e : k = 1 + i
        · rw [e]; exact h
        · exact hno k a (by omega)
      refine iB (fun h => ?_) (fun h => ?_)
      · have h61 : c = 61 := by
          rw [str_eq] at h
          have := of_decide_eq_true h
          have e2 : tl (Str.ofString "=") = [61] := by decide
          rw [e2] at this
          exact (List.cons.inj this).1
        walk_at "rds"
        refine ⟨by omega, ?_⟩
        walk_at "rds"
        refine ⟨by omega, ?_⟩
        walk_at "rds"
        have lo := cut_lo z (k := 1 + (i : Int)) (by omega) (by omega)
        have hi' := cut_hi z (k := 1 + (i : Int) + 1) (by omega) (by omega)
        rw [ek] at lo
        rw [ek2] at hi'
        refine iB (fun h2 => ?_) (fun h2 => ?_)
        · have hh : Half (tl z) (1 + i) := by
            rw [str_eq, lo, hi'] at h2
            exact ⟨by rw [hc, h61], of_decide_eq_true h2⟩
          have due := due_yes (by omega) hk hh
          have hlen : ((tl z).take (1 + i)).length = 1 + i := by rw [List.length_take]; omega
          walk_at "rds"
          refine ⟨by omega, ?_⟩
          generalize cutS z none (some (1 + (i : Int))) = y at lo ⊢
          rw [← lo] at due hlen
          have hly := len_tl y
          refine ⟨_, rfl, y, rfl, for_str (z := y) (fun j σ H2 => H2 = H' ∧ ∃ x3 : Option V, σ = [some (.str z), some (.int (1 + (i : Int))), some (.str y), x3] ∧ allD ((tl y).take j) = true) ⟨rfl, _, rfl, rfl⟩ ?_ ?_⟩
          · rintro j d σ H2 hd ⟨rfl, x3, rfl, hp⟩
            walk_at "rds"
            have dm := dig_mem d
            refine iB (fun h3 => ?_) (fun h3 => ?_)
            · rw [dm] at h3
              have h4 : (decide (48 ≤ d) && decide (d ≤ 57)) = false := by
                cases hb : (decide (48 ≤ d) && decide (d ≤ 57)) with
                | false => rfl
                | true => rw [hb] at h3; cases h3
              have ec : chk (tl y) = 0 := by unfold chk; rw [allD_not hd h4]; rfl
              rw [← due, ec] at q
              exact q
            · rw [dm] at h3
              have h4 : (decide (48 ≤ d) && decide (d ≤ 57)) = true := by
                cases hb : (decide (48 ≤ d) && decide (d ≤ 57)) with
                | true => rfl
                | false => rw [hb] at h3; cases h3
              exact ⟨rfl, _, rfl, by rw [allD_more hd hp]; exact h4⟩
          · rintro σ H2 ⟨rfl, x3, rfl, hp⟩
            rw [List.take_length] at hp
            have ne : tl y ≠ [] := fun e => by rw [e] at hlen; simp at hlen; omega
            have hv := intText_digits (x := y) (allD_iff.mp hp) ne (by omega)
            have eV : digitsVal y.cps.toList = digitsVal (tl y) := rfl
            rw [eV] at hv
            rw [← due] at q
            have q0 : ((tl y).length > 13 ∨ (tl y).head? = some 48 ∨ digitsVal (tl y) > 1000000000000) → Q (.int 0) H2 := fun h => by
              have ec : chk (tl y) = 0 := by unfold chk; rw [hp, if_pos rfl, if_pos h]
              rw [ec] at q; exact q
            have q1 : ¬ ((tl y).length > 13 ∨ (tl y).head? = some 48 ∨ digitsVal (tl y) > 1000000000000) → Q (.int (digitsVal (tl y) : Nat)) H2 := fun h => by
              have ec : chk (tl y) = digitsVal (tl y) := by unfold chk; rw [hp, if_pos rfl, if_neg h]
              rw [ec] at q; exact q
            obtain ⟨d0, r0, e0⟩ : ∃ d r, tl y = d :: r := by
              cases hy : tl y with
              | nil => exact absurd hy ne
              | cons d r => exact ⟨d, r, rfl⟩
            walk_at "rds"
            refine ⟨by omega, ?_⟩
            walk_at "rds"
            refine iB (fun h3 => ?_) (fun h3 => ?_)
            · have := of_decide_eq_true h3
              exact q0 (.inl (by omega))
            · have n3 := of_decide_eq_false h3
              walk_at "rds"
              refine ⟨y, _, d0, rfl, rfl, by omega, at_int (by omega) (by show (tl y)[0]? = _; rw [e0]; rfl), ?_⟩
              walk_at "rds"
              have e48 : tl (Str.ofString "0") = [48] := by decide
              refine iB (fun h4 => ?_) (fun h4 => ?_)
              · rw [str_eq, e48] at h4
                have := of_decide_eq_true h4
                have e5 : d0 = 48 := (List.cons.inj this).1
                exact q0 (.inr (.inl (by rw [e0, e5]; rfl)))
              · have n4 : d0 ≠ 48 := fun e => by
                  rw [str_eq, e48, e] at h4
                  exact absurd rfl (of_decide_eq_false h4)
                walk_at "rds"
                refine ⟨y, _, rfl, hv, by omega, ?_⟩
                walk_at "rds"
                refine iB (fun h5 => ?_) (fun h5 => ?_)
                · have h6 : (1000000000000 : Int) < (digitsVal (tl y) : Nat) := of_decide_eq_true h5
                  exact q0 (.inr (.inr (by omega)))
                · have h6 : ¬ (1000000000000 : Int) < (digitsVal (tl y) : Nat) := of_decide_eq_false h5
                  walk_at "rds"
                  refine ⟨y, _, rfl, hv, by omega, ?_⟩
                  refine q1 ?_
                  rintro (a | a | a)
                  · omega
                  · rw [e0] at a; simp at a; exact n4 a
                  · omega
        · have hh : ¬ Half (tl z) (1 + i) := fun hh => by
            rw [str_eq, lo, hi', decide_eq_true hh.2] at h2; cases h2
          exact ⟨rfl, _, _, _, rfl, more hh⟩
      · have hh : ¬ Half (tl z) (1 + i) := fun hh => by
          have := hh.1
          rw [hc] at this
          cases this
          rw [str_eq] at h
          have e2 : tl (Str.ofString "=") = [61] := by decide
          rw [e2] at h
          exact absurd rfl (of_decide_eq_false h)
        exact ⟨rfl, _, _, _, rfl, more hh⟩
    · rintro σ H' ⟨rfl, x1, x2, x3, rfl, hno⟩
      have e := due_no (l := tl z) fun k a b => hno k a (by omega)
      rw [e] at q
      exact q
abbrev s__law_cell : Stmt := top 6
abbrev N__law_cell : List Str := ["script", "k"]
abbrev P__law_cell : List Str := ["script", "k"]
theorem sc__law_cell : FnScope N__law_cell P__law_cell (defScope s__law_cell) := ⟨rfl, rfl, rfl, by decide +kernel, rfl, by decide +kernel, by decide +kernel⟩
theorem ok__law_cell {f : Addr} {fd : FuncData} (T : Tx mg) (F : Fun K "_law_cell" "_law_cell" s__law_cell f fd) : FnOk P w K mg base CX0 (1) f fd P__law_cell (sp_cell K) := by
  have nd := sc__law_cell.nd
  refine F.ok sc__law_cell (fun vs H Q E h => ?_) (fun cdv A outer s H vs Q E hr h => ?_)
  · obtain ⟨_, _, _, rfl, _⟩ := h
    rfl
  · obtain ⟨a, ns, k, rfl, k0, hS, q⟩ := h
    refine ⟨_, (pss_cons (ps_if (pt_cmpR op_lt (pv 1) (pe_callB call_len_seq (by rfl) T.b_len (by decide +kernel) (pa_cons (pv 0) pa_nil)) (nomark _))
        (pss_one (ps_ret (pe_ix ix_list (pv 0) (pv 1) (fun _ _ => rfl))))
        pss_nil)
      (pss_one (ps_ret pe_int))), ?_⟩
    have hl : (ns.map V.int).length = ns.length := List.length_map _
    walk_at "rds"
    refine ⟨a, _, rfl, .inl hS, ?_⟩
    walk_at "rds"
    refine iB (fun h => ?_) (fun h => ?_)
    · have hk : k < (((ns.map V.int).length : Nat) : Int) := of_decide_eq_true h
      have hk2 : k.toNat < ns.length := by omega
      walk_at "rds"
      exact ⟨a, _, _, .int ns[k.toNat], rfl, rfl, hS, at_int k0 (by rw [List.getElem?_map, List.getElem?_eq_getElem hk2]; rfl), q _⟩
    · exact q _
abbrev s__law_changed : Stmt := top 8
abbrev N__law_changed : List Str := ["text", "other", "cell", "at", "sign", "how"]
abbrev P__law_changed : List Str := ["text", "other", "cell"]
theorem sc__law_changed : FnScope N__law_changed P__law_changed (defScope s__law_changed) := ⟨rfl, rfl, rfl, by decide +kernel, rfl, by decide +kernel, by decide +kernel⟩
theorem ok__law_changed {f : Addr} {fd : FuncData} (T : Tx mg) (F : Fun K "_law_changed" "_law_changed" s__law_changed f fd) : FnOk P w K mg base CX0 (1) f fd P__law_changed (sp_changed) := by
  have nd := sc__law_changed.nd
  refine F.ok sc__law_changed (fun vs H Q E h => ?_) (fun cdv A outer s H vs Q E hr h => ?_)
  · obtain ⟨_, _, _, rfl, _⟩ := h
    rfl
  · obtain ⟨z, o, c, rfl, hz, ho, q⟩ := h
    have hs := sl
    have hl := len_tl z
    have hl2 := len_tl o
    refine ⟨_, (pss_cons (ps_set (i := 3) nd rfl (Or.inl rfl) (pe_op op_mod (pe_callTy call_int1 (by rfl) T.b_int (by decide +kernel) (pa_cons (pe_op op_fdiv (pv 2) pe_int) pa_nil)) (pe_op op_add (pe_callB call_len_str (by rfl) T.b_len (by decide +kernel) (pa_cons (pv 0) pa_nil)) pe_int)))
      (pss_cons (ps_set (i := 4) nd rfl (Or.inl rfl) (pe_ix ix_str pe_str (pe_op op_mod (pe_callTy call_int1 (by rfl) T.b_int (by decide +kernel) (pa_cons (pe_op op_fdiv (pv 2) pe_int) pa_nil)) pe_int) (fun _ _ => rfl)))
      (pss_cons (ps_set (i := 5) nd rfl (Or.inl rfl) (pe_op op_mod (pe_callTy call_int1 (by rfl) T.b_int (by decide +kernel) (pa_cons (pv 2) pa_nil)) pe_int))
      (pss_cons (ps_if (pt_cmpR op_eq (pv 5) pe_int (nomark _))
        (pss_one (ps_ret (pe_op op_add_str (pe_slice sl_str (pv 0) po_none (po_some (pv 3))) (pe_slice sl_str (pv 0) (po_some (pe_op op_add (pv 3) pe_int)) po_none))))
        pss_nil)
      (pss_cons (ps_if (pt_cmpR op_eq (pv 5) pe_int (nomark _))
        (pss_one (ps_ret (pe_op op_add_str (pe_op op_add_str (pe_slice sl_str (pv 0) po_none (po_some (pv 3))) (pv 4)) (pe_slice sl_str (pv 0) (po_some (pv 3)) po_none))))
        pss_nil)
      (pss_cons (ps_if (pt_cmpR op_eq (pv 5) pe_int (nomark _))
        (pss_one (ps_ret (pe_op op_add_str (pe_op op_add_str (pe_slice sl_str (pv 0) po_none (po_some (pv 3))) (pv 4)) (pe_slice sl_str (pv 0) (po_some (pe_op op_add (pv 3) pe_int)) po_none))))
        pss_nil)
      (pss_cons (ps_if (pt_cmpR op_eq (pv 5) pe_int (nomark _))
        (pss_one (ps_ret (pe_op op_add_str (pe_slice sl_str (pv 0) po_none (po_some (pv 3))) (pe_slice sl_str (pv 1) (po_some (pv 3)) po_none))))
        pss_nil)
      (pss_one (ps_ret (pe_op op_add_str (pe_slice sl_str (pv 1) po_none (po_some (pv 3))) (pe_slice sl_str (pv 0) (po_some (pv 3)) po_none))))))))))), ?_⟩
    walk_at "rds"
    refine ⟨by omega, ?_⟩
    walk_at "rds"
    refine ⟨by omega, ?_⟩
    walk_at "rds"
    have hr0 : 0 ≤ c / 300 % 16 := by omega
    have hr1 : c / 300 % 16 < 16 := by omega
    have e16 : (Str.ofString "0123456789==-+ a").cps.toList.length = 16 := by decide
    obtain ⟨sg, hsg⟩ : ∃ sg, (Str.ofString "0123456789==-+ a").cps.toList[(c / 300 % 16).toNat]? = some sg := ⟨_, List.getElem?_eq_getElem (by rw [e16]; omega)⟩
    refine ⟨_, _, sg, rfl, rfl, by decide, at_int hr0 hsg, ?_⟩
    walk_at "rds"
    have lz : ∀ lo hi, (cutS z lo hi).length ≤ 40 := fun lo hi => by rw [len_tl]; exact Nat.le_trans (cut_len z lo hi) hz
    have lo' : ∀ lo hi, (cutS o lo hi).length ≤ 40 := fun lo hi => by rw [len_tl]; exact Nat.le_trans (cut_len o lo hi) ho
    have l1 : (⟨#[sg]⟩ : Str).length = 1 := rfl
    have fin : ∀ a b : Str, a.length ≤ 41 → b.length ≤ 40 → Q (.str (a ++ b)) H := fun a b ha hb => by
      refine q _ ?_
      rw [tl_append, List.length_append, ← len_tl, ← len_tl]; omega
    have app1 : ∀ a b : Str, a.length ≤ 40 → b.length ≤ 1 → (a ++ b).length ≤ 41 := fun a b ha hb => by
      rw [len_tl, tl_append, List.length_append, ← len_tl, ← len_tl]; omega
    refine iB (fun h => ?_) (fun h => ?_)
    · walk_at "rds"
      refine ⟨by omega, ?_⟩
      walk_at "rds"
      refine ⟨by omega, ?_⟩
      have a1 := lz none (some (c / 8 % ((z.length : Int) + 1)))
      have a2 := lz (some (c / 8 % ((z.length : Int) + 1) + 1)) none
      exact ⟨_, _, rfl, rfl, by omega, fin _ _ (by omega) a2⟩
    walk_at "rds"
    refine iB (fun h => ?_) (fun h => ?_)
    · walk_at "rds"
      refine ⟨by omega, ?_⟩
      walk_at "rds"
      have a1 := lz none (some (c / 8 % ((z.length : Int) + 1)))
      have a2 := lz (some (c / 8 % ((z.length : Int) + 1))) none
      have a3 := app1 _ ⟨#[sg]⟩ a1 (Nat.le_of_eq l1)
      refine ⟨by omega, ?_⟩
      walk_at "rds"
      refine ⟨by omega, ?_⟩
      exact ⟨_, _, rfl, rfl, by omega, fin _ _ a3 a2⟩
    walk_at "rds"
    refine iB (fun h => ?_) (fun h => ?_)
    · walk_at "rds"
      refine ⟨by omega, ?_⟩
      walk_at "rds"
      have a1 := lz none (some (c / 8 % ((z.length : Int) + 1)))
      have a2 := lz (some (c / 8 % ((z.length : Int) + 1) + 1)) none
      have a3 := app1 _ ⟨#[sg]⟩ a1 (Nat.le_of_eq l1)
      refine ⟨by omega, ?_⟩
      walk_at "rds"
      refine ⟨by omega, ?_⟩
      exact ⟨_, _, rfl, rfl, by omega, fin _ _ a3 a2⟩
    walk_at "rds"
    refine iB (fun h => ?_) (fun h => ?_)
    · walk_at "rds"
      refine ⟨by omega, ?_⟩
      walk_at "rds"
      refine ⟨by omega, ?_⟩
      have a1 := lz none (some (c / 8 % ((z.length : Int) + 1)))
      have a2 := lo' (some (c / 8 % ((z.length : Int) + 1))) none
      exact ⟨_, _, rfl, rfl, by omega, fin _ _ (by omega) a2⟩
    walk_at "rds"
    refine ⟨by omega, ?_⟩
    walk_at "rds"
    refine ⟨by omega, ?_⟩
    have a1 := lo' none (some (c / 8 % ((z.length : Int) + 1)))
    have a2 := lz (some (c / 8 % ((z.length : Int) + 1))) none
    exact ⟨_, _, rfl, rfl, by omega, fin _ _ (by omega) a2⟩
theorem pick6 (a b c d : Int) (ha : 0 ≤ a ∧ a ≤ 1000000000001) (hb : 0 ≤ b ∧ b ≤ 1000000000001) (hc : c = 1000000000000) (hd : d = 1000000000001) (e : Int) (he : 0 ≤ e ∧ e ≤ 1000000000001) {k : Int} (h0 : 0 ≤ k) (h1 : k < 6) :
    ∃ x : Int, atI [V.int a, V.int b, V.int c, V.int d, V.int 0, V.int e] k = some (V.int x) ∧ 0 ≤ x ∧ x ≤ 1000000000001 := by
  have h : k = 0 ∨ k = 1 ∨ k = 2 ∨ k = 3 ∨ k = 4 ∨ k = 5 := by omega
  rcases h with rfl | rfl | rfl | rfl | rfl | rfl
  · exact ⟨a, rfl, ha⟩
  · exact ⟨b, rfl, hb⟩
  · exact ⟨c, rfl, by omega⟩
  · exact ⟨d, rfl, by omega⟩
  · exact ⟨0, rfl, by omega⟩
  · exact ⟨e, rfl, he⟩
theorem pick4 {k : Int} (h0 : 0 ≤ k) (h1 : k < 4) : ∃ x : Int, atI [V.int 1, V.int 2, V.int (-2), V.int 10] k = some (V.int x) ∧ x ≤ 10 := by
  have h : k = 0 ∨ k = 1 ∨ k = 2 ∨ k = 3 := by omega
  rcases h with rfl | rfl | rfl | rfl <;> exact ⟨_, rfl, by decide⟩
theorem zeros_val : ∀ n : Nat, digitsVal (49 :: List.replicate n 48) = 10 ^ n := by
  intro n
  induction n with
  | zero => rfl
  | succ n ih =>
    rw [List.replicate_succ', ← List.cons_append, digitsVal_snoc, ih, Nat.pow_succ]; omega
theorem flat_rep (n c : Nat) : (List.replicate n [c]).flatten = List.replicate n c := by
  induction n with
  | zero => rfl
  | succ n ih => rw [List.replicate_succ, List.flatten_cons, ih, List.replicate_succ]; rfl
abbrev s_law : Stmt := top 9
abbrev N_law : List Str := ["script", "k", "cell", "number", "text", "due", "other", "changed"]
abbrev P_law : List Str := ["script"]
theorem sc_law : FnScope N_law P_law (defScope s_law) := ⟨rfl, rfl, rfl, by decide +kernel, rfl, by decide +kernel, by decide +kernel⟩
theorem ok_law {f : Addr} {fd : FuncData} (T : Tx mg) (c__law_cell : DefOk P w K mg base CX0 "_law_cell" P__law_cell 1 (sp_cell K)) (c_life_text : DefOk P w K mg base CX0 "life_text" P_life_text 1 (sp_life_text)) (c_life_of : DefOk P w K mg base CX0 "life_of" P_life_of 2 (sp_life_of)) (c__law_changed : DefOk P w K mg base CX0 "_law_changed" P__law_changed 1 (sp_changed)) (c__law_due : DefOk P w K mg base CX0 "_law_due" P__law_due 1 (sp_due))(F : Fun K "law" "law" s_law f fd) : FnOk P w K mg base CX0 (5) f fd P_law (sp_law K) := by
  have nd := sc_law.nd
  refine F.ok sc_law (fun vs H Q E h => ?_) (fun cdv A outer s H vs Q E hr h => ?_)
  · obtain ⟨_, _, rfl, _⟩ := h
    rfl
  · obtain ⟨a, ns, rfl, hS, h63, q⟩ := h
    have hs := sl
    refine ⟨_, (pss_cons (ps_for PassesOwn.never rfl (pi_range2 (by rfl) T.b_range (pa_cons pe_int (pa_cons (pe_callB (call_max2 rfl) (by rfl) T.b_max (by decide +kernel) (pa_cons pe_int (pa_cons (pe_callB (call_min2 rfl) (by rfl) T.b_min (by decide +kernel) (pa_cons (pe_callB call_len_seq (by rfl) T.b_len (by decide +kernel) (pa_cons (pv 0) pa_nil)) (pa_cons pe_int pa_nil))) pa_nil))) pa_nil))) (pg_name (i := 1) nd rfl (Or.inl rfl))
        (pss_cons (ps_set (i := 2) nd rfl (Or.inl rfl) (pe_callTy call_int1 (by rfl) T.b_int (by decide +kernel) (pa_cons (pcall c__law_cell hr (pa_cons (pv 0) (pa_cons (pv 1) pa_nil))) pa_nil)))
        (pss_cons (ps_set (i := 3) nd rfl (Or.inl rfl) (pe_ix ix_list (pe_lst (pa_cons (pe_op op_mod (pv 2) pe_int) (pa_cons (pe_op op_mod (pv 2) (pe_op op_pow pe_int pe_int)) (pa_cons (pe_op op_pow pe_int pe_int) (pa_cons (pe_op op_add (pe_op op_pow pe_int pe_int) pe_int) (pa_cons pe_int (pa_cons (pe_callTy call_int_str (by rfl) T.b_int (by decide +kernel) (pa_cons (pe_op op_add_str pe_str (pe_op op_mul_strN pe_str (pe_op op_mod (pv 2) pe_int))) pa_nil)) pa_nil))))))) (pe_op op_mod (pe_op op_fdiv (pv 2) pe_int) pe_int) (fun _ _ => rfl)))
        (pss_cons (ps_set (i := 4) nd rfl (Or.inl rfl) (pcall c_life_text hr (pa_cons (pv 3) pa_nil)))
        (pss_cons (ps_if (pt_cmpR op_ne (pv 4) (pe_op op_add_str (pe_op op_add_str (pe_callTy call_str_int (by rfl) T.b_str (by decide +kernel) (pa_cons (pv 3) pa_nil)) pe_str) (pe_callTy call_str_int (by rfl) T.b_str (by decide +kernel) (pa_cons (pv 3) pa_nil))) (nomark _))
          (pss_one (ps_ret pe_bl))
          pss_nil)
        (pss_cons (ps_set (i := 5) nd rfl (Or.inl rfl) (pv 3))
        (C8.pss_cut (ps_if (pt_cmpR op_gt (pv 3) (pe_op op_pow pe_int pe_int) (nomark _))
          (pss_one (ps_set (i := 5) nd rfl (Or.inl rfl) pe_int))
          pss_nil)
        (pss_cons (ps_if (PW.pt (pw_or (pt_val (pe_callB call_isi (by rfl) T.b_isinstance (by decide +kernel) (pa_cons (pcall c_life_of hr (pa_cons (pv 4) pa_nil)) (pa_cons (pe_ty "bool" T.b_bool) pa_nil)))) (pw_or1 (pt_cmpR op_ne (pcall c_life_of hr (pa_cons (pv 4) pa_nil)) (pv 5) (nomark _)))))
          (pss_one (ps_ret pe_bl))
          pss_nil)
        (pss_cons (ps_set (i := 6) nd rfl (Or.inl rfl) (pcall c_life_text hr (pa_cons (pe_callB (call_max2 rfl) (by rfl) T.b_max (by decide +kernel) (pa_cons pe_int (pa_cons (pe_op op_add (pv 3) (pe_ix ix_list (pe_lst (pa_cons pe_int (pa_cons pe_int (pa_cons (pe_un un_neg pe_int) (pa_cons pe_int pa_nil))))) (pe_op op_mod (pe_op op_fdiv (pv 2) pe_int) pe_int) (fun _ _ => rfl))) pa_nil))) pa_nil)))
        (pss_cons (ps_set (i := 7) nd rfl (Or.inl rfl) (pcall c__law_changed hr (pa_cons (pv 4) (pa_cons (pv 6) (pa_cons (pe_op op_fdiv (pv 2) pe_int) pa_nil)))))
        (pss_one (ps_if (pt_cmpR op_ne (pcall c_life_of hr (pa_cons (pv 7) pa_nil)) (pcall c__law_due hr (pa_cons (pv 7) pa_nil)) (nomark _))
          (pss_one (ps_ret pe_bl))
          pss_nil))))))))))))
      (pss_one (ps_ret (pe_and (pe_cmpR op_eq (pcall c_life_of hr (pa_cons pe_str pa_nil)) pe_int (nomark _)) (pe_one (pe_cmpR op_eq (pcall c_life_of hr (pa_cons pe_str pa_nil)) pe_int (nomark _))))))), ?_⟩
    have hl : (ns.map V.int).length = ns.length := List.length_map _
    have hj : ∀ L : Int, 0 ≤ L → 0 ≤ (if (if 30 < L then 30 else L) > 1 then (if 30 < L then 30 else L) else 1) ∧ (if (if 30 < L then 30 else L) > 1 then (if 30 < L then 30 else L) else 1) ≤ 30 := by
      intro L h
      split <;> split <;> omega
    have hj' := hj (((ns.map V.int).length : Nat) : Int) (by omega)
    walk_at "rds"
    refine ⟨a, _, rfl, .inl hS, ?_⟩
    walk_at "rds"
    refine ⟨⟨by decide, by decide, by omega, by omega⟩, ?_⟩
    refine for_range (lo := 0) (fun i σ H' => ∃ (x1 x2 x3 x4 x5 x6 x7 : Option V), σ = [some (.ref a), x1, x2, x3, x4, x5, x6, x7] ∧ Same H H') ⟨_, _, _, _, _, _, _, rfl, Same.rfl' H⟩ ?_ ?_
    · rintro i σ H1 hi ⟨x1, x2, x3, x4, x5, x6, x7, rfl, sH⟩
      walk_at "rds"
      refine ⟨a, ns, _, rfl, by omega, sH.seq hS, fun cell => ?_⟩
      walk_at "rds"
      refine ⟨by omega, by omega, by decide, by decide, fun rz hrz => ?_⟩
      have t0 : tl (Str.ofString "0") = [48] := by decide
      have t1 : tl (Str.ofString "1") = [49] := by decide
      rw [t0, flat_rep] at hrz
      have hlr := len_tl rz
      rw [hrz, List.length_replicate] at hlr
      have h11 : (cell % 12).toNat ≤ 11 := by omega
      refine ⟨_, _, rfl, rfl, by rw [len_tl, t1]; show 1 + _ ≤ _; omega, ?_⟩
      have tz : tl (Str.ofString "1" ++ rz) = 49 :: List.replicate (cell % 12).toNat 48 := by rw [tl_append, t1, hrz]; rfl
      have tlz := len_tl (Str.ofString "1" ++ rz)
      rw [tz, List.length_cons, List.length_replicate] at tlz
      have hv := intText_digits (x := Str.ofString "1" ++ rz) (by
        show AllDigits (tl (Str.ofString "1" ++ rz))
        rw [tz]
        intro c hc
        rcases List.mem_cons.mp hc with e | e
        · omega
        · have := List.eq_of_mem_replicate e; omega) (by show tl (Str.ofString "1" ++ rz) ≠ []; rw [tz]; simp) (by omega)
      have ev : digitsVal (Str.ofString "1" ++ rz).cps.toList = 10 ^ (cell % 12).toNat := by
        show digitsVal (tl (Str.ofString "1" ++ rz)) = _
        rw [tz]; exact zeros_val _
      rw [ev] at hv
      walk_at "rds"
      refine ⟨_, _, rfl, hv, by omega, ?_⟩
      have p11 : 10 ^ (cell % 12).toNat ≤ 10 ^ 11 := Nat.pow_le_pow_right (by decide) h11
      refine ⟨by show 6 ≤ sizeLine; omega, fun D nD => ?_⟩
      obtain ⟨num, hnum, n0, n1⟩ := pick6 (cell % 120) (cell % (10 ^ Int.toNat 12)) (10 ^ Int.toNat 12) (10 ^ Int.toNat 12 + 1) (by omega) (by
        have : (10 : Int) ^ Int.toNat 12 = 1000000000000 := by decide
        rw [this]; omega) (by decide) (by decide) ((10 ^ (cell % 12).toNat : Nat) : Int) (by omega) (k := cell / 3 % 6) (by omega) (by omega)
      have sD := same_new nD (.lst [V.int (cell % 120), V.int (cell % (10 ^ Int.toNat 12)), V.int (10 ^ Int.toNat 12), V.int (10 ^ Int.toNat 12 + 1), V.int 0, V.int ((10 ^ (cell % 12).toNat : Nat) : Int)])
      have hD : (upd H1 D (.lst [V.int (cell % 120), V.int (cell % (10 ^ Int.toNat 12)), V.int (10 ^ Int.toNat 12), V.int (10 ^ Int.toNat 12 + 1), V.int 0, V.int ((10 ^ (cell % 12).toNat : Nat) : Int)])) D = some (.lst [V.int (cell % 120), V.int (cell % (10 ^ Int.toNat 12)), V.int (10 ^ Int.toNat 12), V.int (10 ^ Int.toNat 12 + 1), V.int 0, V.int ((10 ^ (cell % 12).toNat : Nat) : Int)]) := upd_same
      walk_at "rds"
      refine ⟨D, _, _, _, rfl, rfl, SqL.of hD, hnum, ?_⟩
      walk_at "rds"
      generalize upd H1 D _ = H2 at *
      have s2 := sH.trans sD
      refine ⟨n0, by omega, fun y hy => ?_⟩
      have en := tl_nat n0
      have hn13 : (numL num.toNat).length ≤ 13 := numL_len (k := 13) (by decide) (by omega)
      have lt : (lifeT num.toNat).length ≤ 40 := by unfold lifeT; rw [List.length_append, List.length_cons]; omega
      walk_at "rds"
      refine ⟨log_small (by omega), ?_⟩
      walk_at "rds"
      have tE : tl (Str.ofString "=") = [61] := by decide
      have u1 : tl (Str.ofString (toString num) ++ Str.ofString "=") = numL num.toNat ++ [61] := by rw [tl_append, en, tE]
      have u2 : tl (Str.ofString (toString num) ++ Str.ofString "=" ++ Str.ofString (toString num)) = tl y := by
        rw [tl_append, u1, en, hy]; unfold lifeT; rw [List.append_assoc]; rfl
      refine ⟨by rw [len_tl, len_tl, en, tE]; show _ + 1 ≤ _; omega, ?_⟩
      walk_at "rds"
      refine ⟨log_small (by omega), ?_⟩
      walk_at "rds"
      refine ⟨by rw [len_tl, len_tl, u1, en, List.length_append]; show _ + 1 + _ ≤ _; omega, ?_⟩
      walk_at "rds"
      refine nF (congrArg V.str (ext_tl u2.symm)) ?_
      refine ⟨_, rfl, ?_⟩
      have hF : lifeF (tl y) = if num ≤ 1000000000000 then num.toNat else 0 := by
        rw [hy]
        by_cases hle : num ≤ 1000000000000
        · rw [if_pos hle]
          by_cases h1' : 1 ≤ num.toNat
          · exact lifeF_T h1' (by omega)
          · rw [lifeF_big (.inl (by omega))]; omega
        · rw [if_neg hle]; exact lifeF_big (.inr (by omega))
      refine ⟨fun σ' H' => σ' = [some (.ref a), some (.int (0 + (i : Int))), some (.int cell), some (.int num), some (.str y), some (.int (lifeF (tl y) : Nat)), x6, x7] ∧ H' = H2, ?_, ?_⟩
      · walk_at "rds"
        refine iB (fun h => ?_) (fun h => ?_)
        · have h2 : (1000000000000 : Int) < num := of_decide_eq_true h
          rw [if_neg (by omega)] at hF
          rw [hF]
          exact ⟨rfl, rfl⟩
        · have h2 : ¬ (1000000000000 : Int) < num := of_decide_eq_false h
          rw [if_pos (by omega)] at hF
          rw [hF, Int.toNat_of_nonneg n0]
          exact ⟨rfl, rfl⟩
      · rintro σ' H' ⟨rfl, rfl⟩
        have hyl : (tl y).length ≤ 1000 := by rw [hy]; omega
        walk_at "rds"
        refine ⟨hyl, fun H3 s3 => ?_⟩
        refine ⟨_, _, _, _, false, rfl, .ty _, .base (.int _), kit_ty (by decide +kernel), ?_⟩
        walk_at "rds"
        refine ⟨hyl, fun H4 s4 => ?_⟩
        walk_at "rds"
        refine nF rfl ?_
        walk_at "rds"
        refine ⟨by show 4 ≤ sizeLine; omega, fun D2 nD2 => ?_⟩
        obtain ⟨pk, hpk, pk1⟩ := pick4 (k := cell / 7 % 4) (by omega) (by omega)
        have s5 := same_new nD2 (.lst [V.int 1, V.int 2, V.int (-2), V.int 10])
        have hD2 : (upd H4 D2 (.lst [V.int 1, V.int 2, V.int (-2), V.int 10])) D2 = some (.lst [V.int 1, V.int 2, V.int (-2), V.int 10]) := upd_same
        walk_at "rds"
        refine ⟨D2, _, _, _, rfl, rfl, SqL.of hD2, hpk, ?_⟩
        walk_at "rds"
        have o0 : 0 ≤ (if num + pk > 0 then num + pk else 0) := by split <;> omega
        have o1 : (if num + pk > 0 then num + pk else 0) ≤ 1000000000011 := by split <;> omega
        refine ⟨o0, by omega, fun o ho => ?_⟩
        have on13 : (numL (if num + pk > 0 then num + pk else 0).toNat).length ≤ 13 := numL_len (k := 13) (by decide) (by omega)
        walk_at "rds"
        refine ⟨y, o, _, rfl, by rw [hy]; exact lt, by rw [ho]; unfold lifeT; rw [List.length_append, List.length_cons]; omega, fun ch hch => ?_⟩
        walk_at "rds"
        refine ⟨by omega, fun H5 s6 => ?_⟩
        walk_at "rds"
        refine ⟨hch, ?_⟩
        walk_at "rds"
        refine nF rfl ?_
        exact ⟨_, _, _, _, _, _, _, rfl, s2.trans (s3.trans (s4.trans (s5.trans s6)))⟩
    · rintro σ H1 ⟨x1, x2, x3, x4, x5, x6, x7, rfl, sH⟩
      walk_at "rds"
      have f0 : lifeF (tl (Str.ofString "")) = 0 := by decide
      have f1 : lifeF (tl (Str.ofString "=")) = 0 := by decide
      refine ⟨by decide, fun H2 s2 => ?_⟩
      rw [f0]
      walk_at "rds"
      refine ⟨by decide, fun H3 s3 => ?_⟩
      rw [f1]
      walk_at "rds"
      exact q _
end
end Mus

set_option maxRecDepth 100000
set_option maxHeartbeats 4000000
namespace Mus
open PySem L2
def at_mk {K : PySem.W.Frag} {h : Heap} {mg : Str → Option Value} {x : Str} {ps : List Str} {st : Stmt} {f : Addr} {oc : Value} {od an : Option Addr} {osl : Array (Option Value)} {kV dc pm cd ct : Value} (X : K.In h) (G : h.Ns mainGlobals mg) (a : PySem.W.nsIn K mainGlobals x = some (some (.ref f)))
    (l : K.lookup f = some ⟨oc, od, .func (PySem.W.fnOf x x (defArgs st) (defBody st) (defScope st) .none kV dc pm an cd ct), osl⟩) (c : PySem.W.codeIn K cd x = true) (k : PySem.W.keepIn K (.ref f) = true)
    (hb : ∀ (kV doc pm : Value) (an : Option Addr) (cdv ct : Value) (us : List Value), us.length = ps.length → bindArgs (PySem.W.fnOf x x (defArgs st) (defBody st) (defScope st) .none kV doc pm an cdv ct) ⟨us, []⟩ = pure (ps.zip us)) : DefAt K mg x ps st :=
  ⟨f, _, fun_mk (st := st) l c k, PySem.W.mg_of X G a, (fun_mk (st := st) l c k).binds hb⟩
theorem walk_ofX {l : PySem.W.OpenLaw} {n k : Nat} {q : Program} {loose : List Str} {XP : (Str → Option Value) → Heap → Prop} {YP : World → Heap → Prop} {d : DefRec} {K : Params → PySem.W.Frag} {sp : World → Sp} {x : Str}
    (most : l.most = some n) (few : n ≤ sizeLine) (nod : d.params.defaults = []) (room : Room k callerA) (kin : ∀ (w : World) (h : Heap), YP w h → (K w.params).In h)
    (F : ∀ (w : World) (mg : Str → Option Value) (at1 : Addr) (h : Heap), (K w.params).In h → h.Ns mainGlobals mg → XP mg h → mg d.name = some (.ref at1) →
      ∃ fd : FuncData, (∀ (s : Shared) (u : Value), BindsTo s fd ⟨[u], []⟩ [(x, u)]) ∧ ∀ base : Heap, (K w.params).In base → base.Ns mainGlobals mg → FnOk l.prog w (K w.params) mg base CX0 k at1 fd [x] (sp w))
    (hsp : ∀ (w : World) (H : Hp) (a : Addr) (ns : List Int), ns.length ≤ n → Only H → SqL (K w.params) H a (ns.map V.int) → sp w [.ref a] H (fun v _ => v = .bl true) fun _ _ _ => False) :
    PySem.W.WalkO q loose XP YP l.row.toRowW d [] (fun f vs => PySem.call f vs) := by
  refine Att.attach_call most nod fun w sb sc mg mB at1 o pm1 cd1 doc1 a vs ns G Y ho1 hd1 hc1 hm1 ob1 in1 ln1 hg1 => ?_
  have inK := kin w _ Y
  obtain ⟨fd, bnd, pr⟩ := F w mg at1 _ inK G.T.g G.X hm1
  exact law_call inK G.T.g G.T.b G.T.builtins G.T.nolimit hg1 ob1 in1 (Nat.le_trans ln1 few) room pr bnd (fun H hO hS => hsp w H a ns ln1 hO hS) fun H e s' z => z
theorem loose_int {n : Str} {i : Int} {mg : Str → Option Value} {h : Heap} (x : PySem.W.LooseAre [(n, PySem.W.WData.int i)] mg h) : ∃ t, mg n = some (.int i t) := by
  obtain ⟨v, h1, h2⟩ := x.val _ (List.mem_singleton.mpr rfl)
  cases h2
  exact ⟨_, h1⟩
theorem all_mk {l : PySem.W.OpenLaw} {w : World} {K : PySem.W.Frag} {h : Heap} {mg : Str → Option Value} {fa : Addr} (X : K.In h) (G : h.Ns mainGlobals mg) (hfa : mg "law" = some (.ref fa)) (hL0 : ∃ t, mg "MOST_NUMBER" = some (.int 1000000000000 t))
    {odx_life_text anx_life_text : Option Addr} {slx_life_text : Array (Option Value)} {ocx_life_text kVx_life_text dcx_life_text pmx_life_text cdx_life_text ctx_life_text : Value} {fx_life_text : Addr}
    {odx_life_of anx_life_of : Option Addr} {slx_life_of : Array (Option Value)} {ocx_life_of kVx_life_of dcx_life_of pmx_life_of cdx_life_of ctx_life_of : Value} {fx_life_of : Addr}
    {odx__are_digits anx__are_digits : Option Addr} {slx__are_digits : Array (Option Value)} {ocx__are_digits kVx__are_digits dcx__are_digits pmx__are_digits cdx__are_digits ctx__are_digits : Value} {fx__are_digits : Addr}
    {odx__law_cell anx__law_cell : Option Addr} {slx__law_cell : Array (Option Value)} {ocx__law_cell kVx__law_cell dcx__law_cell pmx__law_cell cdx__law_cell ctx__law_cell : Value} {fx__law_cell : Addr}
    {odx__law_due anx__law_due : Option Addr} {slx__law_due : Array (Option Value)} {ocx__law_due kVx__law_due dcx__law_due pmx__law_due cdx__law_due ctx__law_due : Value} {fx__law_due : Addr}
    {odx__law_changed anx__law_changed : Option Addr} {slx__law_changed : Array (Option Value)} {ocx__law_changed kVx__law_changed dcx__law_changed pmx__law_changed cdx__law_changed ctx__law_changed : Value} {fx__law_changed : Addr}
    {odx_law anx_law : Option Addr} {slx_law : Array (Option Value)} {ocx_law kVx_law dcx_law pmx_law cdx_law ctx_law : Value} {fx_law : Addr}
    (ax_life_text : PySem.W.nsIn K mainGlobals "life_text" = some (some (.ref fx_life_text)))
    (lx_life_text : K.lookup fx_life_text = some ⟨ocx_life_text, odx_life_text, .func (PySem.W.fnOf "life_text" "life_text" (defArgs s_life_text) (defBody s_life_text) (defScope s_life_text) .none kVx_life_text dcx_life_text pmx_life_text anx_life_text cdx_life_text ctx_life_text), slx_life_text⟩)
    (cx_life_text : PySem.W.codeIn K cdx_life_text "life_text" = true)
    (kx_life_text : PySem.W.keepIn K (.ref fx_life_text) = true)
    (ax_life_of : PySem.W.nsIn K mainGlobals "life_of" = some (some (.ref fx_life_of)))
    (lx_life_of : K.lookup fx_life_of = some ⟨ocx_life_of, odx_life_of, .func (PySem.W.fnOf "life_of" "life_of" (defArgs s_life_of) (defBody s_life_of) (defScope s_life_of) .none kVx_life_of dcx_life_of pmx_life_of anx_life_of cdx_life_of ctx_life_of), slx_life_of⟩)
    (cx_life_of : PySem.W.codeIn K cdx_life_of "life_of" = true)
    (kx_life_of : PySem.W.keepIn K (.ref fx_life_of) = true)
    (ax__are_digits : PySem.W.nsIn K mainGlobals "_are_digits" = some (some (.ref fx__are_digits)))
    (lx__are_digits : K.lookup fx__are_digits = some ⟨ocx__are_digits, odx__are_digits, .func (PySem.W.fnOf "_are_digits" "_are_digits" (defArgs s__are_digits) (defBody s__are_digits) (defScope s__are_digits) .none kVx__are_digits dcx__are_digits pmx__are_digits anx__are_digits cdx__are_digits ctx__are_digits), slx__are_digits⟩)
    (cx__are_digits : PySem.W.codeIn K cdx__are_digits "_are_digits" = true)
    (kx__are_digits : PySem.W.keepIn K (.ref fx__are_digits) = true)
    (ax__law_cell : PySem.W.nsIn K mainGlobals "_law_cell" = some (some (.ref fx__law_cell)))
    (lx__law_cell : K.lookup fx__law_cell = some ⟨ocx__law_cell, odx__law_cell, .func (PySem.W.fnOf "_law_cell" "_law_cell" (defArgs s__law_cell) (defBody s__law_cell) (defScope s__law_cell) .none kVx__law_cell dcx__law_cell pmx__law_cell anx__law_cell cdx__law_cell ctx__law_cell), slx__law_cell⟩)
    (cx__law_cell : PySem.W.codeIn K cdx__law_cell "_law_cell" = true)
    (kx__law_cell : PySem.W.keepIn K (.ref fx__law_cell) = true)
    (ax__law_due : PySem.W.nsIn K mainGlobals "_law_due" = some (some (.ref fx__law_due)))
    (lx__law_due : K.lookup fx__law_due = some ⟨ocx__law_due, odx__law_due, .func (PySem.W.fnOf "_law_due" "_law_due" (defArgs s__law_due) (defBody s__law_due) (defScope s__law_due) .none kVx__law_due dcx__law_due pmx__law_due anx__law_due cdx__law_due ctx__law_due), slx__law_due⟩)
    (cx__law_due : PySem.W.codeIn K cdx__law_due "_law_due" = true)
    (kx__law_due : PySem.W.keepIn K (.ref fx__law_due) = true)
    (ax__law_changed : PySem.W.nsIn K mainGlobals "_law_changed" = some (some (.ref fx__law_changed)))
    (lx__law_changed : K.lookup fx__law_changed = some ⟨ocx__law_changed, odx__law_changed, .func (PySem.W.fnOf "_law_changed" "_law_changed" (defArgs s__law_changed) (defBody s__law_changed) (defScope s__law_changed) .none kVx__law_changed dcx__law_changed pmx__law_changed anx__law_changed cdx__law_changed ctx__law_changed), slx__law_changed⟩)
    (cx__law_changed : PySem.W.codeIn K cdx__law_changed "_law_changed" = true)
    (kx__law_changed : PySem.W.keepIn K (.ref fx__law_changed) = true)
    (ax_law : PySem.W.nsIn K mainGlobals "law" = some (some (.ref fx_law)))
    (lx_law : K.lookup fx_law = some ⟨ocx_law, odx_law, .func (PySem.W.fnOf "law" "law" (defArgs s_law) (defBody s_law) (defScope s_law) .none kVx_law dcx_law pmx_law anx_law cdx_law ctx_law), slx_law⟩)
    (cx_law : PySem.W.codeIn K cdx_law "law" = true)
    (kx_law : PySem.W.keepIn K (.ref fx_law) = true)
    (zlen : PySem.W.nsIn K mainGlobals "len" = some none)
    (zisinstance : PySem.W.nsIn K mainGlobals "isinstance" = some none)
    (zint : PySem.W.nsIn K mainGlobals "int" = some none)
    (zbool : PySem.W.nsIn K mainGlobals "bool" = some none)
    (zstr : PySem.W.nsIn K mainGlobals "str" = some none)
    (zrange : PySem.W.nsIn K mainGlobals "range" = some none)
    (zmin : PySem.W.nsIn K mainGlobals "min" = some none)
    (zmax : PySem.W.nsIn K mainGlobals "max" = some none) :
    ∃ fd : FuncData, (∀ (s : Shared) (v : Value), BindsTo s fd ⟨[v], []⟩ [("script", v)]) ∧ ∀ base : Heap, K.In base → base.Ns mainGlobals mg → FnOk l.prog w K mg base CX0 5 fa fd ["script"] (sp_law K) := by
  have e := hfa.symm.trans (PySem.W.mg_of X G ax_law)
  cases e
  have T : Tx mg := {
    b_len := PySem.W.mg_none_of X G zlen
    b_isinstance := PySem.W.mg_none_of X G zisinstance
    b_int := PySem.W.mg_none_of X G zint
    b_bool := PySem.W.mg_none_of X G zbool
    b_str := PySem.W.mg_none_of X G zstr
    b_range := PySem.W.mg_none_of X G zrange
    b_min := PySem.W.mg_none_of X G zmin
    b_max := PySem.W.mg_none_of X G zmax
    c_MOST_NUMBER := hL0 }
  let a_life_text : DefAt K mg "life_text" P_life_text s_life_text := at_mk X G ax_life_text lx_life_text cx_life_text kx_life_text fun _ _ _ _ _ _ us hl => match us, hl with | [_], _ => rfl
  let a_life_of : DefAt K mg "life_of" P_life_of s_life_of := at_mk X G ax_life_of lx_life_of cx_life_of kx_life_of fun _ _ _ _ _ _ us hl => match us, hl with | [_], _ => rfl
  let a__are_digits : DefAt K mg "_are_digits" P__are_digits s__are_digits := at_mk X G ax__are_digits lx__are_digits cx__are_digits kx__are_digits fun _ _ _ _ _ _ us hl => match us, hl with | [_], _ => rfl
  let a__law_cell : DefAt K mg "_law_cell" P__law_cell s__law_cell := at_mk X G ax__law_cell lx__law_cell cx__law_cell kx__law_cell fun _ _ _ _ _ _ us hl => match us, hl with | [_, _], _ => rfl
  let a__law_due : DefAt K mg "_law_due" P__law_due s__law_due := at_mk X G ax__law_due lx__law_due cx__law_due kx__law_due fun _ _ _ _ _ _ us hl => match us, hl with | [_], _ => rfl
  let a__law_changed : DefAt K mg "_law_changed" P__law_changed s__law_changed := at_mk X G ax__law_changed lx__law_changed cx__law_changed kx__law_changed fun _ _ _ _ _ _ us hl => match us, hl with | [_, _, _], _ => rfl
  have F_law := fun_mk (st := s_law) lx_law cx_law kx_law
  refine ⟨PySem.W.fnOf "law" "law" (defArgs s_law) (defBody s_law) (defScope s_law) .none kVx_law dcx_law pmx_law anx_law cdx_law ctx_law, fun s v => .of_eq rfl, fun base _ _ => ?_⟩
  let c_life_text : DefOk l.prog w K mg base CX0 "life_text" P_life_text 1 (sp_life_text) := a_life_text.ok fun F => ok_life_text T  F
  let c__are_digits : DefOk l.prog w K mg base CX0 "_are_digits" P__are_digits 1 (sp_digits) := a__are_digits.ok fun F => ok__are_digits T  F
  let c_life_of : DefOk l.prog w K mg base CX0 "life_of" P_life_of 2 (sp_life_of) := a_life_of.ok fun F => ok_life_of T c_life_text c__are_digits F
  let c__law_cell : DefOk l.prog w K mg base CX0 "_law_cell" P__law_cell 1 (sp_cell K) := a__law_cell.ok fun F => ok__law_cell T  F
  let c__law_due : DefOk l.prog w K mg base CX0 "_law_due" P__law_due 1 (sp_due) := a__law_due.ok fun F => ok__law_due T  F
  let c__law_changed : DefOk l.prog w K mg base CX0 "_law_changed" P__law_changed 1 (sp_changed) := a__law_changed.ok fun F => ok__law_changed T  F
  exact ok_law T c__law_cell c_life_text c_life_of c__law_changed c__law_due F_law
end Mus
open PySem PySem.W PyProof.Rows
set_option maxRecDepth 100000 in
set_option maxHeartbeats 0 in
theorem PySem.Challenge.cw_mustercall_k11_texts_of_lives_holds : PySem.Challenge.rw_mustercall_k11_texts_of_lives.Holds := by
  w_on; o_law; k_head; (case hw => w_witness2)
  k_fill
  refine Mus.walk_ofX (l := PySem.Challenge.rw_mustercall_k11_texts_of_lives) (n := 63) (k := 5) (x := "script") (sp := fun w => Mus.sp_law (_ : PySem.W.Frag)) rfl (by decide) rfl ⟨rfl, by decide, by decide⟩ (fun w h Y => PySem.W.kIn_of Y) ?F (fun _ _ a ns hl _ hS => ⟨a, ns, rfl, hS, hl, fun _ => rfl⟩)
  case F =>
    intro w mg fa h KX G XX hmg
    refine' Mus.all_mk KX G hmg (Mus.loose_int XX.2) ?ax_life_text ?lx_life_text ?cx_life_text ?kx_life_text ?ax_life_of ?lx_life_of ?cx_life_of ?kx_life_of ?ax__are_digits ?lx__are_digits ?cx__are_digits ?kx__are_digits ?ax__law_cell ?lx__law_cell ?cx__law_cell ?kx__law_cell ?ax__law_due ?lx__law_due ?cx__law_due ?kx__law_due ?ax__law_changed ?lx__law_changed ?cx__law_changed ?kx__law_changed ?ax_law ?lx_law ?cx_law ?kx_law ?zlen ?zisinstance ?zint ?zbool ?zstr ?zrange ?zmin ?zmax
    (case ax_life_text => first | k_is | rfl)
    (case lx_life_text => first | k_is | rfl)
    (case cx_life_text => first | k_is | rfl)
    (case kx_life_text => first | k_is | rfl)
    (case ax_life_of => first | k_is | rfl)
    (case lx_life_of => first | k_is | rfl)
    (case cx_life_of => first | k_is | rfl)
    (case kx_life_of => first | k_is | rfl)
    (case ax__are_digits => first | k_is | rfl)
    (case lx__are_digits => first | k_is | rfl)
    (case cx__are_digits => first | k_is | rfl)
    (case kx__are_digits => first | k_is | rfl)
    (case ax__law_cell => first | k_is | rfl)
    (case lx__law_cell => first | k_is | rfl)
    (case cx__law_cell => first | k_is | rfl)
    (case kx__law_cell => first | k_is | rfl)
    (case ax__law_due => first | k_is | rfl)
    (case lx__law_due => first | k_is | rfl)
    (case cx__law_due => first | k_is | rfl)
    (case kx__law_due => first | k_is | rfl)
    (case ax__law_changed => first | k_is | rfl)
    (case lx__law_changed => first | k_is | rfl)
    (case cx__law_changed => first | k_is | rfl)
    (case kx__law_changed => first | k_is | rfl)
    (case ax_law => first | k_is | rfl)
    (case lx_law => first | k_is | rfl)
    (case cx_law => first | k_is | rfl)
    (case kx_law => first | k_is | rfl)
    (case zlen => first | k_is | rfl)
    (case zisinstance => first | k_is | rfl)
    (case zint => first | k_is | rfl)
    (case zbool => first | k_is | rfl)
    (case zstr => first | k_is | rfl)
    (case zrange => first | k_is | rfl)
    (case zmin => first | k_is | rfl)
    (case zmax => first | k_is | rfl)

