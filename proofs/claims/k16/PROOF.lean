import PyProof.Rows.All
import Wide.All
import OpenK.AllK
import Wide.FinOn
import HandS.Base
import HandS.Call
import HandS.List
import HandS.Comp
import HandS.Ends
import HandS.Iter
import HandS.Text
import HandS.Words
import HandS.WordsList
import HandS.Wide
import HandS.IsInst
import HandS.TupAny
import HandS.Dict
import HandS.WordsDict
import HandS.Conv
import HandS.More
import HandS.Codes
import HandS.SortRule
import HandS.Walk
import PySem.Challenge.RW_mustercall_k16_watch
set_option Elab.async false
set_option linter.all false
set_option maxRecDepth 100000
set_option maxHeartbeats 4000000
/-! What my proofs share: a def with its promise as one thing, small rules, heaps. -/
namespace Mus
open PySem L2
/-- a def of the text that keeps a promise, and all that a call of it asks -/
structure DefOk (P : Program) (w : World) (K : PySem.W.Frag) (mg : Str → Option Value) (base : Heap) (CX : CXT) (x : Str) (ps : List Str) (k : Nat) (sp : Sp) where
  f : Addr
  fd : FuncData
  G : FnOk P w K mg base CX k f fd ps sp
  m : mg x = some (.ref f)
  kp : PySem.W.keepIn K (.ref f) = true
  b : Binds K fd ps []
def DefOk.mono {P : Program} {w : World} {K : PySem.W.Frag} {mg : Str → Option Value} {base : Heap} {CX : CXT} {x : Str} {ps : List Str} {j k : Nat} {sp : Sp} (c : DefOk P w K mg base CX x ps j sp) (h : j ≤ k) : DefOk P w K mg base CX x ps k sp :=
  ⟨c.f, c.fd, c.G.mono h, c.m, c.kp, c.b⟩
/-- a def of the text as the top left it: no promise yet -/
structure DefAt (K : PySem.W.Frag) (mg : Str → Option Value) (x : Str) (ps : List Str) (st : Stmt) where
  f : Addr
  fd : FuncData
  F : Fun K x x st f fd
  m : mg x = some (.ref f)
  b : Binds K fd ps []
def DefAt.ok {P : Program} {w : World} {K : PySem.W.Frag} {mg : Str → Option Value} {base : Heap} {CX : CXT} {x : Str} {ps : List Str} {st : Stmt} {k : Nat} {sp : Sp} (d : DefAt K mg x ps st) (h : ∀ {f : Addr} {fd : FuncData}, Fun K x x st f fd → FnOk P w K mg base CX k f fd ps sp) : DefOk P w K mg base CX x ps k sp :=
  ⟨d.f, d.fd, h d.F, d.m, d.F.kp, d.b⟩
section
variable {X : Cx}
theorem pcall {x : Str} {ps : List Str} {j k : Nat} {sp : Sp} {e : Expr} {es : List Expr} {t : TA} {p pos : Pos} (c : DefOk X.prog X.w X.K X.mg X.base CX0 x ps j sp) (hr : Room k X.A) (ha : PA X (e :: es) t) (hj : j ≤ k := by first | decide | omega) (hg : Gl X x := by rfl)
    (db0 : (x == ("__debug__" : Str)) = false := by decide) (st0 : starEach (e :: es) X.env = (false, eval e X.env) :: starEach es X.env := by rfl) (pl0 : (backTo pos (starEach es X.env)).any (·.1) = false := by rfl) :
    PE X (.Call (.Name x p) (e :: es) [] pos) (tCall sp [] E0 t) := pe_call c.G (hr.mono hj) hg c.m c.kp c.b .nil pass0 ha db0 st0 pl0
/-- a text n times -/
theorem op_mul_str : OpR X (binaryOp .Mult) (fun x y H Q => ∃ (z : Str) (n : Int), x = .str z ∧ y = .int n ∧ 2 ≤ n ∧ n ≤ 1000 ∧ 1 ≤ z.length ∧ z.length ≤ 1000 ∧ ∀ r : Str, TL.tl r = (List.replicate n.toNat (TL.tl z)).flatten → Q (.str r) H) := by
  intro pins s σ H x y v u Q I rx ry h
  obtain ⟨z, n, rfl, rfl, h2, h3, h4, h5, q⟩ := h
  obtain ⟨t, rfl⟩ := rx
  obtain ⟨t', rfl⟩ := ry
  have n1 : ¬ n < 1 := by omega
  have n2 : ¬ (n == 1 || z.length == 0) = true := by
    rw [Bool.or_eq_true, beq_iff_eq, beq_iff_eq]; omega
  have hr : (decide (n < -(2 ^ 63 : Int)) || decide (n ≥ 2 ^ 63)) = false := by
    rw [decide_eq_false (by omega), decide_eq_false (by omega)]; rfl
  have hm : z.length * n.toNat ≤ 1000 * 1000 := Nat.mul_le_mul h5 (by omega)
  have hl : Builtin.Str.tooLong (z.length * n.toNat) = false := by
    unfold Builtin.Str.tooLong
    have e : sizeLine = 16777216 := sizeLine_eq
    rw [decide_eq_false (by omega)]
  have hb : ¬ ((z.length : Int) > (2 ^ 63 - 1) / n) := by
    have : (1000 : Int) ≤ (2 ^ 63 - 1) / n := by
      rw [Int.le_ediv_iff_mul_le (by omega)]
      omega
    omega
  refine PySem.P.mul_str hr (fun _ _ => hb) (fun _ _ => hl) ?_
  rw [if_neg n1, if_neg n2]
  have hf : ∀ (k : Nat) (acc : Array Nat), ((List.replicate k z.cps).foldl (· ++ ·) acc).toList = acc.toList ++ (List.replicate k z.cps.toList).flatten := by
    intro k
    induction k with
    | zero => intro acc; simp
    | succ k ih =>
      intro acc
      rw [List.replicate_succ, List.foldl_cons, ih, List.replicate_succ, List.flatten_cons, Array.toList_append, List.append_assoc]
  have hr : TL.tl (⟨(List.replicate n.toNat z.cps).foldl (· ++ ·) #[]⟩ : Str) = (List.replicate n.toNat (TL.tl z)).flatten := by
    show ((List.replicate n.toNat z.cps).foldl (· ++ ·) #[]).toList = _
    rw [hf]; rfl
  have hlen : (⟨(List.replicate n.toNat z.cps).foldl (· ++ ·) #[]⟩ : Str).length ≤ sizeLine := by
    rw [TL.len_tl, hr]
    have e : sizeLine = 16777216 := sizeLine_eq
    have z2 : ((List.replicate n.toNat (TL.tl z)).flatten).length = z.length * n.toNat := by
      rw [TL.len_tl]
      generalize n.toNat = k
      induction k with
      | zero => rfl
      | succ k ih => rw [List.replicate_succ, List.flatten_cons, List.length_append, ih, Nat.mul_succ, Nat.add_comm]
    omega
  exact ⟨hlen, .str _, H, I.tok _, ⟨_, rfl⟩, q _ hr⟩
/-- for c in a text -/
theorem for_str {z : Str} {g : TG} {tb : TS} {D : Ends} {σ : St} {H : Hp} (Pv : Nat → St → Hp → Prop) (h0 : Pv 0 σ H)
    (hs : ∀ i c σ H, (TL.tl z)[i]? = some c → Pv i σ H → g (.str ⟨#[c]⟩) σ H fun σ2 H2 => tb { D with nx := Pv (i + 1), ct := Pv (i + 1), bk := D.nx } σ2 H2) (hd : ∀ σ H, Pv (TL.tl z).length σ H → D.nx σ H) :
    ∃ W : Nat → Nat → St → Hp → Prop, (∃ m, W 0 m σ H) ∧ ∀ i m σ H, W i m σ H →
      ((Its z).stop i H ∧ D.nx σ H) ∨ ((Its z).go i H ∧ ∃ N : St → Hp → Prop, (∀ σ' H', N σ' H' → ∃ m', m' < m ∧ W (i + 1) m' σ' H') ∧ ∀ x H', (Its z).yld i H x H' → g x σ H' fun σ2 H2 => tb { D with nx := N, ct := N, bk := D.nx } σ2 H2) := by
  have hl : (TL.tl z).length = z.cps.size := Array.length_toList
  refine ⟨fun i m σ H => m = (TL.tl z).length - i ∧ i ≤ (TL.tl z).length ∧ Pv i σ H, ⟨(TL.tl z).length, rfl, Nat.zero_le _, h0⟩, ?_⟩
  rintro i m σ H ⟨rfl, le1, pv1⟩
  by_cases lt1 : i < (TL.tl z).length
  · refine .inr ⟨(by show i < z.cps.size; omega), Pv (i + 1), fun σ' H' p' => ⟨(TL.tl z).length - (i + 1), by omega, rfl, lt1, p'⟩, fun x H' y => ?_⟩
    obtain ⟨e, c, hc, ex⟩ := y
    subst e
    subst ex
    exact hs i c σ H' (by rw [Array.getElem?_toList]; exact hc) pv1
  · have e : i = (TL.tl z).length := by omega
    subst e
    exact .inl ⟨(by show z.cps.size ≤ _; omega), hd σ H pv1⟩
end
/-! ### heaps -/
/-- all but what stands at p is as it was -/
def But (p : Addr) (H H' : Hp) : Prop := ∀ b o, H b = some o → b ≠ p → H' b = some o
theorem But.refl (p : Addr) (H : Hp) : But p H H := fun _ _ h _ => h
theorem But.trans {p : Addr} {H H1 H2 : Hp} (a : But p H H1) (b : But p H1 H2) : But p H H2 := fun c o h n => b c o (a c o h n) n
theorem But.of {p : Addr} {H H' : Hp} (a : Same H H') : But p H H' := fun c o h _ => a c o h
theorem same_new {H : Hp} {p : Addr} (h : H p = none) (o : HO) : Same H (upd H p o) := fun b u q => by rw [upd_ne (ne_of_none q h)]; exact q
theorem but_upd {H : Hp} {p : Addr} (o : HO) : But p H (upd H p o) := fun b u q n => by rw [upd_ne n]; exact q
theorem same_seqT {K : PySem.W.Frag} {H H' : Hp} {a : Addr} {xs : List V} (e : Same H H') (h : SqT K H a xs) : SqT K H' a xs := by
  rcases h with (h | ⟨o, h⟩) | h
  · exact .inl (.inl (e _ _ h))
  · exact .inl (.inr ⟨o, e _ _ h⟩)
  · exact .inr h
/-- tuples stay where only a list may change -/
theorem But.seqT {K : PySem.W.Frag} {H H' : Hp} {p a : Addr} {xs ys : List V} (e : But p H H') (hp : H p = some (.lst ys)) (h : SqT K H a xs) : SqT K H' a xs := by
  rcases h with (h | ⟨o, h⟩) | h
  · exact .inl (.inl (e _ _ h (ne_of h hp (by intro z; cases z))))
  · exact .inl (.inr ⟨o, e _ _ h (ne_of h hp (by intro z; cases z))⟩)
  · exact .inr h
theorem But.seqL {K : PySem.W.Frag} {H H' : Hp} {p a : Addr} {xs : List V} (e : But p H H') (hp : a ≠ p) (h : SqL K H a xs) : SqL K H' a xs := by
  rcases h with (h | ⟨o, h⟩) | h
  · exact .inl (.inl (e _ _ h hp))
  · exact .inl (.inr ⟨o, e _ _ h hp⟩)
  · exact .inr h
end Mus

set_option maxRecDepth 100000
set_option maxHeartbeats 4000000
/-! Plain data of any kind in the heap, beside one list (the bag, at p) that changes. -/
namespace Mus
open PySem L2
theorem sl : sizeLine = 16777216 := sizeLine_eq
theorem dT {p : Prop} [Decidable p] {A B : Prop} (h : p) (a : A) : if decide p = true then A else B := by
  rw [decide_eq_true h]; exact iteT a
theorem dF {p : Prop} [Decidable p] {A B : Prop} (h : ¬ p) (b : B) : if decide p = true then A else B := by
  rw [decide_eq_false h]; exact iteF b
theorem nT {p : Prop} [Decidable p] {A B : Prop} (h : ¬ p) (a : A) : if (!decide p) = true then A else B := by
  rw [decide_eq_false h]; exact iteT a
theorem nF {p : Prop} [Decidable p] {A B : Prop} (h : p) (b : B) : if (!decide p) = true then A else B := by
  rw [decide_eq_true h]; exact iteF b
theorem at_int {α : Type} {xs : List α} {i : Int} {v : α} (h0 : 0 ≤ i) (h : xs[i.toNat]? = some v) : atI xs i = some v := by
  have e : i = ((i.toNat : Nat) : Int) := by omega
  rw [e]
  exact atI_nat h
theorem pe_const {X : Cx} {x : Str} {i : Int} {pos : Pos} (hm : ∃ t, X.mg x = some (.int i t)) (hg : Gl X x := by rfl) (hd : (x == ("__debug__" : Str)) = false := by decide) : PE X (.Name x pos) (tC (.int i)) := by
  obtain ⟨t, h⟩ := hm
  exact pe_glob hg h ⟨t, rfl⟩ hd
theorem pe_ty {X : Cx} {x : Str} {pos : Pos} (n : String) (hm : X.mg x = none) (hv : bootBuiltins x = some (.type n) := by decide +kernel) (hg : Gl X x := by rfl) (hn : x ≠ "__name__" := by decide) (hd : (x == ("__debug__" : Str)) = false := by decide) : PE X (.Name x pos) (tC (.ty n)) := pe_bltn hg hm hv rfl hn hd
theorem pe_cls {X : Cx} {x : Str} {C : Addr} {pos : Pos} (hm : X.mg x = some (.ref C)) (hg : Gl X x := by rfl) (hd : (x == ("__debug__" : Str)) = false := by decide) : PE X (.Name x pos) (tC (.ref C)) := pe_glob (v := .ref C) hg hm rfl hd
mutual
/-- the value v stands for the data d, all of it tracked and none of it at p -/
inductive Rp (p : Addr) (H : Hp) : V → PyData → Prop
  | non : Rp p H .non .none
  | bl (b : Bool) : Rp p H (.bl b) (.bool b)
  | int (i : Int) : Rp p H (.int i) (.int i)
  | str (x : Str) : Rp p H (.str x) (.str x)
  | lst {a : Addr} {xs : List V} {ds : List PyData} : H a = some (.lst xs) → a ≠ p → Rps p H xs ds → Rp p H (.ref a) (.list ds)
  | tup {a : Addr} {xs : List V} {ds : List PyData} : H a = some (.tup xs) → a ≠ p → xs.length ≤ 100000 → Rps p H xs ds → Rp p H (.ref a) (.tuple ds)
inductive Rps (p : Addr) (H : Hp) : List V → List PyData → Prop
  | nil : Rps p H [] []
  | cons {v : V} {vs : List V} {d : PyData} {ds : List PyData} : Rp p H v d → Rps p H vs ds → Rps p H (v :: vs) (d :: ds)
end
mutual
theorem Rp.mono {p : Addr} {H H' : Hp} (k : But p H H') : ∀ {v : V} {d : PyData}, Rp p H v d → Rp p H' v d
  | _, _, .non => .non
  | _, _, .bl b => .bl b
  | _, _, .int i => .int i
  | _, _, .str x => .str x
  | _, _, .lst h n r => .lst (k _ _ h n) n (Rps.mono k r)
  | _, _, .tup h n l r => .tup (k _ _ h n) n l (Rps.mono k r)
theorem Rps.mono {p : Addr} {H H' : Hp} (k : But p H H') : ∀ {vs : List V} {ds : List PyData}, Rps p H vs ds → Rps p H' vs ds
  | _, _, .nil => .nil
  | _, _, .cons a b => .cons (Rp.mono k a) (Rps.mono k b)
end
mutual
theorem Rp.dp {p : Addr} {K : PySem.W.Frag} {H : Hp} : ∀ {v : V} {d : PyData}, Rp p H v d → Dp K H v d
  | _, _, .non => .non
  | _, _, .bl b => .bl b
  | _, _, .int i => .int i
  | _, _, .str x => .str x
  | _, _, .lst h n r => .lst (SqL.of h) (Rps.dp r)
  | _, _, .tup h n _ r => .tup (SqT.of h) (Rps.dp r)
theorem Rps.dp {p : Addr} {K : PySem.W.Frag} {H : Hp} : ∀ {vs : List V} {ds : List PyData}, Rps p H vs ds → DpAll K H vs ds
  | _, _, .nil => .nil
  | _, _, .cons a b => .cons (Rp.dp a) (Rps.dp b)
end
theorem Rp.same {p : Addr} {H H' : Hp} {v : V} {d : PyData} (k : Same H H') (h : Rp p H v d) : Rp p H' v d := h.mono (But.of k)
theorem Rps.same {p : Addr} {H H' : Hp} {vs : List V} {ds : List PyData} (k : Same H H') (h : Rps p H vs ds) : Rps p H' vs ds := h.mono (But.of k)
theorem Rps.length {p : Addr} {H : Hp} : ∀ {vs : List V} {ds : List PyData}, Rps p H vs ds → vs.length = ds.length
  | _, _, .nil => rfl
  | _, _, .cons _ r => by rw [List.length_cons, List.length_cons, Rps.length r]
theorem Rps.at {p : Addr} {H : Hp} : ∀ {vs : List V} {ds : List PyData} {i : Nat} {v : V}, Rps p H vs ds → vs[i]? = some v → ∃ d, ds[i]? = some d ∧ Rp p H v d
  | _, _, i, v, .nil, h => by simp at h
  | _, _, 0, v, .cons a _, h => by cases h; exact ⟨_, rfl, a⟩
  | _, _, i + 1, v, .cons _ r, h => Rps.at (i := i) r (by simpa using h)
theorem Rps.get {p : Addr} {H : Hp} : ∀ {vs : List V} {ds : List PyData} {i : Nat} {d : PyData}, Rps p H vs ds → ds[i]? = some d → ∃ v, vs[i]? = some v ∧ Rp p H v d
  | _, _, i, v, .nil, h => by simp at h
  | _, _, 0, v, .cons a _, h => by cases h; exact ⟨_, rfl, a⟩
  | _, _, i + 1, v, .cons _ r, h => Rps.get (i := i) r (by simpa using h)
theorem Rps.append {p : Addr} {H : Hp} : ∀ {vs ws : List V} {ds es : List PyData}, Rps p H vs ds → Rps p H ws es → Rps p H (vs ++ ws) (ds ++ es)
  | _, _, _, _, .nil, r => r
  | _, _, _, _, .cons a q, r => .cons a (Rps.append q r)
theorem Rps.take {p : Addr} {H : Hp} : ∀ {vs : List V} {ds : List PyData} (n : Nat), Rps p H vs ds → Rps p H (vs.take n) (ds.take n)
  | _, _, 0, _ => .nil
  | _, _, n + 1, .nil => .nil
  | _, _, n + 1, .cons a q => .cons a (Rps.take n q)
theorem Rps.drop {p : Addr} {H : Hp} : ∀ {vs : List V} {ds : List PyData} (n : Nat), Rps p H vs ds → Rps p H (vs.drop n) (ds.drop n)
  | _, _, 0, r => r
  | _, _, n + 1, .nil => .nil
  | _, _, n + 1, .cons a q => Rps.drop n q
/-! ### classes of data -/
def tyD : PyData → Value
  | .none => .type "NoneType" | .bool _ => .type "bool" | .int _ => .type "int" | .str _ => .type "str" | .list _ => .type "list" | .tuple _ => .type "tuple" | .dict _ => .type "dict"
theorem Rp.ty {p : Addr} {K : PySem.W.Frag} {H : Hp} {v : V} {d : PyData} (h : Rp p H v d) : TyX K H v (tyD d) := by
  cases h with
  | non => exact .base .non
  | bl b => exact .base (.bl b)
  | int i => exact .base (.int i)
  | str x => exact .base (.str x)
  | lst h _ _ => exact .base (.lst h)
  | tup h _ _ _ => exact .base (.tup h)
def dInt : PyData → Bool
  | .int _ => true | .bool _ => true | _ => false
def dBool : PyData → Bool
  | .bool _ => true | _ => false
def dStr : PyData → Bool
  | .str _ => true | _ => false
def dTup : PyData → Bool
  | .tuple _ => true | _ => false
theorem kit_int {K : PySem.W.Frag} : ∀ d : PyData, PySem.W.kitOne K (tyD d) (.type "int") = some (dInt d)
  | .none => kit_ty (r := false) (by decide +kernel)
  | .bool _ => kit_ty (r := true) (by decide +kernel)
  | .int _ => kit_ty (r := true) (by decide +kernel)
  | .str _ => kit_ty (r := false) (by decide +kernel)
  | .list _ => kit_ty (r := false) (by decide +kernel)
  | .tuple _ => kit_ty (r := false) (by decide +kernel)
  | .dict _ => kit_ty (r := false) (by decide +kernel)
theorem kit_bool {K : PySem.W.Frag} : ∀ d : PyData, PySem.W.kitOne K (tyD d) (.type "bool") = some (dBool d)
  | .none => kit_ty (r := false) (by decide +kernel)
  | .bool _ => kit_ty (r := true) (by decide +kernel)
  | .int _ => kit_ty (r := false) (by decide +kernel)
  | .str _ => kit_ty (r := false) (by decide +kernel)
  | .list _ => kit_ty (r := false) (by decide +kernel)
  | .tuple _ => kit_ty (r := false) (by decide +kernel)
  | .dict _ => kit_ty (r := false) (by decide +kernel)
theorem kit_str {K : PySem.W.Frag} : ∀ d : PyData, PySem.W.kitOne K (tyD d) (.type "str") = some (dStr d)
  | .none => kit_ty (r := false) (by decide +kernel)
  | .bool _ => kit_ty (r := false) (by decide +kernel)
  | .int _ => kit_ty (r := false) (by decide +kernel)
  | .str _ => kit_ty (r := true) (by decide +kernel)
  | .list _ => kit_ty (r := false) (by decide +kernel)
  | .tuple _ => kit_ty (r := false) (by decide +kernel)
  | .dict _ => kit_ty (r := false) (by decide +kernel)
theorem kit_tup {K : PySem.W.Frag} : ∀ d : PyData, PySem.W.kitOne K (tyD d) (.type "tuple") = some (dTup d)
  | .none => kit_ty (r := false) (by decide +kernel)
  | .bool _ => kit_ty (r := false) (by decide +kernel)
  | .int _ => kit_ty (r := false) (by decide +kernel)
  | .str _ => kit_ty (r := false) (by decide +kernel)
  | .list _ => kit_ty (r := false) (by decide +kernel)
  | .tuple _ => kit_ty (r := true) (by decide +kernel)
  | .dict _ => kit_ty (r := false) (by decide +kernel)
end Mus
namespace Mus
open PySem L2
/-! ### members and view ids, as functions of data -/
def isInt (d : PyData) (a b : Int) : Bool := match d with | .int i => decide (a ≤ i) && decide (i ≤ b) | _ => false
def isProc (c d : PyData) : Bool := match c with | .int n => (decide (1 ≤ n) && decide (n ≤ 12)) && isInt d 0 (n - 1) | _ => false
def isMem (c : PyData) : PyData → Bool
  | .tuple [x, y] => isProc c x && isInt y 1 1000000000000
  | _ => false
def isVid (c : PyData) : PyData → Bool
  | .tuple [x, y] => isInt x 0 1000000000000 && isMem c y
  | _ => false
def procOf : PyData → Int
  | .tuple (.int i :: _) => i
  | _ => 0
def memsFrom (c : PyData) : Int → List PyData → Bool
  | _, [] => true
  | l, d :: ds => isMem c d && decide (l < procOf d) && memsFrom c (procOf d) ds
def isMems (c : PyData) : PyData → Bool
  | .tuple ds => !ds.isEmpty && memsFrom c (-1) ds
  | _ => false
theorem isProc_int {c d : PyData} (h : isProc c d = true) : ∃ n i, c = .int n ∧ d = .int i ∧ 1 ≤ n ∧ n ≤ 12 ∧ 0 ≤ i ∧ i < n := by
  cases c <;> try (simp [isProc] at h; done)
  rename_i n
  cases d <;> try (simp [isProc, isInt] at h; done)
  rename_i i
  simp [isProc, isInt] at h
  exact ⟨n, i, rfl, rfl, by omega, by omega, by omega, by omega⟩
theorem isInt_int {d : PyData} {a b : Int} (h : isInt d a b = true) : ∃ i, d = .int i ∧ a ≤ i ∧ i ≤ b := by
  cases d <;> try (simp [isInt] at h; done)
  rename_i i
  simp [isInt] at h
  exact ⟨i, rfl, h.1, h.2⟩
theorem isMem_int {c d : PyData} (h : isMem c d = true) : ∃ n i l, c = .int n ∧ d = .tuple [.int i, .int l] ∧ 1 ≤ n ∧ n ≤ 12 ∧ 0 ≤ i ∧ i < n ∧ 1 ≤ l ∧ l ≤ 1000000000000 := by
  unfold isMem at h
  split at h
  · rename_i x y
    rw [Bool.and_eq_true] at h
    obtain ⟨n, i, rfl, rfl, h1, h2, h3, h4⟩ := isProc_int h.1
    obtain ⟨l, rfl, h5, h6⟩ := isInt_int h.2
    exact ⟨n, i, l, rfl, rfl, h1, h2, h3, h4, h5, h6⟩
  · cases h
/-! ### promises: a truth told of data, nothing changed -/
def spI : Sp := fun vs H Q _ => ∃ (p : Addr) (v : V) (d : PyData) (a b : Int), vs = [v, .int a, .int b] ∧ Rp p H v d ∧ Q (.bl (isInt d a b)) H
def spB1 (f : PyData → Bool) : Sp := fun vs H Q _ => ∃ (p : Addr) (v : V) (d : PyData), vs = [v] ∧ Rp p H v d ∧ Q (.bl (f d)) H
def spB2 (f : PyData → PyData → Bool) : Sp := fun vs H Q _ => ∃ (p : Addr) (u v : V) (c d : PyData), vs = [u, v] ∧ Rp p H u c ∧ Rp p H v d ∧ Q (.bl (f c d)) H
/-- the same where new things may have come -/
def spS1 (f : PyData → Bool) : Sp := fun vs H Q _ => ∃ (p : Addr) (v : V) (d : PyData), vs = [v] ∧ Rp p H v d ∧ ∀ H', Same H H' → Q (.bl (f d)) H'
def spS2 (f : PyData → PyData → Bool) : Sp := fun vs H Q _ => ∃ (p : Addr) (u v : V) (c d : PyData), vs = [u, v] ∧ Rp p H u c ∧ Rp p H v d ∧ ∀ H', Same H H' → Q (.bl (f c d)) H'
theorem ansB {Q : VK} {H : Hp} {b c : Bool} (q : Q (.bl b) H) (e : b = c) : Q (.bl c) H := e ▸ q
theorem iB {A B : Prop} {b : Bool} (h1 : b = true → A) (h2 : b = false → B) : if b = true then A else B := by
  cases b
  · exact iteF (h2 rfl)
  · exact iteT (h1 rfl)
theorem vint_ne {a b : Int} (h : a ≠ b) : ¬ V.int a = V.int b := fun e => h (V.int.inj e)
theorem drop_cons {α : Type} {xs : List α} {i : Nat} {x : α} (h : xs[i]? = some x) : xs.drop i = x :: xs.drop (i + 1) := by
  obtain ⟨hi, e⟩ := List.getElem?_eq_some_iff.mp h
  rw [List.drop_eq_getElem_cons hi, e]
section
variable {P : Program} {w : World} {K : PySem.W.Frag} {mg : Str → Option Value} {base : Heap}
theorem no_call {CX : CXT} {k : Nat} {f : Addr} {fd : FuncData} {ps : List Str} {sp : Sp} (no : ∀ vs H Q E, ¬ sp vs H Q E) : FnOk P w K mg base CX k f fd ps sp :=
  ⟨fun vs H Q E h => absurd h (no vs H Q E), fun A outer s H args us vs Q E _ _ _ _ h => absurd h (no vs H Q E)⟩
end
end Mus

set_option maxRecDepth 100000
set_option maxHeartbeats 4000000
/-! The bag of a law's draws, new things beside it, displays of data, tuples cut and joined. -/
namespace Mus
open PySem L2
def Bag (p : Addr) (c : Int) (H : Hp) : Prop := ∃ x y : Int, H p = some (.lst [.int x, .int y, .int c])
theorem Bag.seqT {K : PySem.W.Frag} {p : Addr} {c : Int} {H H' : Hp} (g : Bag p c H) (b : But p H H') {a : Addr} {xs : List V} (h : SqT K H a xs) : SqT K H' a xs := by
  obtain ⟨x, y, hp⟩ := g
  exact b.seqT hp h
theorem Bag.ne {p D : Addr} {c : Int} {H : Hp} (g : Bag p c H) (h : H D = none) : p ≠ D := by
  obtain ⟨x, y, hp⟩ := g
  exact ne_of_none hp h
theorem Bag.upd {p D : Addr} {c : Int} {H : Hp} {o : HO} (g : Bag p c H) (h : p ≠ D) : Bag p c (upd H D o) := by
  obtain ⟨x, y, hp⟩ := g
  exact ⟨x, y, by rw [upd_ne h]; exact hp⟩
theorem Bag.new {p D : Addr} {c : Int} {H : Hp} {o : HO} (g : Bag p c H) (h : H D = none) : Bag p c (L2.upd H D o) := g.upd (g.ne h)
theorem Bag.same {p : Addr} {c : Int} {H H' : Hp} (g : Bag p c H) (s : Same H H') : Bag p c H' := by
  obtain ⟨x, y, hp⟩ := g
  exact ⟨x, y, s _ _ hp⟩
/-- a new thing -/
theorem But.new {p D : Addr} {H H' : Hp} {o : HO} (b : But p H H') (h : H' D = none) : But p H (L2.upd H' D o) := fun a u e n => by
  have z := b a u e n
  rw [upd_ne (ne_of_none z h)]; exact z
/-- a change at what was not there at first -/
theorem But.later {p D : Addr} {H H' : Hp} {o : HO} (b : But p H H') (h : H D = none) : But p H (L2.upd H' D o) := fun a u e n => by
  rw [upd_ne (ne_of_none e h)]; exact b a u e n
theorem But.free {p D : Addr} {H H' : Hp} (b : But p H H') (h : H' D = none) (n : D ≠ p) : H D = none := by
  cases e : H D with
  | none => rfl
  | some o =>
    have z := b D o e n
    rw [h] at z; cases z
/-! ### displays -/
/-- the expression gives the int i, and that is all -/
def DI (te : TE) (σ : St) (i : Int) : Prop := ∀ (H : Hp) (Q : VK), Q (.int i) H → te σ H Q
/-- the expression gives the data d, new things beside what was -/
def DE (p : Addr) (te : TE) (σ : St) (d : PyData) : Prop := ∀ (c : Int) (H : Hp) (Q : VK), Bag p c H → (∀ v H', Same H H' → Bag p c H' → Rp p H' v d → Q v H') → te σ H Q
def DEs (p : Addr) (ta : TA) (σ : St) (ds : List PyData) : Prop := ∀ (c : Int) (H : Hp) (Q : List V → Hp → Prop), Bag p c H → (∀ vs H', Same H H' → Bag p c H' → Rps p H' vs ds → Q vs H') → ta σ H Q
section
variable {p : Addr} {σ : St} {te ta1 tb1 : TE} {ta : TA} {i j : Int} {d : PyData} {ds : List PyData}
theorem Same.rfl' (H : Hp) : Same H H := fun _ _ h => h
theorem di_c : DI (tC (.int i)) σ i := fun _ _ q => q
theorem di_v {n : Nat} (h : σ[n]? = some (some (.int i))) : DI (tVar n) σ i := fun _ _ q => ⟨_, h, q⟩
theorem di_op {f : Int → Int → Int} (h1 : DI ta1 σ i) (h2 : DI tb1 σ j) : DI (tOp (rI0 fun i j => .int (f i j)) ta1 tb1) σ (f i j) := fun H Q q => h1 H _ (h2 H _ ⟨i, j, rfl, rfl, q⟩)
theorem di_opC {C : Int → Int → Prop} {f : Int → Int → Int} (h1 : DI ta1 σ i) (h2 : DI tb1 σ j) (hc : C i j) : DI (tOp (rI C fun i j => .int (f i j)) ta1 tb1) σ (f i j) := fun H Q q => h1 H _ (h2 H _ ⟨i, j, rfl, rfl, hc, q⟩)
theorem di_neg (h1 : DI te σ i) : DI (tUn (rU fun i => .int (-i)) te) σ (-i) := fun H Q q => h1 H _ ⟨i, rfl, q⟩
theorem de_i (h : DI te σ i) : DE p te σ (.int i) := fun c H Q g q => h H Q (q _ H (Same.rfl' H) g (.int i))
theorem de_bl {b : Bool} : DE p (tC (.bl b)) σ (.bool b) := fun c H Q g q => q _ H (Same.rfl' H) g (.bl b)
theorem de_str {z : Str} : DE p (tC (.str z)) σ (.str z) := fun c H Q g q => q _ H (Same.rfl' H) g (.str z)
theorem de_non : DE p (tC .non) σ .none := fun c H Q g q => q _ H (Same.rfl' H) g .non
theorem des_nil : DEs p tNil σ [] := fun c H Q g q => q [] H (Same.rfl' H) g .nil
theorem des_cons (h1 : DE p te σ d) (h2 : DEs p ta σ ds) : DEs p (tCons te ta) σ (d :: ds) := fun c H Q g q =>
  h1 c H _ g fun v H1 s1 g1 r1 => h2 c H1 _ g1 fun vs H2 s2 g2 r2 => q _ H2 (s1.trans s2) g2 (.cons (r1.same s2) r2)
theorem de_tup (h : DEs p ta σ ds) (hl : ds.length ≤ 1000) : DE p (tTup ta) σ (.tuple ds) := fun c H Q g q =>
  h c H _ g fun vs H1 s1 g1 r1 => ⟨by have := r1.length; have := sl; omega, fun a na => q _ _ (s1.trans (same_new na _)) (g1.new na) (.tup upd_same (g1.ne na).symm (by have := r1.length; omega) (r1.same (same_new na _)))⟩
theorem de_lst (h : DEs p ta σ ds) (hl : ds.length ≤ 1000) : DE p (tLst ta) σ (.list ds) := fun c H Q g q =>
  h c H _ g fun vs H1 s1 g1 r1 => ⟨by have := r1.length; have := sl; omega, fun a na => q _ _ (s1.trans (same_new na _)) (g1.new na) (.lst upd_same (g1.ne na).symm (r1.same (same_new na _)))⟩
theorem de_lstN (n : Nat) (R : PyData → Prop) {c : Int} {H : Hp} {Q : VK} (h : ∃ ds, DEs p ta σ ds ∧ ds.length = n ∧ ∀ d ∈ ds, R d) (hn : n ≤ 1000) (g : Bag p c H)
    (q : ∀ ds v H', ds.length = n → (∀ d ∈ ds, R d) → Same H H' → Bag p c H' → Rp p H' v (.list ds) → Q v H') : tLst ta σ H Q := by
  obtain ⟨ds, h1, h2, h3⟩ := h
  exact de_lst h1 (by omega) c H Q g fun v H' => q ds v H' h2 h3
theorem de_cat {es : List PyData} (h1 : DE p ta1 σ (.list ds)) (h2 : DE p tb1 σ (.list es)) (hl : ds.length + es.length ≤ 1000) : DE p (tOp rCat ta1 tb1) σ (.list (ds ++ es)) := fun c H Q g q =>
  h1 c H _ g fun v H1 s1 g1 r1 => h2 c H1 _ g1 fun u H2 s2 g2 r2 => by
    obtain _ | _ | _ | _ | @⟨a, xs, _, ha, na, hr⟩ | _ := r1.same s2
    obtain _ | _ | _ | _ | @⟨b, ys, _, hb, nb, hr2⟩ | _ := r2
    refine ⟨a, b, xs, ys, rfl, rfl, ha, hb, ?_, fun t nt => q _ _ (s1.trans (s2.trans (same_new nt _))) (g2.new nt) (.lst upd_same (g2.ne nt).symm ((hr.append hr2).same (same_new nt _)))⟩
    have := hr.length; have := hr2.length; have := sl; omega
theorem de_varD {n : Nat} {v : V} (h : σ[n]? = some (some v)) (hd : ∀ H, Rp p H v d) : DE p (tVar n) σ d := fun c H Q g q => ⟨_, h, q _ H (Same.rfl' H) g (hd H)⟩
end
/-! ### tuples cut and joined -/
def cutD (ds : List PyData) (lo hi : Option Int) : List PyData := (ds.drop (HT.sIx ds.length 0 lo)).take (HT.sIx ds.length ds.length hi - HT.sIx ds.length 0 lo)
theorem Rps.cut {p : Addr} {H : Hp} {vs : List V} {ds : List PyData} (r : Rps p H vs ds) (lo hi : Option Int) : Rps p H (cutV vs lo hi) (cutD ds lo hi) := by
  unfold cutV cutD
  rw [r.length]
  exact (r.drop _).take _
theorem cutD_len (ds : List PyData) (lo hi : Option Int) : (cutD ds lo hi).length ≤ ds.length := by
  unfold cutD
  rw [List.length_take, List.length_drop]; omega
theorem cutD_mem {ds : List PyData} {lo hi : Option Int} {d : PyData} (h : d ∈ cutD ds lo hi) : d ∈ ds := List.mem_of_mem_drop (List.mem_of_mem_take h)
theorem cut_whole {xs : List V} {lo hi : Option Int} (h : HT.sIx xs.length 0 lo = 0 ∧ HT.sIx xs.length xs.length hi = xs.length) : cutV xs lo hi = xs := by
  unfold cutV
  rw [h.1, h.2, List.drop_zero, Nat.sub_zero, List.take_length]
section
variable {K : PySem.W.Frag} {p : Addr} {c : Int} {H : Hp} {Q : VK}
theorem rd_cut {a : Addr} {ds : List PyData} {lo hi : Option Int} (r : Rp p H (.ref a) (.tuple ds)) (g : Bag p c H)
    (q : ∀ b H', Same H H' → Bag p c H' → Rp p H' (.ref b) (.tuple (cutD ds lo hi)) → Q (.ref b) H') : rSlA K (.ref a) lo hi H Q := by
  obtain _ | _ | _ | _ | _ | @⟨_, xs, _, ha, na, hw, hr⟩ := r
  refine ⟨a, xs, rfl, SqT.of ha, fun w => ?_, fun w b nb => ?_⟩
  · refine q _ _ (Same.rfl' H) g (.tup ha na hw ?_)
    have z := hr.cut lo hi
    rw [cut_whole w] at z
    exact z
  · exact q _ _ (same_new nb _) (g.new nb) (.tup upd_same (g.ne nb).symm (Nat.le_trans (cutV_length _ _ _) hw) ((hr.cut lo hi).same (same_new nb _)))
theorem rd_cat {a b : Addr} {ds es : List PyData} (r1 : Rp p H (.ref a) (.tuple ds)) (r2 : Rp p H (.ref b) (.tuple es)) (g : Bag p c H) (hl : ds.length + es.length ≤ 100000)
    (q : ∀ t H', Same H H' → Bag p c H' → Rp p H' (.ref t) (.tuple (ds ++ es)) → Q (.ref t) H') : rCatA K (.ref a) (.ref b) H Q := by
  have k2 := r2
  have k1 := r1
  obtain _ | _ | _ | _ | _ | @⟨_, xs, _, ha, na, hw, hr⟩ := r1
  obtain _ | _ | _ | _ | _ | @⟨_, ys, _, hb, nb, hw2, hr2⟩ := r2
  have l1 := hr.length
  have l2 := hr2.length
  have hs := sl
  refine ⟨a, b, xs, ys, rfl, rfl, SqT.of ha, SqT.of hb, by omega, fun e => ?_, fun _ e => ?_, fun _ _ t nt => ?_⟩
  · subst e
    cases ds with
    | nil => exact q _ _ (Same.rfl' H) g k2
    | cons _ _ => cases l1
  · subst e
    cases es with
    | nil => rw [List.append_nil] at q; exact q _ _ (Same.rfl' H) g k1
    | cons _ _ => cases l2
  · exact q _ _ (same_new nt _) (g.new nt) (.tup upd_same (g.ne nt).symm (by rw [List.length_append]; omega) ((hr.append hr2).same (same_new nt _)))
end
/-! ### how deep and wide, what its texts are -/
def fit : Nat → PyData → Prop
  | 0, .tuple _ => False
  | n + 1, .tuple ds => ds.length ≤ 3000 ∧ ∀ d ∈ ds, fit n d
  | _, _ => True
inductive Her (P : Str → Prop) : PyData → Prop
  | tup {ds : List PyData} : (∀ d ∈ ds, Her P d) → Her P (.tuple ds)
  | str {z : Str} : P z → Her P (.str z)
  | non : Her P .none
  | bl (b : Bool) : Her P (.bool b)
  | int (i : Int) : Her P (.int i)
  | lst (ds : List PyData) : Her P (.list ds)
theorem Her.mem {P : Str → Prop} {ds : List PyData} (h : Her P (.tuple ds)) : ∀ d ∈ ds, Her P d := by
  cases h with
  | tup h => exact h
theorem Her.cut {P : Str → Prop} {ds : List PyData} (h : Her P (.tuple ds)) (lo hi : Option Int) : Her P (.tuple (cutD ds lo hi)) := .tup fun d m => h.mem d (cutD_mem m)
theorem Her.app {P : Str → Prop} {ds es : List PyData} (h : Her P (.tuple ds)) (k : Her P (.tuple es)) : Her P (.tuple (ds ++ es)) := .tup fun d m => by
  rcases List.mem_append.mp m with m | m
  · exact h.mem d m
  · exact k.mem d m
theorem Her.one {P : Str → Prop} {d : PyData} (h : Her P d) : Her P (.tuple [d]) := .tup fun e m => by rw [List.mem_singleton.mp m]; exact h
/-- one level less, if there is one -/
def spv (sp : Nat → Sp) (n : Nat) : Sp := fun vs H Q E => ∃ m, n = m + 1 ∧ sp m vs H Q E
/-- a thing spoilt: some data, its texts from the two -/
def sp_spoilt (n : Nat) : Sp := fun vs H Q _ => ∃ (p : Addr) (c : Int) (v o : V) (d e : PyData), vs = [.ref p, v, o] ∧ Bag p c H ∧ Rp p H v d ∧ Rp p H o e ∧ fit n d ∧
  ∀ v' d' H', Rp p H' v' d' → (∀ P, Her P d → Her P e → Her P d') → But p H H' → Bag p c H' → Q v' H'
def sp_bag (K : PySem.W.Frag) : Sp := fun vs H Q _ => ∃ (a : Addr) (ns : List Int) (k : Nat), vs = [.ref a, .int k] ∧ SqL K H a (ns.map V.int) ∧ ∀ p H', H p = none → Same H H' → Bag p k H' → Q (.ref p) H'
def sp_draw : Sp := fun vs H Q _ => ∃ (p : Addr) (c m : Int), vs = [.ref p, .int m] ∧ Bag p c H ∧ 0 < m ∧ m.natAbs < 2 ^ 100 ∧ ∀ r H', 0 ≤ r → r < m → But p H H' → Bag p c H' → Q (.int r) H'
/-- an int at least 1 and at most 10 ** 12 -/
def sp_pos : Sp := fun vs H Q _ => ∃ (p : Addr) (c : Int), vs = [.ref p] ∧ Bag p c H ∧ ∀ r H', 1 ≤ r → r ≤ 1000000000000 → But p H H' → Bag p c H' → Q (.int r) H'
end Mus
namespace Mus
open PySem L2
/-- no list in it -/
inductive NoL : PyData → Prop
  | tup {ds : List PyData} : (∀ d ∈ ds, NoL d) → NoL (.tuple ds)
  | str (z : Str) : NoL (.str z)
  | non : NoL .none
  | bl (b : Bool) : NoL (.bool b)
  | int (i : Int) : NoL (.int i)
theorem NoL.mem {ds : List PyData} (h : NoL (.tuple ds)) : ∀ d ∈ ds, NoL d := by
  cases h with
  | tup h => exact h
theorem NoL.two {a b : PyData} (h : NoL a) (k : NoL b) : NoL (.tuple [a, b]) := .tup fun d m => by
  rcases List.mem_cons.mp m with rfl | m
  · exact h
  · rw [List.mem_singleton.mp m]; exact k
theorem NoL.three {a b c : PyData} (h : NoL a) (k : NoL b) (l : NoL c) : NoL (.tuple [a, b, c]) := .tup fun d m => by
  rcases List.mem_cons.mp m with rfl | m
  · exact h
  · rcases List.mem_cons.mp m with rfl | m
    · exact k
    · rw [List.mem_singleton.mp m]; exact l
mutual
theorem Rp.upL {p D : Addr} {H H' : Hp} {ys : List V} (hD : H D = some (.lst ys)) (k : ∀ b o, H b = some o → b ≠ p → b ≠ D → H' b = some o) : ∀ {v : V} {d : PyData}, Rp p H v d → NoL d → Rp p H' v d
  | _, _, .non, _ => .non
  | _, _, .bl b, _ => .bl b
  | _, _, .int i, _ => .int i
  | _, _, .str x, _ => .str x
  | _, _, .lst h n r, z => nomatch z
  | _, _, .tup h n l r, z => .tup (k _ _ h n (ne_of h hD (by intro z; cases z))) n l (Rps.upL hD k r z.mem)
theorem Rps.upL {p D : Addr} {H H' : Hp} {ys : List V} (hD : H D = some (.lst ys)) (k : ∀ b o, H b = some o → b ≠ p → b ≠ D → H' b = some o) : ∀ {vs : List V} {ds : List PyData}, Rps p H vs ds → (∀ d ∈ ds, NoL d) → Rps p H' vs ds
  | _, _, .nil, _ => .nil
  | _, _, .cons a b, z => .cons (Rp.upL hD k a (z _ List.mem_cons_self)) (Rps.upL hD k b fun d m => z d (List.mem_cons_of_mem _ m))
end
/-- a change at the list at D -/
theorem Rps.updL {p D : Addr} {H : Hp} {ys : List V} {o : HO} (hD : H D = some (.lst ys)) {vs : List V} {ds : List PyData} (r : Rps p H vs ds) (z : ∀ d ∈ ds, NoL d) : Rps p (upd H D o) vs ds :=
  r.upL hD (fun b o h _ n => by rw [upd_ne n]; exact h) z
theorem Rp.updL {p D : Addr} {H : Hp} {ys : List V} {o : HO} (hD : H D = some (.lst ys)) {v : V} {d : PyData} (r : Rp p H v d) (z : NoL d) : Rp p (upd H D o) v d :=
  r.upL hD (fun b o h _ n => by rw [upd_ne n]; exact h) z
end Mus

set_option maxRecDepth 100000
set_option maxHeartbeats 4000000
/-! Methods and makers of own classes, as DefOk is for defs. -/
namespace Mus
open PySem L2
structure MethOk (P : Program) (w : World) (K : PySem.W.Frag) (mg : Str → Option Value) (base : Heap) (CX : CXT) (C : Addr) (x : Str) (ps : List Str) (k : Nat) (sp : Sp) where
  f : Addr
  fd : FuncData
  G : FnOk P w K mg base CX k f fd ps sp
  m : Meth K C x f
  b : Binds K fd ps []
structure MethAt (K : PySem.W.Frag) (C : Addr) (x qual : Str) (ps : List Str) (st : Stmt) where
  f : Addr
  fd : FuncData
  F : Fun K x qual st f fd
  m : Meth K C x f
  b : Binds K fd ps []
def MethAt.ok {P : Program} {w : World} {K : PySem.W.Frag} {mg : Str → Option Value} {base : Heap} {CX : CXT} {C : Addr} {x qual : Str} {ps : List Str} {st : Stmt} {k : Nat} {sp : Sp} (d : MethAt K C x qual ps st) (h : ∀ {f : Addr} {fd : FuncData}, Fun K x qual st f fd → FnOk P w K mg base CX k f fd ps sp) : MethOk P w K mg base CX C x ps k sp :=
  ⟨d.f, d.fd, h d.F, d.m, d.b⟩
/-- a class whose __init__ keeps the promise -/
structure MkOk (P : Program) (w : World) (K : PySem.W.Frag) (mg : Str → Option Value) (base : Heap) (C : Addr) (x : Str) (ps : List Str) (k : Nat) (sp : Sp) where
  f : Addr
  fd : FuncData
  G : FnOk P w K mg base CX0 k f fd ps sp
  M : Mk K C f
  g : mg x = some (.ref C)
  b : Binds K fd ps []
def MethAt.mk' {P : Program} {w : World} {K : PySem.W.Frag} {mg : Str → Option Value} {base : Heap} {C : Addr} {x : Str} {qual : Str} {ps : List Str} {st : Stmt} {k : Nat} {sp : Sp} (d : MethAt K C "__init__" qual ps st) (hm : PySem.W.makesIn K C = true) (hk : PySem.W.keepIn K (.ref C) = true) (g : mg x = some (.ref C))
    (h : ∀ {f : Addr} {fd : FuncData}, Fun K "__init__" qual st f fd → FnOk P w K mg base CX0 k f fd ps sp) : MkOk P w K mg base C x ps k sp :=
  ⟨d.f, d.fd, h d.F, ⟨hm, d.m.at_, d.m.fn, hk⟩, g, d.b⟩
section
variable {X : Cx} {C : Addr} {x m : Str} {ps : List Str} {j k : Nat} {sp : Sp} {o e : Expr} {es : List Expr} {to : TE} {t : TA} {p pos apos : Pos}
theorem pmeth {pl : Sem Bool} (c : MethOk X.prog X.w X.K X.mg X.base CX0 C m ps j sp) (cl : Cls X.K C) (ho : PE X o to) (hr : Room k X.A) (ha : PA X (e :: es) t) (hj : j ≤ k := by first | decide | omega)
    (st0 : starEach (e :: es) X.env = (false, eval e X.env) :: starEach es X.env := by rfl) (pl0 : (backTo pos (starEach es X.env)).any (·.1) = false := by rfl)
    (ht : eval (.Call (.Attribute o m apos) (e :: es) [] pos) X.env = (do
      let v ← eval o X.env; standAt apos.atName; let (f, one) ← holding [v] (getMethod v m pl)
      callWith pos f one (backTo pos (starEach (e :: es) X.env)) (backToKw pos (keywordEach [] X.env))) := by rfl) :
    PE X (.Call (.Attribute o m apos) (e :: es) [] pos) (tMeth C m sp [] E0 to t) := pe_meth ho cl c.m c.G (hr.mono hj) c.b .nil pass0 ha st0 pl0 ht
theorem pmeth0 {pl : Sem Bool} (c : MethOk X.prog X.w X.K X.mg X.base CX0 C m ps j sp) (cl : Cls X.K C) (ho : PE X o to) (hr : Room k X.A) (hj : j ≤ k := by first | decide | omega)
    (ht : eval (.Call (.Attribute o m apos) [] [] pos) X.env = (do
      let v ← eval o X.env; standAt apos.atName; let (f, one) ← holding [v] (getMethod v m pl)
      callWith pos f one (backTo pos (starEach [] X.env)) (backToKw pos (keywordEach [] X.env))) := by rfl) :
    PE X (.Call (.Attribute o m apos) [] [] pos) (tMeth C m sp [] E0 to tNil) := pe_meth0 ho cl c.m c.G (hr.mono hj) c.b .nil pass0 ht
theorem pmake (c : MkOk X.prog X.w X.K X.mg X.base C x ps j sp) (hr : Room k X.A) (ha : PA X (e :: es) t) (hj : j + 1 ≤ k := by first | decide | omega) (hg : Gl X x := by rfl)
    (d0 : (x == ("__debug__" : Str)) = false := by decide) (st0 : starEach (e :: es) X.env = (false, eval e X.env) :: starEach es X.env := by rfl) (pl0 : (backTo pos (starEach es X.env)).any (·.1) = false := by rfl) :
    PE X (.Call (.Name x p) (e :: es) [] pos) (tMake C sp [] E0 t) := pe_make c.M c.G (hr.mono hj) hg c.g c.b .nil pass0 ha d0 st0 pl0
theorem pmake0 (c : MkOk X.prog X.w X.K X.mg X.base C x ps j sp) (hr : Room k X.A) (hj : j + 1 ≤ k := by first | decide | omega) (hg : Gl X x := by rfl) (d0 : (x == ("__debug__" : Str)) = false := by decide) :
    PE X (.Call (.Name x p) [] [] pos) (tMake C sp [] E0 tNil) := pe_make0 c.M c.G (hr.mono hj) hg c.g c.b .nil pass0 d0
end
end Mus

set_option maxRecDepth 100000
set_option maxHeartbeats 4000000
namespace Mus
open PySem L2
/-! ### a dict of ints by ints -/
def KvI (n m : Int) (kvs : List (Key × V)) : Prop := ∀ kv ∈ kvs, ∃ i l : Int, kv = (Sum.inl i, V.int l) ∧ 0 ≤ i ∧ i < n ∧ 1 ≤ l ∧ l ≤ m
theorem mem_putK {κ : Type} [DecidableEq κ] {kvs : List (κ × V)} {k : κ} {v : V} {kv : κ × V} (h : kv ∈ putK kvs k v) : kv = (k, v) ∨ kv ∈ kvs := by
  unfold putK at h
  split at h
  · obtain ⟨q, hq, e⟩ := List.mem_map.mp h
    by_cases hk : q.1 = k
    · rw [if_pos hk] at e
      exact .inl (by rw [← e, hk])
    · rw [if_neg hk] at e
      exact .inr (e ▸ hq)
  · rcases List.mem_append.mp h with h | h
    · exact .inr h
    · exact .inl (List.mem_singleton.mp h)
theorem putK_ne {κ : Type} [DecidableEq κ] (kvs : List (κ × V)) (k : κ) (v : V) : putK kvs k v ≠ [] := by
  unfold putK
  split
  · intro e
    cases kvs with
    | nil => rename_i h; simp at h
    | cons a r => simp at e
  · simp
theorem putK_le {κ : Type} [DecidableEq κ] (c : List (κ × V)) (k : κ) (x : V) : (putK c k x).length ≤ c.length + 1 := by
  unfold putK
  split
  · rw [List.length_map]; omega
  · rw [List.length_append, List.length_singleton]; omega
theorem KvI.put {n m i l : Int} {kvs : List (Key × V)} (h : KvI n m kvs) (h0 : 0 ≤ i) (h1 : i < n) (h2 : 1 ≤ l) (h3 : l ≤ m) : KvI n m (putK kvs (Sum.inl i) (.int l)) := fun kv hk => by
  rcases mem_putK hk with e | e
  · exact ⟨i, l, e, h0, h1, h2, h3⟩
  · exact h kv e
def keyI : Key → Int
  | .inl i => i
  | .inr _ => 0
theorem KvI.keys {n m : Int} {kvs : List (Key × V)} (h : KvI n m kvs) : kvs.map (·.1) = (kvs.map fun kv => keyI kv.1).map Sum.inl := by
  rw [List.map_map]
  refine List.map_congr_left fun kv hk => ?_
  obtain ⟨i, l, rfl, _⟩ := h kv hk
  rfl
theorem valV_mem {κ : Type} [DecidableEq κ] : ∀ {kvs : List (κ × V)} {k : κ}, k ∈ kvs.map (·.1) → ∃ v, valV kvs k = some v ∧ (k, v) ∈ kvs
  | [], k, h => by simp at h
  | (a, b) :: r, k, h => by
    by_cases e : a = k
    · subst e
      exact ⟨b, valV_pos rfl, List.mem_cons_self⟩
    · rw [valV_neg e]
      have h2 : k ∈ r.map (·.1) := by
        rcases List.mem_cons.mp h with h | h
        · exact absurd h.symm e
        · exact h
      obtain ⟨v, h3, h4⟩ := valV_mem h2
      exact ⟨v, h3, List.mem_cons_of_mem _ h4⟩
/-- members of a group of n processes, lives at most m, as data -/
def Mems (n : Int) (ds : List PyData) : Prop := ∀ d ∈ ds, ∃ i l : Int, d = .tuple [.int i, .int l] ∧ 0 ≤ i ∧ i < n ∧ 1 ≤ l ∧ l ≤ 1000000000000
theorem Mems.noL {n : Int} {ds : List PyData} (h : Mems n ds) : ∀ d ∈ ds, NoL d := fun d hd => by
  obtain ⟨i, l, rfl, _⟩ := h d hd
  exact .two (.int _) (.int _)
/-- _law_members -/
def sp_mems : Sp := fun vs H Q _ => ∃ (p : Addr) (c n : Int), vs = [.ref p, .int n] ∧ Bag p c H ∧ 0 < n ∧ n ≤ 12 ∧ ∀ a H' ds, Rp p H' (.ref a) (.tuple ds) → Mems n ds → 0 < ds.length → ds.length ≤ 5 → But p H H' → Bag p c H' → Q (.ref a) H'
end Mus

set_option maxRecDepth 100000
set_option maxHeartbeats 4000000
/-! Dicts of ints by ints, counted by a fold; pairs in order. -/
namespace Mus
open PySem L2
def iv (kvs : List (Key × V)) (k : Key) : Int := match valV kvs k with | some (.int i) => i | _ => 0
/-- keys and values are ints, no key twice -/
structure DI2 (kvs : List (Key × V)) : Prop where
  nd : (kvs.map (·.1)).Nodup
  int2 : ∀ kv ∈ kvs, ∃ i l : Int, kv = (Sum.inl i, V.int l)
theorem DI2.nil : DI2 [] := ⟨List.nodup_nil, fun _ h => absurd h List.not_mem_nil⟩
theorem putK_keys {kvs : List (Key × V)} {k : Key} {v : V} : (putK kvs k v).map (·.1) = (if valV kvs k = none then kvs.map (·.1) ++ [k] else kvs.map (·.1)) := by
  cases e : valV kvs k with
  | none => rw [if_pos rfl, putK_new v e, List.map_append]; rfl
  | some x =>
    rw [if_neg (by simp)]
    obtain ⟨q, hq, e2⟩ := List.mem_map.mp (valV_in e)
    have hany : (kvs.any fun kv => decide (kv.1 = k)) = true := List.any_eq_true.mpr ⟨q, hq, decide_eq_true e2⟩
    unfold putK
    rw [if_pos hany, List.map_map]
    refine List.map_congr_left fun q _ => ?_
    show (if q.1 = k then (q.1, v) else q).1 = q.1
    split <;> rfl
theorem putK_keys_in {kvs : List (Key × V)} {k : Key} {v : V} (h : k ∈ kvs.map (·.1)) : (putK kvs k v).map (·.1) = kvs.map (·.1) := by
  obtain ⟨x, e, _⟩ := valV_mem h
  rw [putK_keys, e, if_neg (by simp)]
theorem DI2.put {kvs : List (Key × V)} (h : DI2 kvs) (i l : Int) : DI2 (putK kvs (Sum.inl i) (.int l)) := by
  refine ⟨?_, fun kv hk => ?_⟩
  · rw [putK_keys]
    split
    · rename_i hn
      rw [List.nodup_append]
      refine ⟨h.nd, by simp, fun a ha b hb => ?_⟩
      rw [List.mem_singleton.mp hb]
      rintro rfl
      exact valV_not hn ha
    · exact h.nd
  · rcases mem_putK hk with e | e
    · exact ⟨i, l, e⟩
    · exact h.int2 kv e
theorem valV_nd {kvs : List (Key × V)} (h : (kvs.map (·.1)).Nodup) {k : Key} {v : V} (m : (k, v) ∈ kvs) : valV kvs k = some v := by
  induction kvs with
  | nil => exact absurd m List.not_mem_nil
  | cons a r ih =>
    obtain ⟨b, x⟩ := a
    rw [List.map_cons, List.nodup_cons] at h
    rcases List.mem_cons.mp m with e | m
    · cases e; exact valV_pos rfl
    · have : ¬ b = k := fun e => h.1 (List.mem_map.mpr ⟨(k, v), m, e.symm⟩)
      rw [valV_neg this]
      exact ih h.2 m
theorem DI2.val {kvs : List (Key × V)} (h : DI2 kvs) {k : Key} (m : k ∈ kvs.map (·.1)) : ∃ i, k = Sum.inl i ∧ valV kvs k = some (.int (iv kvs k)) := by
  obtain ⟨v, h1, h2⟩ := valV_mem m
  obtain ⟨i, l, e⟩ := h.int2 _ h2
  cases e
  refine ⟨i, rfl, ?_⟩
  unfold iv
  rw [h1]
theorem DI2.val_or {kvs : List (Key × V)} (h : DI2 kvs) (k : Key) : valV kvs k = none ∧ iv kvs k = 0 ∨ valV kvs k = some (.int (iv kvs k)) ∧ k ∈ kvs.map (·.1) := by
  cases e : valV kvs k with
  | none => left; refine ⟨rfl, ?_⟩; unfold iv; rw [e]
  | some v =>
    right
    have m := valV_in e
    obtain ⟨i, _, h2⟩ := h.val m
    rw [e] at h2
    exact ⟨h2, m⟩
/-- one more, key by key -/
def bump (a : List (Key × V)) (ks : List Key) : List (Key × V) := ks.foldl (fun a k => putK a k (.int (iv a k + 1))) a
theorem bump_more {a : List (Key × V)} {ks : List Key} {i : Nat} {k : Key} (h : ks[i]? = some k) : bump a (ks.take (i + 1)) = putK (bump a (ks.take i)) k (.int (iv (bump a (ks.take i)) k + 1)) := by
  obtain ⟨hi, e⟩ := List.getElem?_eq_some_iff.mp h
  unfold bump
  rw [List.take_succ_eq_append_getElem hi, List.foldl_append, e]; rfl
theorem bump_ok {a : List (Key × V)} (h : DI2 a) : ∀ {ks : List Key}, (∀ k ∈ ks, k ∈ a.map (·.1)) → DI2 (bump a ks) ∧ (bump a ks).map (·.1) = a.map (·.1) := by
  intro ks
  induction ks generalizing a with
  | nil => exact fun _ => ⟨h, rfl⟩
  | cons k r ih =>
    intro hk
    obtain ⟨i, rfl, _⟩ := h.val (hk k List.mem_cons_self)
    have e : (putK a (Sum.inl i : Key) (.int (iv a (Sum.inl i) + 1))).map (·.1) = a.map (·.1) := putK_keys_in (hk _ List.mem_cons_self)
    obtain ⟨h1, h2⟩ := ih (h.put i _) (fun k' hk' => by rw [e]; exact hk k' (List.mem_cons_of_mem _ hk'))
    exact ⟨h1, h2.trans e⟩
/-- the pairs that are told: key and life of those whose age is at most four -/
def rowsOf (lv ag : List (Key × V)) (ks : List Key) : List (Int × Int) := ks.filterMap fun k => if iv ag k ≤ 4 then some (keyI k, iv lv k) else none
theorem rowsOf_more {lv ag : List (Key × V)} {ks : List Key} {i : Nat} {k : Key} (h : ks[i]? = some k) : rowsOf lv ag (ks.take (i + 1)) = rowsOf lv ag (ks.take i) ++ (if iv ag k ≤ 4 then [(keyI k, iv lv k)] else []) := by
  obtain ⟨hi, e⟩ := List.getElem?_eq_some_iff.mp h
  unfold rowsOf
  rw [List.take_succ_eq_append_getElem hi, List.filterMap_append, e]
  split <;> rename_i hh <;> simp [hh]
/-! ### pairs of ints in the heap -/
/-- v is a tuple of the two ints -/
def PairAt (H : Hp) (v : V) (q : Int × Int) : Prop := ∃ t, v = .ref t ∧ H t = some (.tup [.int q.1, .int q.2])
def PairsAt (H : Hp) : List V → List (Int × Int) → Prop
  | [], [] => True
  | v :: vs, q :: qs => PairAt H v q ∧ PairsAt H vs qs
  | _, _ => False
theorem PairsAt.mono {H H' : Hp} (k : ∀ t xs, H t = some (.tup xs) → H' t = some (.tup xs)) : ∀ {vs : List V} {qs : List (Int × Int)}, PairsAt H vs qs → PairsAt H' vs qs
  | [], [], _ => trivial
  | v :: vs, q :: qs, ⟨⟨t, e, h⟩, r⟩ => ⟨⟨t, e, k _ _ h⟩, PairsAt.mono k r⟩
theorem PairsAt.snoc {H : Hp} {v : V} {q : Int × Int} (h : PairAt H v q) : ∀ {vs : List V} {qs : List (Int × Int)}, PairsAt H vs qs → PairsAt H (vs ++ [v]) (qs ++ [q])
  | [], [], _ => ⟨h, trivial⟩
  | _ :: _, _ :: _, ⟨a, r⟩ => ⟨a, PairsAt.snoc h r⟩
theorem PairsAt.length {H : Hp} : ∀ {vs : List V} {qs : List (Int × Int)}, PairsAt H vs qs → vs.length = qs.length
  | [], [], _ => rfl
  | _ :: _, _ :: _, ⟨_, r⟩ => by rw [List.length_cons, List.length_cons, PairsAt.length r]
/-- what a value's pair is -/
def pairIn (H : Hp) (v : V) : Int × Int := match v with
  | .ref t => match H t with
    | some (.tup [.int i, .int j]) => (i, j)
    | _ => (0, 0)
  | _ => (0, 0)
theorem PairAt.eq {H : Hp} {v : V} {q : Int × Int} (h : PairAt H v q) : pairIn H v = q := by
  obtain ⟨t, rfl, e⟩ := h
  show (match H t with | some (.tup [.int i, .int j]) => (i, j) | _ => (0, 0)) = q
  rw [e]
theorem PairsAt.all {H : Hp} : ∀ {vs : List V} {qs : List (Int × Int)}, PairsAt H vs qs → qs = vs.map (pairIn H) ∧ ∀ v ∈ vs, PairAt H v (pairIn H v)
  | [], [], _ => ⟨rfl, fun _ h => absurd h List.not_mem_nil⟩
  | v :: vs, q :: qs, ⟨a, r⟩ => by
    obtain ⟨h1, h2⟩ := PairsAt.all r
    have e := a.eq
    refine ⟨by rw [List.map_cons, ← h1, e], fun u hu => ?_⟩
    rcases List.mem_cons.mp hu with rfl | hu
    · rw [e]; exact a
    · exact h2 u hu
theorem PairsAt.of {H : Hp} : ∀ {vs : List V}, (∀ v ∈ vs, PairAt H v (pairIn H v)) → PairsAt H vs (vs.map (pairIn H))
  | [], _ => trivial
  | v :: vs, h => ⟨h v List.mem_cons_self, PairsAt.of fun u hu => h u (List.mem_cons_of_mem _ hu)⟩
def pairD (q : Int × Int) : PyData := .tuple [.int q.1, .int q.2]
theorem PairsAt.dp {K : PySem.W.Frag} {H : Hp} : ∀ {vs : List V} {qs : List (Int × Int)}, PairsAt H vs qs → DpAll K H vs (qs.map pairD)
  | [], [], _ => .nil
  | v :: vs, q :: qs, ⟨⟨t, e, h⟩, r⟩ => by
    subst e
    exact .cons (.tup (SqT.of h) (.cons (.int _) (.cons (.int _) .nil))) (PairsAt.dp r)
/-- by the first, then by the second -/
def pLe (x y : Int × Int) : Prop := x.1 < y.1 ∨ (x.1 = y.1 ∧ x.2 ≤ y.2)
theorem pLe_anti {x y : Int × Int} (h : pLe x y) (k : pLe y x) : x = y := by
  obtain ⟨a, b⟩ := x
  obtain ⟨c, d⟩ := y
  unfold pLe at h k
  simp only at h k
  have e1 : a = c := by omega
  have e2 : b = d := by omega
  rw [e1, e2]
theorem sorted_eq {zs ws rs : List (Int × Int)} (h1 : zs.Pairwise pLe) (h2 : ws.Pairwise pLe) (p1 : zs.Perm rs) (p2 : ws.Perm rs) : zs = ws :=
  (p1.trans p2.symm).eq_of_pairwise (fun _ _ _ _ a b => pLe_anti a b) h1 h2
theorem ltP_le {k : V → Int × Int} {x y : V} (h : ltP k y x = false) : pLe (k x) (k y) := by
  have z := SrtO.lexB_no.mp h
  unfold pLe
  omega
/-- sorted(..) of pairs -/
theorem rd_sorted {K : PySem.W.Frag} {H : Hp} {Q : VK} {a : Addr} {vs : List V} {rs : List (Int × Int)} (ha : SqL K H a vs) (hr : PairsAt H vs rs)
    (q : ∀ l us zs, H l = none → PairsAt H us zs → zs.Pairwise pLe → zs.Perm rs → us.length = vs.length → Q (.ref l) (upd H l (.lst us))) : rSortedPO K [.ref a] H Q := by
  obtain ⟨h1, h2⟩ := hr.all
  refine ⟨a, vs, pairIn H, rfl, ha, fun x hx => ?_, fun ys p srt stb np => ?_⟩
  · obtain ⟨t, e, h⟩ := h2 x hx
    exact ⟨t, e, h⟩
  · have pm := stb.perm
    refine q p ys (ys.map (pairIn H)) np (PairsAt.of fun v hv => h2 v (pm.mem_iff.mp hv)) ?_ ?_ pm.length_eq
    · rw [List.pairwise_map]
      exact List.Pairwise.imp (fun h => ltP_le h) srt
    · rw [h1]; exact pm.map _
end Mus
namespace Mus
open PySem L2
theorem DI2.get0 {kvs : List (Key × V)} (h : DI2 kvs) (k : Key) : (valV kvs k).getD (.int 0) = .int (iv kvs k) := by
  rcases h.val_or k with ⟨e1, e2⟩ | ⟨e1, _⟩
  · rw [e1, e2]; rfl
  · rw [e1]; rfl
end Mus
namespace Mus
open PySem L2
/-- tuples of pairs stay where new things come and where one list or dict changes -/
theorem PairsAt.same {H H' : Hp} (s : Same H H') {vs : List V} {qs : List (Int × Int)} (h : PairsAt H vs qs) : PairsAt H' vs qs := h.mono fun _ _ e => s _ _ e
theorem PairsAt.upd {H : Hp} {D : Addr} {o u : HO} (hD : H D = some u) (hu : ∀ xs, u ≠ .tup xs) {vs : List V} {qs : List (Int × Int)} (h : PairsAt H vs qs) : PairsAt (L2.upd H D o) vs qs :=
  h.mono fun t xs e => by rw [upd_ne (fun z => by subst z; rw [hD] at e; exact hu xs (Option.some.inj e))]; exact e
theorem DI2.nd' {kvs : List (Key × V)} (h : DI2 kvs) {j : Nat} {k : Key} {v : V} (e : kvs[j]? = some (k, v)) : ∃ i, k = Sum.inl i ∧ v = .int (iv kvs k) := by
  have m := List.mem_of_getElem? e
  obtain ⟨i, l, e2⟩ := h.int2 _ m
  cases e2
  have := valV_nd h.nd m
  refine ⟨i, rfl, ?_⟩
  unfold iv
  rw [this]
end Mus
namespace Mus
open PySem L2
theorem lay_pairs : ∀ zs : List (Int × Int), PyData.canLayAll0 (zs.map pairD) = true
  | [] => by simp [PyData.canLayAll0]
  | z :: zs => by simp [PyData.canLayAll0, pairD, PyData.canLay0, lay_pairs zs]
theorem dep_pairs : ∀ zs : List (Int × Int), PyData.depthAll (zs.map pairD) ≤ 2
  | [] => by simp [PyData.depthAll]
  | z :: zs => by
    have := dep_pairs zs
    simp [PyData.depthAll, pairD, PyData.depth]
    omega
theorem shaped_pairs (zs : List (Int × Int)) : SeqAt.shaped (.tuple (zs.map pairD)) = true := by
  unfold SeqAt.shaped
  rw [Bool.and_eq_true, decide_eq_true_eq]
  refine ⟨by simp [PyData.canLay0, lay_pairs], ?_⟩
  have := dep_pairs zs
  simp [PyData.depth]
  omega
theorem eqv_pairs (zs : List (Int × Int)) : PyData.eqv (.tuple (zs.map pairD)) (.tuple (zs.map pairD)) = true := SeqAt.eqv_refl _ (by simp [PyData.canLay0, lay_pairs])
end Mus

set_option maxRecDepth 100000
set_option maxHeartbeats 4000000
namespace Mus
open PySem L2
local macro_rules | `(tactic| walk_at "rd") => `(tactic| first
  | refine ⟨_, rfl, ?_⟩ | refine ⟨_, _, rfl, rfl, (⟨by decide, by decide, by decide⟩ : CPow _ _), ?_⟩ | refine ⟨_, _, rfl, rfl, ?_⟩ | refine ⟨rfl, ?_⟩ | refine iteT ?_ | refine iteF ?_ | refine ⟨_, _, rfl, ?_⟩
  | refine ⟨_, _, _, _, _, rfl, (by assumption), (by assumption), (by assumption), rfl, ?_⟩ | refine ⟨_, _, _, _, rfl, rfl, SqT.of (by assumption), rfl, ?_⟩ | refine ⟨_, _, rfl, SqT.of (by assumption), rfl, ?_⟩
  | refine ⟨_, _, _, _, _, rfl, .ty _, Rp.ty (by assumption), kit_int _, ?_⟩ | refine ⟨_, _, _, _, _, rfl, .ty _, Rp.ty (by assumption), kit_bool _, ?_⟩
  | refine ⟨_, _, _, _, _, rfl, .ty _, Rp.ty (by assumption), kit_str _, ?_⟩ | refine ⟨_, _, _, _, _, rfl, .ty _, Rp.ty (by assumption), kit_tup _, ?_⟩)
local macro_rules | `(tactic| walk_at "cal") => `(tactic| first
  | refine ⟨_, _, _, _, _, rfl, (by assumption), ?_⟩ | refine ⟨_, _, _, _, _, rfl, (by assumption), (by assumption), ?_⟩)
local macro_rules | `(tactic| walk_at "sq") => `(tactic| first
  | refine ⟨_, _, rfl, Or.inr (SqT.of (by assumption)), ?_⟩ | refine ⟨_, _, _, _, rfl, rfl, SqT.of (by assumption), rfl, ?_⟩)
local macro_rules | `(tactic| walk_at "rds") => `(tactic| repeat first | walk_at "rd" | walk_at "cal" | walk_at "sq")
def top (i : Nat) : Stmt := PySem.Challenge.pw_mustercall_k16_watch.main.body.getD i (.Pass ⟨0, 0, 0, 0⟩)
structure Tx (K : PySem.W.Frag) (mg : Str → Option Value) (C : Addr) : Prop where
  b_len : mg "len" = none
  b_isinstance : mg "isinstance" = none
  b_int : mg "int" = none
  b_bool : mg "bool" = none
  b_tuple : mg "tuple" = none
  b_list : mg "list" = none
  b_range : mg "range" = none
  b_min : mg "min" = none
  b_max : mg "max" = none
  b_sorted : mg "sorted" = none
  c_SILENCE : ∃ t, mg "SILENCE" = some (.int 4 t)
  g_Watch : mg "Watch" = some (.ref C)
  cl_Watch : Cls K C
  n_Watch__me : NoAttr K C "_me"
  n_Watch__lives : NoAttr K C "_lives"
  n_Watch__ages : NoAttr K C "_ages"
def wf (me dl da : Addr) : List (Str × V) := [("_me", .ref me), ("_lives", .ref dl), ("_ages", .ref da)]
structure WAt (C : Addr) (H : Hp) (p me dl da : Addr) (m0 m1 : Int) (lv ag : List (Key × V)) : Prop where
  ob : ∃ dx, H p = some (.ins C dx (wf me dl da))
  hm : H me = some (.tup [.int m0, .int m1])
  hl : H dl = some (.dK lv)
  ha : H da = some (.dK ag)
  ne : dl ≠ da
theorem WAt.same {C : Addr} {H H' : Hp} {p me dl da : Addr} {m0 m1 : Int} {lv ag : List (Key × V)} (w : WAt C H p me dl da m0 m1 lv ag) (s : Same H H') : WAt C H' p me dl da m0 m1 lv ag := by
  obtain ⟨⟨dx, h⟩, h2, h3, h4, n⟩ := w
  exact ⟨⟨dx, s _ _ h⟩, s _ _ h2, s _ _ h3, s _ _ h4, n⟩
/-- the two dicts: the same keys in the same order -/
structure St16 (lv ag : List (Key × V)) : Prop where
  dl : DI2 lv
  da : DI2 ag
  ks : lv.map (·.1) = ag.map (·.1)
  le : lv.length ≤ 1000
theorem St16.le2 {lv ag : List (Key × V)} (s : St16 lv ag) : ag.length ≤ 1000 := by
  have := congrArg List.length s.ks
  rw [List.length_map, List.length_map] at this
  have := s.le
  omega
def sp_init (C : Addr) : Sp := fun vs H Q _ => ∃ (p dx me : Addr) (m0 m1 : Int), vs = [.ref p, .ref me] ∧ H p = some (.ins C dx []) ∧ H me = some (.tup [.int m0, .int m1]) ∧
  ∀ dl da H', H dl = none → H da = none → WAt C H' p me dl da m0 m1 [] [] → (∀ b o, H b = some o → b ≠ p → H' b = some o) → Q .non H'
def sp_knows (C : Addr) : Sp := fun vs H Q _ => ∃ (p t me dl da : Addr) (m0 m1 i l : Int) (lv ag : List (Key × V)), vs = [.ref p, .ref t] ∧ WAt C H p me dl da m0 m1 lv ag ∧ DI2 lv ∧ H t = some (.tup [.int i, .int l]) ∧ Q (.bl (decide (l < iv lv (Sum.inl i)))) H
def hearL (m0 i l : Int) (lv : List (Key × V)) : List (Key × V) := if i = m0 ∨ l < iv lv (Sum.inl i) then lv else putK lv (Sum.inl i) (.int l)
def hearA (m0 i l : Int) (lv ag : List (Key × V)) : List (Key × V) := if i = m0 ∨ l < iv lv (Sum.inl i) then ag else putK ag (Sum.inl i) (.int 0)
def sp_heard (C : Addr) : Sp := fun vs H Q _ => ∃ (p t me dl da : Addr) (m0 m1 i l : Int) (lv ag : List (Key × V)), vs = [.ref p, .ref t] ∧ WAt C H p me dl da m0 m1 lv ag ∧ St16 lv ag ∧ H t = some (.tup [.int i, .int l]) ∧
  ∀ H', WAt C H' p me dl da m0 m1 (hearL m0 i l lv) (hearA m0 i l lv ag) → (∀ b o, H b = some o → b ≠ dl → b ≠ da → H' b = some o) → Q .non H'
def sp_tick (C : Addr) : Sp := fun vs H Q _ => ∃ (p me dl da : Addr) (m0 m1 : Int) (lv ag : List (Key × V)), vs = [.ref p] ∧ WAt C H p me dl da m0 m1 lv ag ∧ DI2 ag ∧ ag.length ≤ 1000 ∧
  ∀ H', WAt C H' p me dl da m0 m1 lv (bump ag (ag.map (·.1))) → (∀ b o, H b = some o → b ≠ da → H' b = some o) → Q .non H'
/-- the reach: a new tuple of the pairs in order -/
def sp_reach (C : Addr) : Sp := fun vs H Q _ => ∃ (p me dl da : Addr) (m0 m1 : Int) (lv ag : List (Key × V)), vs = [.ref p] ∧ WAt C H p me dl da m0 m1 lv ag ∧ St16 lv ag ∧
  ∀ a H' us zs, Same H H' → H' a = some (.tup us) → PairsAt H' us zs → zs.Pairwise pLe → zs.Perm ((m0, m1) :: rowsOf lv ag (ag.map (·.1))) → zs.length ≤ 1001 → Q (.ref a) H'
section
variable {P : Program} {w : World} {K : PySem.W.Frag} {mg : Str → Option Value} {base : Heap} {C : Addr}
abbrev s_Watch___init__ : Stmt := inClass (top 2) 0
abbrev N_Watch___init__ : List Str := ["self", "me"]
abbrev P_Watch___init__ : List Str := ["self", "me"]
theorem sc_Watch___init__ : FnScope N_Watch___init__ P_Watch___init__ (defScope s_Watch___init__) := ⟨rfl, rfl, rfl, by decide +kernel, rfl, by decide +kernel, by decide +kernel⟩
theorem ok_init {f : Addr} {fd : FuncData} (T : Tx K mg C) (F : Fun K "__init__" "Watch.__init__" s_Watch___init__ f fd) : FnOk P w K mg base CX0 1 f fd P_Watch___init__ (sp_init C) := by
  have nd := sc_Watch___init__.nd
  refine F.ok sc_Watch___init__ (fun vs H Q E h => ?_) (fun cdv A outer s H vs Q E hr h => ?_)
  · obtain ⟨_, _, _, _, _, rfl, _⟩ := h
    rfl
  · obtain ⟨p, dx, me, m0, m1, rfl, hp, hm, q⟩ := h
    refine ⟨_, (pss_cons (ps_fld (pv 0) (pv 1) rfl)
      (pss_cons (ps_fld (pv 0) pe_dnewK rfl)
      (pss_one (ps_fld (pv 0) pe_dnewK rfl)))), ?_⟩
    refine ⟨_, rfl, _, rfl, p, C, dx, [], rfl, hp, T.cl_Watch, T.n_Watch__me, (by decide), fun dl nl => ?_⟩
    have p1 : p ≠ dl := ne_of_none upd_same nl
    refine ⟨_, rfl, p, C, dx, _, rfl, (by rw [upd_ne p1]; exact upd_same), T.cl_Watch, T.n_Watch__lives, (by show 1 < 1000; decide), fun da na => ?_⟩
    have p2 : p ≠ da := ne_of_none upd_same na
    refine ⟨_, rfl, p, C, dx, _, rfl, (by rw [upd_ne p2]; exact upd_same), T.cl_Watch, T.n_Watch__ages, (by show 2 < 1000; decide), ?_⟩
    have pm : p ≠ me := ne_of hp hm (by intro z; cases z)
    have ml : me ≠ dl := ne_of_none (by rw [upd_ne pm.symm]; exact hm) nl
    have da_l : dl ≠ da := ne_of_none (o := .dK []) (by rw [upd_ne p1.symm]; exact upd_same) na
    have ma : me ≠ da := ne_of_none (o := .tup [.int m0, .int m1]) (by rw [upd_ne pm.symm, upd_ne ml, upd_ne pm.symm]; exact hm) na
    refine q dl da _ ?_ ?_ ⟨⟨dx, upd_same⟩, ?_, ?_, ?_, da_l⟩ fun b o hb nb => ?_
    · rw [upd_ne p1.symm] at nl; exact nl
    · rw [upd_ne p2.symm, upd_ne da_l.symm, upd_ne p2.symm] at na; exact na
    · rw [upd_ne pm.symm, upd_ne ma, upd_ne pm.symm, upd_ne ml, upd_ne pm.symm]; exact hm
    · rw [upd_ne p1.symm, upd_ne da_l, upd_ne p1.symm]; exact upd_same
    · rw [upd_ne p2.symm]; exact upd_same
    · have hb0 : b ≠ dl := ne_of_none (o := o) (by rw [upd_ne nb]; exact hb) nl
      have hb1 : b ≠ da := ne_of_none (o := o) (by rw [upd_ne nb, upd_ne hb0, upd_ne nb]; exact hb) na
      rw [upd_ne nb, upd_ne hb1, upd_ne nb, upd_ne hb0, upd_ne nb]; exact hb
abbrev s_Watch_knows : Stmt := inClass (top 2) 2
abbrev N_Watch_knows : List Str := ["self", "member", "process", "life"]
abbrev P_Watch_knows : List Str := ["self", "member"]
theorem sc_Watch_knows : FnScope N_Watch_knows P_Watch_knows (defScope s_Watch_knows) := ⟨rfl, rfl, rfl, by decide +kernel, rfl, by decide +kernel, by decide +kernel⟩
theorem ok_knows {f : Addr} {fd : FuncData} (T : Tx K mg C) (F : Fun K "knows" "Watch.knows" s_Watch_knows f fd) : FnOk P w K mg base CX0 1 f fd P_Watch_knows (sp_knows C) := by
  have nd := sc_Watch_knows.nd
  refine F.ok sc_Watch_knows (fun vs H Q E h => ?_) (fun cdv A outer s H vs Q E hr h => ?_)
  · obtain ⟨_, _, _, _, _, _, _, _, _, _, _, rfl, _⟩ := h
    rfl
  · obtain ⟨p, t, me, dl, da, m0, m1, i, l, lv, ag, rfl, W, hd, ht, q⟩ := h
    have hu := hu_of hr
    obtain ⟨⟨dx, h1⟩, h2, h3, h4, ne⟩ := id W
    refine ⟨_, (pss_cons (ps_asg (pv 1) (pg_tup (by rfl) (pgs_cons (pg_name (i := 2) nd rfl (Or.inl rfl)) (pgs_cons (pg_name (i := 3) nd rfl (Or.inl rfl)) pgs_nil))))
      (pss_one (ps_ret (pe_cmpR op_gt (pe_dget2 hu (pe_fld (pv 0) (by rfl)) (pv 2) pe_int ⟨rfl, rfl, rfl, rfl⟩) (pv 3) (nomark _))))), ?_⟩
    have c1 := T.cl_Watch
    have n1 := T.n_Watch__lives
    walk_at "rds"
    refine ⟨.inl ⟨lv, .inl h3⟩, _, rfl, _, DGet.k (k := Sum.inl i) h3, ?_⟩
    rw [hd.get0]
    walk_at "rds"
    exact q
abbrev s_Watch_heard : Stmt := inClass (top 2) 1
abbrev N_Watch_heard : List Str := ["self", "member", "process", "life"]
abbrev P_Watch_heard : List Str := ["self", "member"]
theorem sc_Watch_heard : FnScope N_Watch_heard P_Watch_heard (defScope s_Watch_heard) := ⟨rfl, rfl, rfl, by decide +kernel, rfl, by decide +kernel, by decide +kernel⟩
theorem ok_heard {f : Addr} {fd : FuncData} (T : Tx K mg C) (m_Watch_knows : MethOk P w K mg base CX0 C "knows" P_Watch_knows 1 (sp_knows C)) (F : Fun K "heard" "Watch.heard" s_Watch_heard f fd) : FnOk P w K mg base CX0 2 f fd P_Watch_heard (sp_heard C) := by
  have nd := sc_Watch_heard.nd
  refine F.ok sc_Watch_heard (fun vs H Q E h => ?_) (fun cdv A outer s H vs Q E hr h => ?_)
  · obtain ⟨_, _, _, _, _, _, _, _, _, _, _, rfl, _⟩ := h
    rfl
  · obtain ⟨p, t, me, dl, da, m0, m1, i, l, lv, ag, rfl, W, S, ht, q⟩ := h
    have hu := hu_of hr
    have hs := sl
    obtain ⟨⟨dx, h1⟩, h2, h3, h4, ne⟩ := id W
    refine ⟨_, (pss_cons (ps_asg (pv 1) (pg_tup (by rfl) (pgs_cons (pg_name (i := 2) nd rfl (Or.inl rfl)) (pgs_cons (pg_name (i := 3) nd rfl (Or.inl rfl)) pgs_nil))))
      (pss_cons (ps_if (PW.pt (pw_or (pt_cmpR op_eq (pv 2) (pe_ix ix_tup (pe_fld (pv 0) (by rfl)) pe_int (fun _ _ => rfl)) (nomark _)) (pw_or1 (pt_val (pmeth m_Watch_knows T.cl_Watch (pv 0) hr (pa_cons (pv 1) pa_nil))))))
        (pss_one ps_retN)
        pss_nil)
      (pss_cons (ps_dput hu (pe_fld (pv 0) (by rfl)) (pv 2) (pv 3) rfl)
      (pss_one (ps_dput hu (pe_fld (pv 0) (by rfl)) (pv 2) pe_int rfl))))), ?_⟩
    have c1 := T.cl_Watch
    have n1 := T.n_Watch__lives
    have n2 := T.n_Watch__ages
    have n3 := T.n_Watch__me
    walk_at "rds"
    have same : hearL m0 i l lv = lv ∧ hearA m0 i l lv ag = ag → Q .non H := fun ⟨e1, e2⟩ => q H (by rw [e1, e2]; exact W) fun b o h _ _ => h
    refine iB (fun h => ?_) (fun h => ?_)
    · have e : i = m0 := V.int.inj (of_decide_eq_true h)
      exact same ⟨if_pos (.inl e), if_pos (.inl e)⟩
    · have e : ¬ i = m0 := fun z => of_decide_eq_false h (by rw [z])
      refine ⟨_, rfl, p, dx, _, rfl, h1, rfl, _, rfl, ?_⟩
      refine ⟨p, t, me, dl, da, m0, m1, i, l, lv, ag, rfl, W, S.dl, ht, ?_⟩
      walk_at "rds"
      refine iB (fun h => ?_) (fun h => ?_)
      · have e2 : l < iv lv (Sum.inl i) := of_decide_eq_true h
        exact same ⟨if_pos (.inr e2), if_pos (.inr e2)⟩
      · have e2 : ¬ l < iv lv (Sum.inl i) := of_decide_eq_false h
        have e3 : ¬ (i = m0 ∨ l < iv lv (Sum.inl i)) := fun z => z.elim e e2
        walk_at "rds"
        have hpl : p ≠ dl := ne_of h1 h3 (by intro z; cases z)
        have hpa : p ≠ da := ne_of h1 h4 (by intro z; cases z)
        have hml : me ≠ dl := ne_of h2 h3 (by intro z; cases z)
        have hma : me ≠ da := ne_of h2 h4 (by intro z; cases z)
        refine ⟨dl, _, rfl, DPut.k (k := Sum.inl i) h3 (by have := S.le; omega), ?_⟩
        have g1 : (upd H dl (.dK (putK lv (Sum.inl i) (.int l)))) p = some (.ins C dx (wf me dl da)) := by rw [upd_ne hpl]; exact h1
        have g2 : (upd H dl (.dK (putK lv (Sum.inl i) (.int l)))) da = some (.dK ag) := by rw [upd_ne ne.symm]; exact h4
        walk_at "rds"
        refine ⟨da, _, rfl, DPut.k (k := Sum.inl i) g2 (by have := S.le2; omega), ?_⟩
        refine q _ ⟨⟨dx, by rw [upd_ne hpa]; exact g1⟩, by rw [upd_ne hma, upd_ne hml]; exact h2, ?_, ?_, ne⟩ fun b o h n1 n2 => by rw [upd_ne n2, upd_ne n1]; exact h
        · rw [upd_ne ne, upd_same]; unfold hearL; rw [if_neg e3]
        · rw [upd_same]; unfold hearA; rw [if_neg e3]
abbrev s_Watch_tick : Stmt := inClass (top 2) 3
abbrev N_Watch_tick : List Str := ["self", "process"]
abbrev P_Watch_tick : List Str := ["self"]
theorem sc_Watch_tick : FnScope N_Watch_tick P_Watch_tick (defScope s_Watch_tick) := ⟨rfl, rfl, rfl, by decide +kernel, rfl, by decide +kernel, by decide +kernel⟩
theorem ok_tick {f : Addr} {fd : FuncData} (T : Tx K mg C) (F : Fun K "tick" "Watch.tick" s_Watch_tick f fd) : FnOk P w K mg base CX0 1 f fd P_Watch_tick (sp_tick C) := by
  have nd := sc_Watch_tick.nd
  refine F.ok sc_Watch_tick (fun vs H Q E h => ?_) (fun cdv A outer s H vs Q E hr h => ?_)
  · obtain ⟨_, _, _, _, _, _, _, _, rfl, _⟩ := h
    rfl
  · obtain ⟨p, me, dl, da, m0, m1, lv, ag, rfl, W, S, le, q⟩ := h
    have hu := hu_of hr
    have hs := sl
    obtain ⟨⟨dx, h1⟩, h2, h3, h4, ne⟩ := id W
    refine ⟨_, (pss_one (ps_for PassesOwn.never rfl (pi_list (pe_callTy (call_listD rfl) (by rfl) T.b_list (by decide +kernel) (pa_cons (pe_fld (pv 0) (by rfl)) pa_nil))) (pg_name (i := 1) nd rfl (Or.inl rfl))
        (pss_one (ps_daug hu (pe_fld (pv 0) (by rfl)) (pv 1) pe_int in_add (fun _ _ _ => rfl))))), ?_⟩
    have c1 := T.cl_Watch
    have n2 := T.n_Watch__ages
    walk_at "rds"
    refine ⟨da, ag, rfl, .inl h4, fun D nD => ?_⟩
    have st := same_new nD (.lst (ag.map fun kv => kV kv.1))
    have pD := ne_of_none h1 nD
    have aD := ne_of_none h4 nD
    have lD := ne_of_none h3 nD
    have mD := ne_of_none h2 nD
    have hpa : p ≠ da := ne_of h1 h4 (by intro z; cases z)
    have hma : me ≠ da := ne_of h2 h4 (by intro z; cases z)
    refine ⟨D, rfl, ⟨_, SqL.of upd_same⟩, for_list (K := K) (a := D) (xs := ag.map fun kv => kV kv.1) (fun j σ H' => ∃ x : Option V, σ = [some (.ref p), x] ∧ WAt C H' p me dl da m0 m1 lv (bump ag ((ag.map (·.1)).take j)) ∧ (∀ b o, H b = some o → b ≠ da → H' b = some o) ∧ H' D = some (.lst (ag.map fun kv => kV kv.1))) ?_ ?_ ?_ ?_⟩
    · exact ⟨none, rfl, W.same st, fun b o h _ => st _ _ h, upd_same⟩
    · rintro j σ H' _ ⟨x, rfl, _, _, h⟩
      exact SqL.of h
    · rintro j x σ H' hx ⟨x0, rfl, W', fr, hD⟩
      obtain ⟨⟨dx', h1'⟩, h2', h3', h4', _⟩ := id W'
      obtain ⟨k, hk, rfl⟩ : ∃ k : Key, (ag.map (·.1))[j]? = some k ∧ x = kV k := by
        rw [List.getElem?_map] at hx
        rw [List.getElem?_map]
        cases e : ag[j]? with
        | none => rw [e] at hx; cases hx
        | some kv => rw [e] at hx; exact ⟨kv.1, rfl, (Option.some.inj hx).symm⟩
      have hall : ∀ k ∈ (ag.map (·.1)).take j, k ∈ ag.map (·.1) := fun k h => List.mem_of_mem_take h
      obtain ⟨B1, B2⟩ := bump_ok S hall
      have hm : k ∈ (bump ag ((ag.map (·.1)).take j)).map (·.1) := by rw [B2]; exact List.mem_of_getElem? hk
      obtain ⟨i, rfl, hv⟩ := B1.val hm
      have hlen : (bump ag ((ag.map (·.1)).take j)).length = ag.length := by
        have := congrArg List.length B2
        rwa [List.length_map, List.length_map] at this
      walk_at "rds"
      refine ⟨da, _, rfl, (hv ▸ DGet.k (k := Sum.inl i) h4'), ?_⟩
      walk_at "rds"
      have hpl : dl ≠ da := ne
      refine ⟨_, DPut.k (k := Sum.inl i) h4' (by omega), _, rfl, ⟨⟨dx', by rw [upd_ne hpa]; exact h1'⟩, by rw [upd_ne hma]; exact h2', by rw [upd_ne ne]; exact h3', ?_, ne⟩, fun b o h n => by rw [upd_ne n]; exact fr b o h n, by rw [upd_ne aD.symm]; exact hD⟩
      rw [upd_same, bump_more hk]
    · rintro σ H' ⟨x, rfl, W', fr, hD⟩
      rw [List.length_map] at W'
      rw [List.take_of_length_le (by rw [List.length_map]; exact Nat.le_refl _)] at W'
      exact q H' W' fr
abbrev s_Watch_reach : Stmt := inClass (top 2) 4
abbrev N_Watch_reach : List Str := ["self", "heard", "process", "age"]
abbrev P_Watch_reach : List Str := ["self"]
theorem sc_Watch_reach : FnScope N_Watch_reach P_Watch_reach (defScope s_Watch_reach) := ⟨rfl, rfl, rfl, by decide +kernel, rfl, by decide +kernel, by decide +kernel⟩
theorem ok_reach {f : Addr} {fd : FuncData} (T : Tx K mg C) (F : Fun K "reach" "Watch.reach" s_Watch_reach f fd) : FnOk P w K mg base CX0 1 f fd P_Watch_reach (sp_reach C) := by
  have nd := sc_Watch_reach.nd
  refine F.ok sc_Watch_reach (fun vs H Q E h => ?_) (fun cdv A outer s H vs Q E hr h => ?_)
  · obtain ⟨_, _, _, _, _, _, _, _, rfl, _⟩ := h
    rfl
  · obtain ⟨p, me, dl, da, m0, m1, lv, ag, rfl, W, S, q⟩ := h
    have hu := hu_of hr
    have hs := sl
    obtain ⟨⟨dx, h1⟩, h2, h3, h4, ne⟩ := id W
    refine ⟨_, (pss_cons (ps_lock (ps_setLc (i := 1) (own := [("process", 2), ("age", 3)]) (g := gTup K 2 (gCons (gName 2) (gCons (gName 3) gNil))) (te := tTup (tCons (tVar 2) (tCons (tDGet (tFld K (tVar 0) "_lives") (tVar 2)) tNil))) rfl nd rfl rfl (sw_true rfl rfl rfl (by decide +kernel)) (pi_items (pe_fld (pv 0) (by rfl))) (blkOk_by (own := [("process", 2), ("age", 3)]) (N := N_Watch_reach) (sc := defScope s_Watch_reach) (by decide +kernel)) (fun _ _ _ _ _ => (pg_tup (by rfl) (pgs_cons (pg_name (i := 2) nd rfl (Or.inl rfl)) (pgs_cons (pg_name (i := 3) nd rfl (Or.inl rfl)) pgs_nil)))) (fun _ _ _ _ _ => (pts_one (pt_cmpR op_le (pv 3) (pe_const T.c_SILENCE) (nomark _)))) (fun _ _ _ _ _ => (pe_tup (pa_cons (pv 2) (pa_cons (pe_dget hu (pe_fld (pv 0) (by rfl)) (pv 2) (fun _ _ => rfl)) pa_nil))))))
      (pss_one (ps_ret (pe_callTy call_tuple_of (by rfl) T.b_tuple (by decide +kernel) (pa_cons (pe_callB cr_sortedPO (by rfl) T.b_sorted (by decide +kernel) (pa_cons (pe_op op_cat (pe_lst (pa_cons (pe_fld (pv 0) (by rfl)) pa_nil)) (pv 1)) pa_nil)) pa_nil))))), ?_⟩
    have c1 := T.cl_Watch
    have n1 := T.n_Watch__lives
    have n2 := T.n_Watch__ages
    have n3 := T.n_Watch__me
    have hpa : p ≠ da := ne_of h1 h4 (by intro z; cases z)
    have hma : me ≠ da := ne_of h2 h4 (by intro z; cases z)
    refine ⟨da, .dK ag, h4, trivial, fun od => ?_⟩
    have f1 : (upd H da (.frz od (.dK ag))) p = some (.ins C dx (wf me dl da)) := by rw [upd_ne hpa]; exact h1
    have fr0 : ∀ b o, H b = some o → b ≠ da → (upd H da (.frz od (.dK ag))) b = some o := fun b o h n => by rw [upd_ne n]; exact h
    refine ⟨_, rfl, p, C, dx, _, _, rfl, f1, c1, n2, rfl, ?_⟩
    refine ⟨da, od, ag, rfl, upd_same, fun D nD => ?_⟩
    have dD : da ≠ D := ne_of_none upd_same nD
    have free : ∀ b o, H b = some o → b ≠ D := fun b o h z => by
      by_cases e : b = da
      · exact dD (e.symm.trans z)
      · have := fr0 b o h e
        rw [z, nD] at this; cases this
    refine lc_it walk_items (fun j H' => ∃ vs, H' da = some (.frz od (.dK ag)) ∧ H' D = some (.lst vs) ∧ PairsAt H' vs (rowsOf lv ag ((ag.map (·.1)).take j)) ∧ vs.length ≤ j ∧ (∀ b o, H b = some o → b ≠ da → H' b = some o)) ?_ ?_ ?_ ?_
    · exact ⟨[], by rw [upd_ne dD]; exact upd_same, upd_same, trivial, Nat.le_refl _, fun b o h n => by rw [upd_ne (free b o h)]; exact fr0 b o h n⟩
    · rintro j H' _ ⟨vs, h, _⟩
      exact h
    · rintro j x H' H2 hj ⟨vs, g1, g2, g3, g4, fr⟩ ⟨t, x1, y1, rfl, nt, rfl, hx, hy⟩
      obtain ⟨k, v, hkv⟩ : ∃ k v, ag[j]? = some (k, v) := ⟨_, _, List.getElem?_eq_getElem hj⟩
      obtain ⟨i, rfl, rfl⟩ := S.da.nd' hkv
      simp only [hkv, Option.map_some] at hx hy
      cases hx
      cases hy
      have hk : (ag.map (·.1))[j]? = some (Sum.inl i) := by rw [List.getElem?_map, hkv]; rfl
      have st := same_new nt (.tup [kV (Sum.inl i), .int (iv ag (Sum.inl i))])
      have aT := ne_of_none g1 nt
      have more := rowsOf_more (lv := lv) (ag := ag) hk
      refine ⟨t, _, rfl, SqT.of upd_same, rfl, ?_⟩
      walk_at "rds"
      refine iB (fun h => ?_) (fun h => ?_)
      · have le : iv ag (Sum.inl i) ≤ 4 := of_decide_eq_true h
        rw [if_pos le] at more
        have f2 := st _ _ (fr _ _ h1 hpa)
        have f3 := st _ _ (fr _ _ h3 ne)
        obtain ⟨_, _, hlv⟩ := S.dl.val (k := Sum.inl i) (by rw [S.ks]; exact List.mem_of_getElem? hk)
        walk_at "rds"
        refine ⟨dl, _, rfl, (hlv ▸ DGet.k (k := Sum.inl i) f3), ?_⟩
        refine ⟨by show 2 ≤ sizeLine; omega, fun u nu => ?_⟩
        have su := same_new nu (.tup [kV (Sum.inl i), .int (iv lv (Sum.inl i))])
        have g2' := su _ _ (st _ _ g2)
        refine ⟨vs, g2', by have := S.le2; omega, vs ++ [.ref u], ?_, upd_same, ?_, by rw [List.length_append, List.length_singleton]; omega, ?_⟩
        · rw [upd_ne dD]; exact su _ _ (st _ _ g1)
        · rw [more]
          refine PairsAt.upd g2' (by intro xs z; cases z) ?_
          exact PairsAt.snoc (q := (i, iv lv (Sum.inl i))) ⟨u, rfl, upd_same⟩ ((g3.same st).same su)
        · intro b o h n
          rw [upd_ne (free b o h)]; exact su _ _ (st _ _ (fr b o h n))
      · have le : ¬ iv ag (Sum.inl i) ≤ 4 := of_decide_eq_false h
        rw [if_neg le, List.append_nil] at more
        refine ⟨vs, st _ _ g1, st _ _ g2, by rw [more]; exact g3.same st, by omega, fun b o h n => st _ _ (fr b o h n)⟩
    · rintro H' ⟨vs, g1, g2, g3, g4, fr⟩
      refine ⟨g1, ?_⟩
      rw [List.take_of_length_le (by rw [List.length_map]; exact Nat.le_refl _)] at g3
      have h5 : Same H (upd H' da (.dK ag)) := fun b o h => by
        by_cases e : b = da
        · subst e; rw [upd_same]; rw [h4] at h; exact h
        · rw [upd_ne e]; exact fr b o h e
      have g5 := g3.upd (o := .dK ag) g1 (by intro xs z; cases z)
      have g6 : (upd H' da (.dK ag)) D = some (.lst vs) := by rw [upd_ne dD.symm]; exact g2
      have f2 := h5 _ _ h1
      walk_at "rds"
      refine ⟨by show 1 ≤ sizeLine; omega, fun l0 nl0 => ?_⟩
      have s0 := same_new nl0 (.lst [V.ref me])
      refine ⟨_, rfl, l0, D, [V.ref me], vs, rfl, rfl, upd_same, s0 _ _ g6, by have := S.le2; show 1 + vs.length ≤ sizeLine; omega, fun l1 nl1 => ?_⟩
      have s1 := same_new nl1 (.lst ([V.ref me] ++ vs))
      have ss := h5.trans (s0.trans s1)
      have pr : PairsAt _ ([V.ref me] ++ vs) ((m0, m1) :: rowsOf lv ag (ag.map (·.1))) := ⟨⟨me, rfl, ss _ _ h2⟩, (g5.same s0).same s1⟩
      dsimp only [tNil]
      refine rd_sorted (SqL.of upd_same) pr fun l2 us zs nl2 h1 h2 h3 h4 => ?_
      have s2 := same_new nl2 (.lst us)
      refine ⟨l2, us, rfl, .inl ⟨SqL.of upd_same, fun a na => ?_⟩⟩
      have s3 := same_new na (.tup us)
      refine q a _ us zs (ss.trans (s2.trans s3)) upd_same ((h1.same s2).same s3) h2 h3 ?_
      have := h1.length
      have := S.le2
      rw [List.length_append, List.length_singleton] at h4
      omega
end
end Mus

set_option maxRecDepth 100000
set_option maxHeartbeats 4000000
namespace Mus
open PySem L2
local macro_rules | `(tactic| walk_at "rd") => `(tactic| first
  | refine ⟨_, rfl, ?_⟩
  | refine ⟨_, _, rfl, rfl, (⟨by decide, by decide, by decide⟩ : CPow _ _), ?_⟩
  | refine ⟨_, _, rfl, rfl, (⟨by decide, by decide⟩ : CDiv _ _), ?_⟩
  | refine ⟨_, _, rfl, rfl, (by show (0 : Int) < _; decide), ?_⟩
  | refine ⟨_, _, rfl, rfl, ?_⟩ | refine ⟨rfl, ?_⟩ | refine iteT ?_ | refine iteF ?_ | refine ⟨_, _, rfl, ?_⟩ | refine .inl ⟨_, rfl, ?_⟩
  | refine ⟨_, _, _, _, _, rfl, (by assumption), (by assumption), (by assumption), rfl, ?_⟩ | refine ⟨_, _, _, _, rfl, rfl, SqT.of (by assumption), rfl, ?_⟩ | refine ⟨_, _, rfl, SqT.of (by assumption), rfl, ?_⟩
  | refine ⟨_, _, _, _, _, rfl, .ty _, Rp.ty (by assumption), kit_int _, ?_⟩ | refine ⟨_, _, _, _, _, rfl, .ty _, Rp.ty (by assumption), kit_bool _, ?_⟩
  | refine ⟨_, _, _, _, _, rfl, .ty _, Rp.ty (by assumption), kit_str _, ?_⟩ | refine ⟨_, _, _, _, _, rfl, .ty _, Rp.ty (by assumption), kit_tup _, ?_⟩)
local macro_rules | `(tactic| walk_at "cal") => `(tactic| first
  | refine ⟨_, _, _, _, _, rfl, (by assumption), ?_⟩ | refine ⟨_, _, _, _, _, rfl, (by assumption), (by assumption), ?_⟩)
local macro_rules | `(tactic| walk_at "sq") => `(tactic| first
  | refine ⟨_, _, rfl, Or.inr (SqT.of (by assumption)), ?_⟩ | refine ⟨_, _, _, _, rfl, rfl, SqT.of (by assumption), rfl, ?_⟩)
local macro_rules | `(tactic| walk_at "rds") => `(tactic| repeat first | walk_at "rd" | walk_at "cal" | walk_at "sq")
/-- the law's own reach -/
def sp_lreach : Sp := fun vs H Q _ => ∃ (me l2 a2 : Addr) (m0 m1 : Int) (lv ag : List (Key × V)), vs = [.ref me, .ref l2, .ref a2] ∧ H me = some (.tup [.int m0, .int m1]) ∧ H l2 = some (.dK lv) ∧ H a2 = some (.dK ag) ∧ l2 ≠ a2 ∧ St16 lv ag ∧
  ∀ a H' us zs, Same H H' → H' a = some (.tup us) → PairsAt H' us zs → zs.Pairwise pLe → zs.Perm ((m0, m1) :: rowsOf lv ag (ag.map (·.1))) → zs.length ≤ 1001 → Q (.ref a) H'
def sp_lknows (C : Addr) : Sp := fun vs H Q _ => ∃ (p me dl da l2 : Addr) (m0 m1 : Int) (lv ag : List (Key × V)), vs = [.ref p, .ref l2] ∧ WAt C H p me dl da m0 m1 lv ag ∧ DI2 lv ∧ H l2 = some (.dK lv) ∧ ∀ H', Same H H' → Q (.bl true) H'
def sp_cell (K : PySem.W.Frag) : Sp := fun vs H Q _ => ∃ (a : Addr) (ns : List Int) (k : Int), vs = [.ref a, .int k] ∧ 0 ≤ k ∧ SqL K H a (ns.map V.int) ∧ ∀ x, Q (.int x) H
section
variable {P : Program} {w : World} {K : PySem.W.Frag} {mg : Str → Option Value} {base : Heap} {C : Addr}
abbrev s__law_cell : Stmt := top 4
abbrev N__law_cell : List Str := ["script", "k"]
abbrev P__law_cell : List Str := ["script", "k"]
theorem sc__law_cell : FnScope N__law_cell P__law_cell (defScope s__law_cell) := ⟨rfl, rfl, rfl, by decide +kernel, rfl, by decide +kernel, by decide +kernel⟩
theorem ok__law_cell {f : Addr} {fd : FuncData} (T : Tx K mg C) (F : Fun K "_law_cell" "_law_cell" s__law_cell f fd) : FnOk P w K mg base CX0 1 f fd P__law_cell (sp_cell K) := by
  have nd := sc__law_cell.nd
  refine F.ok sc__law_cell (fun vs H Q E h => ?_) (fun cdv A outer s H vs Q E hr h => ?_)
  · obtain ⟨_, _, _, rfl, _⟩ := h
    rfl
  · obtain ⟨a, ns, k, rfl, k0, hS, q⟩ := h
    refine ⟨_, (pss_cons (ps_if (pt_cmpR op_lt (pv 1) (pe_callB call_len_seq (by rfl) T.b_len (by decide +kernel) (pa_cons (pv 0) pa_nil)) (nomark _))
        (pss_one (ps_ret (pe_ix ix_list (pv 0) (pv 1) (fun _ _ => rfl))))
        pss_nil)
      (pss_one (ps_ret pe_int))), ?_⟩
    have hl : (ns.map V.int).length = ns.length := List.length_map _
    walk_at "rds"
    refine ⟨a, _, rfl, .inl hS, ?_⟩
    walk_at "rds"
    refine iB (fun h => ?_) (fun h => ?_)
    · have hk : k < (((ns.map V.int).length : Nat) : Int) := of_decide_eq_true h
      have hk2 : k.toNat < ns.length := by omega
      walk_at "rds"
      exact ⟨a, _, _, .int ns[k.toNat], rfl, rfl, hS, at_int k0 (by rw [List.getElem?_map, List.getElem?_eq_getElem hk2]; rfl), q _⟩
    · exact q _
abbrev s__law_reach : Stmt := top 5
abbrev N__law_reach : List Str := ["me", "lives", "ages", "rows", "process"]
abbrev P__law_reach : List Str := ["me", "lives", "ages"]
theorem sc__law_reach : FnScope N__law_reach P__law_reach (defScope s__law_reach) := ⟨rfl, rfl, rfl, by decide +kernel, rfl, by decide +kernel, by decide +kernel⟩
theorem ok__law_reach {f : Addr} {fd : FuncData} (T : Tx K mg C) (F : Fun K "_law_reach" "_law_reach" s__law_reach f fd) : FnOk P w K mg base CX0 1 f fd P__law_reach sp_lreach := by
  have nd := sc__law_reach.nd
  refine F.ok sc__law_reach (fun vs H Q E h => ?_) (fun cdv A outer s H vs Q E hr h => ?_)
  · obtain ⟨_, _, _, _, _, _, _, rfl, _⟩ := h
    rfl
  · obtain ⟨me, l2, a2, m0, m1, lv, ag, rfl, h2, h3, h4, ne, S, q⟩ := h
    have hu := hu_of hr
    have hs := sl
    refine ⟨_, (pss_cons (ps_set (i := 3) nd rfl (Or.inl rfl) (pe_lst (pa_cons (pv 0) pa_nil)))
      (pss_cons (ps_lock (ps_for PassesOwn.never rfl (pi_keys (pv 1)) (pg_name (i := 4) nd rfl (Or.inl rfl))
        (pss_one (ps_if (pt_cmpR op_le (pe_dget hu (pv 2) (pv 4) (fun _ _ => rfl)) pe_int (nomark _))
          (pss_one (ps_expr (pe_bm PySem.F.plainAttrs_list PySem.F.slot_list_append PySem.F.type_list_append mt_append (pv 3) (pa_cons (pe_tup (pa_cons (pv 4) (pa_cons (pe_dget hu (pv 1) (pv 4) (fun _ _ => rfl)) pa_nil))) pa_nil))))
          pss_nil))))
      (pss_one (ps_ret (pe_callTy call_tuple_of (by rfl) T.b_tuple (by decide +kernel) (pa_cons (pe_callB cr_sortedPO (by rfl) T.b_sorted (by decide +kernel) (pa_cons (pv 3) pa_nil)) pa_nil)))))), ?_⟩
    walk_at "rds"
    refine ⟨by show 1 ≤ sizeLine; omega, fun D nD => ?_⟩
    have s0 := same_new nD (.lst [V.ref me])
    have lD := ne_of_none h3 nD
    have hml : me ≠ l2 := ne_of h2 h3 (by intro z; cases z)
    refine ⟨l2, .dK lv, s0 _ _ h3, trivial, fun od => ?_⟩
    walk_at "rds"
    refine ⟨l2, od, rfl, .inl ⟨lv, upd_same, ?_⟩⟩
    have kl : lv.length = ag.length := by have := congrArg List.length S.ks; rwa [List.length_map, List.length_map] at this
    refine for_it walk_keys (fun j σ H' => ∃ (vs : List V) (x : Option V), σ = [some (.ref me), some (.ref l2), some (.ref a2), some (.ref D), x] ∧ H' l2 = some (.frz od (.dK lv)) ∧ H' D = some (.lst vs) ∧ PairsAt H' vs ((m0, m1) :: rowsOf lv ag ((lv.map (·.1)).take j)) ∧ vs.length ≤ j + 1 ∧ (∀ b o, H b = some o → b ≠ l2 → H' b = some o)) ?_ ?_ ?_ ?_
    · refine ⟨[.ref me], none, rfl, upd_same, by rw [upd_ne lD.symm]; exact upd_same, ⟨⟨me, rfl, ?_⟩, trivial⟩, Nat.le_refl _, fun b o h n => ?_⟩
      · rw [upd_ne hml]; exact s0 _ _ h2
      · rw [upd_ne n]; exact s0 _ _ h
    · rintro j σ H' _ ⟨vs, x, rfl, h, _⟩
      exact h
    · rintro j x σ H' H2 hj ⟨vs, x0, rfl, g1, g2, g3, g4, fr⟩ ⟨rfl, k, v, hkv, rfl⟩
      obtain ⟨i, rfl, rfl⟩ := S.dl.nd' hkv
      have hk : (lv.map (·.1))[j]? = some (Sum.inl i) := by rw [List.getElem?_map, hkv]; rfl
      have more := rowsOf_more (lv := lv) (ag := ag) hk
      obtain ⟨_, _, hav⟩ := S.da.val (k := Sum.inl i) (by rw [← S.ks]; exact List.mem_of_getElem? hk)
      obtain ⟨_, _, hlv⟩ := S.dl.val (k := Sum.inl i) (List.mem_of_getElem? hk)
      have f4 := fr _ _ h4 ne.symm
      walk_at "rds"
      refine ⟨a2, _, rfl, (hav ▸ DGet.k (k := Sum.inl i) f4), ?_⟩
      walk_at "rds"
      refine iB (fun h => ?_) (fun h => ?_)
      · have le : iv ag (Sum.inl i) ≤ 4 := of_decide_eq_true h
        rw [if_pos le] at more
        walk_at "rds"
        refine ⟨.inl ⟨rfl, _, SqL.of g2⟩, ?_⟩
        walk_at "rds"
        refine ⟨l2, _, rfl, .inl ⟨lv, Sum.inl i, .inr ⟨od, g1⟩, rfl, hlv.symm⟩, ?_⟩
        refine ⟨by show 2 ≤ sizeLine; omega, fun u nu => ?_⟩
        have su := same_new nu (.tup [kV (Sum.inl i), .int (iv lv (Sum.inl i))])
        have g2' := su _ _ g2
        have hjl : j < lv.length := hj
        refine ⟨D, _, _, rfl, rfl, g2', by have := S.le; omega, vs ++ [.ref u], _, rfl, ?_, upd_same, ?_, by rw [List.length_append, List.length_singleton]; omega, ?_⟩
        · rw [upd_ne lD]; exact su _ _ g1
        · rw [more]
          refine PairsAt.upd g2' (by intro xs z; cases z) ?_
          exact PairsAt.snoc (q := (i, iv lv (Sum.inl i))) ⟨u, rfl, upd_same⟩ (g3.same su)
        · intro b o h n
          rw [upd_ne (ne_of_none h nD)]; exact su _ _ (fr b o h n)
      · have le : ¬ iv ag (Sum.inl i) ≤ 4 := of_decide_eq_false h
        rw [if_neg le, List.append_nil] at more
        exact ⟨vs, _, rfl, g1, g2, by rw [more]; exact g3, by omega, fr⟩
    · rintro σ H' ⟨vs, x, rfl, g1, g2, g3, g4, fr⟩
      refine ⟨g1, ?_⟩
      rw [List.take_of_length_le (by rw [List.length_map]; exact Nat.le_refl _), S.ks] at g3
      have h5 : Same H (upd H' l2 (.dK lv)) := fun b o h => by
        by_cases e : b = l2
        · subst e; rw [upd_same]; rw [h3] at h; exact h
        · rw [upd_ne e]; exact fr b o h e
      have g5 := g3.upd (o := .dK lv) g1 (by intro xs z; cases z)
      have g6 : (upd H' l2 (.dK lv)) D = some (.lst vs) := by rw [upd_ne lD.symm]; exact g2
      walk_at "rds"
      dsimp only [tNil]
      refine rd_sorted (SqL.of g6) g5 fun l3 us zs nl2 h1 h2 h3 h4 => ?_
      have s2 := same_new nl2 (.lst us)
      refine ⟨l3, us, rfl, .inl ⟨SqL.of upd_same, fun a na => ?_⟩⟩
      have s3 := same_new na (.tup us)
      refine q a _ us zs (h5.trans (s2.trans s3)) upd_same ((h1.same s2).same s3) h2 h3 ?_
      have := h1.length
      have := S.le
      omega
abbrev s__law_knows : Stmt := top 6
abbrev N__law_knows : List Str := ["watch", "lives", "process", "told", "life", "actual"]
abbrev P__law_knows : List Str := ["watch", "lives"]
theorem sc__law_knows : FnScope N__law_knows P__law_knows (defScope s__law_knows) := ⟨rfl, rfl, rfl, by decide +kernel, rfl, by decide +kernel, by decide +kernel⟩
theorem ok__law_knows {f : Addr} {fd : FuncData} (T : Tx K mg C) (m_Watch_knows : MethOk P w K mg base CX0 C "knows" P_Watch_knows 1 (sp_knows C)) (F : Fun K "_law_knows" "_law_knows" s__law_knows f fd) : FnOk P w K mg base CX0 2 f fd P__law_knows (sp_lknows C) := by
  have nd := sc__law_knows.nd
  refine F.ok sc__law_knows (fun vs H Q E h => ?_) (fun cdv A outer s H vs Q E hr h => ?_)
  · obtain ⟨_, _, _, _, _, _, _, _, _, rfl, _⟩ := h
    rfl
  · obtain ⟨p, me, dl, da, l2, m0, m1, lv, ag, rfl, W, S, hl, q⟩ := h
    have hu := hu_of hr
    have hs := sl
    refine ⟨_, (pss_cons (ps_for PassesOwn.never rfl (pi_range1 (by rfl) T.b_range (pa_cons pe_int pa_nil)) (pg_name (i := 2) nd rfl (Or.inl rfl))
        (pss_cons (ps_set (i := 3) nd rfl (Or.inl rfl) (pe_dget2 hu (pv 1) (pv 2) pe_int ⟨rfl, rfl, rfl, rfl⟩))
        (pss_one (ps_for PassesOwn.never rfl (pi_list (pe_lst (pa_cons pe_int (pa_cons (pe_callB (call_max2 rfl) (by rfl) T.b_max (by decide +kernel) (pa_cons pe_int (pa_cons (pe_op op_sub (pv 3) pe_int) pa_nil))) (pa_cons (pv 3) (pa_cons (pe_callB (call_min2 rfl) (by rfl) T.b_min (by decide +kernel) (pa_cons (pe_op op_pow pe_int pe_int) (pa_cons (pe_op op_add (pv 3) pe_int) pa_nil))) pa_nil)))))) (pg_name (i := 4) nd rfl (Or.inl rfl))
          (pss_cons (ps_set (i := 5) nd rfl (Or.inl rfl) (pmeth m_Watch_knows T.cl_Watch (pv 0) hr (pa_cons (pe_tup (pa_cons (pv 2) (pa_cons (pv 4) pa_nil))) pa_nil)))
          (pss_one (ps_if (PW.pt (pw_or (pt_not (pt_val (pe_callB call_isi (by rfl) T.b_isinstance (by decide +kernel) (pa_cons (pv 5) (pa_cons (pe_ty "bool" T.b_bool) pa_nil))))) (pw_or1 (pt_cmpR op_ne (pv 5) (pe_and (pe_cmp (pc_din hu (pv 2) (pv 1)) rfl) (pe_one (pe_cmpR op_lt (pv 4) (pe_dget hu (pv 1) (pv 2) (fun _ _ => rfl)) (nomark _)))) (nomark _)))))
            (pss_one (ps_ret pe_bl))
            pss_nil)))))))
      (pss_one (ps_ret pe_bl))), ?_⟩
    refine ⟨12, rfl, by decide, by decide, for_range (lo := 0) (n := 12) (fun j σ H' => ∃ (x2 x3 x4 x5 : Option V), σ = [some (.ref p), some (.ref l2), x2, x3, x4, x5] ∧ Same H H') ⟨_, _, _, _, rfl, Same.rfl' H⟩ ?_ ?_⟩
    · rintro j σ H1 hj ⟨x2, x3, x4, x5, rfl, s1⟩
      have hl1 := s1 _ _ hl
      walk_at "rds"
      refine ⟨.inl ⟨lv, .inl hl1⟩, _, rfl, _, DGet.k (k := Sum.inl (0 + (j : Int))) hl1, ?_⟩
      obtain ⟨told, ht, hn⟩ : ∃ t : Int, (valV lv (Sum.inl (0 + (j : Int)) : Key)).getD (.int 1) = .int t ∧ (valV lv (Sum.inl (0 + (j : Int)) : Key) = none → t = 1) := by
        rcases S.val_or (Sum.inl (0 + (j : Int))) with ⟨e1, e2⟩ | ⟨e1, _⟩
        · rw [e1]; exact ⟨1, rfl, fun _ => rfl⟩
        · rw [e1]; exact ⟨_, rfl, fun z => by cases z⟩
      rw [ht]
      obtain ⟨xs, hxs, h1s⟩ : ∃ xs : List Int, xs = [1, (if told - 1 > 1 then told - 1 else 1), told, (if told + 1 < 10 ^ Int.toNat 12 then told + 1 else 10 ^ Int.toNat 12)] ∧ (valV lv (Sum.inl (0 + (j : Int)) : Key) = none → ∀ x ∈ xs, 1 ≤ x) := by
        refine ⟨_, rfl, fun z x hx => ?_⟩
        have e := hn z
        subst e
        simp only [List.mem_cons, List.not_mem_nil, or_false] at hx
        rcases hx with rfl | rfl | rfl | rfl <;> decide
      walk_at "rds"
      refine ⟨by show 4 ≤ sizeLine; omega, fun D nD => ?_⟩
      have eD : (upd H1 D (.lst (xs.map V.int))) D = some (.lst (xs.map V.int)) := upd_same
      have s2 := same_new nD (.lst (xs.map V.int))
      rw [hxs] at eD s2
      refine ⟨D, rfl, ⟨_, SqL.of eD⟩, for_list (K := K) (a := D) (xs := xs.map V.int) (fun i σ H' => ∃ (x4 x5 : Option V), σ = [some (.ref p), some (.ref l2), some (.int (0 + (j : Int))), some (.int told), x4, x5] ∧ Same H H' ∧ H' D = some (.lst (xs.map V.int))) ⟨_, _, rfl, s1.trans s2, hxs ▸ eD⟩ ?_ ?_ ?_⟩
      · rintro i σ H' _ ⟨x4, x5, rfl, _, h⟩
        exact SqL.of h
      · rintro i x σ H2 hx ⟨x4, x5, rfl, s3, hD⟩
        obtain ⟨l, hl2, rfl⟩ : ∃ l, l ∈ xs ∧ x = V.int l := by
          rw [List.getElem?_map] at hx
          cases e : xs[i]? with
          | none => rw [e] at hx; cases hx
          | some k => rw [e] at hx; exact ⟨k, List.mem_of_getElem? e, (Option.some.inj hx).symm⟩
        have W2 := W.same s3
        obtain ⟨⟨dx, h1⟩, _⟩ := id W2
        walk_at "rds"
        refine ⟨p, dx, _, rfl, h1, rfl, ?_⟩
        walk_at "rds"
        refine ⟨by show 2 ≤ sizeLine; omega, fun t nt => ?_⟩
        have st := same_new nt (.tup [V.int (0 + (j : Int)), V.int l])
        have hl3 := (s3.trans st) _ _ hl
        refine ⟨p, t, me, dl, da, m0, m1, _, l, lv, ag, rfl, W2.same st, S, upd_same, ?_⟩
        walk_at "rds"
        refine ⟨_, _, _, _, true, rfl, .ty _, .base (.bl _), kit_ty (by decide +kernel), ?_⟩
        walk_at "rds"
        refine ⟨l2, _, rfl, DGet.k (k := Sum.inl (0 + (j : Int))) hl3, ?_⟩
        rcases S.val_or (Sum.inl (0 + (j : Int))) with ⟨e1, e2⟩ | ⟨e1, _⟩
        · rw [e1, e2]
          refine ⟨_, rfl, iteF ⟨rfl, _, rfl, nF ?_ ?_⟩⟩
          · rw [decide_eq_false (by have := h1s e1 l hl2; omega)]
          · exact ⟨_, _, rfl, s3.trans st, st _ _ hD⟩
        · rw [e1]
          refine ⟨_, rfl, iteT ?_⟩
          walk_at "rds"
          refine ⟨l2, _, rfl, (e1 ▸ DGet.k (k := Sum.inl (0 + (j : Int))) hl3), ?_⟩
          walk_at "rds"
          refine nF rfl ?_
          exact ⟨_, _, rfl, s3.trans st, st _ _ hD⟩
      · rintro σ H' ⟨x4, x5, rfl, s3, _⟩
        exact ⟨_, _, _, _, rfl, s3⟩
    · rintro σ H' ⟨x2, x3, x4, x5, rfl, s1⟩
      exact q _ s1
end
end Mus

set_option maxRecDepth 100000
set_option maxHeartbeats 4000000
namespace Mus
open PySem L2
local macro_rules | `(tactic| walk_at "rd") => `(tactic| first
  | refine ⟨_, rfl, ?_⟩
  | refine ⟨_, _, rfl, rfl, (⟨by decide, by decide, by decide⟩ : CPow _ _), ?_⟩
  | refine ⟨_, _, rfl, rfl, (⟨by decide, by decide⟩ : CDiv _ _), ?_⟩
  | refine ⟨_, _, rfl, rfl, (by show (0 : Int) < _; decide), ?_⟩
  | refine ⟨_, _, rfl, rfl, ?_⟩ | refine ⟨rfl, ?_⟩ | refine iteT ?_ | refine iteF ?_ | refine ⟨_, _, rfl, ?_⟩ | refine .inl ⟨_, rfl, ?_⟩
  | refine ⟨_, _, _, _, _, rfl, (by assumption), (by assumption), (by assumption), rfl, ?_⟩ | refine ⟨_, _, _, _, rfl, rfl, SqT.of (by assumption), rfl, ?_⟩ | refine ⟨_, _, rfl, SqT.of (by assumption), rfl, ?_⟩
  | refine ⟨_, _, _, _, _, rfl, .ty _, Rp.ty (by assumption), kit_int _, ?_⟩ | refine ⟨_, _, _, _, _, rfl, .ty _, Rp.ty (by assumption), kit_bool _, ?_⟩
  | refine ⟨_, _, _, _, _, rfl, .ty _, Rp.ty (by assumption), kit_str _, ?_⟩ | refine ⟨_, _, _, _, _, rfl, .ty _, Rp.ty (by assumption), kit_tup _, ?_⟩)
local macro_rules | `(tactic| walk_at "cal") => `(tactic| first
  | refine ⟨_, _, _, _, _, rfl, (by assumption), ?_⟩ | refine ⟨_, _, _, _, _, rfl, (by assumption), (by assumption), ?_⟩)
local macro_rules | `(tactic| walk_at "sq") => `(tactic| first
  | refine ⟨_, _, rfl, Or.inr (SqT.of (by assumption)), ?_⟩ | refine ⟨_, _, _, _, rfl, rfl, SqT.of (by assumption), rfl, ?_⟩)
local macro_rules | `(tactic| walk_at "rds") => `(tactic| repeat first | walk_at "rd" | walk_at "cal" | walk_at "sq")
def sp_law (K : PySem.W.Frag) : Sp := fun vs H Q _ => ∃ (a : Addr) (ns : List Int), vs = [.ref a] ∧ SqL K H a (ns.map V.int) ∧ ns.length ≤ 63 ∧ ∀ H', Q (.bl true) H'
theorem hearL_le {m0 i l : Int} {lv : List (Key × V)} : (hearL m0 i l lv).length ≤ lv.length + 1 := by
  unfold hearL; split
  · omega
  · exact putK_le _ _ _
theorem St16.hear {lv ag : List (Key × V)} (S : St16 lv ag) (m0 i l : Int) (h : lv.length ≤ 900) : St16 (hearL m0 i l lv) (hearA m0 i l lv ag) := by
  have hl := hearL_le (m0 := m0) (i := i) (l := l) (lv := lv)
  refine ⟨?_, ?_, ?_, by omega⟩
  · unfold hearL; split
    · exact S.dl
    · exact S.dl.put _ _
  · unfold hearA; split
    · exact S.da
    · exact S.da.put _ _
  · unfold hearL hearA; split
    · exact S.ks
    · rw [putK_keys, putK_keys, S.ks]
      have e : valV lv (Sum.inl i : Key) = none ↔ valV ag (Sum.inl i : Key) = none := by
        constructor
        · intro h
          cases e : valV ag (Sum.inl i : Key) with
          | none => rfl
          | some v => exact absurd (S.ks ▸ valV_in e) (valV_not h)
        · intro h
          cases e : valV lv (Sum.inl i : Key) with
          | none => rfl
          | some v => exact absurd (S.ks ▸ valV_in e) (valV_not h)
      by_cases h1 : valV lv (Sum.inl i : Key) = none
      · rw [if_pos h1, if_pos (e.mp h1)]
      · rw [if_neg h1, if_neg (fun z => h1 (e.mpr z))]
theorem St16.tick {lv ag : List (Key × V)} (S : St16 lv ag) : St16 lv (bump ag (ag.map (·.1))) := by
  obtain ⟨h1, h2⟩ := bump_ok S.da (ks := ag.map (·.1)) fun k h => h
  exact ⟨S.dl, h1, S.ks.trans h2.symm, S.le⟩
/-- what holds between the law's turns -/
structure Turn (C : Addr) (H0 H : Hp) (p me dl da l2 a2 S : Addr) (m0 m1 : Int) (xs : List V) (lv ag : List (Key × V)) (n : Nat) : Prop where
  w : WAt C H p me dl da m0 m1 lv ag
  st : St16 lv ag
  le : lv.length ≤ n
  hl : H l2 = some (.dK lv)
  ha : H a2 = some (.dK ag)
  hS : H S = some (.lst xs)
  n1 : l2 ≠ a2
  n2 : l2 ≠ dl
  n3 : l2 ≠ da
  n4 : a2 ≠ dl
  n5 : a2 ≠ da
theorem Turn.same {C : Addr} {H0 H H' : Hp} {p me dl da l2 a2 S : Addr} {m0 m1 : Int} {xs : List V} {lv ag : List (Key × V)} {n : Nat} (t : Turn C H0 H p me dl da l2 a2 S m0 m1 xs lv ag n) (s : Same H H') : Turn C H0 H' p me dl da l2 a2 S m0 m1 xs lv ag n :=
  ⟨t.w.same s, t.st, t.le, s _ _ t.hl, s _ _ t.ha, s _ _ t.hS, t.n1, t.n2, t.n3, t.n4, t.n5⟩
theorem pick4 {r : Int} (h0 : 0 ≤ r) (h1 : r < 4) : ∃ x, atI [V.int 0, V.int 0, V.int 1, V.int (-1)] r = some (V.int x) := by
  have h : r = 0 ∨ r = 1 ∨ r = 2 ∨ r = 3 := by omega
  rcases h with rfl | rfl | rfl | rfl <;> exact ⟨_, rfl⟩
section
variable {P : Program} {w : World} {K : PySem.W.Frag} {mg : Str → Option Value} {base : Heap} {C : Addr}
abbrev s_law : Stmt := top 7
abbrev N_law : List Str := ["script", "first", "me", "watch", "lives", "ages", "cell", "kind", "process", "rest", "life", "reach"]
abbrev P_law : List Str := ["script"]
theorem sc_law : FnScope N_law P_law (defScope s_law) := ⟨rfl, rfl, rfl, by decide +kernel, rfl, by decide +kernel, by decide +kernel⟩
theorem ok_law {f : Addr} {fd : FuncData} (T : Tx K mg C) (k_Watch : MkOk P w K mg base C "Watch" P_Watch___init__ 1 (sp_init C)) (m_Watch_heard : MethOk P w K mg base CX0 C "heard" P_Watch_heard 2 (sp_heard C)) (m_Watch_tick : MethOk P w K mg base CX0 C "tick" P_Watch_tick 1 (sp_tick C)) (m_Watch_reach : MethOk P w K mg base CX0 C "reach" P_Watch_reach 1 (sp_reach C))
    (c__law_cell : DefOk P w K mg base CX0 "_law_cell" P__law_cell 1 (sp_cell K)) (c__law_reach : DefOk P w K mg base CX0 "_law_reach" P__law_reach 1 (sp_lreach)) (c__law_knows : DefOk P w K mg base CX0 "_law_knows" P__law_knows 2 (sp_lknows C)) (F : Fun K "law" "law" s_law f fd) : FnOk P w K mg base CX0 10 f fd P_law (sp_law K) := by
  have nd := sc_law.nd
  refine F.ok sc_law (fun vs H Q E h => ?_) (fun cdv A outer s H vs Q E hr h => ?_)
  · obtain ⟨_, _, rfl, _⟩ := h
    rfl
  · obtain ⟨a, ns, rfl, hS, h63, q⟩ := h
    have hu := hu_of hr
    have hs := sl
    refine ⟨_, (pss_cons (ps_set (i := 1) nd rfl (Or.inl rfl) (pe_callTy call_int1 (by rfl) T.b_int (by decide +kernel) (pa_cons (pcall c__law_cell hr (pa_cons (pv 0) (pa_cons pe_int pa_nil))) pa_nil)))
      (pss_cons (ps_set (i := 2) nd rfl (Or.inl rfl) (pe_tup (pa_cons (pe_op op_mod (pv 1) pe_int) (pa_cons (pe_op op_add pe_int (pe_op op_mod (pe_op op_fdiv (pv 1) pe_int) pe_int)) pa_nil))))
      (pss_cons (ps_set (i := 3) nd rfl (Or.inl rfl) (pmake k_Watch hr (pa_cons (pv 2) pa_nil)))
      (pss_cons (ps_set (i := 4) nd rfl (Or.inl rfl) pe_dnewK)
      (pss_cons (ps_set (i := 5) nd rfl (Or.inl rfl) pe_dnewK)
      (pss_cons (ps_for PassesOwn.never rfl (pi_list (pe_slice sl_list (pv 0) (po_some pe_int) po_none)) (pg_name (i := 6) nd rfl (Or.inl rfl))
        (pss_cons (ps_set (i := 7) nd rfl (Or.inl rfl) (pe_op op_mod (pe_callTy call_int1 (by rfl) T.b_int (by decide +kernel) (pa_cons (pv 6) pa_nil)) pe_int))
        (pss_cons (ps_set (i := 6) nd rfl (Or.inl rfl) (pe_callTy call_int1 (by rfl) T.b_int (by decide +kernel) (pa_cons (pe_op op_fdiv (pv 6) pe_int) pa_nil)))
        (C8.pss_cut (ps_if (pt_cmpR op_eq (pv 7) pe_int (nomark _))
          (pss_cons (ps_expr (pmeth0 m_Watch_tick T.cl_Watch (pv 3) hr))
          (pss_one (ps_for PassesOwn.never rfl (pi_list (pe_callTy (call_listD rfl) (by rfl) T.b_list (by decide +kernel) (pa_cons (pv 5) pa_nil))) (pg_name (i := 8) nd rfl (Or.inl rfl))
            (pss_one (ps_dput hu (pv 5) (pv 8) (pe_op op_add (pe_dget hu (pv 5) (pv 8) (fun _ _ => rfl)) pe_int) rfl)))))
          (pss_cons (ps_set (i := 8) nd rfl (Or.inl rfl) (pe_op op_mod (pv 6) pe_int))
          (C8.pss_cut (ps_if (pt_cmpR op_gt (pe_op op_mod (pe_op op_fdiv (pv 6) pe_int) pe_int) pe_int (nomark _))
            (pss_one (ps_set (i := 8) nd rfl (Or.inl rfl) (pe_op op_mod (pv 8) pe_int)))
            pss_nil)
          (pss_cons (ps_set (i := 9) nd rfl (Or.inl rfl) (pe_op op_fdiv (pv 6) pe_int))
          (pss_cons (ps_set (i := 10) nd rfl (Or.inl rfl) (pe_callB (call_min2 rfl) (by rfl) T.b_min (by decide +kernel) (pa_cons (pe_op op_pow pe_int pe_int) (pa_cons (pe_callB (call_max2 rfl) (by rfl) T.b_max (by decide +kernel) (pa_cons pe_int (pa_cons (pe_op op_add (pe_dget2 hu (pv 4) (pv 8) pe_int ⟨rfl, rfl, rfl, rfl⟩) (pe_ix ix_list (pe_lst (pa_cons pe_int (pa_cons pe_int (pa_cons pe_int (pa_cons (pe_un un_neg pe_int) pa_nil))))) (pe_op op_mod (pv 9) pe_int) (fun _ _ => rfl))) pa_nil))) pa_nil))))
          (C8.pss_cut (ps_if (pt_cmpR op_eq (pe_op op_mod (pe_op op_fdiv (pv 9) pe_int) pe_int) pe_int (nomark _))
            (pss_one (ps_set (i := 10) nd rfl (Or.inl rfl) (pe_op op_add pe_int (pe_op op_mod (pe_op op_fdiv (pv 9) pe_int) pe_int))))
            pss_nil)
          (C8.pss_cut (ps_if (pt_cmpR op_eq (pe_op op_mod (pe_op op_fdiv (pv 9) pe_int) pe_int) pe_int (nomark _))
            (pss_one (ps_set (i := 10) nd rfl (Or.inl rfl) (pe_op op_add pe_int (pe_op op_mod (pe_op op_fdiv (pv 9) pe_int) (pe_op op_pow pe_int pe_int)))))
            pss_nil)
          (pss_cons (ps_expr (pmeth m_Watch_heard T.cl_Watch (pv 3) hr (pa_cons (pe_tup (pa_cons (pv 8) (pa_cons (pv 10) pa_nil))) pa_nil)))
          (pss_one (ps_if (PW.pt (pw_and (pt_cmpR op_ne (pv 8) (pe_ix ix_tup (pv 2) pe_int (fun _ _ => rfl)) (nomark _)) (pw_and1 (pt_cmpR op_ge (pv 10) (pe_dget2 hu (pv 4) (pv 8) pe_int ⟨rfl, rfl, rfl, rfl⟩) (nomark _)))))
            (pss_cons (ps_dput hu (pv 4) (pv 8) (pv 10) rfl)
            (pss_one (ps_dput hu (pv 5) (pv 8) pe_int rfl)))
            pss_nil))))))))))
        (pss_cons (ps_set (i := 11) nd rfl (Or.inl rfl) (pmeth0 m_Watch_reach T.cl_Watch (pv 3) hr))
        (pss_one (ps_if (PW.pt (pw_or (pt_not (pt_val (pe_callB call_isi (by rfl) T.b_isinstance (by decide +kernel) (pa_cons (pv 11) (pa_cons (pe_ty "tuple" T.b_tuple) pa_nil))))) (pw_or (pt_cmpR (op_neD hr.units) (pv 11) (pcall c__law_reach hr (pa_cons (pv 2) (pa_cons (pv 4) (pa_cons (pv 5) pa_nil)))) (nomark _)) (pw_or1 (pt_not (pt_val (pcall c__law_knows hr (pa_cons (pv 3) (pa_cons (pv 4) pa_nil)))))))))
          (pss_one (ps_ret pe_bl))
          pss_nil)))))))
      (pss_one (ps_ret (pe_and (pe_cmpR op_eq (pe_const T.c_SILENCE) pe_int (nomark _)) (pe_one (pe_cmpR (op_eqD hr.units) (pmeth0 m_Watch_reach T.cl_Watch (pmake k_Watch hr (pa_cons (pv 2) pa_nil)) hr) (pe_tup (pa_cons (pv 2) pa_nil)) (nomark _)))))))))))), ?_⟩
    have hl : (ns.map V.int).length = ns.length := List.length_map _
    walk_at "rds"
    refine ⟨a, ns, 0, rfl, by decide, hS, fun first => ?_⟩
    walk_at "rds"
    refine ⟨by show 2 ≤ sizeLine; omega, fun me nm => ?_⟩
    have s1 := same_new nm (.tup [V.int (first % 12), V.int (1 + first / 12 % 9)])
    walk_at "rds"
    intro x dx nx ndx nex
    have mx : me ≠ x := ne_of_none upd_same nx
    have mdx : me ≠ dx := ne_of_none upd_same ndx
    refine ⟨x, dx, me, _, _, rfl, upd_same, by rw [upd_ne mx, upd_ne mdx]; exact upd_same, fun dl da H2 ndl nda W fr => ⟨rfl, ?_⟩⟩
    have s2 : Same H H2 := fun b o h => by
      have h1 := s1 b o h
      exact fr b o (by rw [upd_ne (ne_of_none h1 nx), upd_ne (ne_of_none h1 ndx)]; exact h1) (ne_of_none h1 nx)
    intro l2 nl2
    have s3 := same_new nl2 (.dK [])
    have e1 := ne_of_none W.hl nl2
    have e2 := ne_of_none W.ha nl2
    intro a2 na2
    have s4 := same_new na2 (.dK [])
    have e3 := ne_of_none upd_same na2
    have W4 := (W.same s3).same s4
    have e4 := ne_of_none (W.same s3).hl na2
    have e5 := ne_of_none (W.same s3).ha na2
    have s24 := s2.trans (s3.trans s4)
    refine ⟨_, rfl, 1, rfl, a, _, rfl, s24.seq hS, fun S nS => ?_⟩
    have s5 := same_new nS (.lst (cutV (ns.map V.int) (some 1) none))
    have hints : ∀ v ∈ cutV (ns.map V.int) (some 1) none, ∃ z, v = V.int z := fun v hv => by
      obtain ⟨z, _, e⟩ := List.mem_map.mp (List.mem_of_mem_drop (List.mem_of_mem_take hv))
      exact ⟨z, e.symm⟩
    have hcl : (cutV (ns.map V.int) (some 1) none).length ≤ 63 := Nat.le_trans (cutV_length _ _ _) (by omega)
    refine ⟨S, rfl, ⟨_, SqL.of upd_same⟩, for_list (K := K) (a := S) (xs := cutV (ns.map V.int) (some 1) none) (fun i σ H' => ∃ (x6 x7 x8 x9 x10 x11 : Option V) (lv ag : List (Key × V)), σ = [some (.ref a), some (.int first), some (.ref me), some (.ref x), some (.ref l2), some (.ref a2), x6, x7, x8, x9, x10, x11] ∧ Turn C H H' x me dl da l2 a2 S (first % 12) (1 + first / 12 % 9) (cutV (ns.map V.int) (some 1) none) lv ag i) ?_ ?_ ?_ ?_⟩
    · refine ⟨_, _, _, _, _, _, [], [], rfl, W4.same s5, ⟨.nil, .nil, rfl, Nat.zero_le _⟩, Nat.le_refl _, s5 _ _ (s4 _ _ upd_same), s5 _ _ upd_same, upd_same, e3, e1.symm, e2.symm, e4.symm, e5.symm⟩
    · rintro i σ H' _ ⟨_, _, _, _, _, _, _, _, rfl, t⟩
      exact SqL.of t.hS
    · rintro i v σ H3 hv ⟨x6, x7, x8, x9, x10, x11, lv, ag, rfl, t⟩
      have hi : i < 63 := by have := (List.getElem?_eq_some_iff.mp hv).1; omega
      obtain ⟨z, rfl⟩ := hints v (List.mem_of_getElem? hv)
      walk_at "rds"
      obtain ⟨⟨dxw, hob⟩, hme, hdl, hda, _⟩ := id t.w
      have le := t.le
      have kl : lv.length = ag.length := by have := congrArg List.length t.st.ks; rwa [List.length_map, List.length_map] at this
      refine ⟨fun σ' H' => ∃ (x8 x9 x10 : Option V) (lv' ag' : List (Key × V)), σ' = [some (.ref a), some (.int first), some (.ref me), some (.ref x), some (.ref l2), some (.ref a2), some (.int (z / 4)), some (.int (z % 4)), x8, x9, x10, x11] ∧ Turn C H H' x me dl da l2 a2 S (first % 12) (1 + first / 12 % 9) (cutV (ns.map V.int) (some 1) none) lv' ag' (i + 1), ?_, ?_⟩
      · walk_at "rds"
        refine iB (fun h => ?_) (fun h => ?_)
        · walk_at "rds"
          refine ⟨x, dxw, _, rfl, hob, rfl, ?_⟩
          refine ⟨x, me, dl, da, _, _, lv, ag, rfl, t.w, t.st.da, t.st.le2, fun H4 W4 fr4 => ?_⟩
          have ha4 := fr4 _ _ t.ha t.n5
          have hl4 := fr4 _ _ t.hl t.n3
          have hS4 := fr4 _ _ t.hS (ne_of t.hS hda (by intro z; cases z))
          walk_at "rds"
          refine ⟨a2, ag, rfl, .inl ha4, fun D nD => ?_⟩
          have sD := same_new nD (.lst (ag.map fun kv => kV kv.1))
          have aD := ne_of_none ha4 nD
          refine ⟨D, rfl, ⟨_, SqL.of upd_same⟩, for_list (K := K) (a := D) (xs := ag.map fun kv => kV kv.1) (fun j σ H' => ∃ x8 : Option V, σ = [some (.ref a), some (.int first), some (.ref me), some (.ref x), some (.ref l2), some (.ref a2), some (.int (z / 4)), some (.int (z % 4)), x8, x9, x10, x11] ∧ H' a2 = some (.dK (bump ag ((ag.map (·.1)).take j))) ∧ H' D = some (.lst (ag.map fun kv => kV kv.1)) ∧ (∀ b o, H4 b = some o → b ≠ a2 → H' b = some o)) ?_ ?_ ?_ ?_⟩
          · exact ⟨_, rfl, sD _ _ ha4, upd_same, fun b o h _ => sD _ _ h⟩
          · rintro j σ H' _ ⟨_, rfl, _, h, _⟩
            exact SqL.of h
          · rintro j y σ H5 hy ⟨x8, rfl, g1, g2, g3⟩
            obtain ⟨k, hk, rfl⟩ : ∃ k : Key, (ag.map (·.1))[j]? = some k ∧ y = kV k := by
              rw [List.getElem?_map] at hy
              rw [List.getElem?_map]
              cases e : ag[j]? with
              | none => rw [e] at hy; cases hy
              | some kv => rw [e] at hy; exact ⟨kv.1, rfl, (Option.some.inj hy).symm⟩
            obtain ⟨B1, B2⟩ := bump_ok t.st.da (ks := (ag.map (·.1)).take j) fun k h => List.mem_of_mem_take h
            obtain ⟨i', rfl, hv'⟩ := B1.val (k := k) (by rw [B2]; exact List.mem_of_getElem? hk)
            have hlen : (bump ag ((ag.map (·.1)).take j)).length = ag.length := by
              have := congrArg List.length B2
              rwa [List.length_map, List.length_map] at this
            walk_at "rds"
            refine ⟨a2, _, rfl, (hv' ▸ DGet.k (k := Sum.inl i') g1), ?_⟩
            walk_at "rds"
            refine ⟨a2, _, rfl, DPut.k (k := Sum.inl i') g1 (by omega), ?_⟩
            refine ⟨_, rfl, ?_, by rw [upd_ne aD.symm]; exact g2, fun b o h n => by rw [upd_ne n]; exact g3 b o h n⟩
            rw [upd_same, bump_more hk]
          · rintro σ H5 ⟨x8, rfl, g1, g2, g3⟩
            rw [List.take_of_length_le (by simp)] at g1
            have fr5 : ∀ b o, H4 b = some o → b ≠ a2 → H5 b = some o := g3
            obtain ⟨⟨dx4, o4⟩, m4, l4, d4, ne4⟩ := id W4
            refine ⟨x8, x9, x10, lv, _, rfl, ⟨⟨⟨dx4, g3 _ _ o4 (ne_of o4 ha4 (by intro z; cases z))⟩, g3 _ _ m4 (ne_of m4 ha4 (by intro z; cases z)), g3 _ _ l4 t.n4.symm, g3 _ _ d4 t.n5.symm, ne4⟩, t.st.tick, by omega, g3 _ _ hl4 t.n1, g1, g3 _ _ hS4 (ne_of hS4 ha4 (by intro z; cases z)), t.n1, t.n2, t.n3, t.n4, t.n5⟩⟩
        · walk_at "rds"
          refine ⟨fun σ' H' => ∃ pr : Int, σ' = [some (.ref a), some (.int first), some (.ref me), some (.ref x), some (.ref l2), some (.ref a2), some (.int (z / 4)), some (.int (z % 4)), some (.int pr), x9, x10, x11] ∧ H' = H3, ?_, ?_⟩
          · walk_at "rds"
            refine iB (fun h => ?_) (fun h => ?_)
            · walk_at "rds"
              exact rfl
            · exact ⟨_, rfl, rfl⟩
          · rintro σ' H' ⟨pr, rfl, rfl⟩
            have hl3 := t.hl
            walk_at "rds"
            refine ⟨.inl ⟨lv, .inl hl3⟩, _, rfl, _, DGet.k (k := Sum.inl pr) hl3, ?_⟩
            obtain ⟨told, ht⟩ : ∃ u : Int, (valV lv (Sum.inl pr : Key)).getD (.int 1) = .int u := by
              rcases t.st.dl.val_or (Sum.inl pr) with ⟨e1, e2⟩ | ⟨e1, _⟩
              · rw [e1]; exact ⟨1, rfl⟩
              · rw [e1]; exact ⟨_, rfl⟩
            rw [ht]
            walk_at "rds"
            refine ⟨by show 4 ≤ sizeLine; omega, fun D nD => ?_⟩
            have sD := same_new nD (.lst [V.int 0, V.int 0, V.int 1, V.int (-1)])
            have eD : (upd H' D (.lst [V.int 0, V.int 0, V.int 1, V.int (-1)])) D = some (.lst [V.int 0, V.int 0, V.int 1, V.int (-1)]) := upd_same
            have t5 := t.same sD
            obtain ⟨u4, hu4⟩ := pick4 (r := z / 4 / 36 % 4) (by omega) (by omega)
            walk_at "rds"
            refine ⟨D, _, _, .int u4, rfl, rfl, SqL.of eD, hu4, ?_⟩
            walk_at "rds"
            generalize upd H' D (.lst [V.int 0, V.int 0, V.int 1, V.int (-1)]) = H5 at *
            refine ⟨fun σ' H' => ∃ lf : Int, σ' = [some (.ref a), some (.int first), some (.ref me), some (.ref x), some (.ref l2), some (.ref a2), some (.int (z / 4)), some (.int (z % 4)), some (.int pr), some (.int (z / 4 / 36)), some (.int lf), x11] ∧ H' = H5, ?_, ?_⟩
            · walk_at "rds"
              refine iB (fun h => ?_) (fun h => ?_)
              · walk_at "rds"
                exact rfl
              · exact ⟨_, rfl, rfl⟩
            · rintro σ' H' ⟨lf0, rfl, rfl⟩
              refine ⟨fun σ' H6 => ∃ lf : Int, σ' = [some (.ref a), some (.int first), some (.ref me), some (.ref x), some (.ref l2), some (.ref a2), some (.int (z / 4)), some (.int (z % 4)), some (.int pr), some (.int (z / 4 / 36)), some (.int lf), x11] ∧ H6 = H', ?_, ?_⟩
              · walk_at "rds"
                refine iB (fun h => ?_) (fun h => ?_)
                · walk_at "rds"
                  exact rfl
                · exact ⟨_, rfl, rfl⟩
              · rintro σ' H6 ⟨lf, rfl, rfl⟩
                obtain ⟨⟨dxw, hob⟩, hme, hdl, hda, _⟩ := id t5.w
                walk_at "rds"
                refine ⟨x, dxw, _, rfl, hob, rfl, ?_⟩
                walk_at "rds"
                refine ⟨by show 2 ≤ sizeLine; omega, fun u nu => ?_⟩
                have su := same_new nu (.tup [V.int pr, V.int lf])
                have t6 := t5.same su
                refine ⟨x, u, me, dl, da, _, _, pr, lf, lv, ag, rfl, t6.w, t6.st, upd_same, fun H7 W7 fr7 => ?_⟩
                have hm7 := W7.hm
                have hl7 := fr7 _ _ t6.hl t.n2 t.n3
                have ha7 := fr7 _ _ t6.ha t.n4 t.n5
                have hS7 := fr7 _ _ t6.hS (ne_of t6.hS t6.w.hl (by intro z; cases z)) (ne_of t6.hS t6.w.ha (by intro z; cases z))
                have st7 := t.st.hear (first % 12) pr lf (by omega)
                have le7 := hearL_le (m0 := first % 12) (i := pr) (l := lf) (lv := lv)
                walk_at "rds"
                refine iB (fun h => ?_) (fun h => ?_)
                · have e : ¬ pr = first % 12 := fun z => by
                    rw [z, decide_eq_true rfl] at h; cases h
                  walk_at "rds"
                  refine ⟨.inl ⟨lv, .inl hl7⟩, _, rfl, _, DGet.k (k := Sum.inl pr) hl7, ?_⟩
                  rw [t.st.dl.get0]
                  walk_at "rds"
                  refine iB (fun h2 => ?_) (fun h2 => ?_)
                  · have e2 : iv lv (Sum.inl pr) ≤ lf := of_decide_eq_true h2
                    have e3 : ¬ (pr = first % 12 ∨ lf < iv lv (Sum.inl pr)) := fun z => z.elim e (by omega)
                    have eL : hearL (first % 12) pr lf lv = putK lv (Sum.inl pr) (.int lf) := if_neg e3
                    have eA : hearA (first % 12) pr lf lv ag = putK ag (Sum.inl pr) (.int 0) := if_neg e3
                    obtain ⟨⟨dx7, o7⟩, m7, l7, d7, ne7⟩ := id W7
                    walk_at "rds"
                    refine ⟨l2, _, rfl, DPut.k (k := Sum.inl pr) hl7 (by omega), ?_⟩
                    have ha8 : (upd H7 l2 (.dK (putK lv (Sum.inl pr) (.int lf)))) a2 = some (.dK ag) := by rw [upd_ne t.n1.symm]; exact ha7
                    walk_at "rds"
                    refine ⟨a2, _, rfl, DPut.k (k := Sum.inl pr) ha8 (by have := t.st.le2; omega), ?_⟩
                    refine ⟨_, _, _, _, _, rfl, ⟨⟨⟨dx7, ?_⟩, ?_, ?_, ?_, ne7⟩, st7, by omega, ?_, ?_, ?_, t.n1, t.n2, t.n3, t.n4, t.n5⟩⟩
                    · rw [upd_ne (ne_of o7 ha7 (by intro z; cases z)), upd_ne (ne_of o7 hl7 (by intro z; cases z))]; exact o7
                    · rw [upd_ne (ne_of m7 ha7 (by intro z; cases z)), upd_ne (ne_of m7 hl7 (by intro z; cases z))]; exact m7
                    · rw [upd_ne t.n4.symm, upd_ne t.n2.symm]; exact l7
                    · rw [upd_ne t.n5.symm, upd_ne t.n3.symm]; exact d7
                    · rw [upd_ne t.n1, upd_same, eL]
                    · rw [upd_same, eA]
                    · rw [upd_ne (ne_of hS7 ha7 (by intro z; cases z)), upd_ne (ne_of hS7 hl7 (by intro z; cases z))]; exact hS7
                  · have e2 : ¬ iv lv (Sum.inl pr) ≤ lf := of_decide_eq_false h2
                    have eL : hearL (first % 12) pr lf lv = lv := if_pos (.inr (by omega))
                    have eA : hearA (first % 12) pr lf lv ag = ag := if_pos (.inr (by omega))
                    rw [eL, eA] at W7
                    exact ⟨_, _, _, lv, ag, rfl, ⟨W7, t.st, by omega, hl7, ha7, hS7, t.n1, t.n2, t.n3, t.n4, t.n5⟩⟩
                · have e : pr = first % 12 := by
                    cases hd : decide (V.int pr = V.int (first % 12)) with
                    | true => exact V.int.inj (of_decide_eq_true hd)
                    | false => rw [hd] at h; cases h
                  have eL : hearL (first % 12) pr lf lv = lv := if_pos (.inl e)
                  have eA : hearA (first % 12) pr lf lv ag = ag := if_pos (.inl e)
                  rw [eL, eA] at W7
                  walk_at "rds"
                  exact ⟨_, _, _, lv, ag, rfl, ⟨W7, t.st, by omega, hl7, ha7, hS7, t.n1, t.n2, t.n3, t.n4, t.n5⟩⟩
      · rintro σ' H4 ⟨x8, x9, x10, lv', ag', rfl, t4⟩
        obtain ⟨⟨dxw, hob⟩, hme, hdl, hda, _⟩ := id t4.w
        walk_at "rds"
        refine ⟨x, dxw, _, rfl, hob, rfl, ?_⟩
        refine ⟨x, me, dl, da, _, _, lv', ag', rfl, t4.w, t4.st, fun a5 H5 us5 zs5 s5 h5 p5 o5 m5 l5 => ?_⟩
        walk_at "rds"
        refine ⟨_, _, _, _, true, rfl, .ty _, .base (.tup h5), kit_ty (by decide +kernel), ?_⟩
        walk_at "rds"
        have t5 := t4.same s5
        refine ⟨me, l2, a2, _, _, lv', ag', rfl, t5.w.hm, t5.hl, t5.ha, t4.n1, t4.st, fun a6 H6 us6 zs6 s6 h6 p6 o6 m6 l6 => ?_⟩
        have ez := sorted_eq o5 o6 m5 m6
        subst ez
        refine ⟨_, _, .tup (SqT.of (s6 _ _ h5)) (p5.same s6).dp, .tup (SqT.of h6) p6.dp, shaped_pairs _, shaped_pairs _, ?_⟩
        rw [eqv_pairs]
        have t6 := t5.same s6
        walk_at "rds"
        refine ⟨x, me, dl, da, l2, _, _, lv', ag', rfl, t6.w, t4.st.dl, t6.hl, fun H7 s7 => ?_⟩
        walk_at "rds"
        exact ⟨_, _, _, _, _, _, _, _, rfl, t6.same s7⟩
    · rintro σ H' ⟨x6, x7, x8, x9, x10, x11, lv, ag, rfl, t⟩
      have hm := t.w.hm
      walk_at "rds"
      intro y dy ny ndy ney
      have my : me ≠ y := ne_of_none hm ny
      have mdy : me ≠ dy := ne_of_none hm ndy
      refine ⟨y, dy, me, _, _, rfl, upd_same, by rw [upd_ne my, upd_ne mdy]; exact hm, fun dl' da' H5 _ _ W5 _ => ⟨rfl, ?_⟩⟩
      obtain ⟨⟨dxw, hob⟩, hme, _⟩ := id W5
      walk_at "rds"
      refine ⟨y, dxw, _, rfl, hob, rfl, ?_⟩
      refine ⟨y, me, dl', da', _, _, [], [], rfl, W5, ⟨.nil, .nil, rfl, Nat.zero_le _⟩, fun a5 H6 us zs s6 h6 p6 o6 m6 l6 => ?_⟩
      have ez : zs = [(first % 12, 1 + first / 12 % 9)] := List.perm_singleton.mp m6
      subst ez
      walk_at "rds"
      refine ⟨by show 1 ≤ sizeLine; omega, fun u nu => ?_⟩
      have su := same_new nu (.tup [V.ref me])
      have pm : PairsAt (upd H6 u (.tup [V.ref me])) [V.ref me] [(first % 12, 1 + first / 12 % 9)] := ⟨⟨me, rfl, su _ _ (s6 _ _ hme)⟩, trivial⟩
      refine ⟨_, _, .tup (SqT.of (su _ _ h6)) (p6.same su).dp, .tup (SqT.of upd_same) pm.dp, shaped_pairs _, shaped_pairs _, ?_⟩
      rw [eqv_pairs]
      exact q _
end
end Mus

set_option maxRecDepth 100000
set_option maxHeartbeats 4000000
namespace Mus
open PySem L2
def at_mk {K : PySem.W.Frag} {h : Heap} {mg : Str → Option Value} {x : Str} {ps : List Str} {st : Stmt} {f : Addr} {oc : Value} {od an : Option Addr} {osl : Array (Option Value)} {kV dc pm cd ct : Value} (X : K.In h) (G : h.Ns mainGlobals mg) (a : PySem.W.nsIn K mainGlobals x = some (some (.ref f)))
    (l : K.lookup f = some ⟨oc, od, .func (PySem.W.fnOf x x (defArgs st) (defBody st) (defScope st) .none kV dc pm an cd ct), osl⟩) (c : PySem.W.codeIn K cd x = true) (k : PySem.W.keepIn K (.ref f) = true)
    (hb : ∀ (kV doc pm : Value) (an : Option Addr) (cdv ct : Value) (us : List Value), us.length = ps.length → bindArgs (PySem.W.fnOf x x (defArgs st) (defBody st) (defScope st) .none kV doc pm an cdv ct) ⟨us, []⟩ = pure (ps.zip us)) : DefAt K mg x ps st :=
  ⟨f, _, fun_mk (st := st) l c k, PySem.W.mg_of X G a, (fun_mk (st := st) l c k).binds hb⟩
def meth_mk {K : PySem.W.Frag} {C : Addr} {x qual : Str} {ps : List Str} {st : Stmt} {f : Addr} {oc : Value} {od an : Option Addr} {osl : Array (Option Value)} {kV dc pm cd ct : Value} (a : PySem.W.findIn K (.ref C) x = some (some (.ref f))) (i : PySem.W.isFn K (.ref f) = true)
    (l : K.lookup f = some ⟨oc, od, .func (PySem.W.fnOf x qual (defArgs st) (defBody st) (defScope st) .none kV dc pm an cd ct), osl⟩) (c : PySem.W.codeIn K cd qual = true) (k : PySem.W.keepIn K (.ref f) = true)
    (hb : ∀ (kV doc pm : Value) (an : Option Addr) (cdv ct : Value) (us : List Value), us.length = ps.length → bindArgs (PySem.W.fnOf x qual (defArgs st) (defBody st) (defScope st) .none kV doc pm an cdv ct) ⟨us, []⟩ = pure (ps.zip us)) : MethAt K C x qual ps st :=
  ⟨f, _, fun_mk (st := st) l c k, ⟨a, i, k⟩, (fun_mk (st := st) l c k).binds hb⟩
theorem walk_ofX {l : PySem.W.OpenLaw} {n k : Nat} {q : Program} {loose : List Str} {XP : (Str → Option Value) → Heap → Prop} {YP : World → Heap → Prop} {d : DefRec} {K : Params → PySem.W.Frag} {sp : World → Sp} {x : Str}
    (most : l.most = some n) (few : n ≤ sizeLine) (nod : d.params.defaults = []) (room : Room k callerA) (kin : ∀ (w : World) (h : Heap), YP w h → (K w.params).In h)
    (F : ∀ (w : World) (mg : Str → Option Value) (at1 : Addr) (h : Heap), (K w.params).In h → h.Ns mainGlobals mg → XP mg h → mg d.name = some (.ref at1) →
      ∃ fd : FuncData, (∀ (s : Shared) (u : Value), BindsTo s fd ⟨[u], []⟩ [(x, u)]) ∧ ∀ base : Heap, (K w.params).In base → base.Ns mainGlobals mg → FnOk l.prog w (K w.params) mg base CX0 k at1 fd [x] (sp w))
    (hsp : ∀ (w : World) (H : Hp) (a : Addr) (ns : List Int), ns.length ≤ n → Only H → SqL (K w.params) H a (ns.map V.int) → sp w [.ref a] H (fun v _ => v = .bl true) fun _ _ _ => False) :
    PySem.W.WalkO q loose XP YP l.row.toRowW d [] (fun f vs => PySem.call f vs) := by
  refine Att.attach_call most nod fun w sb sc mg mB at1 o pm1 cd1 doc1 a vs ns G Y ho1 hd1 hc1 hm1 ob1 in1 ln1 hg1 => ?_
  have inK := kin w _ Y
  obtain ⟨fd, bnd, pr⟩ := F w mg at1 _ inK G.T.g G.X hm1
  exact law_call inK G.T.g G.T.b G.T.builtins G.T.nolimit hg1 ob1 in1 (Nat.le_trans ln1 few) room pr bnd (fun H hO hS => hsp w H a ns ln1 hO hS) fun H e s' z => z
theorem loose_int {n : Str} {i : Int} {mg : Str → Option Value} {h : Heap} (x : PySem.W.LooseAre [(n, PySem.W.WData.int i)] mg h) : ∃ t, mg n = some (.int i t) := by
  obtain ⟨v, h1, h2⟩ := x.val _ (List.mem_singleton.mpr rfl)
  cases h2
  exact ⟨_, h1⟩
theorem all_mk {l : PySem.W.OpenLaw} {w : World} {K : PySem.W.Frag} {h : Heap} {mg : Str → Option Value} {fa : Addr} (X : K.In h) (G : h.Ns mainGlobals mg) (hfa : mg "law" = some (.ref fa))
    {C_Watch : Addr}
    {odx_Watch___init__ anx_Watch___init__ : Option Addr} {slx_Watch___init__ : Array (Option Value)} {ocx_Watch___init__ kVx_Watch___init__ dcx_Watch___init__ pmx_Watch___init__ cdx_Watch___init__ ctx_Watch___init__ : Value} {fx_Watch___init__ : Addr}
    {odx_Watch_heard anx_Watch_heard : Option Addr} {slx_Watch_heard : Array (Option Value)} {ocx_Watch_heard kVx_Watch_heard dcx_Watch_heard pmx_Watch_heard cdx_Watch_heard ctx_Watch_heard : Value} {fx_Watch_heard : Addr}
    {odx_Watch_knows anx_Watch_knows : Option Addr} {slx_Watch_knows : Array (Option Value)} {ocx_Watch_knows kVx_Watch_knows dcx_Watch_knows pmx_Watch_knows cdx_Watch_knows ctx_Watch_knows : Value} {fx_Watch_knows : Addr}
    {odx_Watch_tick anx_Watch_tick : Option Addr} {slx_Watch_tick : Array (Option Value)} {ocx_Watch_tick kVx_Watch_tick dcx_Watch_tick pmx_Watch_tick cdx_Watch_tick ctx_Watch_tick : Value} {fx_Watch_tick : Addr}
    {odx_Watch_reach anx_Watch_reach : Option Addr} {slx_Watch_reach : Array (Option Value)} {ocx_Watch_reach kVx_Watch_reach dcx_Watch_reach pmx_Watch_reach cdx_Watch_reach ctx_Watch_reach : Value} {fx_Watch_reach : Addr}
    {odx__law_cell anx__law_cell : Option Addr} {slx__law_cell : Array (Option Value)} {ocx__law_cell kVx__law_cell dcx__law_cell pmx__law_cell cdx__law_cell ctx__law_cell : Value} {fx__law_cell : Addr}
    {odx__law_reach anx__law_reach : Option Addr} {slx__law_reach : Array (Option Value)} {ocx__law_reach kVx__law_reach dcx__law_reach pmx__law_reach cdx__law_reach ctx__law_reach : Value} {fx__law_reach : Addr}
    {odx__law_knows anx__law_knows : Option Addr} {slx__law_knows : Array (Option Value)} {ocx__law_knows kVx__law_knows dcx__law_knows pmx__law_knows cdx__law_knows ctx__law_knows : Value} {fx__law_knows : Addr}
    {odx_law anx_law : Option Addr} {slx_law : Array (Option Value)} {ocx_law kVx_law dcx_law pmx_law cdx_law ctx_law : Value} {fx_law : Addr}
    {tSILENCE : Tok}
    (aC_Watch : PySem.W.nsIn K mainGlobals "Watch" = some (some (.ref C_Watch)))
    (pg_Watch : PySem.W.plainGet K C_Watch Str.empty = true)
    (hd_Watch : PySem.W.hasDictIn K C_Watch = true)
    (po_Watch : PySem.W.plainOver K C_Watch = true)
    (sa_Watch : PySem.W.findIn K (.ref C_Watch) "__setattr__" = some (some (.builtin "object.__setattr__")))
    (mk_Watch : PySem.W.makesIn K C_Watch = true)
    (kc_Watch : PySem.W.keepIn K (.ref C_Watch) = true)
    (n_Watch__me : PySem.W.findIn K (.ref C_Watch) "_me" = some none)
    (n_Watch__lives : PySem.W.findIn K (.ref C_Watch) "_lives" = some none)
    (n_Watch__ages : PySem.W.findIn K (.ref C_Watch) "_ages" = some none)
    (ax_Watch___init__ : PySem.W.findIn K (.ref C_Watch) "__init__" = some (some (.ref fx_Watch___init__)))
    (ix_Watch___init__ : PySem.W.isFn K (.ref fx_Watch___init__) = true)
    (lx_Watch___init__ : K.lookup fx_Watch___init__ = some ⟨ocx_Watch___init__, odx_Watch___init__, .func (PySem.W.fnOf "__init__" "Watch.__init__" (defArgs s_Watch___init__) (defBody s_Watch___init__) (defScope s_Watch___init__) .none kVx_Watch___init__ dcx_Watch___init__ pmx_Watch___init__ anx_Watch___init__ cdx_Watch___init__ ctx_Watch___init__), slx_Watch___init__⟩)
    (cx_Watch___init__ : PySem.W.codeIn K cdx_Watch___init__ "Watch.__init__" = true)
    (kx_Watch___init__ : PySem.W.keepIn K (.ref fx_Watch___init__) = true)
    (ax_Watch_heard : PySem.W.findIn K (.ref C_Watch) "heard" = some (some (.ref fx_Watch_heard)))
    (ix_Watch_heard : PySem.W.isFn K (.ref fx_Watch_heard) = true)
    (lx_Watch_heard : K.lookup fx_Watch_heard = some ⟨ocx_Watch_heard, odx_Watch_heard, .func (PySem.W.fnOf "heard" "Watch.heard" (defArgs s_Watch_heard) (defBody s_Watch_heard) (defScope s_Watch_heard) .none kVx_Watch_heard dcx_Watch_heard pmx_Watch_heard anx_Watch_heard cdx_Watch_heard ctx_Watch_heard), slx_Watch_heard⟩)
    (cx_Watch_heard : PySem.W.codeIn K cdx_Watch_heard "Watch.heard" = true)
    (kx_Watch_heard : PySem.W.keepIn K (.ref fx_Watch_heard) = true)
    (ax_Watch_knows : PySem.W.findIn K (.ref C_Watch) "knows" = some (some (.ref fx_Watch_knows)))
    (ix_Watch_knows : PySem.W.isFn K (.ref fx_Watch_knows) = true)
    (lx_Watch_knows : K.lookup fx_Watch_knows = some ⟨ocx_Watch_knows, odx_Watch_knows, .func (PySem.W.fnOf "knows" "Watch.knows" (defArgs s_Watch_knows) (defBody s_Watch_knows) (defScope s_Watch_knows) .none kVx_Watch_knows dcx_Watch_knows pmx_Watch_knows anx_Watch_knows cdx_Watch_knows ctx_Watch_knows), slx_Watch_knows⟩)
    (cx_Watch_knows : PySem.W.codeIn K cdx_Watch_knows "Watch.knows" = true)
    (kx_Watch_knows : PySem.W.keepIn K (.ref fx_Watch_knows) = true)
    (ax_Watch_tick : PySem.W.findIn K (.ref C_Watch) "tick" = some (some (.ref fx_Watch_tick)))
    (ix_Watch_tick : PySem.W.isFn K (.ref fx_Watch_tick) = true)
    (lx_Watch_tick : K.lookup fx_Watch_tick = some ⟨ocx_Watch_tick, odx_Watch_tick, .func (PySem.W.fnOf "tick" "Watch.tick" (defArgs s_Watch_tick) (defBody s_Watch_tick) (defScope s_Watch_tick) .none kVx_Watch_tick dcx_Watch_tick pmx_Watch_tick anx_Watch_tick cdx_Watch_tick ctx_Watch_tick), slx_Watch_tick⟩)
    (cx_Watch_tick : PySem.W.codeIn K cdx_Watch_tick "Watch.tick" = true)
    (kx_Watch_tick : PySem.W.keepIn K (.ref fx_Watch_tick) = true)
    (ax_Watch_reach : PySem.W.findIn K (.ref C_Watch) "reach" = some (some (.ref fx_Watch_reach)))
    (ix_Watch_reach : PySem.W.isFn K (.ref fx_Watch_reach) = true)
    (lx_Watch_reach : K.lookup fx_Watch_reach = some ⟨ocx_Watch_reach, odx_Watch_reach, .func (PySem.W.fnOf "reach" "Watch.reach" (defArgs s_Watch_reach) (defBody s_Watch_reach) (defScope s_Watch_reach) .none kVx_Watch_reach dcx_Watch_reach pmx_Watch_reach anx_Watch_reach cdx_Watch_reach ctx_Watch_reach), slx_Watch_reach⟩)
    (cx_Watch_reach : PySem.W.codeIn K cdx_Watch_reach "Watch.reach" = true)
    (kx_Watch_reach : PySem.W.keepIn K (.ref fx_Watch_reach) = true)
    (ax__law_cell : PySem.W.nsIn K mainGlobals "_law_cell" = some (some (.ref fx__law_cell)))
    (lx__law_cell : K.lookup fx__law_cell = some ⟨ocx__law_cell, odx__law_cell, .func (PySem.W.fnOf "_law_cell" "_law_cell" (defArgs s__law_cell) (defBody s__law_cell) (defScope s__law_cell) .none kVx__law_cell dcx__law_cell pmx__law_cell anx__law_cell cdx__law_cell ctx__law_cell), slx__law_cell⟩)
    (cx__law_cell : PySem.W.codeIn K cdx__law_cell "_law_cell" = true)
    (kx__law_cell : PySem.W.keepIn K (.ref fx__law_cell) = true)
    (ax__law_reach : PySem.W.nsIn K mainGlobals "_law_reach" = some (some (.ref fx__law_reach)))
    (lx__law_reach : K.lookup fx__law_reach = some ⟨ocx__law_reach, odx__law_reach, .func (PySem.W.fnOf "_law_reach" "_law_reach" (defArgs s__law_reach) (defBody s__law_reach) (defScope s__law_reach) .none kVx__law_reach dcx__law_reach pmx__law_reach anx__law_reach cdx__law_reach ctx__law_reach), slx__law_reach⟩)
    (cx__law_reach : PySem.W.codeIn K cdx__law_reach "_law_reach" = true)
    (kx__law_reach : PySem.W.keepIn K (.ref fx__law_reach) = true)
    (ax__law_knows : PySem.W.nsIn K mainGlobals "_law_knows" = some (some (.ref fx__law_knows)))
    (lx__law_knows : K.lookup fx__law_knows = some ⟨ocx__law_knows, odx__law_knows, .func (PySem.W.fnOf "_law_knows" "_law_knows" (defArgs s__law_knows) (defBody s__law_knows) (defScope s__law_knows) .none kVx__law_knows dcx__law_knows pmx__law_knows anx__law_knows cdx__law_knows ctx__law_knows), slx__law_knows⟩)
    (cx__law_knows : PySem.W.codeIn K cdx__law_knows "_law_knows" = true)
    (kx__law_knows : PySem.W.keepIn K (.ref fx__law_knows) = true)
    (ax_law : PySem.W.nsIn K mainGlobals "law" = some (some (.ref fx_law)))
    (lx_law : K.lookup fx_law = some ⟨ocx_law, odx_law, .func (PySem.W.fnOf "law" "law" (defArgs s_law) (defBody s_law) (defScope s_law) .none kVx_law dcx_law pmx_law anx_law cdx_law ctx_law), slx_law⟩)
    (cx_law : PySem.W.codeIn K cdx_law "law" = true)
    (kx_law : PySem.W.keepIn K (.ref fx_law) = true)
    (vSILENCE : PySem.W.nsIn K mainGlobals "SILENCE" = some (some (.int 4 tSILENCE)))
    (zlen : PySem.W.nsIn K mainGlobals "len" = some none)
    (zisinstance : PySem.W.nsIn K mainGlobals "isinstance" = some none)
    (zint : PySem.W.nsIn K mainGlobals "int" = some none)
    (zbool : PySem.W.nsIn K mainGlobals "bool" = some none)
    (ztuple : PySem.W.nsIn K mainGlobals "tuple" = some none)
    (zlist : PySem.W.nsIn K mainGlobals "list" = some none)
    (zrange : PySem.W.nsIn K mainGlobals "range" = some none)
    (zmin : PySem.W.nsIn K mainGlobals "min" = some none)
    (zmax : PySem.W.nsIn K mainGlobals "max" = some none)
    (zsorted : PySem.W.nsIn K mainGlobals "sorted" = some none) :
    ∃ fd : FuncData, (∀ (s : Shared) (v : Value), BindsTo s fd ⟨[v], []⟩ [("script", v)]) ∧ ∀ base : Heap, K.In base → base.Ns mainGlobals mg → FnOk l.prog w K mg base CX0 10 fa fd ["script"] (sp_law K) := by
  have e := hfa.symm.trans (PySem.W.mg_of X G ax_law)
  cases e
  have T : Tx K mg C_Watch := {
    b_len := PySem.W.mg_none_of X G zlen
    b_isinstance := PySem.W.mg_none_of X G zisinstance
    b_int := PySem.W.mg_none_of X G zint
    b_bool := PySem.W.mg_none_of X G zbool
    b_tuple := PySem.W.mg_none_of X G ztuple
    b_list := PySem.W.mg_none_of X G zlist
    b_range := PySem.W.mg_none_of X G zrange
    b_min := PySem.W.mg_none_of X G zmin
    b_max := PySem.W.mg_none_of X G zmax
    b_sorted := PySem.W.mg_none_of X G zsorted
    c_SILENCE := ⟨_, PySem.W.mg_of X G vSILENCE⟩
    g_Watch := PySem.W.mg_of X G aC_Watch
    cl_Watch := ⟨pg_Watch, hd_Watch, po_Watch, sa_Watch⟩
    n_Watch__me := n_Watch__me
    n_Watch__lives := n_Watch__lives
    n_Watch__ages := n_Watch__ages }
  let a_Watch___init__ : MethAt K C_Watch "__init__" "Watch.__init__" P_Watch___init__ s_Watch___init__ := meth_mk ax_Watch___init__ ix_Watch___init__ lx_Watch___init__ cx_Watch___init__ kx_Watch___init__ fun _ _ _ _ _ _ us hl => match us, hl with | [_, _], _ => rfl
  let a_Watch_heard : MethAt K C_Watch "heard" "Watch.heard" P_Watch_heard s_Watch_heard := meth_mk ax_Watch_heard ix_Watch_heard lx_Watch_heard cx_Watch_heard kx_Watch_heard fun _ _ _ _ _ _ us hl => match us, hl with | [_, _], _ => rfl
  let a_Watch_knows : MethAt K C_Watch "knows" "Watch.knows" P_Watch_knows s_Watch_knows := meth_mk ax_Watch_knows ix_Watch_knows lx_Watch_knows cx_Watch_knows kx_Watch_knows fun _ _ _ _ _ _ us hl => match us, hl with | [_, _], _ => rfl
  let a_Watch_tick : MethAt K C_Watch "tick" "Watch.tick" P_Watch_tick s_Watch_tick := meth_mk ax_Watch_tick ix_Watch_tick lx_Watch_tick cx_Watch_tick kx_Watch_tick fun _ _ _ _ _ _ us hl => match us, hl with | [_], _ => rfl
  let a_Watch_reach : MethAt K C_Watch "reach" "Watch.reach" P_Watch_reach s_Watch_reach := meth_mk ax_Watch_reach ix_Watch_reach lx_Watch_reach cx_Watch_reach kx_Watch_reach fun _ _ _ _ _ _ us hl => match us, hl with | [_], _ => rfl
  let a__law_cell : DefAt K mg "_law_cell" P__law_cell s__law_cell := at_mk X G ax__law_cell lx__law_cell cx__law_cell kx__law_cell fun _ _ _ _ _ _ us hl => match us, hl with | [_, _], _ => rfl
  let a__law_reach : DefAt K mg "_law_reach" P__law_reach s__law_reach := at_mk X G ax__law_reach lx__law_reach cx__law_reach kx__law_reach fun _ _ _ _ _ _ us hl => match us, hl with | [_, _, _], _ => rfl
  let a__law_knows : DefAt K mg "_law_knows" P__law_knows s__law_knows := at_mk X G ax__law_knows lx__law_knows cx__law_knows kx__law_knows fun _ _ _ _ _ _ us hl => match us, hl with | [_, _], _ => rfl
  have F_law := fun_mk (st := s_law) lx_law cx_law kx_law
  refine ⟨PySem.W.fnOf "law" "law" (defArgs s_law) (defBody s_law) (defScope s_law) .none kVx_law dcx_law pmx_law anx_law cdx_law ctx_law, fun s v => .of_eq rfl, fun base _ _ => ?_⟩
  let k_Watch : MkOk l.prog w K mg base C_Watch "Watch" P_Watch___init__ 1 (sp_init C_Watch) := a_Watch___init__.mk' mk_Watch kc_Watch T.g_Watch fun F => ok_init T F
  let m_Watch_knows : MethOk l.prog w K mg base CX0 C_Watch "knows" P_Watch_knows 1 (sp_knows C_Watch) := a_Watch_knows.ok fun F => ok_knows T  F
  let m_Watch_heard : MethOk l.prog w K mg base CX0 C_Watch "heard" P_Watch_heard 2 (sp_heard C_Watch) := a_Watch_heard.ok fun F => ok_heard T m_Watch_knows F
  let m_Watch_tick : MethOk l.prog w K mg base CX0 C_Watch "tick" P_Watch_tick 1 (sp_tick C_Watch) := a_Watch_tick.ok fun F => ok_tick T  F
  let m_Watch_reach : MethOk l.prog w K mg base CX0 C_Watch "reach" P_Watch_reach 1 (sp_reach C_Watch) := a_Watch_reach.ok fun F => ok_reach T  F
  let c__law_cell : DefOk l.prog w K mg base CX0 "_law_cell" P__law_cell 1 (sp_cell K) := a__law_cell.ok fun F => ok__law_cell T  F
  let c__law_reach : DefOk l.prog w K mg base CX0 "_law_reach" P__law_reach 1 (sp_lreach) := a__law_reach.ok fun F => ok__law_reach T  F
  let c__law_knows : DefOk l.prog w K mg base CX0 "_law_knows" P__law_knows 2 (sp_lknows C_Watch) := a__law_knows.ok fun F => ok__law_knows T m_Watch_knows F
  exact ok_law T k_Watch m_Watch_heard m_Watch_tick m_Watch_reach c__law_cell c__law_reach c__law_knows F_law
end Mus
open PySem PySem.W PyProof.Rows
set_option maxRecDepth 100000 in
set_option maxHeartbeats 0 in
theorem PySem.Challenge.cw_mustercall_k16_watch_holds : PySem.Challenge.rw_mustercall_k16_watch.Holds := by
  w_on; o_law; k_head; (case hw => w_witness2)
  k_fill
  refine Mus.walk_ofX (l := PySem.Challenge.rw_mustercall_k16_watch) (n := 63) (k := 10) (x := "script") (sp := fun w => Mus.sp_law (_ : PySem.W.Frag)) rfl (by decide) rfl ⟨rfl, by decide, by decide⟩ (fun w h Y => PySem.W.kIn_of Y) ?F (fun _ _ a ns hl _ hS => ⟨a, ns, rfl, hS, hl, fun _ => rfl⟩)
  case F =>
    intro w mg fa h KX G XX hmg
    refine' Mus.all_mk KX G hmg ?aC_Watch ?pg_Watch ?hd_Watch ?po_Watch ?sa_Watch ?mk_Watch ?kc_Watch ?n_Watch__me ?n_Watch__lives ?n_Watch__ages ?ax_Watch___init__ ?ix_Watch___init__ ?lx_Watch___init__ ?cx_Watch___init__ ?kx_Watch___init__ ?ax_Watch_heard ?ix_Watch_heard ?lx_Watch_heard ?cx_Watch_heard ?kx_Watch_heard ?ax_Watch_knows ?ix_Watch_knows ?lx_Watch_knows ?cx_Watch_knows ?kx_Watch_knows ?ax_Watch_tick ?ix_Watch_tick ?lx_Watch_tick ?cx_Watch_tick ?kx_Watch_tick ?ax_Watch_reach ?ix_Watch_reach ?lx_Watch_reach ?cx_Watch_reach ?kx_Watch_reach ?ax__law_cell ?lx__law_cell ?cx__law_cell ?kx__law_cell ?ax__law_reach ?lx__law_reach ?cx__law_reach ?kx__law_reach ?ax__law_knows ?lx__law_knows ?cx__law_knows ?kx__law_knows ?ax_law ?lx_law ?cx_law ?kx_law ?vSILENCE ?zlen ?zisinstance ?zint ?zbool ?ztuple ?zlist ?zrange ?zmin ?zmax ?zsorted
    (case aC_Watch => first | k_is | rfl)
    (case pg_Watch => first | k_is | rfl)
    (case hd_Watch => first | k_is | rfl)
    (case po_Watch => first | k_is | rfl)
    (case sa_Watch => first | k_is | rfl)
    (case mk_Watch => first | k_is | rfl)
    (case kc_Watch => first | k_is | rfl)
    (case n_Watch__me => first | k_is | rfl)
    (case n_Watch__lives => first | k_is | rfl)
    (case n_Watch__ages => first | k_is | rfl)
    (case ax_Watch___init__ => first | k_is | rfl)
    (case ix_Watch___init__ => first | k_is | rfl)
    (case lx_Watch___init__ => first | k_is | rfl)
    (case cx_Watch___init__ => first | k_is | rfl)
    (case kx_Watch___init__ => first | k_is | rfl)
    (case ax_Watch_heard => first | k_is | rfl)
    (case ix_Watch_heard => first | k_is | rfl)
    (case lx_Watch_heard => first | k_is | rfl)
    (case cx_Watch_heard => first | k_is | rfl)
    (case kx_Watch_heard => first | k_is | rfl)
    (case ax_Watch_knows => first | k_is | rfl)
    (case ix_Watch_knows => first | k_is | rfl)
    (case lx_Watch_knows => first | k_is | rfl)
    (case cx_Watch_knows => first | k_is | rfl)
    (case kx_Watch_knows => first | k_is | rfl)
    (case ax_Watch_tick => first | k_is | rfl)
    (case ix_Watch_tick => first | k_is | rfl)
    (case lx_Watch_tick => first | k_is | rfl)
    (case cx_Watch_tick => first | k_is | rfl)
    (case kx_Watch_tick => first | k_is | rfl)
    (case ax_Watch_reach => first | k_is | rfl)
    (case ix_Watch_reach => first | k_is | rfl)
    (case lx_Watch_reach => first | k_is | rfl)
    (case cx_Watch_reach => first | k_is | rfl)
    (case kx_Watch_reach => first | k_is | rfl)
    (case ax__law_cell => first | k_is | rfl)
    (case lx__law_cell => first | k_is | rfl)
    (case cx__law_cell => first | k_is | rfl)
    (case kx__law_cell => first | k_is | rfl)
    (case ax__law_reach => first | k_is | rfl)
    (case lx__law_reach => first | k_is | rfl)
    (case cx__law_reach => first | k_is | rfl)
    (case kx__law_reach => first | k_is | rfl)
    (case ax__law_knows => first | k_is | rfl)
    (case lx__law_knows => first | k_is | rfl)
    (case cx__law_knows => first | k_is | rfl)
    (case kx__law_knows => first | k_is | rfl)
    (case ax_law => first | k_is | rfl)
    (case lx_law => first | k_is | rfl)
    (case cx_law => first | k_is | rfl)
    (case kx_law => first | k_is | rfl)
    (case vSILENCE => first | k_is | rfl)
    (case zlen => first | k_is | rfl)
    (case zisinstance => first | k_is | rfl)
    (case zint => first | k_is | rfl)
    (case zbool => first | k_is | rfl)
    (case ztuple => first | k_is | rfl)
    (case zlist => first | k_is | rfl)
    (case zrange => first | k_is | rfl)
    (case zmin => first | k_is | rfl)
    (case zmax => first | k_is | rfl)
    (case zsorted => first | k_is | rfl)

