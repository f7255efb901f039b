import PyProof.Rows.All
import Wide.All
import OpenK.AllK
import Wide.FinOn
import HandS.Base
import HandS.Call
import HandS.List
import HandS.Comp
import HandS.Ends
import HandS.Iter
import HandS.Text
import HandS.Words
import HandS.WordsList
import HandS.Wide
import HandS.IsInst
import HandS.TupAny
import HandS.Dict
import HandS.WordsDict
import HandS.Conv
import HandS.More
import HandS.Codes
import PySem.Challenge.RW_mustercall_k01_members_and_view_ids
set_option Elab.async false
set_option linter.all false
set_option maxRecDepth 100000
set_option maxHeartbeats 4000000
/-! What my proofs share: a def with its promise as one thing, small rules, heaps. -/
namespace Mus
open PySem L2
/-- a def of the text that keeps a promise, and all that a call of it asks -/
structure DefOk (P : Program) (w : World) (K : PySem.W.Frag) (mg : Str → Option Value) (base : Heap) (CX : CXT) (x : Str) (ps : List Str) (k : Nat) (sp : Sp) where
  f : Addr
  fd : FuncData
  G : FnOk P w K mg base CX k f fd ps sp
  m : mg x = some (.ref f)
  kp : PySem.W.keepIn K (.ref f) = true
  b : Binds K fd ps []
def DefOk.mono {P : Program} {w : World} {K : PySem.W.Frag} {mg : Str → Option Value} {base : Heap} {CX : CXT} {x : Str} {ps : List Str} {j k : Nat} {sp : Sp} (c : DefOk P w K mg base CX x ps j sp) (h : j ≤ k) : DefOk P w K mg base CX x ps k sp :=
  ⟨c.f, c.fd, c.G.mono h, c.m, c.kp, c.b⟩
/-- a def of the text as the top left it: no promise yet -/
structure DefAt (K : PySem.W.Frag) (mg : Str → Option Value) (x : Str) (ps : List Str) (st : Stmt) where
  f : Addr
  fd : FuncData
  F : Fun K x x st f fd
  m : mg x = some (.ref f)
  b : Binds K fd ps []
def DefAt.ok {P : Program} {w : World} {K : PySem.W.Frag} {mg : Str → Option Value} {base : Heap} {CX : CXT} {x : Str} {ps : List Str} {st : Stmt} {k : Nat} {sp : Sp} (d : DefAt K mg x ps st) (h : ∀ {f : Addr} {fd : FuncData}, Fun K x x st f fd → FnOk P w K mg base CX k f fd ps sp) : DefOk P w K mg base CX x ps k sp :=
  ⟨d.f, d.fd, h d.F, d.m, d.F.kp, d.b⟩
section
variable {X : Cx}
theorem pcall {x : Str} {ps : List Str} {j k : Nat} {sp : Sp} {e : Expr} {es : List Expr} {t : TA} {p pos : Pos} (c : DefOk X.prog X.w X.K X.mg X.base CX0 x ps j sp) (hr : Room k X.A) (ha : PA X (e :: es) t) (hj : j ≤ k := by first | decide | omega) (hg : Gl X x := by rfl)
    (db0 : (x == ("__debug__" : Str)) = false := by decide) (st0 : starEach (e :: es) X.env = (false, eval e X.env) :: starEach es X.env := by rfl) (pl0 : (backTo pos (starEach es X.env)).any (·.1) = false := by rfl) :
    PE X (.Call (.Name x p) (e :: es) [] pos) (tCall sp [] E0 t) := pe_call c.G (hr.mono hj) hg c.m c.kp c.b .nil pass0 ha db0 st0 pl0
/-- a text n times -/
theorem op_mul_str : OpR X (binaryOp .Mult) (fun x y H Q => ∃ (z : Str) (n : Int), x = .str z ∧ y = .int n ∧ 2 ≤ n ∧ n ≤ 1000 ∧ 1 ≤ z.length ∧ z.length ≤ 1000 ∧ ∀ r : Str, TL.tl r = (List.replicate n.toNat (TL.tl z)).flatten → Q (.str r) H) := by
  intro pins s σ H x y v u Q I rx ry h
  obtain ⟨z, n, rfl, rfl, h2, h3, h4, h5, q⟩ := h
  obtain ⟨t, rfl⟩ := rx
  obtain ⟨t', rfl⟩ := ry
  have n1 : ¬ n < 1 := by omega
  have n2 : ¬ (n == 1 || z.length == 0) = true := by
    rw [Bool.or_eq_true, beq_iff_eq, beq_iff_eq]; omega
  have hr : (decide (n < -(2 ^ 63 : Int)) || decide (n ≥ 2 ^ 63)) = false := by
    rw [decide_eq_false (by omega), decide_eq_false (by omega)]; rfl
  have hm : z.length * n.toNat ≤ 1000 * 1000 := Nat.mul_le_mul h5 (by omega)
  have hl : Builtin.Str.tooLong (z.length * n.toNat) = false := by
    unfold Builtin.Str.tooLong
    have e : sizeLine = 16777216 := sizeLine_eq
    rw [decide_eq_false (by omega)]
  have hb : ¬ ((z.length : Int) > (2 ^ 63 - 1) / n) := by
    have : (1000 : Int) ≤ (2 ^ 63 - 1) / n := by
      rw [Int.le_ediv_iff_mul_le (by omega)]
      omega
    omega
  refine PySem.P.mul_str hr (fun _ _ => hb) (fun _ _ => hl) ?_
  rw [if_neg n1, if_neg n2]
  have hf : ∀ (k : Nat) (acc : Array Nat), ((List.replicate k z.cps).foldl (· ++ ·) acc).toList = acc.toList ++ (List.replicate k z.cps.toList).flatten := by
    intro k
    induction k with
    | zero => intro acc; simp
    | succ k ih =>
      intro acc
      rw [List.replicate_succ, List.foldl_cons, ih, List.replicate_succ, List.flatten_cons, Array.toList_append, List.append_assoc]
  have hr : TL.tl (⟨(List.replicate n.toNat z.cps).foldl (· ++ ·) #[]⟩ : Str) = (List.replicate n.toNat (TL.tl z)).flatten := by
    show ((List.replicate n.toNat z.cps).foldl (· ++ ·) #[]).toList = _
    rw [hf]; rfl
  have hlen : (⟨(List.replicate n.toNat z.cps).foldl (· ++ ·) #[]⟩ : Str).length ≤ sizeLine := by
    rw [TL.len_tl, hr]
    have e : sizeLine = 16777216 := sizeLine_eq
    have z2 : ((List.replicate n.toNat (TL.tl z)).flatten).length = z.length * n.toNat := by
      rw [TL.len_tl]
      generalize n.toNat = k
      induction k with
      | zero => rfl
      | succ k ih => rw [List.replicate_succ, List.flatten_cons, List.length_append, ih, Nat.mul_succ, Nat.add_comm]
    omega
  exact ⟨hlen, .str _, H, I.tok _, ⟨_, rfl⟩, q _ hr⟩
/-- for c in a text -/
theorem for_str {z : Str} {g : TG} {tb : TS} {D : Ends} {σ : St} {H : Hp} (Pv : Nat → St → Hp → Prop) (h0 : Pv 0 σ H)
    (hs : ∀ i c σ H, (TL.tl z)[i]? = some c → Pv i σ H → g (.str ⟨#[c]⟩) σ H fun σ2 H2 => tb { D with nx := Pv (i + 1), ct := Pv (i + 1), bk := D.nx } σ2 H2) (hd : ∀ σ H, Pv (TL.tl z).length σ H → D.nx σ H) :
    ∃ W : Nat → Nat → St → Hp → Prop, (∃ m, W 0 m σ H) ∧ ∀ i m σ H, W i m σ H →
      ((Its z).stop i H ∧ D.nx σ H) ∨ ((Its z).go i H ∧ ∃ N : St → Hp → Prop, (∀ σ' H', N σ' H' → ∃ m', m' < m ∧ W (i + 1) m' σ' H') ∧ ∀ x H', (Its z).yld i H x H' → g x σ H' fun σ2 H2 => tb { D with nx := N, ct := N, bk := D.nx } σ2 H2) := by
  have hl : (TL.tl z).length = z.cps.size := Array.length_toList
  refine ⟨fun i m σ H => m = (TL.tl z).length - i ∧ i ≤ (TL.tl z).length ∧ Pv i σ H, ⟨(TL.tl z).length, rfl, Nat.zero_le _, h0⟩, ?_⟩
  rintro i m σ H ⟨rfl, le1, pv1⟩
  by_cases lt1 : i < (TL.tl z).length
  · refine .inr ⟨(by show i < z.cps.size; omega), Pv (i + 1), fun σ' H' p' => ⟨(TL.tl z).length - (i + 1), by omega, rfl, lt1, p'⟩, fun x H' y => ?_⟩
    obtain ⟨e, c, hc, ex⟩ := y
    subst e
    subst ex
    exact hs i c σ H' (by rw [Array.getElem?_toList]; exact hc) pv1
  · have e : i = (TL.tl z).length := by omega
    subst e
    exact .inl ⟨(by show z.cps.size ≤ _; omega), hd σ H pv1⟩
end
/-! ### heaps -/
/-- all but what stands at p is as it was -/
def But (p : Addr) (H H' : Hp) : Prop := ∀ b o, H b = some o → b ≠ p → H' b = some o
theorem But.refl (p : Addr) (H : Hp) : But p H H := fun _ _ h _ => h
theorem But.trans {p : Addr} {H H1 H2 : Hp} (a : But p H H1) (b : But p H1 H2) : But p H H2 := fun c o h n => b c o (a c o h n) n
theorem But.of {p : Addr} {H H' : Hp} (a : Same H H') : But p H H' := fun c o h _ => a c o h
theorem same_new {H : Hp} {p : Addr} (h : H p = none) (o : HO) : Same H (upd H p o) := fun b u q => by rw [upd_ne (ne_of_none q h)]; exact q
theorem but_upd {H : Hp} {p : Addr} (o : HO) : But p H (upd H p o) := fun b u q n => by rw [upd_ne n]; exact q
theorem same_seqT {K : PySem.W.Frag} {H H' : Hp} {a : Addr} {xs : List V} (e : Same H H') (h : SqT K H a xs) : SqT K H' a xs := by
  rcases h with (h | ⟨o, h⟩) | h
  · exact .inl (.inl (e _ _ h))
  · exact .inl (.inr ⟨o, e _ _ h⟩)
  · exact .inr h
/-- tuples stay where only a list may change -/
theorem But.seqT {K : PySem.W.Frag} {H H' : Hp} {p a : Addr} {xs ys : List V} (e : But p H H') (hp : H p = some (.lst ys)) (h : SqT K H a xs) : SqT K H' a xs := by
  rcases h with (h | ⟨o, h⟩) | h
  · exact .inl (.inl (e _ _ h (ne_of h hp (by intro z; cases z))))
  · exact .inl (.inr ⟨o, e _ _ h (ne_of h hp (by intro z; cases z))⟩)
  · exact .inr h
theorem But.seqL {K : PySem.W.Frag} {H H' : Hp} {p a : Addr} {xs : List V} (e : But p H H') (hp : a ≠ p) (h : SqL K H a xs) : SqL K H' a xs := by
  rcases h with (h | ⟨o, h⟩) | h
  · exact .inl (.inl (e _ _ h hp))
  · exact .inl (.inr ⟨o, e _ _ h hp⟩)
  · exact .inr h
end Mus

set_option maxRecDepth 100000
set_option maxHeartbeats 4000000
/-! Plain data of any kind in the heap, beside one list (the bag, at p) that changes. -/
namespace Mus
open PySem L2
theorem sl : sizeLine = 16777216 := sizeLine_eq
theorem dT {p : Prop} [Decidable p] {A B : Prop} (h : p) (a : A) : if decide p = true then A else B := by
  rw [decide_eq_true h]; exact iteT a
theorem dF {p : Prop} [Decidable p] {A B : Prop} (h : ¬ p) (b : B) : if decide p = true then A else B := by
  rw [decide_eq_false h]; exact iteF b
theorem nT {p : Prop} [Decidable p] {A B : Prop} (h : ¬ p) (a : A) : if (!decide p) = true then A else B := by
  rw [decide_eq_false h]; exact iteT a
theorem nF {p : Prop} [Decidable p] {A B : Prop} (h : p) (b : B) : if (!decide p) = true then A else B := by
  rw [decide_eq_true h]; exact iteF b
theorem at_int {α : Type} {xs : List α} {i : Int} {v : α} (h0 : 0 ≤ i) (h : xs[i.toNat]? = some v) : atI xs i = some v := by
  have e : i = ((i.toNat : Nat) : Int) := by omega
  rw [e]
  exact atI_nat h
theorem pe_const {X : Cx} {x : Str} {i : Int} {pos : Pos} (hm : ∃ t, X.mg x = some (.int i t)) (hg : Gl X x := by rfl) (hd : (x == ("__debug__" : Str)) = false := by decide) : PE X (.Name x pos) (tC (.int i)) := by
  obtain ⟨t, h⟩ := hm
  exact pe_glob hg h ⟨t, rfl⟩ hd
theorem pe_ty {X : Cx} {x : Str} {pos : Pos} (n : String) (hm : X.mg x = none) (hv : bootBuiltins x = some (.type n) := by decide +kernel) (hg : Gl X x := by rfl) (hn : x ≠ "__name__" := by decide) (hd : (x == ("__debug__" : Str)) = false := by decide) : PE X (.Name x pos) (tC (.ty n)) := pe_bltn hg hm hv rfl hn hd
theorem pe_cls {X : Cx} {x : Str} {C : Addr} {pos : Pos} (hm : X.mg x = some (.ref C)) (hg : Gl X x := by rfl) (hd : (x == ("__debug__" : Str)) = false := by decide) : PE X (.Name x pos) (tC (.ref C)) := pe_glob (v := .ref C) hg hm rfl hd
mutual
/-- the value v stands for the data d, all of it tracked and none of it at p -/
inductive Rp (p : Addr) (H : Hp) : V → PyData → Prop
  | non : Rp p H .non .none
  | bl (b : Bool) : Rp p H (.bl b) (.bool b)
  | int (i : Int) : Rp p H (.int i) (.int i)
  | str (x : Str) : Rp p H (.str x) (.str x)
  | lst {a : Addr} {xs : List V} {ds : List PyData} : H a = some (.lst xs) → a ≠ p → Rps p H xs ds → Rp p H (.ref a) (.list ds)
  | tup {a : Addr} {xs : List V} {ds : List PyData} : H a = some (.tup xs) → a ≠ p → xs.length ≤ 100000 → Rps p H xs ds → Rp p H (.ref a) (.tuple ds)
inductive Rps (p : Addr) (H : Hp) : List V → List PyData → Prop
  | nil : Rps p H [] []
  | cons {v : V} {vs : List V} {d : PyData} {ds : List PyData} : Rp p H v d → Rps p H vs ds → Rps p H (v :: vs) (d :: ds)
end
mutual
theorem Rp.mono {p : Addr} {H H' : Hp} (k : But p H H') : ∀ {v : V} {d : PyData}, Rp p H v d → Rp p H' v d
  | _, _, .non => .non
  | _, _, .bl b => .bl b
  | _, _, .int i => .int i
  | _, _, .str x => .str x
  | _, _, .lst h n r => .lst (k _ _ h n) n (Rps.mono k r)
  | _, _, .tup h n l r => .tup (k _ _ h n) n l (Rps.mono k r)
theorem Rps.mono {p : Addr} {H H' : Hp} (k : But p H H') : ∀ {vs : List V} {ds : List PyData}, Rps p H vs ds → Rps p H' vs ds
  | _, _, .nil => .nil
  | _, _, .cons a b => .cons (Rp.mono k a) (Rps.mono k b)
end
mutual
theorem Rp.dp {p : Addr} {K : PySem.W.Frag} {H : Hp} : ∀ {v : V} {d : PyData}, Rp p H v d → Dp K H v d
  | _, _, .non => .non
  | _, _, .bl b => .bl b
  | _, _, .int i => .int i
  | _, _, .str x => .str x
  | _, _, .lst h n r => .lst (SqL.of h) (Rps.dp r)
  | _, _, .tup h n _ r => .tup (SqT.of h) (Rps.dp r)
theorem Rps.dp {p : Addr} {K : PySem.W.Frag} {H : Hp} : ∀ {vs : List V} {ds : List PyData}, Rps p H vs ds → DpAll K H vs ds
  | _, _, .nil => .nil
  | _, _, .cons a b => .cons (Rp.dp a) (Rps.dp b)
end
theorem Rp.same {p : Addr} {H H' : Hp} {v : V} {d : PyData} (k : Same H H') (h : Rp p H v d) : Rp p H' v d := h.mono (But.of k)
theorem Rps.same {p : Addr} {H H' : Hp} {vs : List V} {ds : List PyData} (k : Same H H') (h : Rps p H vs ds) : Rps p H' vs ds := h.mono (But.of k)
theorem Rps.length {p : Addr} {H : Hp} : ∀ {vs : List V} {ds : List PyData}, Rps p H vs ds → vs.length = ds.length
  | _, _, .nil => rfl
  | _, _, .cons _ r => by rw [List.length_cons, List.length_cons, Rps.length r]
theorem Rps.at {p : Addr} {H : Hp} : ∀ {vs : List V} {ds : List PyData} {i : Nat} {v : V}, Rps p H vs ds → vs[i]? = some v → ∃ d, ds[i]? = some d ∧ Rp p H v d
  | _, _, i, v, .nil, h => by simp at h
  | _, _, 0, v, .cons a _, h => by cases h; exact ⟨_, rfl, a⟩
  | _, _, i + 1, v, .cons _ r, h => Rps.at (i := i) r (by simpa using h)
theorem Rps.get {p : Addr} {H : Hp} : ∀ {vs : List V} {ds : List PyData} {i : Nat} {d : PyData}, Rps p H vs ds → ds[i]? = some d → ∃ v, vs[i]? = some v ∧ Rp p H v d
  | _, _, i, v, .nil, h => by simp at h
  | _, _, 0, v, .cons a _, h => by cases h; exact ⟨_, rfl, a⟩
  | _, _, i + 1, v, .cons _ r, h => Rps.get (i := i) r (by simpa using h)
theorem Rps.append {p : Addr} {H : Hp} : ∀ {vs ws : List V} {ds es : List PyData}, Rps p H vs ds → Rps p H ws es → Rps p H (vs ++ ws) (ds ++ es)
  | _, _, _, _, .nil, r => r
  | _, _, _, _, .cons a q, r => .cons a (Rps.append q r)
theorem Rps.take {p : Addr} {H : Hp} : ∀ {vs : List V} {ds : List PyData} (n : Nat), Rps p H vs ds → Rps p H (vs.take n) (ds.take n)
  | _, _, 0, _ => .nil
  | _, _, n + 1, .nil => .nil
  | _, _, n + 1, .cons a q => .cons a (Rps.take n q)
theorem Rps.drop {p : Addr} {H : Hp} : ∀ {vs : List V} {ds : List PyData} (n : Nat), Rps p H vs ds → Rps p H (vs.drop n) (ds.drop n)
  | _, _, 0, r => r
  | _, _, n + 1, .nil => .nil
  | _, _, n + 1, .cons a q => Rps.drop n q
/-! ### classes of data -/
def tyD : PyData → Value
  | .none => .type "NoneType" | .bool _ => .type "bool" | .int _ => .type "int" | .str _ => .type "str" | .list _ => .type "list" | .tuple _ => .type "tuple" | .dict _ => .type "dict"
theorem Rp.ty {p : Addr} {K : PySem.W.Frag} {H : Hp} {v : V} {d : PyData} (h : Rp p H v d) : TyX K H v (tyD d) := by
  cases h with
  | non => exact .base .non
  | bl b => exact .base (.bl b)
  | int i => exact .base (.int i)
  | str x => exact .base (.str x)
  | lst h _ _ => exact .base (.lst h)
  | tup h _ _ _ => exact .base (.tup h)
def dInt : PyData → Bool
  | .int _ => true | .bool _ => true | _ => false
def dBool : PyData → Bool
  | .bool _ => true | _ => false
def dStr : PyData → Bool
  | .str _ => true | _ => false
def dTup : PyData → Bool
  | .tuple _ => true | _ => false
theorem kit_int {K : PySem.W.Frag} : ∀ d : PyData, PySem.W.kitOne K (tyD d) (.type "int") = some (dInt d)
  | .none => kit_ty (r := false) (by decide +kernel)
  | .bool _ => kit_ty (r := true) (by decide +kernel)
  | .int _ => kit_ty (r := true) (by decide +kernel)
  | .str _ => kit_ty (r := false) (by decide +kernel)
  | .list _ => kit_ty (r := false) (by decide +kernel)
  | .tuple _ => kit_ty (r := false) (by decide +kernel)
  | .dict _ => kit_ty (r := false) (by decide +kernel)
theorem kit_bool {K : PySem.W.Frag} : ∀ d : PyData, PySem.W.kitOne K (tyD d) (.type "bool") = some (dBool d)
  | .none => kit_ty (r := false) (by decide +kernel)
  | .bool _ => kit_ty (r := true) (by decide +kernel)
  | .int _ => kit_ty (r := false) (by decide +kernel)
  | .str _ => kit_ty (r := false) (by decide +kernel)
  | .list _ => kit_ty (r := false) (by decide +kernel)
  | .tuple _ => kit_ty (r := false) (by decide +kernel)
  | .dict _ => kit_ty (r := false) (by decide +kernel)
theorem kit_str {K : PySem.W.Frag} : ∀ d : PyData, PySem.W.kitOne K (tyD d) (.type "str") = some (dStr d)
  | .none => kit_ty (r := false) (by decide +kernel)
  | .bool _ => kit_ty (r := false) (by decide +kernel)
  | .int _ => kit_ty (r := false) (by decide +kernel)
  | .str _ => kit_ty (r := true) (by decide +kernel)
  | .list _ => kit_ty (r := false) (by decide +kernel)
  | .tuple _ => kit_ty (r := false) (by decide +kernel)
  | .dict _ => kit_ty (r := false) (by decide +kernel)
theorem kit_tup {K : PySem.W.Frag} : ∀ d : PyData, PySem.W.kitOne K (tyD d) (.type "tuple") = some (dTup d)
  | .none => kit_ty (r := false) (by decide +kernel)
  | .bool _ => kit_ty (r := false) (by decide +kernel)
  | .int _ => kit_ty (r := false) (by decide +kernel)
  | .str _ => kit_ty (r := false) (by decide +kernel)
  | .list _ => kit_ty (r := false) (by decide +kernel)
  | .tuple _ => kit_ty (r := true) (by decide +kernel)
  | .dict _ => kit_ty (r := false) (by decide +kernel)
end Mus
namespace Mus
open PySem L2
/-! ### members and view ids, as functions of data -/
def isInt (d : PyData) (a b : Int) : Bool := match d with | .int i => decide (a ≤ i) && decide (i ≤ b) | _ => false
def isProc (c d : PyData) : Bool := match c with | .int n => (decide (1 ≤ n) && decide (n ≤ 12)) && isInt d 0 (n - 1) | _ => false
def isMem (c : PyData) : PyData → Bool
  | .tuple [x, y] => isProc c x && isInt y 1 1000000000000
  | _ => false
def isVid (c : PyData) : PyData → Bool
  | .tuple [x, y] => isInt x 0 1000000000000 && isMem c y
  | _ => false
def procOf : PyData → Int
  | .tuple (.int i :: _) => i
  | _ => 0
def memsFrom (c : PyData) : Int → List PyData → Bool
  | _, [] => true
  | l, d :: ds => isMem c d && decide (l < procOf d) && memsFrom c (procOf d) ds
def isMems (c : PyData) : PyData → Bool
  | .tuple ds => !ds.isEmpty && memsFrom c (-1) ds
  | _ => false
theorem isProc_int {c d : PyData} (h : isProc c d = true) : ∃ n i, c = .int n ∧ d = .int i ∧ 1 ≤ n ∧ n ≤ 12 ∧ 0 ≤ i ∧ i < n := by
  cases c <;> try (simp [isProc] at h; done)
  rename_i n
  cases d <;> try (simp [isProc, isInt] at h; done)
  rename_i i
  simp [isProc, isInt] at h
  exact ⟨n, i, rfl, rfl, by omega, by omega, by omega, by omega⟩
theorem isInt_int {d : PyData} {a b : Int} (h : isInt d a b = true) : ∃ i, d = .int i ∧ a ≤ i ∧ i ≤ b := by
  cases d <;> try (simp [isInt] at h; done)
  rename_i i
  simp [isInt] at h
  exact ⟨i, rfl, h.1, h.2⟩
theorem isMem_int {c d : PyData} (h : isMem c d = true) : ∃ n i l, c = .int n ∧ d = .tuple [.int i, .int l] ∧ 1 ≤ n ∧ n ≤ 12 ∧ 0 ≤ i ∧ i < n ∧ 1 ≤ l ∧ l ≤ 1000000000000 := by
  unfold isMem at h
  split at h
  · rename_i x y
    rw [Bool.and_eq_true] at h
    obtain ⟨n, i, rfl, rfl, h1, h2, h3, h4⟩ := isProc_int h.1
    obtain ⟨l, rfl, h5, h6⟩ := isInt_int h.2
    exact ⟨n, i, l, rfl, rfl, h1, h2, h3, h4, h5, h6⟩
  · cases h
/-! ### promises: a truth told of data, nothing changed -/
def spI : Sp := fun vs H Q _ => ∃ (p : Addr) (v : V) (d : PyData) (a b : Int), vs = [v, .int a, .int b] ∧ Rp p H v d ∧ Q (.bl (isInt d a b)) H
def spB1 (f : PyData → Bool) : Sp := fun vs H Q _ => ∃ (p : Addr) (v : V) (d : PyData), vs = [v] ∧ Rp p H v d ∧ Q (.bl (f d)) H
def spB2 (f : PyData → PyData → Bool) : Sp := fun vs H Q _ => ∃ (p : Addr) (u v : V) (c d : PyData), vs = [u, v] ∧ Rp p H u c ∧ Rp p H v d ∧ Q (.bl (f c d)) H
/-- the same where new things may have come -/
def spS1 (f : PyData → Bool) : Sp := fun vs H Q _ => ∃ (p : Addr) (v : V) (d : PyData), vs = [v] ∧ Rp p H v d ∧ ∀ H', Same H H' → Q (.bl (f d)) H'
def spS2 (f : PyData → PyData → Bool) : Sp := fun vs H Q _ => ∃ (p : Addr) (u v : V) (c d : PyData), vs = [u, v] ∧ Rp p H u c ∧ Rp p H v d ∧ ∀ H', Same H H' → Q (.bl (f c d)) H'
end Mus

set_option maxRecDepth 100000
set_option maxHeartbeats 4000000
/-! The bag of a law's draws, new things beside it, displays of data, tuples cut and joined. -/
namespace Mus
open PySem L2
def Bag (p : Addr) (c : Int) (H : Hp) : Prop := ∃ x y : Int, H p = some (.lst [.int x, .int y, .int c])
theorem Bag.seqT {K : PySem.W.Frag} {p : Addr} {c : Int} {H H' : Hp} (g : Bag p c H) (b : But p H H') {a : Addr} {xs : List V} (h : SqT K H a xs) : SqT K H' a xs := by
  obtain ⟨x, y, hp⟩ := g
  exact b.seqT hp h
theorem Bag.ne {p D : Addr} {c : Int} {H : Hp} (g : Bag p c H) (h : H D = none) : p ≠ D := by
  obtain ⟨x, y, hp⟩ := g
  exact ne_of_none hp h
theorem Bag.upd {p D : Addr} {c : Int} {H : Hp} {o : HO} (g : Bag p c H) (h : p ≠ D) : Bag p c (upd H D o) := by
  obtain ⟨x, y, hp⟩ := g
  exact ⟨x, y, by rw [upd_ne h]; exact hp⟩
theorem Bag.new {p D : Addr} {c : Int} {H : Hp} {o : HO} (g : Bag p c H) (h : H D = none) : Bag p c (L2.upd H D o) := g.upd (g.ne h)
theorem Bag.same {p : Addr} {c : Int} {H H' : Hp} (g : Bag p c H) (s : Same H H') : Bag p c H' := by
  obtain ⟨x, y, hp⟩ := g
  exact ⟨x, y, s _ _ hp⟩
/-- a new thing -/
theorem But.new {p D : Addr} {H H' : Hp} {o : HO} (b : But p H H') (h : H' D = none) : But p H (L2.upd H' D o) := fun a u e n => by
  have z := b a u e n
  rw [upd_ne (ne_of_none z h)]; exact z
/-- a change at what was not there at first -/
theorem But.later {p D : Addr} {H H' : Hp} {o : HO} (b : But p H H') (h : H D = none) : But p H (L2.upd H' D o) := fun a u e n => by
  rw [upd_ne (ne_of_none e h)]; exact b a u e n
theorem But.free {p D : Addr} {H H' : Hp} (b : But p H H') (h : H' D = none) (n : D ≠ p) : H D = none := by
  cases e : H D with
  | none => rfl
  | some o =>
    have z := b D o e n
    rw [h] at z; cases z
/-! ### displays -/
/-- the expression gives the int i, and that is all -/
def DI (te : TE) (σ : St) (i : Int) : Prop := ∀ (H : Hp) (Q : VK), Q (.int i) H → te σ H Q
/-- the expression gives the data d, new things beside what was -/
def DE (p : Addr) (te : TE) (σ : St) (d : PyData) : Prop := ∀ (c : Int) (H : Hp) (Q : VK), Bag p c H → (∀ v H', Same H H' → Bag p c H' → Rp p H' v d → Q v H') → te σ H Q
def DEs (p : Addr) (ta : TA) (σ : St) (ds : List PyData) : Prop := ∀ (c : Int) (H : Hp) (Q : List V → Hp → Prop), Bag p c H → (∀ vs H', Same H H' → Bag p c H' → Rps p H' vs ds → Q vs H') → ta σ H Q
section
variable {p : Addr} {σ : St} {te ta1 tb1 : TE} {ta : TA} {i j : Int} {d : PyData} {ds : List PyData}
theorem Same.rfl' (H : Hp) : Same H H := fun _ _ h => h
theorem di_c : DI (tC (.int i)) σ i := fun _ _ q => q
theorem di_v {n : Nat} (h : σ[n]? = some (some (.int i))) : DI (tVar n) σ i := fun _ _ q => ⟨_, h, q⟩
theorem di_op {f : Int → Int → Int} (h1 : DI ta1 σ i) (h2 : DI tb1 σ j) : DI (tOp (rI0 fun i j => .int (f i j)) ta1 tb1) σ (f i j) := fun H Q q => h1 H _ (h2 H _ ⟨i, j, rfl, rfl, q⟩)
theorem di_opC {C : Int → Int → Prop} {f : Int → Int → Int} (h1 : DI ta1 σ i) (h2 : DI tb1 σ j) (hc : C i j) : DI (tOp (rI C fun i j => .int (f i j)) ta1 tb1) σ (f i j) := fun H Q q => h1 H _ (h2 H _ ⟨i, j, rfl, rfl, hc, q⟩)
theorem di_neg (h1 : DI te σ i) : DI (tUn (rU fun i => .int (-i)) te) σ (-i) := fun H Q q => h1 H _ ⟨i, rfl, q⟩
theorem de_i (h : DI te σ i) : DE p te σ (.int i) := fun c H Q g q => h H Q (q _ H (Same.rfl' H) g (.int i))
theorem de_bl {b : Bool} : DE p (tC (.bl b)) σ (.bool b) := fun c H Q g q => q _ H (Same.rfl' H) g (.bl b)
theorem de_str {z : Str} : DE p (tC (.str z)) σ (.str z) := fun c H Q g q => q _ H (Same.rfl' H) g (.str z)
theorem de_non : DE p (tC .non) σ .none := fun c H Q g q => q _ H (Same.rfl' H) g .non
theorem des_nil : DEs p tNil σ [] := fun c H Q g q => q [] H (Same.rfl' H) g .nil
theorem des_cons (h1 : DE p te σ d) (h2 : DEs p ta σ ds) : DEs p (tCons te ta) σ (d :: ds) := fun c H Q g q =>
  h1 c H _ g fun v H1 s1 g1 r1 => h2 c H1 _ g1 fun vs H2 s2 g2 r2 => q _ H2 (s1.trans s2) g2 (.cons (r1.same s2) r2)
theorem de_tup (h : DEs p ta σ ds) (hl : ds.length ≤ 1000) : DE p (tTup ta) σ (.tuple ds) := fun c H Q g q =>
  h c H _ g fun vs H1 s1 g1 r1 => ⟨by have := r1.length; have := sl; omega, fun a na => q _ _ (s1.trans (same_new na _)) (g1.new na) (.tup upd_same (g1.ne na).symm (by have := r1.length; omega) (r1.same (same_new na _)))⟩
theorem de_lst (h : DEs p ta σ ds) (hl : ds.length ≤ 1000) : DE p (tLst ta) σ (.list ds) := fun c H Q g q =>
  h c H _ g fun vs H1 s1 g1 r1 => ⟨by have := r1.length; have := sl; omega, fun a na => q _ _ (s1.trans (same_new na _)) (g1.new na) (.lst upd_same (g1.ne na).symm (r1.same (same_new na _)))⟩
theorem de_lstN (n : Nat) (R : PyData → Prop) {c : Int} {H : Hp} {Q : VK} (h : ∃ ds, DEs p ta σ ds ∧ ds.length = n ∧ ∀ d ∈ ds, R d) (hn : n ≤ 1000) (g : Bag p c H)
    (q : ∀ ds v H', ds.length = n → (∀ d ∈ ds, R d) → Same H H' → Bag p c H' → Rp p H' v (.list ds) → Q v H') : tLst ta σ H Q := by
  obtain ⟨ds, h1, h2, h3⟩ := h
  exact de_lst h1 (by omega) c H Q g fun v H' => q ds v H' h2 h3
theorem de_cat {es : List PyData} (h1 : DE p ta1 σ (.list ds)) (h2 : DE p tb1 σ (.list es)) (hl : ds.length + es.length ≤ 1000) : DE p (tOp rCat ta1 tb1) σ (.list (ds ++ es)) := fun c H Q g q =>
  h1 c H _ g fun v H1 s1 g1 r1 => h2 c H1 _ g1 fun u H2 s2 g2 r2 => by
    obtain _ | _ | _ | _ | @⟨a, xs, _, ha, na, hr⟩ | _ := r1.same s2
    obtain _ | _ | _ | _ | @⟨b, ys, _, hb, nb, hr2⟩ | _ := r2
    refine ⟨a, b, xs, ys, rfl, rfl, ha, hb, ?_, fun t nt => q _ _ (s1.trans (s2.trans (same_new nt _))) (g2.new nt) (.lst upd_same (g2.ne nt).symm ((hr.append hr2).same (same_new nt _)))⟩
    have := hr.length; have := hr2.length; have := sl; omega
theorem de_varD {n : Nat} {v : V} (h : σ[n]? = some (some v)) (hd : ∀ H, Rp p H v d) : DE p (tVar n) σ d := fun c H Q g q => ⟨_, h, q _ H (Same.rfl' H) g (hd H)⟩
end
/-! ### tuples cut and joined -/
def cutD (ds : List PyData) (lo hi : Option Int) : List PyData := (ds.drop (HT.sIx ds.length 0 lo)).take (HT.sIx ds.length ds.length hi - HT.sIx ds.length 0 lo)
theorem Rps.cut {p : Addr} {H : Hp} {vs : List V} {ds : List PyData} (r : Rps p H vs ds) (lo hi : Option Int) : Rps p H (cutV vs lo hi) (cutD ds lo hi) := by
  unfold cutV cutD
  rw [r.length]
  exact (r.drop _).take _
theorem cutD_len (ds : List PyData) (lo hi : Option Int) : (cutD ds lo hi).length ≤ ds.length := by
  unfold cutD
  rw [List.length_take, List.length_drop]; omega
theorem cutD_mem {ds : List PyData} {lo hi : Option Int} {d : PyData} (h : d ∈ cutD ds lo hi) : d ∈ ds := List.mem_of_mem_drop (List.mem_of_mem_take h)
theorem cut_whole {xs : List V} {lo hi : Option Int} (h : HT.sIx xs.length 0 lo = 0 ∧ HT.sIx xs.length xs.length hi = xs.length) : cutV xs lo hi = xs := by
  unfold cutV
  rw [h.1, h.2, List.drop_zero, Nat.sub_zero, List.take_length]
section
variable {K : PySem.W.Frag} {p : Addr} {c : Int} {H : Hp} {Q : VK}
theorem rd_cut {a : Addr} {ds : List PyData} {lo hi : Option Int} (r : Rp p H (.ref a) (.tuple ds)) (g : Bag p c H)
    (q : ∀ b H', Same H H' → Bag p c H' → Rp p H' (.ref b) (.tuple (cutD ds lo hi)) → Q (.ref b) H') : rSlA K (.ref a) lo hi H Q := by
  obtain _ | _ | _ | _ | _ | @⟨_, xs, _, ha, na, hw, hr⟩ := r
  refine ⟨a, xs, rfl, SqT.of ha, fun w => ?_, fun w b nb => ?_⟩
  · refine q _ _ (Same.rfl' H) g (.tup ha na hw ?_)
    have z := hr.cut lo hi
    rw [cut_whole w] at z
    exact z
  · exact q _ _ (same_new nb _) (g.new nb) (.tup upd_same (g.ne nb).symm (Nat.le_trans (cutV_length _ _ _) hw) ((hr.cut lo hi).same (same_new nb _)))
theorem rd_cat {a b : Addr} {ds es : List PyData} (r1 : Rp p H (.ref a) (.tuple ds)) (r2 : Rp p H (.ref b) (.tuple es)) (g : Bag p c H) (hl : ds.length + es.length ≤ 100000)
    (q : ∀ t H', Same H H' → Bag p c H' → Rp p H' (.ref t) (.tuple (ds ++ es)) → Q (.ref t) H') : rCatA K (.ref a) (.ref b) H Q := by
  have k2 := r2
  have k1 := r1
  obtain _ | _ | _ | _ | _ | @⟨_, xs, _, ha, na, hw, hr⟩ := r1
  obtain _ | _ | _ | _ | _ | @⟨_, ys, _, hb, nb, hw2, hr2⟩ := r2
  have l1 := hr.length
  have l2 := hr2.length
  have hs := sl
  refine ⟨a, b, xs, ys, rfl, rfl, SqT.of ha, SqT.of hb, by omega, fun e => ?_, fun _ e => ?_, fun _ _ t nt => ?_⟩
  · subst e
    cases ds with
    | nil => exact q _ _ (Same.rfl' H) g k2
    | cons _ _ => cases l1
  · subst e
    cases es with
    | nil => rw [List.append_nil] at q; exact q _ _ (Same.rfl' H) g k1
    | cons _ _ => cases l2
  · exact q _ _ (same_new nt _) (g.new nt) (.tup upd_same (g.ne nt).symm (by rw [List.length_append]; omega) ((hr.append hr2).same (same_new nt _)))
end
/-! ### how deep and wide, what its texts are -/
def fit : Nat → PyData → Prop
  | 0, .tuple _ => False
  | n + 1, .tuple ds => ds.length ≤ 3000 ∧ ∀ d ∈ ds, fit n d
  | _, _ => True
inductive Her (P : Str → Prop) : PyData → Prop
  | tup {ds : List PyData} : (∀ d ∈ ds, Her P d) → Her P (.tuple ds)
  | str {z : Str} : P z → Her P (.str z)
  | non : Her P .none
  | bl (b : Bool) : Her P (.bool b)
  | int (i : Int) : Her P (.int i)
  | lst (ds : List PyData) : Her P (.list ds)
theorem Her.mem {P : Str → Prop} {ds : List PyData} (h : Her P (.tuple ds)) : ∀ d ∈ ds, Her P d := by
  cases h with
  | tup h => exact h
theorem Her.cut {P : Str → Prop} {ds : List PyData} (h : Her P (.tuple ds)) (lo hi : Option Int) : Her P (.tuple (cutD ds lo hi)) := .tup fun d m => h.mem d (cutD_mem m)
theorem Her.app {P : Str → Prop} {ds es : List PyData} (h : Her P (.tuple ds)) (k : Her P (.tuple es)) : Her P (.tuple (ds ++ es)) := .tup fun d m => by
  rcases List.mem_append.mp m with m | m
  · exact h.mem d m
  · exact k.mem d m
theorem Her.one {P : Str → Prop} {d : PyData} (h : Her P d) : Her P (.tuple [d]) := .tup fun e m => by rw [List.mem_singleton.mp m]; exact h
/-- one level less, if there is one -/
def spv (sp : Nat → Sp) (n : Nat) : Sp := fun vs H Q E => ∃ m, n = m + 1 ∧ sp m vs H Q E
/-- a thing spoilt: some data, its texts from the two -/
def sp_spoilt (n : Nat) : Sp := fun vs H Q _ => ∃ (p : Addr) (c : Int) (v o : V) (d e : PyData), vs = [.ref p, v, o] ∧ Bag p c H ∧ Rp p H v d ∧ Rp p H o e ∧ fit n d ∧
  ∀ v' d' H', Rp p H' v' d' → (∀ P, Her P d → Her P e → Her P d') → But p H H' → Bag p c H' → Q v' H'
def sp_bag (K : PySem.W.Frag) : Sp := fun vs H Q _ => ∃ (a : Addr) (ns : List Int) (k : Nat), vs = [.ref a, .int k] ∧ SqL K H a (ns.map V.int) ∧ ∀ p H', H p = none → Same H H' → Bag p k H' → Q (.ref p) H'
def sp_draw : Sp := fun vs H Q _ => ∃ (p : Addr) (c m : Int), vs = [.ref p, .int m] ∧ Bag p c H ∧ 0 < m ∧ m.natAbs < 2 ^ 100 ∧ ∀ r H', 0 ≤ r → r < m → But p H H' → Bag p c H' → Q (.int r) H'
/-- an int at least 1 and at most 10 ** 12 -/
def sp_pos : Sp := fun vs H Q _ => ∃ (p : Addr) (c : Int), vs = [.ref p] ∧ Bag p c H ∧ ∀ r H', 1 ≤ r → r ≤ 1000000000000 → But p H H' → Bag p c H' → Q (.int r) H'
end Mus
namespace Mus
open PySem L2
/-- no list in it -/
inductive NoL : PyData → Prop
  | tup {ds : List PyData} : (∀ d ∈ ds, NoL d) → NoL (.tuple ds)
  | str (z : Str) : NoL (.str z)
  | non : NoL .none
  | bl (b : Bool) : NoL (.bool b)
  | int (i : Int) : NoL (.int i)
theorem NoL.mem {ds : List PyData} (h : NoL (.tuple ds)) : ∀ d ∈ ds, NoL d := by
  cases h with
  | tup h => exact h
theorem NoL.two {a b : PyData} (h : NoL a) (k : NoL b) : NoL (.tuple [a, b]) := .tup fun d m => by
  rcases List.mem_cons.mp m with rfl | m
  · exact h
  · rw [List.mem_singleton.mp m]; exact k
theorem NoL.three {a b c : PyData} (h : NoL a) (k : NoL b) (l : NoL c) : NoL (.tuple [a, b, c]) := .tup fun d m => by
  rcases List.mem_cons.mp m with rfl | m
  · exact h
  · rcases List.mem_cons.mp m with rfl | m
    · exact k
    · rw [List.mem_singleton.mp m]; exact l
mutual
theorem Rp.upL {p D : Addr} {H H' : Hp} {ys : List V} (hD : H D = some (.lst ys)) (k : ∀ b o, H b = some o → b ≠ p → b ≠ D → H' b = some o) : ∀ {v : V} {d : PyData}, Rp p H v d → NoL d → Rp p H' v d
  | _, _, .non, _ => .non
  | _, _, .bl b, _ => .bl b
  | _, _, .int i, _ => .int i
  | _, _, .str x, _ => .str x
  | _, _, .lst h n r, z => nomatch z
  | _, _, .tup h n l r, z => .tup (k _ _ h n (ne_of h hD (by intro z; cases z))) n l (Rps.upL hD k r z.mem)
theorem Rps.upL {p D : Addr} {H H' : Hp} {ys : List V} (hD : H D = some (.lst ys)) (k : ∀ b o, H b = some o → b ≠ p → b ≠ D → H' b = some o) : ∀ {vs : List V} {ds : List PyData}, Rps p H vs ds → (∀ d ∈ ds, NoL d) → Rps p H' vs ds
  | _, _, .nil, _ => .nil
  | _, _, .cons a b, z => .cons (Rp.upL hD k a (z _ List.mem_cons_self)) (Rps.upL hD k b fun d m => z d (List.mem_cons_of_mem _ m))
end
/-- a change at the list at D -/
theorem Rps.updL {p D : Addr} {H : Hp} {ys : List V} {o : HO} (hD : H D = some (.lst ys)) {vs : List V} {ds : List PyData} (r : Rps p H vs ds) (z : ∀ d ∈ ds, NoL d) : Rps p (upd H D o) vs ds :=
  r.upL hD (fun b o h _ n => by rw [upd_ne n]; exact h) z
theorem Rp.updL {p D : Addr} {H : Hp} {ys : List V} {o : HO} (hD : H D = some (.lst ys)) {v : V} {d : PyData} (r : Rp p H v d) (z : NoL d) : Rp p (upd H D o) v d :=
  r.upL hD (fun b o h _ n => by rw [upd_ne n]; exact h) z
end Mus

set_option maxRecDepth 100000
set_option maxHeartbeats 4000000
namespace Mus
open PySem L2
local macro_rules | `(tactic| walk_at "rd") => `(tactic| first
  | refine ⟨_, rfl, ?_⟩ | refine ⟨_, _, rfl, rfl, (⟨by decide, by decide, by decide⟩ : CPow _ _), ?_⟩ | refine ⟨_, _, rfl, rfl, ?_⟩ | refine ⟨rfl, ?_⟩ | refine iteT ?_ | refine iteF ?_
  | refine ⟨_, _, _, _, _, rfl, .ty _, Rp.ty (by assumption), kit_int _, ?_⟩ | refine ⟨_, _, _, _, _, rfl, .ty _, Rp.ty (by assumption), kit_bool _, ?_⟩
  | refine ⟨_, _, _, _, _, rfl, .ty _, Rp.ty (by assumption), kit_str _, ?_⟩ | refine ⟨_, _, _, _, _, rfl, .ty _, Rp.ty (by assumption), kit_tup _, ?_⟩)
local macro_rules | `(tactic| walk_at "cal") => `(tactic| first
  | refine ⟨_, _, _, _, _, rfl, (by assumption), ?_⟩ | refine ⟨_, _, _, _, _, rfl, (by assumption), (by assumption), ?_⟩)
local macro_rules | `(tactic| walk_at "sq") => `(tactic| first
  | refine ⟨_, _, rfl, Or.inr (SqT.of (by assumption)), ?_⟩ | refine ⟨_, _, _, _, rfl, rfl, SqT.of (by assumption), rfl, ?_⟩)
local macro_rules | `(tactic| walk_at "rds") => `(tactic| repeat first | walk_at "rd" | walk_at "cal" | walk_at "sq")
def top (i : Nat) : Stmt := PySem.Challenge.pw_mustercall_k01_members_and_view_ids.main.body.getD i (.Pass ⟨0, 0, 0, 0⟩)
structure Tx (mg : Str → Option Value) : Prop where
  b_len : mg "len" = none
  b_isinstance : mg "isinstance" = none
  b_int : mg "int" = none
  b_bool : mg "bool" = none
  b_tuple : mg "tuple" = none
  b_range : mg "range" = none
  b_min : mg "min" = none
  b_max : mg "max" = none
  b_sorted : mg "sorted" = none
  c_MOST_PROCESSES : ∃ t, mg "MOST_PROCESSES" = some (.int 12 t)
  c_MOST_NUMBER : ∃ t, mg "MOST_NUMBER" = some (.int 1000000000000 t)
section
variable {P : Program} {w : World} {K : PySem.W.Frag} {mg : Str → Option Value} {base : Heap}
theorem ansB {Q : VK} {H : Hp} {b c : Bool} (q : Q (.bl b) H) (e : b = c) : Q (.bl c) H := e ▸ q
theorem iB {A B : Prop} {b : Bool} (h1 : b = true → A) (h2 : b = false → B) : if b = true then A else B := by
  cases b
  · exact iteF (h2 rfl)
  · exact iteT (h1 rfl)
abbrev s_is_integer : Stmt := top 3
abbrev N_is_integer : List Str := ["value", "least", "greatest"]
abbrev P_is_integer : List Str := ["value", "least", "greatest"]
theorem sc_is_integer : FnScope N_is_integer P_is_integer (defScope s_is_integer) := ⟨rfl, rfl, rfl, by decide +kernel, rfl, by decide +kernel, by decide +kernel⟩
theorem ok_is_integer {f : Addr} {fd : FuncData} (T : Tx mg) (F : Fun K "is_integer" "is_integer" s_is_integer f fd) : FnOk P w K mg base CX0 (1) f fd P_is_integer (spI) := by
  have nd := sc_is_integer.nd
  refine F.ok sc_is_integer (fun vs H Q E h => ?_) (fun cdv A outer s H vs Q E hr h => ?_)
  · obtain ⟨_, _, _, _, _, rfl, _⟩ := h
    rfl
  · obtain ⟨p, v, d, a, b, rfl, hd, q⟩ := h
    refine ⟨_, (pss_cons (ps_if (PW.pt (pw_or (pt_not (pt_val (pe_callB call_isi (by rfl) T.b_isinstance (by decide +kernel) (pa_cons (pv 0) (pa_cons (pe_ty "int" T.b_int) pa_nil))))) (pw_or1 (pt_val (pe_callB call_isi (by rfl) T.b_isinstance (by decide +kernel) (pa_cons (pv 0) (pa_cons (pe_ty "bool" T.b_bool) pa_nil)))))))
        (pss_one (ps_ret pe_bl))
        pss_nil)
      (pss_one (ps_ret (pe_chain op_le op_le (pv 1) (pv 0) (pv 2))))), ?_⟩
    have hd' := hd
    cases hd <;> walk_at "rds"
    case int =>
      refine iB (fun h => ?_) (fun h => ?_)
      · walk_at "rds"
        exact ansB q (by simp [isInt, h])
      · exact ansB q (by simp [isInt, h])
    all_goals exact q
abbrev s_is_process : Stmt := top 5
abbrev N_is_process : List Str := ["count", "value"]
abbrev P_is_process : List Str := ["count", "value"]
theorem sc_is_process : FnScope N_is_process P_is_process (defScope s_is_process) := ⟨rfl, rfl, rfl, by decide +kernel, rfl, by decide +kernel, by decide +kernel⟩
theorem ok_is_process {f : Addr} {fd : FuncData} (T : Tx mg) (c_is_integer : DefOk P w K mg base CX0 "is_integer" P_is_integer 1 (spI))(F : Fun K "is_process" "is_process" s_is_process f fd) : FnOk P w K mg base CX0 (2) f fd P_is_process (spB2 isProc) := by
  have nd := sc_is_process.nd
  refine F.ok sc_is_process (fun vs H Q E h => ?_) (fun cdv A outer s H vs Q E hr h => ?_)
  · obtain ⟨_, _, _, _, _, rfl, _⟩ := h
    rfl
  · obtain ⟨p, u, v, c, d, rfl, hc, hd, q⟩ := h
    refine ⟨_, (pss_one (ps_ret (pe_and (pcall c_is_integer hr (pa_cons (pv 0) (pa_cons pe_int (pa_cons (pe_const T.c_MOST_PROCESSES) pa_nil)))) (pe_one (pcall c_is_integer hr (pa_cons (pv 1) (pa_cons pe_int (pa_cons (pe_op op_sub (pv 0) pe_int) pa_nil)))))))), ?_⟩
    walk_at "rds"
    refine iB (fun h => ?_) (fun h => ?_)
    · obtain ⟨n, rfl, h1, h2⟩ := isInt_int h
      cases hc
      walk_at "rds"
      exact ansB q (by simp [isProc, h1, h2])
    · refine ansB q ?_
      cases c <;> first | rfl | (rename_i n; have h0 : (decide (1 ≤ n) && decide (n ≤ 12)) = false := h; simp only [isProc, h0, Bool.false_and])
/-- a tuple of two | of another length, or something else -/
theorem pairs (d : PyData) : (∃ x y, d = .tuple [x, y]) ∨ ((∃ ds, d = .tuple ds ∧ ds.length ≠ 2) ∨ dTup d = false) := by
  match d with
  | .none | .bool _ | .int _ | .str _ | .list _ | .dict _ => exact .inr (.inr rfl)
  | .tuple [] | .tuple [_] | .tuple (_ :: _ :: _ :: _) => exact .inr (.inl ⟨_, rfl, by simp⟩)
  | .tuple [x, y] => exact .inl ⟨x, y, rfl⟩
theorem isMem_no {c d : PyData} (h : (∃ ds, d = .tuple ds ∧ ds.length ≠ 2) ∨ dTup d = false) : isMem c d = false := by
  unfold isMem
  split
  · simp [dTup] at h
  · rfl
theorem isVid_no {c d : PyData} (h : (∃ ds, d = .tuple ds ∧ ds.length ≠ 2) ∨ dTup d = false) : isVid c d = false := by
  unfold isVid
  split
  · simp [dTup] at h
  · rfl
theorem vint_ne {a b : Int} (h : a ≠ b) : ¬ V.int a = V.int b := fun e => h (V.int.inj e)
abbrev s_is_member : Stmt := top 6
abbrev N_is_member : List Str := ["count", "value"]
abbrev P_is_member : List Str := ["count", "value"]
theorem sc_is_member : FnScope N_is_member P_is_member (defScope s_is_member) := ⟨rfl, rfl, rfl, by decide +kernel, rfl, by decide +kernel, by decide +kernel⟩
theorem ok_is_member {f : Addr} {fd : FuncData} (T : Tx mg) (c_is_integer : DefOk P w K mg base CX0 "is_integer" P_is_integer 1 (spI)) (c_is_process : DefOk P w K mg base CX0 "is_process" P_is_process 2 (spB2 isProc))(F : Fun K "is_member" "is_member" s_is_member f fd) : FnOk P w K mg base CX0 (3) f fd P_is_member (spB2 isMem) := by
  have nd := sc_is_member.nd
  refine F.ok sc_is_member (fun vs H Q E h => ?_) (fun cdv A outer s H vs Q E hr h => ?_)
  · obtain ⟨_, _, _, _, _, rfl, _⟩ := h
    rfl
  · obtain ⟨p, u, v, c, d, rfl, hc, hd, q⟩ := h
    refine ⟨_, (pss_cons (ps_if (PW.pt (pw_or (pt_not (pt_val (pe_callB call_isi (by rfl) T.b_isinstance (by decide +kernel) (pa_cons (pv 1) (pa_cons (pe_ty "tuple" T.b_tuple) pa_nil))))) (pw_or1 (pt_cmpR op_ne (pe_callB call_len_seq (by rfl) T.b_len (by decide +kernel) (pa_cons (pv 1) pa_nil)) pe_int (nomark _)))))
        (pss_one (ps_ret pe_bl))
        pss_nil)
      (pss_one (ps_ret (pe_and (pcall c_is_process hr (pa_cons (pv 0) (pa_cons (pe_ix ix_tup (pv 1) pe_int (fun _ _ => rfl)) pa_nil))) (pe_one (pcall c_is_integer hr (pa_cons (pe_ix ix_tup (pv 1) pe_int (fun _ _ => rfl)) (pa_cons pe_int (pa_cons (pe_const T.c_MOST_NUMBER) pa_nil))))))))), ?_⟩
    have hd' := hd
    rcases pairs d with ⟨x, y, rfl⟩ | hno
    · obtain _ | _ | _ | _ | _ | @⟨a, xs, _, ha, np, hw, hr⟩ := hd
      obtain _ | ⟨hx, _ | ⟨hy, _⟩⟩ := hr
      cases ‹Rps p H _ []›
      walk_at "rds"
      refine iB (fun h => ?_) (fun h => ?_)
      · walk_at "rds"
        exact ansB q (by simp [isMem, h])
      · exact ansB q (by simp [isMem, h])
    · have e := isMem_no (c := c) hno
      rw [e] at q
      rcases hno with ⟨ds, rfl, hl⟩ | hno
      · obtain _ | _ | _ | _ | _ | @⟨a, xs, _, ha, np, hw, hr⟩ := hd
        have hl2 := hr.length
        walk_at "rds"
        refine nT (vint_ne (by omega)) ?_
        walk_at "rds"
        exact q
      · cases hd <;> simp [dTup] at hno <;> walk_at "rds" <;> exact q
abbrev s_is_view_id : Stmt := top 8
abbrev N_is_view_id : List Str := ["count", "value"]
abbrev P_is_view_id : List Str := ["count", "value"]
theorem sc_is_view_id : FnScope N_is_view_id P_is_view_id (defScope s_is_view_id) := ⟨rfl, rfl, rfl, by decide +kernel, rfl, by decide +kernel, by decide +kernel⟩
theorem ok_is_view_id {f : Addr} {fd : FuncData} (T : Tx mg) (c_is_integer : DefOk P w K mg base CX0 "is_integer" P_is_integer 1 (spI)) (c_is_member : DefOk P w K mg base CX0 "is_member" P_is_member 3 (spB2 isMem))(F : Fun K "is_view_id" "is_view_id" s_is_view_id f fd) : FnOk P w K mg base CX0 (4) f fd P_is_view_id (spB2 isVid) := by
  have nd := sc_is_view_id.nd
  refine F.ok sc_is_view_id (fun vs H Q E h => ?_) (fun cdv A outer s H vs Q E hr h => ?_)
  · obtain ⟨_, _, _, _, _, rfl, _⟩ := h
    rfl
  · obtain ⟨p, u, v, c, d, rfl, hc, hd, q⟩ := h
    refine ⟨_, (pss_cons (ps_if (PW.pt (pw_or (pt_not (pt_val (pe_callB call_isi (by rfl) T.b_isinstance (by decide +kernel) (pa_cons (pv 1) (pa_cons (pe_ty "tuple" T.b_tuple) pa_nil))))) (pw_or1 (pt_cmpR op_ne (pe_callB call_len_seq (by rfl) T.b_len (by decide +kernel) (pa_cons (pv 1) pa_nil)) pe_int (nomark _)))))
        (pss_one (ps_ret pe_bl))
        pss_nil)
      (pss_one (ps_ret (pe_and (pcall c_is_integer hr (pa_cons (pe_ix ix_tup (pv 1) pe_int (fun _ _ => rfl)) (pa_cons pe_int (pa_cons (pe_const T.c_MOST_NUMBER) pa_nil)))) (pe_one (pcall c_is_member hr (pa_cons (pv 0) (pa_cons (pe_ix ix_tup (pv 1) pe_int (fun _ _ => rfl)) pa_nil)))))))), ?_⟩
    have hd' := hd
    rcases pairs d with ⟨x, y, rfl⟩ | hno
    · obtain _ | _ | _ | _ | _ | @⟨a, xs, _, ha, np, hw, hr⟩ := hd
      obtain _ | ⟨hx, _ | ⟨hy, _⟩⟩ := hr
      cases ‹Rps p H _ []›
      walk_at "rds"
      refine iB (fun h => ?_) (fun h => ?_)
      · walk_at "rds"
        exact ansB q (by simp [isVid, h])
      · exact ansB q (by simp [isVid, h])
    · have e := isVid_no (c := c) hno
      rw [e] at q
      rcases hno with ⟨ds, rfl, hl⟩ | hno
      · obtain _ | _ | _ | _ | _ | @⟨a, xs, _, ha, np, hw, hr⟩ := hd
        have hl2 := hr.length
        walk_at "rds"
        refine nT (vint_ne (by omega)) ?_
        walk_at "rds"
        exact q
      · cases hd <;> simp [dTup] at hno <;> walk_at "rds" <;> exact q
theorem isMems_no {c d : PyData} (h : dTup d = false) : isMems c d = false := by cases d <;> first | rfl | cases h
theorem drop_cons {α : Type} {xs : List α} {i : Nat} {x : α} (h : xs[i]? = some x) : xs.drop i = x :: xs.drop (i + 1) := by
  obtain ⟨hi, e⟩ := List.getElem?_eq_some_iff.mp h
  rw [List.drop_eq_getElem_cons hi, e]
abbrev s_is_members : Stmt := top 7
abbrev N_is_members : List Str := ["count", "value", "last_process", "member"]
abbrev P_is_members : List Str := ["count", "value"]
theorem sc_is_members : FnScope N_is_members P_is_members (defScope s_is_members) := ⟨rfl, rfl, rfl, by decide +kernel, rfl, by decide +kernel, by decide +kernel⟩
theorem ok_is_members {f : Addr} {fd : FuncData} (T : Tx mg) (c_is_member : DefOk P w K mg base CX0 "is_member" P_is_member 3 (spB2 isMem))(F : Fun K "is_members" "is_members" s_is_members f fd) : FnOk P w K mg base CX0 (4) f fd P_is_members (spB2 isMems) := by
  have nd := sc_is_members.nd
  refine F.ok sc_is_members (fun vs H Q E h => ?_) (fun cdv A outer s H vs Q E hr h => ?_)
  · obtain ⟨_, _, _, _, _, rfl, _⟩ := h
    rfl
  · obtain ⟨p, u, v, c, d, rfl, hc, hd, q⟩ := h
    refine ⟨_, (pss_cons (ps_if (PW.pt (pw_or (pt_not (pt_val (pe_callB call_isi (by rfl) T.b_isinstance (by decide +kernel) (pa_cons (pv 1) (pa_cons (pe_ty "tuple" T.b_tuple) pa_nil))))) (pw_or1 (pt_cmpR op_eq (pe_callB call_len_seq (by rfl) T.b_len (by decide +kernel) (pa_cons (pv 1) pa_nil)) pe_int (nomark _)))))
        (pss_one (ps_ret pe_bl))
        pss_nil)
      (pss_cons (ps_set (i := 2) nd rfl (Or.inl rfl) (pe_un un_neg pe_int))
      (pss_cons (ps_for PassesOwn.never rfl (pi_tup (pv 1)) (pg_name (i := 3) nd rfl (Or.inl rfl))
        (pss_cons (ps_if (PW.pt (pw_or (pt_not (pt_val (pcall c_is_member hr (pa_cons (pv 0) (pa_cons (pv 3) pa_nil))))) (pw_or1 (pt_cmpR op_le (pe_ix ix_tup (pv 3) pe_int (fun _ _ => rfl)) (pv 2) (nomark _)))))
          (pss_one (ps_ret pe_bl))
          pss_nil)
        (pss_one (ps_set (i := 2) nd rfl (Or.inl rfl) (pe_ix ix_tup (pv 3) pe_int (fun _ _ => rfl))))))
      (pss_one (ps_ret pe_bl))))), ?_⟩
    have hd' := hd
    cases hd
    case tup a xs ds ha np hw hr =>
      cases hr with
      | nil =>
        walk_at "rds"
        exact q
      | @cons v vs d ds h1 h2 =>
        have hr : Rps p H (v :: vs) (d :: ds) := .cons h1 h2
        walk_at "rds"
        refine ⟨⟨_, SqT.of ha⟩, for_tup (K := K) (a := a) (xs := v :: vs) (fun i σ H' => H' = H ∧ ∃ (l : Int) (x : Option V), σ = [some u, some (.ref a), some (.int l), x] ∧ memsFrom c (-1) (d :: ds) = memsFrom c l ((d :: ds).drop i)) ⟨rfl, -1, none, rfl, rfl⟩ ?_ ?_ ?_⟩
        · rintro i σ H' _ ⟨rfl, _⟩
          exact SqT.of ha
        · rintro i x σ H' hx ⟨rfl, l, y, rfl, hm⟩
          obtain ⟨e, he, re⟩ := hr.at hx
          rw [drop_cons he] at hm
          walk_at "rds"
          refine iB (fun h => ?_) (fun h => ?_)
          · have h' : isMem c e = false := by simpa using h
            exact ansB q (hm.trans (by simp [memsFrom, h']))
          · have h' : isMem c e = true := by simpa using h
            obtain ⟨n, i0, l0, rfl, rfl, _⟩ := isMem_int h'
            have re' := re
            obtain _ | _ | _ | _ | _ | @⟨a2, xs2, _, ha2, np2, hw2, hr2⟩ := re
            obtain _ | ⟨hx2, _ | ⟨hy2, hz2⟩⟩ := hr2
            cases hz2
            cases hx2
            walk_at "rds"
            refine iB (fun h2 => ?_) (fun h2 => ?_)
            · have h3 : i0 ≤ l := by simpa using h2
              exact ansB q (hm.trans (by show (isMem _ _ && decide (l < i0) && _) = false; rw [decide_eq_false (show ¬ l < i0 by omega), Bool.and_false, Bool.false_and]))
            · have h3 : l < i0 := by simpa using h2
              walk_at "rds"
              exact ⟨_, _, rfl, hm.trans (by simp [memsFrom, procOf, h', h3])⟩
        · rintro σ H' ⟨rfl, l, y, rfl, hm⟩
          have hl := hr.length
          rw [hl, List.drop_length] at hm
          exact ansB q hm
    all_goals
      walk_at "rds"
      exact q
end
end Mus

set_option maxRecDepth 100000
set_option maxHeartbeats 4000000
namespace Mus
open PySem L2
local macro_rules | `(tactic| walk_at "rd") => `(tactic| first
  | refine ⟨_, rfl, ?_⟩ | refine ⟨_, _, rfl, rfl, (⟨by decide, by decide, by decide⟩ : CPow _ _), ?_⟩ | refine ⟨_, _, rfl, rfl, ?_⟩ | refine ⟨rfl, ?_⟩ | refine iteT ?_ | refine iteF ?_
  | refine ⟨_, _, _, _, _, rfl, .ty _, Rp.ty (by assumption), kit_int _, ?_⟩ | refine ⟨_, _, _, _, _, rfl, .ty _, Rp.ty (by assumption), kit_bool _, ?_⟩
  | refine ⟨_, _, _, _, _, rfl, .ty _, Rp.ty (by assumption), kit_str _, ?_⟩ | refine ⟨_, _, _, _, _, rfl, .ty _, Rp.ty (by assumption), kit_tup _, ?_⟩)
local macro_rules | `(tactic| walk_at "cal") => `(tactic| first
  | refine ⟨_, _, _, _, _, rfl, (by assumption), ?_⟩ | refine ⟨_, _, _, _, _, rfl, (by assumption), (by assumption), ?_⟩)
local macro_rules | `(tactic| walk_at "sq") => `(tactic| first
  | refine ⟨_, _, rfl, Or.inr (SqT.of (by assumption)), ?_⟩ | refine ⟨_, _, _, _, rfl, rfl, SqT.of (by assumption), rfl, ?_⟩)
local macro_rules | `(tactic| walk_at "rds") => `(tactic| repeat first | walk_at "rd" | walk_at "cal" | walk_at "sq")

section
variable {P : Program} {w : World} {K : PySem.W.Frag} {mg : Str → Option Value} {base : Heap}
abbrev s__law_bag : Stmt := top 10
abbrev N__law_bag : List Str := ["script", "k", "cell"]
abbrev P__law_bag : List Str := ["script", "k"]
theorem sc__law_bag : FnScope N__law_bag P__law_bag (defScope s__law_bag) := ⟨rfl, rfl, rfl, by decide +kernel, rfl, by decide +kernel, by decide +kernel⟩
theorem ok__law_bag {f : Addr} {fd : FuncData} (T : Tx mg) (F : Fun K "_law_bag" "_law_bag" s__law_bag f fd) : FnOk P w K mg base CX0 (1) f fd P__law_bag (sp_bag K) := by
  have nd := sc__law_bag.nd
  refine F.ok sc__law_bag (fun vs H Q E h => ?_) (fun cdv A outer s H vs Q E hr h => ?_)
  · obtain ⟨_, _, _, rfl, _⟩ := h
    rfl
  · obtain ⟨a, ns, k, rfl, hS, q⟩ := h
    have hs := sl
    refine ⟨_, (pss_cons (ps_set (i := 2) nd rfl (Or.inl rfl) pe_int)
      (pss_cons (ps_if (pt_cmpR op_lt (pv 1) (pe_callB call_len_seq (by rfl) T.b_len (by decide +kernel) (pa_cons (pv 0) pa_nil)) (nomark _))
        (pss_one (ps_set (i := 2) nd rfl (Or.inl rfl) (pe_callTy call_int1 (by rfl) T.b_int (by decide +kernel) (pa_cons (pe_ix ix_list (pv 0) (pv 1) (fun _ _ => rfl)) pa_nil))))
        pss_nil)
      (pss_cons (ps_if (pt_cmpR op_ge (pv 2) (pe_op op_pow pe_int pe_int) (nomark _))
        (pss_one (ps_ret (pe_lst (pa_cons (pv 2) (pa_cons (pv 2) (pa_cons (pv 1) pa_nil))))))
        pss_nil)
      (pss_one (ps_ret (pe_lst (pa_cons pe_int (pa_cons (pv 2) (pa_cons (pv 1) pa_nil))))))))), ?_⟩
    have hl : (ns.map V.int).length = ns.length := List.length_map _
    have fin : ∀ x y : Int, ∀ p, H p = none → Q (.ref p) (upd H p (.lst [.int x, .int y, .int k])) := fun x y p np => q p _ np (same_new np _) ⟨x, y, upd_same⟩
    refine ⟨_, rfl, _, rfl, a, _, rfl, .inl hS, _, _, rfl, rfl, _, rfl, ?_⟩
    by_cases hk : (k : Int) < (((ns.map V.int).length : Nat) : Int)
    · refine dT hk ?_
      have hk2 : k < ns.length := by omega
      refine ⟨_, rfl, _, rfl, a, _, _, .int ns[k], rfl, rfl, hS, atI_nat (by rw [List.getElem?_map, List.getElem?_eq_getElem hk2]; rfl), .inl ⟨_, rfl, ?_⟩⟩
      refine ⟨_, rfl, _, _, rfl, rfl, ⟨by decide, by decide, by decide⟩, _, _, rfl, rfl, _, rfl, ?_⟩
      refine ite2 (fun _ => ?_) (fun _ => ?_)
      · exact ⟨_, rfl, _, rfl, _, rfl, by show 3 ≤ sizeLine; omega, fun p np => fin _ _ p np⟩
      · exact ⟨_, rfl, _, rfl, by show 3 ≤ sizeLine; omega, fun p np => fin _ _ p np⟩
    · refine dF hk ?_
      refine ⟨_, rfl, _, _, rfl, rfl, ⟨by decide, by decide, by decide⟩, _, _, rfl, rfl, _, rfl, ?_⟩
      refine ite2 (fun _ => ?_) (fun _ => ?_)
      · exact ⟨_, rfl, _, rfl, _, rfl, by show 3 ≤ sizeLine; omega, fun p np => fin _ _ p np⟩
      · exact ⟨_, rfl, _, rfl, by show 3 ≤ sizeLine; omega, fun p np => fin _ _ p np⟩
abbrev s__law_draw : Stmt := top 11
abbrev N__law_draw : List Str := ["bag", "many", "seed", "rest"]
abbrev P__law_draw : List Str := ["bag", "many"]
theorem sc__law_draw : FnScope N__law_draw P__law_draw (defScope s__law_draw) := ⟨rfl, rfl, rfl, by decide +kernel, rfl, by decide +kernel, by decide +kernel⟩
theorem ok__law_draw {f : Addr} {fd : FuncData} (T : Tx mg) (F : Fun K "_law_draw" "_law_draw" s__law_draw f fd) : FnOk P w K mg base CX0 (1) f fd P__law_draw (sp_draw) := by
  have nd := sc__law_draw.nd
  refine F.ok sc__law_draw (fun vs H Q E h => ?_) (fun cdv A outer s H vs Q E hr h => ?_)
  · obtain ⟨_, _, _, rfl, _⟩ := h
    rfl
  · obtain ⟨p, c, m, rfl, ⟨x, y, hp⟩, hm, hm2, q⟩ := h
    refine ⟨_, (pss_cons (ps_if (pt_cmpR op_eq (pe_ix ix_list (pv 0) pe_int (fun _ _ => rfl)) pe_int (nomark _))
        (pss_cons (ps_set (i := 2) nd rfl (Or.inl rfl) (pe_op op_mod (pe_callTy call_int1 (by rfl) T.b_int (by decide +kernel) (pa_cons (pe_op op_add (pe_op op_add (pe_op op_mul (pe_ix ix_list (pv 0) pe_int (fun _ _ => rfl)) pe_int) (pe_op op_mul (pe_ix ix_list (pv 0) pe_int (fun _ _ => rfl)) pe_int)) pe_int) pa_nil)) pe_int))
        (pss_cons (ps_asg (pe_op op_add (pe_op op_mul (pv 2) pe_int) (pe_op op_mod (pe_callTy call_int1 (by rfl) T.b_int (by decide +kernel) (pa_cons (pe_op op_add (pe_op op_mul (pv 2) (pv 2)) (pe_op op_mul (pe_ix ix_list (pv 0) pe_int (fun _ _ => rfl)) pe_int)) pa_nil)) pe_int)) (pg_sub (pv 0) pe_int set_list))
        (pss_one (ps_asg (pv 2) (pg_sub (pv 0) pe_int set_list)))))
        pss_nil)
      (pss_cons (ps_set (i := 3) nd rfl (Or.inl rfl) (pe_ix ix_list (pv 0) pe_int (fun _ _ => rfl)))
      (pss_cons (ps_asg (pe_op op_fdivW (pv 3) (pv 1)) (pg_sub (pv 0) pe_int set_list))
      (pss_one (ps_ret (pe_op op_mod (pe_callTy call_int1 (by rfl) T.b_int (by decide +kernel) (pa_cons (pv 3) pa_nil)) (pv 1))))))), ?_⟩
    have wd : CDivW 0 m := wide_div (i := 0) hm hm2 (by omega) (by omega)
    refine ⟨_, rfl, p, _, _, _, rfl, rfl, SqL.of hp, rfl, rfl, _, rfl, ?_⟩
    by_cases h0 : x = 0
    · subst h0
      refine dT rfl ?_
      refine ⟨_, rfl, p, _, _, _, rfl, rfl, SqL.of hp, rfl, _, _, rfl, rfl, .inr ⟨by decide, by decide⟩, ?_⟩
      refine ⟨_, rfl, p, _, _, _, rfl, rfl, SqL.of hp, rfl, _, _, rfl, rfl, .inr ⟨by decide, by decide⟩, _, _, rfl, rfl, _, _, rfl, rfl, .inl ⟨_, rfl, _, _, rfl, rfl, (by show (0 : Int) < 2147483647; decide), ?_⟩⟩
      have b0 : 0 ≤ (y * 48271 + c * 69621 + 11) % 2147483647 := Int.emod_nonneg _ (by decide)
      have b1 : (y * 48271 + c * 69621 + 11) % 2147483647 < 2147483647 := Int.emod_lt_of_pos _ (by decide)
      have bb : -(2 ^ 64) < (y * 48271 + c * 69621 + 11) % 2147483647 ∧ (y * 48271 + c * 69621 + 11) % 2147483647 < 2 ^ 64 := ⟨by omega, by omega⟩
      refine ⟨_, rfl, _, _, rfl, rfl, .inl bb, _, rfl, _, rfl, _, _, rfl, rfl, .inl bb, _, rfl, p, _, _, _, rfl, rfl, SqL.of hp, rfl, _, _, rfl, rfl, .inr ⟨by decide, by decide⟩, _, _, rfl, rfl, .inl ⟨_, rfl, _, _, rfl, rfl, (by show (0 : Int) < 2147483629; decide), _, _, rfl, rfl, ?_⟩⟩
      refine ⟨_, rfl, p, _, _, 0, rfl, rfl, hp, rfl, ?_⟩
      refine ⟨_, rfl, _, rfl, p, _, _, 1, rfl, rfl, upd_same, rfl, ?_⟩
      refine ⟨_, rfl, p, _, _, _, rfl, rfl, SqL.of upd_same, rfl, ?_⟩
      refine ⟨_, rfl, _, rfl, _, _, rfl, rfl, wd, _, rfl, p, _, _, 0, rfl, rfl, upd_same, rfl, ?_⟩
      refine ⟨_, rfl, .inl ⟨_, rfl, _, rfl, _, _, rfl, rfl, hm, ?_⟩⟩
      exact q _ _ (Int.emod_nonneg _ (by omega)) (Int.emod_lt_of_pos _ hm) ((but_upd _).trans ((but_upd _).trans (but_upd _))) ⟨_, _, upd_same⟩
    · refine dF (by intro z; cases z; exact h0 rfl) ?_
      refine ⟨_, rfl, p, _, _, _, rfl, rfl, SqL.of hp, rfl, ?_⟩
      refine ⟨_, rfl, _, rfl, _, _, rfl, rfl, wd, _, rfl, p, _, _, 0, rfl, rfl, hp, rfl, ?_⟩
      refine ⟨_, rfl, .inl ⟨_, rfl, _, rfl, _, _, rfl, rfl, hm, ?_⟩⟩
      exact q _ _ (Int.emod_nonneg _ (by omega)) (Int.emod_lt_of_pos _ hm) (but_upd _) ⟨_, _, upd_same⟩

abbrev s__law_is_int : Stmt := top 12
abbrev N__law_is_int : List Str := ["value", "least", "most"]
abbrev P__law_is_int : List Str := ["value", "least", "most"]
theorem sc__law_is_int : FnScope N__law_is_int P__law_is_int (defScope s__law_is_int) := ⟨rfl, rfl, rfl, by decide +kernel, rfl, by decide +kernel, by decide +kernel⟩
theorem ok__law_is_int {f : Addr} {fd : FuncData} (T : Tx mg) (F : Fun K "_law_is_int" "_law_is_int" s__law_is_int f fd) : FnOk P w K mg base CX0 (1) f fd P__law_is_int (spI) := by
  have nd := sc__law_is_int.nd
  refine F.ok sc__law_is_int (fun vs H Q E h => ?_) (fun cdv A outer s H vs Q E hr h => ?_)
  · obtain ⟨_, _, _, _, _, rfl, _⟩ := h
    rfl
  · obtain ⟨p, v, d, a, b, rfl, hd, q⟩ := h
    refine ⟨_, (pss_one (ps_ret (pe_and (pe_callB call_isi (by rfl) T.b_isinstance (by decide +kernel) (pa_cons (pv 0) (pa_cons (pe_ty "int" T.b_int) pa_nil))) (pe_and (pe_not (pe_callB call_isi (by rfl) T.b_isinstance (by decide +kernel) (pa_cons (pv 0) (pa_cons (pe_ty "bool" T.b_bool) pa_nil)))) (pe_and (pe_cmpR op_le (pv 1) (pv 0) (nomark _)) (pe_one (pe_cmpR op_le (pv 0) (pv 2) (nomark _)))))))), ?_⟩
    have hd' := hd
    cases hd <;> walk_at "rds"
    case int =>
      refine iB (fun h => ?_) (fun h => ?_)
      · walk_at "rds"
        exact ansB q (by simp [isInt, h])
      · exact ansB q (by simp [isInt, h])
    all_goals exact q
abbrev s__law_is_process : Stmt := top 17
abbrev N__law_is_process : List Str := ["count", "value"]
abbrev P__law_is_process : List Str := ["count", "value"]
theorem sc__law_is_process : FnScope N__law_is_process P__law_is_process (defScope s__law_is_process) := ⟨rfl, rfl, rfl, by decide +kernel, rfl, by decide +kernel, by decide +kernel⟩
theorem ok__law_is_process {f : Addr} {fd : FuncData} (T : Tx mg) (c__law_is_int : DefOk P w K mg base CX0 "_law_is_int" P__law_is_int 1 (spI))(F : Fun K "_law_is_process" "_law_is_process" s__law_is_process f fd) : FnOk P w K mg base CX0 (2) f fd P__law_is_process (spB2 isProc) := by
  have nd := sc__law_is_process.nd
  refine F.ok sc__law_is_process (fun vs H Q E h => ?_) (fun cdv A outer s H vs Q E hr h => ?_)
  · obtain ⟨_, _, _, _, _, rfl, _⟩ := h
    rfl
  · obtain ⟨p, u, v, c, d, rfl, hc, hd, q⟩ := h
    refine ⟨_, (pss_one (ps_ret (pe_and (pcall c__law_is_int hr (pa_cons (pv 0) (pa_cons pe_int (pa_cons pe_int pa_nil)))) (pe_one (pcall c__law_is_int hr (pa_cons (pv 1) (pa_cons pe_int (pa_cons (pe_op op_sub (pv 0) pe_int) pa_nil)))))))), ?_⟩
    walk_at "rds"
    refine iB (fun h => ?_) (fun h => ?_)
    · obtain ⟨n, rfl, h1, h2⟩ := isInt_int h
      cases hc
      walk_at "rds"
      exact ansB q (by simp [isProc, h1, h2])
    · refine ansB q ?_
      cases c <;> first | rfl | (rename_i n; have h0 : (decide (1 ≤ n) && decide (n ≤ 12)) = false := h; simp only [isProc, h0, Bool.false_and])
abbrev s__law_is_member : Stmt := top 18
abbrev N__law_is_member : List Str := ["count", "value"]
abbrev P__law_is_member : List Str := ["count", "value"]
theorem sc__law_is_member : FnScope N__law_is_member P__law_is_member (defScope s__law_is_member) := ⟨rfl, rfl, rfl, by decide +kernel, rfl, by decide +kernel, by decide +kernel⟩
theorem ok__law_is_member {f : Addr} {fd : FuncData} (T : Tx mg) (c__law_is_int : DefOk P w K mg base CX0 "_law_is_int" P__law_is_int 1 (spI)) (c__law_is_process : DefOk P w K mg base CX0 "_law_is_process" P__law_is_process 2 (spB2 isProc))(F : Fun K "_law_is_member" "_law_is_member" s__law_is_member f fd) : FnOk P w K mg base CX0 (3) f fd P__law_is_member (spB2 isMem) := by
  have nd := sc__law_is_member.nd
  refine F.ok sc__law_is_member (fun vs H Q E h => ?_) (fun cdv A outer s H vs Q E hr h => ?_)
  · obtain ⟨_, _, _, _, _, rfl, _⟩ := h
    rfl
  · obtain ⟨p, u, v, c, d, rfl, hc, hd, q⟩ := h
    refine ⟨_, (pss_cons (ps_if (PW.pt (pw_or (pt_not (pt_val (pe_callB call_isi (by rfl) T.b_isinstance (by decide +kernel) (pa_cons (pv 1) (pa_cons (pe_ty "tuple" T.b_tuple) pa_nil))))) (pw_or1 (pt_cmpR op_ne (pe_callB call_len_seq (by rfl) T.b_len (by decide +kernel) (pa_cons (pv 1) pa_nil)) pe_int (nomark _)))))
        (pss_one (ps_ret pe_bl))
        pss_nil)
      (pss_one (ps_ret (pe_and (pcall c__law_is_process hr (pa_cons (pv 0) (pa_cons (pe_ix ix_tup (pv 1) pe_int (fun _ _ => rfl)) pa_nil))) (pe_one (pcall c__law_is_int hr (pa_cons (pe_ix ix_tup (pv 1) pe_int (fun _ _ => rfl)) (pa_cons pe_int (pa_cons (pe_op op_pow pe_int pe_int) pa_nil))))))))), ?_⟩
    have hd' := hd
    rcases pairs d with ⟨x, y, rfl⟩ | hno
    · obtain _ | _ | _ | _ | _ | @⟨a, xs, _, ha, np, hw, hr⟩ := hd
      obtain _ | ⟨hx, _ | ⟨hy, _⟩⟩ := hr
      cases ‹Rps p H _ []›
      walk_at "rds"
      refine iB (fun h => ?_) (fun h => ?_)
      · walk_at "rds"
        exact ansB q (by simp [isMem, h])
      · exact ansB q (by simp [isMem, h])
    · have e := isMem_no (c := c) hno
      rw [e] at q
      rcases hno with ⟨ds, rfl, hl⟩ | hno
      · obtain _ | _ | _ | _ | _ | @⟨a, xs, _, ha, np, hw, hr⟩ := hd
        have hl2 := hr.length
        walk_at "rds"
        refine nT (vint_ne (by omega)) ?_
        walk_at "rds"
        exact q
      · cases hd <;> simp [dTup] at hno <;> walk_at "rds" <;> exact q
abbrev s__law_is_view_id : Stmt := top 20
abbrev N__law_is_view_id : List Str := ["count", "value"]
abbrev P__law_is_view_id : List Str := ["count", "value"]
theorem sc__law_is_view_id : FnScope N__law_is_view_id P__law_is_view_id (defScope s__law_is_view_id) := ⟨rfl, rfl, rfl, by decide +kernel, rfl, by decide +kernel, by decide +kernel⟩
theorem ok__law_is_view_id {f : Addr} {fd : FuncData} (T : Tx mg) (c__law_is_int : DefOk P w K mg base CX0 "_law_is_int" P__law_is_int 1 (spI)) (c__law_is_member : DefOk P w K mg base CX0 "_law_is_member" P__law_is_member 3 (spB2 isMem))(F : Fun K "_law_is_view_id" "_law_is_view_id" s__law_is_view_id f fd) : FnOk P w K mg base CX0 (4) f fd P__law_is_view_id (spB2 isVid) := by
  have nd := sc__law_is_view_id.nd
  refine F.ok sc__law_is_view_id (fun vs H Q E h => ?_) (fun cdv A outer s H vs Q E hr h => ?_)
  · obtain ⟨_, _, _, _, _, rfl, _⟩ := h
    rfl
  · obtain ⟨p, u, v, c, d, rfl, hc, hd, q⟩ := h
    refine ⟨_, (pss_cons (ps_if (PW.pt (pw_or (pt_not (pt_val (pe_callB call_isi (by rfl) T.b_isinstance (by decide +kernel) (pa_cons (pv 1) (pa_cons (pe_ty "tuple" T.b_tuple) pa_nil))))) (pw_or1 (pt_cmpR op_ne (pe_callB call_len_seq (by rfl) T.b_len (by decide +kernel) (pa_cons (pv 1) pa_nil)) pe_int (nomark _)))))
        (pss_one (ps_ret pe_bl))
        pss_nil)
      (pss_one (ps_ret (pe_and (pcall c__law_is_int hr (pa_cons (pe_ix ix_tup (pv 1) pe_int (fun _ _ => rfl)) (pa_cons pe_int (pa_cons (pe_op op_pow pe_int pe_int) pa_nil)))) (pe_one (pcall c__law_is_member hr (pa_cons (pv 0) (pa_cons (pe_ix ix_tup (pv 1) pe_int (fun _ _ => rfl)) pa_nil)))))))), ?_⟩
    have hd' := hd
    rcases pairs d with ⟨x, y, rfl⟩ | hno
    · obtain _ | _ | _ | _ | _ | @⟨a, xs, _, ha, np, hw, hr⟩ := hd
      obtain _ | ⟨hx, _ | ⟨hy, _⟩⟩ := hr
      cases ‹Rps p H _ []›
      walk_at "rds"
      refine iB (fun h => ?_) (fun h => ?_)
      · have h : isInt x 0 1000000000000 = true := h
        walk_at "rds"
        exact ansB q (by simp [isVid, h])
      · have h : isInt x 0 1000000000000 = false := h
        exact ansB q (by simp [isVid, h])
    · have e := isVid_no (c := c) hno
      rw [e] at q
      rcases hno with ⟨ds, rfl, hl⟩ | hno
      · obtain _ | _ | _ | _ | _ | @⟨a, xs, _, ha, np, hw, hr⟩ := hd
        have hl2 := hr.length
        walk_at "rds"
        refine nT (vint_ne (by omega)) ?_
        walk_at "rds"
        exact q
      · cases hd <;> simp [dTup] at hno <;> walk_at "rds" <;> exact q

theorem mf_yes {c e : PyData} {l : Int} {ds : List PyData} (h : isMem c e = true) (h2 : l < procOf e) : memsFrom c l (e :: ds) = memsFrom c (procOf e) ds := by
  show (isMem c e && decide (l < procOf e) && _) = _
  rw [h, decide_eq_true h2]; rfl
theorem mf_no {c e : PyData} {l : Int} {ds : List PyData} (h2 : ¬ l < procOf e) : memsFrom c l (e :: ds) = false := by
  show (isMem c e && decide (l < procOf e) && _) = _
  rw [decide_eq_false h2, Bool.and_false, Bool.false_and]
abbrev s__law_is_members : Stmt := top 19
abbrev N__law_is_members : List Str := ["count", "value", "k"]
abbrev P__law_is_members : List Str := ["count", "value"]
theorem sc__law_is_members : FnScope N__law_is_members P__law_is_members (defScope s__law_is_members) := ⟨rfl, rfl, rfl, by decide +kernel, rfl, by decide +kernel, by decide +kernel⟩
theorem ok__law_is_members {f : Addr} {fd : FuncData} (T : Tx mg) (c__law_is_member : DefOk P w K mg base CX0 "_law_is_member" P__law_is_member 3 (spB2 isMem))(F : Fun K "_law_is_members" "_law_is_members" s__law_is_members f fd) : FnOk P w K mg base CX0 (4) f fd P__law_is_members (spB2 isMems) := by
  have nd := sc__law_is_members.nd
  refine F.ok sc__law_is_members (fun vs H Q E h => ?_) (fun cdv A outer s H vs Q E hr h => ?_)
  · obtain ⟨_, _, _, _, _, rfl, _⟩ := h
    rfl
  · obtain ⟨p, u, v, c, d, rfl, hc, hd, q⟩ := h
    refine ⟨_, (pss_cons (ps_if (PW.pt (pw_or (pt_not (pt_val (pe_callB call_isi (by rfl) T.b_isinstance (by decide +kernel) (pa_cons (pv 1) (pa_cons (pe_ty "tuple" T.b_tuple) pa_nil))))) (pw_or1 (pt_cmpR op_eq (pe_callB call_len_seq (by rfl) T.b_len (by decide +kernel) (pa_cons (pv 1) pa_nil)) pe_int (nomark _)))))
        (pss_one (ps_ret pe_bl))
        pss_nil)
      (pss_cons (ps_for PassesOwn.never rfl (pi_range1 (by rfl) T.b_range (pa_cons (pe_callB call_len_seq (by rfl) T.b_len (by decide +kernel) (pa_cons (pv 1) pa_nil)) pa_nil)) (pg_name (i := 2) nd rfl (Or.inl rfl))
        (pss_cons (ps_if (pt_not (pt_val (pcall c__law_is_member hr (pa_cons (pv 0) (pa_cons (pe_ix ix_tup (pv 1) (pv 2) (fun _ _ => rfl)) pa_nil)))))
          (pss_one (ps_ret pe_bl))
          pss_nil)
        (pss_one (ps_if (PW.pt (pw_and (pt_cmpR op_gt (pv 2) pe_int (nomark _)) (pw_and1 (pt_cmpR op_ge (pe_ix ix_tup (pe_ix ix_tup (pv 1) (pe_op op_sub (pv 2) pe_int) (fun _ _ => rfl)) pe_int (fun _ _ => rfl)) (pe_ix ix_tup (pe_ix ix_tup (pv 1) (pv 2) (fun _ _ => rfl)) pe_int (fun _ _ => rfl)) (nomark _)))))
          (pss_one (ps_ret pe_bl))
          pss_nil))))
      (pss_one (ps_ret pe_bl)))), ?_⟩
    have hs := sl
    have hd' := hd
    cases hd
    case tup a xs ds ha np hw hr =>
      cases hr with
      | nil =>
        walk_at "rds"
        exact q
      | @cons v vs d ds h1 h2 =>
        have hr : Rps p H (v :: vs) (d :: ds) := .cons h1 h2
        walk_at "rds"
        have ed : ∀ i e, (d :: ds)[i]? = some e → (i = 0 ∨ 0 < i) := fun i _ _ => by omega
        refine ⟨by omega, by omega, for_range (lo := 0) (n := (v :: vs).length) (fun i σ H' => H' = H ∧ ∃ (l : Int) (x : Option V), σ = [some u, some (.ref a), x] ∧ memsFrom c (-1) (d :: ds) = memsFrom c l ((d :: ds).drop i) ∧ (i = 0 ∧ l = -1 ∨ ∃ j e, i = j + 1 ∧ (d :: ds)[j]? = some e ∧ isMem c e = true ∧ l = procOf e)) ⟨rfl, -1, none, rfl, rfl, .inl ⟨rfl, rfl⟩⟩ ?_ ?_⟩
        · rintro i σ H' hi ⟨rfl, l, y, rfl, hm, hj⟩
          obtain ⟨x, hx⟩ : ∃ x, (v :: vs)[i]? = some x := ⟨_, List.getElem?_eq_getElem hi⟩
          obtain ⟨e, he, re⟩ := hr.at hx
          rw [drop_cons he] at hm
          walk_at "rds"
          refine ⟨_, _, _, _, rfl, rfl, SqT.of ha, at_int (by omega) (by rw [show ((0 : Int) + (i : Int)).toNat = i by omega]; exact hx), ?_⟩
          walk_at "rds"
          refine iB (fun h => ?_) (fun h => ?_)
          · have h' : isMem c e = false := by simpa using h
            exact ansB q (hm.trans (by simp [memsFrom, h']))
          · have h' : isMem c e = true := by simpa using h
            walk_at "rds"
            rcases hj with ⟨rfl, rfl⟩ | ⟨j, e0, rfl, he0, hm0, rfl⟩
            · refine iB (fun h2 => ?_) (fun h2 => ?_)
              · exact absurd (of_decide_eq_true h2) (by omega)
              · obtain ⟨n, i0, l0, rfl, rfl, h5⟩ := isMem_int h'
                exact ⟨rfl, _, _, rfl, hm.trans (mf_yes h' (show -1 < i0 by omega)), .inr ⟨0, _, rfl, he, h', rfl⟩⟩
            · refine iB (fun h2 => ?_) (fun h2 => ?_)
              · obtain ⟨x0, hx0, re0⟩ := hr.get he0
                obtain ⟨n, i0, l0, rfl, rfl, h5⟩ := isMem_int h'
                obtain ⟨n', i1, l1, _, rfl, h6⟩ := isMem_int hm0
                obtain _ | _ | _ | _ | _ | @⟨a2, xs2, _, ha2, np2, hw2, hr2⟩ := re
                obtain _ | ⟨hx2, _ | ⟨hy2, hz2⟩⟩ := hr2
                cases hz2
                cases hx2
                obtain _ | _ | _ | _ | _ | @⟨a3, xs3, _, ha3, np3, hw3, hr3⟩ := re0
                obtain _ | ⟨hx3, _ | ⟨hy3, hz3⟩⟩ := hr3
                cases hz3
                cases hx3
                walk_at "rds"
                refine ⟨_, _, _, _, rfl, rfl, SqT.of ha, at_int (by omega) (by rw [show ((0 : Int) + ((j + 1 : Nat) : Int) - 1).toNat = j by omega]; exact hx0), ?_⟩
                walk_at "rds"
                refine ⟨_, _, _, _, rfl, rfl, SqT.of ha, at_int (by omega) (by rw [show ((0 : Int) + ((j + 1 : Nat) : Int)).toNat = j + 1 by omega]; exact hx), ?_⟩
                walk_at "rds"
                refine iB (fun h7 => ?_) (fun h7 => ?_)
                · have h8 : i0 ≤ i1 := of_decide_eq_true h7
                  exact ansB q (hm.trans (mf_no (show ¬ i1 < i0 by omega)))
                · have h8 : ¬ i0 ≤ i1 := of_decide_eq_false h7
                  exact ⟨rfl, _, _, rfl, hm.trans (mf_yes h' (show i1 < i0 by omega)), .inr ⟨j + 1, _, rfl, he, h', rfl⟩⟩
              · exact absurd (of_decide_eq_false h2) (by omega)
        · rintro σ H' ⟨rfl, l, y, rfl, hm, _⟩
          have hl := hr.length
          rw [hl, List.drop_length] at hm
          exact ansB q hm
    all_goals
      walk_at "rds"
      exact q
end
end Mus

set_option maxRecDepth 100000
set_option maxHeartbeats 4000000
namespace Mus
open PySem L2
local macro_rules | `(tactic| walk_at "rd") => `(tactic| first
  | refine ⟨_, rfl, ?_⟩ | refine ⟨_, _, rfl, rfl, (⟨by decide, by decide, by decide⟩ : CPow _ _), ?_⟩ | refine ⟨_, _, rfl, rfl, ?_⟩ | refine ⟨rfl, ?_⟩ | refine iteT ?_ | refine iteF ?_
  | refine ⟨_, _, _, _, _, rfl, .ty _, Rp.ty (by assumption), kit_int _, ?_⟩ | refine ⟨_, _, _, _, _, rfl, .ty _, Rp.ty (by assumption), kit_bool _, ?_⟩
  | refine ⟨_, _, _, _, _, rfl, .ty _, Rp.ty (by assumption), kit_str _, ?_⟩ | refine ⟨_, _, _, _, _, rfl, .ty _, Rp.ty (by assumption), kit_tup _, ?_⟩)
local macro_rules | `(tactic| walk_at "cal") => `(tactic| first
  | refine ⟨_, _, _, _, _, rfl, (by assumption), ?_⟩ | refine ⟨_, _, _, _, _, rfl, (by assumption), (by assumption), ?_⟩)
local macro_rules | `(tactic| walk_at "sq") => `(tactic| first
  | refine ⟨_, _, rfl, Or.inr (SqT.of (by assumption)), ?_⟩ | refine ⟨_, _, _, _, rfl, rfl, SqT.of (by assumption), rfl, ?_⟩)
local macro_rules | `(tactic| walk_at "rds") => `(tactic| repeat first | walk_at "rd" | walk_at "cal" | walk_at "sq")

/-! ### a dict of ints by ints -/
def KvI (n m : Int) (kvs : List (Key × V)) : Prop := ∀ kv ∈ kvs, ∃ i l : Int, kv = (Sum.inl i, V.int l) ∧ 0 ≤ i ∧ i < n ∧ 1 ≤ l ∧ l ≤ m
theorem mem_putK {κ : Type} [DecidableEq κ] {kvs : List (κ × V)} {k : κ} {v : V} {kv : κ × V} (h : kv ∈ putK kvs k v) : kv = (k, v) ∨ kv ∈ kvs := by
  unfold putK at h
  split at h
  · obtain ⟨q, hq, e⟩ := List.mem_map.mp h
    by_cases hk : q.1 = k
    · rw [if_pos hk] at e
      exact .inl (by rw [← e, hk])
    · rw [if_neg hk] at e
      exact .inr (e ▸ hq)
  · rcases List.mem_append.mp h with h | h
    · exact .inr h
    · exact .inl (List.mem_singleton.mp h)
theorem putK_ne {κ : Type} [DecidableEq κ] (kvs : List (κ × V)) (k : κ) (v : V) : putK kvs k v ≠ [] := by
  unfold putK
  split
  · intro e
    cases kvs with
    | nil => rename_i h; simp at h
    | cons a r => simp at e
  · simp
theorem putK_le {κ : Type} [DecidableEq κ] (c : List (κ × V)) (k : κ) (x : V) : (putK c k x).length ≤ c.length + 1 := by
  unfold putK
  split
  · rw [List.length_map]; omega
  · rw [List.length_append, List.length_singleton]; omega
theorem KvI.put {n m i l : Int} {kvs : List (Key × V)} (h : KvI n m kvs) (h0 : 0 ≤ i) (h1 : i < n) (h2 : 1 ≤ l) (h3 : l ≤ m) : KvI n m (putK kvs (Sum.inl i) (.int l)) := fun kv hk => by
  rcases mem_putK hk with e | e
  · exact ⟨i, l, e, h0, h1, h2, h3⟩
  · exact h kv e
def keyI : Key → Int
  | .inl i => i
  | .inr _ => 0
theorem KvI.keys {n m : Int} {kvs : List (Key × V)} (h : KvI n m kvs) : kvs.map (·.1) = (kvs.map fun kv => keyI kv.1).map Sum.inl := by
  rw [List.map_map]
  refine List.map_congr_left fun kv hk => ?_
  obtain ⟨i, l, rfl, _⟩ := h kv hk
  rfl
theorem valV_mem {κ : Type} [DecidableEq κ] : ∀ {kvs : List (κ × V)} {k : κ}, k ∈ kvs.map (·.1) → ∃ v, valV kvs k = some v ∧ (k, v) ∈ kvs
  | [], k, h => by simp at h
  | (a, b) :: r, k, h => by
    by_cases e : a = k
    · subst e
      exact ⟨b, valV_pos rfl, List.mem_cons_self⟩
    · rw [valV_neg e]
      have h2 : k ∈ r.map (·.1) := by
        rcases List.mem_cons.mp h with h | h
        · exact absurd h.symm e
        · exact h
      obtain ⟨v, h3, h4⟩ := valV_mem h2
      exact ⟨v, h3, List.mem_cons_of_mem _ h4⟩
/-- members of a group of n processes, lives at most m, as data -/
def Mems (n : Int) (ds : List PyData) : Prop := ∀ d ∈ ds, ∃ i l : Int, d = .tuple [.int i, .int l] ∧ 0 ≤ i ∧ i < n ∧ 1 ≤ l ∧ l ≤ 1000000000000
theorem Mems.noL {n : Int} {ds : List PyData} (h : Mems n ds) : ∀ d ∈ ds, NoL d := fun d hd => by
  obtain ⟨i, l, rfl, _⟩ := h d hd
  exact .two (.int _) (.int _)
/-- _law_members -/
def sp_mems : Sp := fun vs H Q _ => ∃ (p : Addr) (c n : Int), vs = [.ref p, .int n] ∧ Bag p c H ∧ 0 < n ∧ n ≤ 12 ∧ ∀ a H' ds, Rp p H' (.ref a) (.tuple ds) → Mems n ds → 0 < ds.length → ds.length ≤ 5 → But p H H' → Bag p c H' → Q (.ref a) H'
section
variable {P : Program} {w : World} {K : PySem.W.Frag} {mg : Str → Option Value} {base : Heap}
abbrev s__law_positive : Stmt := top 13
abbrev N__law_positive : List Str := ["bag"]
abbrev P__law_positive : List Str := ["bag"]
theorem sc__law_positive : FnScope N__law_positive P__law_positive (defScope s__law_positive) := ⟨rfl, rfl, rfl, by decide +kernel, rfl, by decide +kernel, by decide +kernel⟩
theorem ok__law_positive {f : Addr} {fd : FuncData} (T : Tx mg) (c__law_draw : DefOk P w K mg base CX0 "_law_draw" P__law_draw 1 (sp_draw))(F : Fun K "_law_positive" "_law_positive" s__law_positive f fd) : FnOk P w K mg base CX0 (2) f fd P__law_positive (sp_pos) := by
  have nd := sc__law_positive.nd
  refine F.ok sc__law_positive (fun vs H Q E h => ?_) (fun cdv A outer s H vs Q E hr h => ?_)
  · obtain ⟨_, _, rfl, _⟩ := h
    rfl
  · obtain ⟨p, c, rfl, g, q⟩ := h
    refine ⟨_, (pss_cons (ps_if (pt_cmpR op_eq (pcall c__law_draw hr (pa_cons (pv 0) (pa_cons pe_int pa_nil))) pe_int (nomark _))
        (pss_one (ps_ret (pe_op op_add pe_int (pcall c__law_draw hr (pa_cons (pv 0) (pa_cons (pe_op op_pow pe_int pe_int) pa_nil))))))
        pss_nil)
      (pss_one (ps_ret (pe_op op_add pe_int (pcall c__law_draw hr (pa_cons (pv 0) (pa_cons pe_int pa_nil))))))), ?_⟩
    refine ⟨_, rfl, p, c, _, rfl, g, by decide, by decide, fun r H1 r0 r1 b1 g1 => ?_⟩
    walk_at "rds"
    refine iB (fun _ => ?_) (fun _ => ?_)
    · walk_at "rds"
      refine ⟨p, c, 1000000000000, rfl, g1, by decide, by decide, fun r2 H2 s0 s1 b2 g2 => ?_⟩
      walk_at "rds"
      exact q _ _ (by omega) (by omega) (b1.trans b2) g2
    · walk_at "rds"
      refine ⟨p, c, _, rfl, g1, by decide, by decide, fun r2 H2 s0 s1 b2 g2 => ?_⟩
      walk_at "rds"
      exact q _ _ (by omega) (by omega) (b1.trans b2) g2
abbrev s__law_members : Stmt := top 14
abbrev N__law_members : List Str := ["bag", "count", "lives", "k", "process"]
abbrev P__law_members : List Str := ["bag", "count"]
theorem sc__law_members : FnScope N__law_members P__law_members (defScope s__law_members) := ⟨rfl, rfl, rfl, by decide +kernel, rfl, by decide +kernel, by decide +kernel⟩
theorem ok__law_members {f : Addr} {fd : FuncData} (T : Tx mg) (c__law_draw : DefOk P w K mg base CX0 "_law_draw" P__law_draw 1 (sp_draw)) (c__law_positive : DefOk P w K mg base CX0 "_law_positive" P__law_positive 2 (sp_pos))(F : Fun K "_law_members" "_law_members" s__law_members f fd) : FnOk P w K mg base CX0 (3) f fd P__law_members (sp_mems) := by
  have nd := sc__law_members.nd
  refine F.ok sc__law_members (fun vs H Q E h => ?_) (fun cdv A outer s H vs Q E hr h => ?_)
  · obtain ⟨_, _, _, rfl, _⟩ := h
    rfl
  · obtain ⟨p, c, n, rfl, g, n0, n1, q⟩ := h
    have hu := hu_of hr
    have hs := sl
    refine ⟨_, (pss_cons (ps_set (i := 2) nd rfl (Or.inr rfl) pe_dnewK)
      (pss_cons (ps_for PassesOwn.never rfl (pi_range1 (by rfl) T.b_range (pa_cons (pe_op op_add pe_int (pcall c__law_draw hr (pa_cons (pv 0) (pa_cons pe_int pa_nil)))) pa_nil)) (pg_name (i := 3) nd rfl (Or.inl rfl))
        (pss_one (ps_dput hu (pv 2) (pcall c__law_draw hr (pa_cons (pv 0) (pa_cons (pv 1) pa_nil))) (pcall c__law_positive hr (pa_cons (pv 0) pa_nil)) rfl)))
      (pss_one (ps_ret (pe_callTy call_tuple_of (by rfl) T.b_tuple (by decide +kernel) (pa_cons (pe_lc (own := [("process", 4)]) (g := gName 4) rfl nd (pi_list (pe_callB (call_sortedDI rfl) (by rfl) T.b_sorted (by decide +kernel) (pa_cons (pv 2) pa_nil))) (blkOk_by (own := [("process", 4)]) (N := N__law_members) (sc := defScope s__law_members) (by decide +kernel)) (fun _ _ _ _ _ => (pg_name (i := 4) nd rfl (Or.inl rfl))) (fun _ _ _ _ _ => pts_nil) (fun _ _ _ _ _ => (pe_tup (pa_cons (pv 4) (pa_cons (pe_dget hu (pv 2) (pv 4) (fun _ _ => rfl)) pa_nil))))) pa_nil)))))), ?_⟩
    intro d nd
    have pd := g.ne nd
    have g := g.new (o := .dK []) nd
    refine ⟨_, rfl, p, c, _, rfl, g, by decide, by decide, fun r H1 r0 r1 b1 g1 => ?_⟩
    have hd1 := b1 d _ upd_same pd.symm
    refine ⟨_, _, rfl, rfl, _, rfl, by omega, by omega, for_range (lo := 0) (n := (1 + r).toNat) (fun i σ H' => ∃ (kvs : List (Key × V)) (x : Option V), σ = [some (.ref p), some (.int n), some (.ref d), x, none] ∧ But p H H' ∧ Bag p c H' ∧ H' d = some (.dK kvs) ∧ KvI n 1000000000000 kvs ∧ kvs.length ≤ i ∧ (0 < i → kvs ≠ [])) ?_ ?_ ?_⟩
    · exact ⟨[], none, rfl, ((But.refl p H).new nd).trans b1, g1, hd1, fun kv h => absurd h List.not_mem_nil, Nat.le_refl _, fun h => absurd h (by decide)⟩
    · rintro i σ H2 hi ⟨kvs, x, rfl, b2, g2, hd2, hk, hl, _⟩
      refine ⟨_, rfl, p, c, rfl, g2, fun l H3 l0 l1 b3 g3 => ?_⟩
      walk_at "rds"
      refine ⟨p, c, n, rfl, g3, by omega, by omega, fun k H4 k0 k1 b4 g4 => ?_⟩
      have hd4 := b4 d _ (b3 d _ hd2 pd.symm) pd.symm
      refine ⟨d, _, rfl, DPut.k (k := Sum.inl k) hd4 (by omega), ?_⟩
      exact ⟨_, _, rfl, (b2.trans (b3.trans b4)).later nd, g4.upd pd, upd_same, hk.put k0 k1 l0 l1, Nat.le_trans (putK_le _ _ _) (by omega), fun _ => putK_ne _ _ _⟩
    · rintro σ H2 ⟨kvs, x, rfl, b2, g2, hd2, hk, hl, hne⟩
      have hne := hne (by omega)
      refine ⟨_, rfl, d, kvs, _, rfl, .inl hd2, hk.keys, by rw [List.length_map]; omega, fun ys s pm _ ns => ?_⟩
      have b3 := b2.new (o := .lst (ys.map V.int)) ns
      have g3 := g2.new (o := .lst (ys.map V.int)) ns
      have ds : d ≠ s := ne_of_none hd2 ns
      have hd3 : (upd H2 s (.lst (ys.map V.int))) d = some (.dK kvs) := by rw [upd_ne ds]; exact hd2
      refine ⟨s, rfl, ⟨_, SqL.of upd_same⟩, fun D nD => ?_⟩
      have sD : s ≠ D := ne_of_none upd_same nD
      have dD : d ≠ D := ne_of_none hd3 nD
      have pD := g3.ne nD
      have ly : ys.length = kvs.length := by rw [pm.length_eq, List.length_map]
      refine lc_list (K := K) (a := s) (xs := ys.map V.int) (fun i H' => ∃ (ws : List V) (ds : List PyData), H' D = some (.lst ws) ∧ H' s = some (.lst (ys.map V.int)) ∧ H' d = some (.dK kvs) ∧ Rps p H' ws ds ∧ Mems n ds ∧ ds.length = i ∧ But p H H' ∧ Bag p c H') ?_ ?_ ?_ ?_
      · exact ⟨[], [], upd_same, by rw [upd_ne sD]; exact upd_same, by rw [upd_ne dD]; exact hd3, .nil, fun d h => absurd h List.not_mem_nil, rfl, b3.new nD, g3.upd pD⟩
      · rintro i H' _ ⟨ws, ds, _, h2, _⟩
        exact SqL.of h2
      · rintro i x H' hx ⟨ws, ds, h1, h2, h3, h4, h5, h6, b5, g5⟩
        obtain ⟨k, hk1, hk2⟩ : ∃ k, k ∈ ys ∧ x = V.int k := by
          rw [List.getElem?_map] at hx
          cases e : ys[i]? with
          | none => rw [e] at hx; cases hx
          | some k => rw [e] at hx; exact ⟨k, List.mem_of_getElem? e, (Option.some.inj hx).symm⟩
        subst hk2
        have hi : i < ys.length := by
          have := (List.getElem?_eq_some_iff.mp hx).1
          rwa [List.length_map] at this
        obtain ⟨v, hv, hm⟩ := valV_mem (kvs := kvs) (k := (Sum.inl k : Key)) (by rw [hk.keys]; exact List.mem_map.mpr ⟨k, pm.mem_iff.mp hk1, rfl⟩)
        obtain ⟨i0, l0, e, q0, q1, q2, q3⟩ := hk _ hm
        cases e
        refine ⟨rfl, ?_⟩
        refine ⟨_, rfl, _, rfl, _, rfl, d, _, rfl, (hv ▸ DGet.k (k := Sum.inl k) h3), by show 2 ≤ sizeLine; omega, fun t nt => ?_⟩
        have st := same_new nt (.tup [V.int k, V.int l0])
        refine ⟨ws, st _ _ h1, by have := h4.length; omega, ws ++ [.ref t], ds ++ [.tuple [.int k, .int l0]], upd_same, ?_, ?_, ?_, ?_, by rw [List.length_append, h6]; rfl, ?_, ?_⟩
        · rw [upd_ne sD]; exact st _ _ h2
        · rw [upd_ne dD]; exact st _ _ h3
        · have r1 : Rps p (upd H' t (.tup [V.int k, V.int l0])) (ws ++ [.ref t]) (ds ++ [.tuple [.int k, .int l0]]) := (h4.same st).append (.cons (.tup upd_same (g5.ne nt).symm (by show 2 ≤ 100000; decide) (.cons (.int _) (.cons (.int _) .nil))) .nil)
          refine r1.updL (st _ _ h1) fun d hd => ?_
          rcases List.mem_append.mp hd with hd | hd
          · exact h5.noL d hd
          · rw [List.mem_singleton.mp hd]; exact .two (.int _) (.int _)
        · intro d hd
          rcases List.mem_append.mp hd with hd | hd
          · exact h5 d hd
          · rw [List.mem_singleton.mp hd]; exact ⟨k, l0, rfl, q0, q1, q2, q3⟩
        · exact (b5.new nt).later (b3.free nD pD.symm)
        · exact (g5.new nt).upd pD
      · rintro H' ⟨ws, ds, h1, h2, h3, h4, h5, h6, b5, g5⟩
        rw [List.length_map] at h6
        refine ⟨D, ws, rfl, .inl ⟨SqL.of h1, fun a na => ?_⟩⟩
        have lw := h4.length
        have l0 : 0 < kvs.length := List.length_pos_iff.mpr hne
        exact q a _ ds (.tup upd_same (g5.ne na).symm (by omega) (h4.same (same_new na _))) h5 (by omega) (by omega) (b5.new na) (g5.new na)
end
end Mus

set_option maxRecDepth 100000
set_option maxHeartbeats 4000000
namespace Mus
open PySem L2
local macro_rules | `(tactic| walk_at "rd") => `(tactic| first
  | refine ⟨_, rfl, ?_⟩ | refine ⟨_, _, rfl, rfl, (⟨by decide, by decide, by decide⟩ : CPow _ _), ?_⟩ | refine ⟨_, _, rfl, rfl, ?_⟩ | refine ⟨rfl, ?_⟩ | refine iteT ?_ | refine iteF ?_
  | refine ⟨_, _, _, _, _, rfl, .ty _, Rp.ty (by assumption), kit_int _, ?_⟩ | refine ⟨_, _, _, _, _, rfl, .ty _, Rp.ty (by assumption), kit_bool _, ?_⟩
  | refine ⟨_, _, _, _, _, rfl, .ty _, Rp.ty (by assumption), kit_str _, ?_⟩ | refine ⟨_, _, _, _, _, rfl, .ty _, Rp.ty (by assumption), kit_tup _, ?_⟩)
local macro_rules | `(tactic| walk_at "cal") => `(tactic| first
  | refine ⟨_, _, _, _, _, rfl, (by assumption), ?_⟩ | refine ⟨_, _, _, _, _, rfl, (by assumption), (by assumption), ?_⟩)
local macro_rules | `(tactic| walk_at "sq") => `(tactic| first
  | refine ⟨_, _, rfl, Or.inr (SqT.of (by assumption)), ?_⟩ | refine ⟨_, _, _, _, rfl, rfl, SqT.of (by assumption), rfl, ?_⟩)
local macro_rules | `(tactic| walk_at "rds") => `(tactic| repeat first | walk_at "rd" | walk_at "cal" | walk_at "sq")

local macro_rules | `(tactic| walk_at "de") => `(tactic| repeat first
  | exact des_nil | exact de_bl | exact de_str | exact de_non | apply des_cons | apply de_tup | apply de_lst | apply de_cat | exact di_c | exact di_v rfl | apply di_opC | apply di_op | apply di_neg | apply de_i | (refine (⟨?_, ?_, ?_⟩ : CPow _ _) <;> decide) | exact Nat.le_of_ble_eq_true rfl | exact de_varD rfl (by assumption))
/-- one of the odd things -/
def sp_odd (m : Nat) : Sp := fun vs H Q _ => ∃ (p : Addr) (c n : Int), vs = [.ref p, .int n] ∧ Bag p c H ∧ ∀ v d H', Rp p H' v d → But p H H' → Bag p c H' → Q v H'
section
variable {P : Program} {w : World} {K : PySem.W.Frag} {mg : Str → Option Value} {base : Heap}
abbrev s__law_odd : Stmt := top 15
abbrev N__law_odd : List Str := ["bag", "count", "odd"]
abbrev P__law_odd : List Str := ["bag", "count"]
theorem sc__law_odd : FnScope N__law_odd P__law_odd (defScope s__law_odd) := ⟨rfl, rfl, rfl, by decide +kernel, rfl, by decide +kernel, by decide +kernel⟩
theorem ok__law_odd {f : Addr} {fd : FuncData} (T : Tx mg) (c__law_draw : DefOk P w K mg base CX0 "_law_draw" P__law_draw 1 (sp_draw))(F : Fun K "_law_odd" "_law_odd" s__law_odd f fd) : FnOk P w K mg base CX0 (2) f fd P__law_odd (sp_odd 26) := by
  have nd := sc__law_odd.nd
  refine F.ok sc__law_odd (fun vs H Q E h => ?_) (fun cdv A outer s H vs Q E hr h => ?_)
  · obtain ⟨_, _, _, rfl, _⟩ := h
    rfl
  · obtain ⟨p, c, n, rfl, g, q⟩ := h
    have hu := hu_of hr
    have hs := sl
    refine ⟨_, (pss_cons (ps_set (i := 2) nd rfl (Or.inl rfl) (pe_lst (pa_cons pe_int (pa_cons pe_int (pa_cons pe_int (pa_cons (pe_un un_neg pe_int) (pa_cons (pv 1) (pa_cons (pe_op op_sub (pv 1) pe_int) (pa_cons (pe_op op_pow pe_int pe_int) (pa_cons (pe_op op_add (pe_op op_pow pe_int pe_int) pe_int) (pa_cons pe_bl (pa_cons pe_bl (pa_cons pe_non (pa_cons pe_str (pa_cons pe_str (pa_cons (pe_tup pa_nil) (pa_cons (pe_tup (pa_cons pe_int pa_nil)) (pa_cons (pe_tup (pa_cons pe_int (pa_cons pe_int pa_nil))) (pa_cons (pe_tup (pa_cons pe_int (pa_cons pe_int pa_nil))) pa_nil)))))))))))))))))))
      (pss_cons (ps_set (i := 2) nd rfl (Or.inl rfl) (pe_op op_cat (pv 2) (pe_lst (pa_cons (pe_tup (pa_cons (pv 1) (pa_cons pe_int pa_nil))) (pa_cons (pe_tup (pa_cons (pe_op op_sub (pv 1) pe_int) (pa_cons (pe_op op_pow pe_int pe_int) pa_nil))) (pa_cons (pe_tup (pa_cons pe_int (pa_cons pe_int pa_nil))) (pa_cons (pe_tup (pa_cons pe_bl (pa_cons pe_int pa_nil))) (pa_cons (pe_tup (pa_cons pe_int (pa_cons pe_int (pa_cons pe_int pa_nil)))) (pa_cons (pe_lst (pa_cons pe_int (pa_cons pe_int pa_nil))) (pa_cons (pe_tup (pa_cons (pe_tup (pa_cons pe_int (pa_cons pe_int pa_nil))) pa_nil)) (pa_cons (pe_lst (pa_cons (pe_tup (pa_cons pe_int (pa_cons pe_int pa_nil))) pa_nil)) (pa_cons (pe_tup (pa_cons (pe_tup (pa_cons pe_int (pa_cons pe_int pa_nil))) (pa_cons (pe_tup (pa_cons pe_int (pa_cons pe_int pa_nil))) pa_nil))) pa_nil))))))))))))
      (pss_one (ps_ret (pe_ix ix_list (pv 2) (pcall c__law_draw hr (pa_cons (pv 0) (pa_cons pe_int pa_nil))) (fun _ _ => rfl)))))), ?_⟩
    show tAsg (tLst _) _ _ _ _
    show tLst _ _ _ _
    refine de_lstN 17 (fun _ => True) ⟨_, by walk_at "de", rfl, fun _ _ => trivial⟩ (by decide) g fun dsr1 v H1 lr1 _ s1 g1 r1 => ?_
    obtain _ | _ | _ | _ | @⟨a, xs, _, ha, na, hr1⟩ | _ := r1
    refine ⟨_, rfl, ?_⟩
    show tLst _ _ _ _
    refine de_lstN 9 (fun _ => True) ⟨_, by walk_at "de", rfl, fun _ _ => trivial⟩ (by decide) g1 fun dsr2 v H2 lr2 _ s2 g2 r2 => ?_
    obtain _ | _ | _ | _ | @⟨b, ys, _, hb, nb, hr2⟩ | _ := r2
    have l1 := hr1.length
    have l2 := hr2.length
    refine ⟨a, b, xs, ys, rfl, rfl, s2 _ _ ha, hb, by omega, fun t nt => ?_⟩
    have r3 := (hr1.same s2).append hr2
    have st := same_new nt (.lst (xs ++ ys))
    refine ⟨_, rfl, _, rfl, p, c, 26, rfl, g2.new nt, by decide, by decide, fun r H3 r0 r1 b3 g3 => ?_⟩
    have hlen : (xs ++ ys).length = 26 := by rw [List.length_append]; omega
    have hlt : r.toNat < (xs ++ ys).length := by omega
    obtain ⟨d, hd, rd⟩ := (r3.mono ((But.of st).trans b3)).at (List.getElem?_eq_getElem hlt)
    refine ⟨t, _, _, _, rfl, rfl, SqL.of (b3 t _ upd_same (g2.ne nt).symm), at_int r0 (List.getElem?_eq_getElem hlt), ?_⟩
    exact q _ d _ rd ((But.of (s1.trans (s2.trans st))).trans b3) g3
theorem fit_len {n : Nat} {ds : List PyData} (h : fit n (.tuple ds)) : ds.length ≤ 3000 := by
  cases n with
  | zero => exact h.elim
  | succ n => exact h.1
theorem dTup_tuple {d : PyData} (h : dTup d = true) : ∃ ds, d = .tuple ds := by cases d <;> first | exact ⟨_, rfl⟩ | cases h
abbrev s__law_spoilt : Stmt := top 16
abbrev N__law_spoilt : List Str := ["bag", "value", "odd", "at", "choice"]
abbrev P__law_spoilt : List Str := ["bag", "value", "odd"]
theorem sc__law_spoilt : FnScope N__law_spoilt P__law_spoilt (defScope s__law_spoilt) := ⟨rfl, rfl, rfl, by decide +kernel, rfl, by decide +kernel, by decide +kernel⟩
theorem ok__law_spoilt {f : Addr} {fd : FuncData} (T : Tx mg) {n : Nat} (c__law_draw : DefOk P w K mg base CX0 "_law_draw" P__law_draw 1 (sp_draw)) (c__law_spoilt : DefOk P w K mg base CX0 "_law_spoilt" P__law_spoilt (1 + n) (spv sp_spoilt n))(F : Fun K "_law_spoilt" "_law_spoilt" s__law_spoilt f fd) : FnOk P w K mg base CX0 (1 + n + 1) f fd P__law_spoilt (sp_spoilt n) := by
  have nd := sc__law_spoilt.nd
  refine F.ok sc__law_spoilt (fun vs H Q E h => ?_) (fun cdv A outer s H vs Q E hr h => ?_)
  · obtain ⟨_, _, _, _, _, _, rfl, _⟩ := h
    rfl
  · obtain ⟨p, c, v, o, d, e, rfl, g, rv, ro, hf, q⟩ := h
    have hs := sl
    refine ⟨_, (pss_cons (ps_if (PW.pt (pw_or (pt_not (pt_val (pe_callB call_isi (by rfl) T.b_isinstance (by decide +kernel) (pa_cons (pv 1) (pa_cons (pe_ty "tuple" T.b_tuple) pa_nil))))) (pw_or (pt_cmpR op_eq (pe_callB call_len_seq (by rfl) T.b_len (by decide +kernel) (pa_cons (pv 1) pa_nil)) pe_int (nomark _)) (pw_or1 (pt_cmpR op_eq (pcall c__law_draw hr (pa_cons (pv 0) (pa_cons pe_int pa_nil))) pe_int (nomark _))))))
        (pss_one (ps_ret (pv 2)))
        pss_nil)
      (pss_cons (ps_set (i := 3) nd rfl (Or.inl rfl) (pcall c__law_draw hr (pa_cons (pv 0) (pa_cons (pe_callB call_len_seq (by rfl) T.b_len (by decide +kernel) (pa_cons (pv 1) pa_nil)) pa_nil))))
      (pss_cons (ps_set (i := 4) nd rfl (Or.inl rfl) (pcall c__law_draw hr (pa_cons (pv 0) (pa_cons pe_int pa_nil))))
      (pss_cons (ps_if (pt_cmpR op_eq (pv 4) pe_int (nomark _))
        (pss_one (ps_ret (pe_op op_catA (pe_slice sl_tupA (pv 1) po_none (po_some (pv 3))) (pe_slice sl_tupA (pv 1) (po_some (pe_op op_add (pv 3) pe_int)) po_none))))
        pss_nil)
      (pss_cons (ps_if (pt_cmpR op_eq (pv 4) pe_int (nomark _))
        (pss_one (ps_ret (pe_op op_catA (pe_op op_catA (pe_slice sl_tupA (pv 1) po_none (po_some (pv 3))) (pe_tup (pa_cons (pv 2) pa_nil))) (pe_slice sl_tupA (pv 1) (po_some (pv 3)) po_none))))
        pss_nil)
      (pss_cons (ps_if (pt_cmpR op_eq (pv 4) pe_int (nomark _))
        (pss_one (ps_ret (pe_op op_catA (pe_op op_catA (pe_slice sl_tupA (pv 1) po_none (po_some (pv 3))) (pe_slice sl_tupA (pv 1) (po_some (pv 3)) (po_some (pe_op op_add (pv 3) pe_int)))) (pe_slice sl_tupA (pv 1) (po_some (pv 3)) po_none))))
        pss_nil)
      (pss_cons (ps_if (pt_cmpR op_eq (pv 4) pe_int (nomark _))
        (pss_one (ps_ret (pe_op op_catA (pe_op op_catA (pe_op op_catA (pe_slice sl_tupA (pv 1) po_none (po_some (pv 3))) (pe_slice sl_tupA (pv 1) (po_some (pe_op op_add (pv 3) pe_int)) (po_some (pe_op op_add (pv 3) pe_int)))) (pe_slice sl_tupA (pv 1) (po_some (pv 3)) (po_some (pe_op op_add (pv 3) pe_int)))) (pe_slice sl_tupA (pv 1) (po_some (pe_op op_add (pv 3) pe_int)) po_none))))
        pss_nil)
      (pss_one (ps_ret (pe_op op_catA (pe_op op_catA (pe_slice sl_tupA (pv 1) po_none (po_some (pv 3))) (pe_tup (pa_cons (pcall c__law_spoilt hr (pa_cons (pv 0) (pa_cons (pe_ix ix_tup (pv 1) (pv 3) (fun _ _ => rfl)) (pa_cons (pv 2) pa_nil)))) pa_nil))) (pe_slice sl_tupA (pv 1) (po_some (pe_op op_add (pv 3) pe_int)) po_none))))))))))), ?_⟩
    walk_at "rds"
    refine iB (fun h => ?_) (fun h => ?_)
    · walk_at "rds"
      exact q _ _ _ ro (fun P _ h => h) (But.refl p H) g
    · have h' : dTup d = true := by simpa using h
      obtain ⟨ds, rfl⟩ := dTup_tuple h'
      have rv' := rv
      obtain _ | _ | _ | _ | _ | @⟨a, xs, _, ha, na, hw, hr1⟩ := rv
      have hl := hr1.length
      have hl3 := fit_len hf
      walk_at "rds"
      refine iB (fun h => ?_) (fun h => ?_)
      · walk_at "rds"
        exact q _ _ _ ro (fun P _ h => h) (But.refl p H) g
      · have h0 : xs.length ≠ 0 := fun z => by
          have h := of_decide_eq_false h
          rw [z] at h
          exact h rfl
        walk_at "rds"
        refine ⟨p, c, _, rfl, g, by decide, by decide, fun r H1 r0 r1 b1 g1 => ?_⟩
        have rv1 := rv'.mono b1
        have ro1 := ro.mono b1
        walk_at "rds"
        refine iB (fun h => ?_) (fun h => ?_)
        · walk_at "rds"
          exact q _ _ _ ro1 (fun P _ h => h) b1 g1
        · have ha1 := b1 a _ ha na
          walk_at "rds"
          refine ⟨p, c, _, rfl, g1, by omega, by omega, fun at' H2 a0 a1 b2 g2 => ?_⟩
          walk_at "rds"
          refine ⟨p, c, _, rfl, g2, by decide, by decide, fun ch H3 c0 c1 b3 g3 => ?_⟩
          have bb := b1.trans (b2.trans b3)
          have rv3 := (rv1.mono b2).mono b3
          have ro3 := (ro1.mono b2).mono b3
          have hr3 := hr1.mono bb
          have ha3 := bb a _ ha na
          have lc := cutD_len ds
          have cl : ∀ lo hi, (cutD ds lo hi).length ≤ 3000 := fun lo hi => Nat.le_trans (lc lo hi) hl3
          walk_at "rds"
          refine iB (fun h => ?_) (fun h => ?_)
          · walk_at "rds"
            (try unfold tNoPart)
            refine rd_cut rv3 g3 fun b4 H4 s4 g4 r4 => ?_
            walk_at "rds"
            (try unfold tNoPart)
            refine rd_cut (rv3.same s4) g4 fun b5 H5 s5 g5 r5 => ?_
            refine rd_cat (r4.same s5) r5 g5 (by have := cl none (some at'); have := cl (some (at' + 1)) none; omega) fun b6 H6 s6 g6 r6 => ?_
            exact q _ _ _ r6 (fun P h1 h2 => (h1.cut _ _).app (h1.cut _ _)) (bb.trans (But.of (s4.trans (s5.trans s6)))) g6
          walk_at "rds"
          refine iB (fun h => ?_) (fun h => ?_)
          · walk_at "rds"
            (try unfold tNoPart)
            refine rd_cut rv3 g3 fun b4 H4 s4 g4 r4 => ?_
            refine ⟨_, rfl, by show 1 ≤ sizeLine; omega, fun t nt => ?_⟩
            have st := same_new nt (.tup [o])
            have rt : Rp p (upd H4 t (.tup [o])) (.ref t) (.tuple [e]) := .tup upd_same (g4.ne nt).symm (by show 1 ≤ 100000; decide) (.cons (ro3.same (s4.trans st)) .nil)
            refine rd_cat (r4.same st) rt (g4.new nt) (by have := cl none (some at'); show _ + 1 ≤ _; omega) fun b6 H6 s6 g6 r6 => ?_
            walk_at "rds"
            (try unfold tNoPart)
            refine rd_cut (rv3.same (s4.trans (st.trans s6))) g6 fun b5 H5 s5 g5 r5 => ?_
            refine rd_cat (r6.same s5) r5 g5 (by have := cl none (some at'); have := cl (some at') none; rw [List.length_append]; show _ + 1 + _ ≤ _; omega) fun b7 H7 s7 g7 r7 => ?_
            exact q _ _ _ r7 (fun P h1 h2 => ((h1.cut _ _).app h2.one).app (h1.cut _ _)) (bb.trans (But.of (s4.trans (st.trans (s6.trans (s5.trans s7)))))) g7
          walk_at "rds"
          refine iB (fun h => ?_) (fun h => ?_)
          · walk_at "rds"
            (try unfold tNoPart)
            refine rd_cut rv3 g3 fun b4 H4 s4 g4 r4 => ?_
            walk_at "rds"
            (try unfold tNoPart)
            refine rd_cut (rv3.same s4) g4 fun b5 H5 s5 g5 r5 => ?_
            refine rd_cat (r4.same s5) r5 g5 (by have := cl none (some at'); have := cl (some at') (some (at' + 1)); omega) fun b6 H6 s6 g6 r6 => ?_
            walk_at "rds"
            (try unfold tNoPart)
            refine rd_cut (rv3.same (s4.trans (s5.trans s6))) g6 fun b7 H7 s7 g7 r7 => ?_
            refine rd_cat (r6.same s7) r7 g7 (by have := cl none (some at'); have := cl (some at') (some (at' + 1)); have := cl (some at') none; rw [List.length_append]; omega) fun b8 H8 s8 g8 r8 => ?_
            exact q _ _ _ r8 (fun P h1 h2 => ((h1.cut _ _).app (h1.cut _ _)).app (h1.cut _ _)) (bb.trans (But.of (s4.trans (s5.trans (s6.trans (s7.trans s8)))))) g8
          walk_at "rds"
          refine iB (fun h => ?_) (fun h => ?_)
          · walk_at "rds"
            (try unfold tNoPart)
            refine rd_cut rv3 g3 fun b4 H4 s4 g4 r4 => ?_
            walk_at "rds"
            (try unfold tNoPart)
            refine rd_cut (rv3.same s4) g4 fun b5 H5 s5 g5 r5 => ?_
            refine rd_cat (r4.same s5) r5 g5 (by have := cl none (some at'); have := cl (some (at' + 1)) (some (at' + 2)); omega) fun b6 H6 s6 g6 r6 => ?_
            walk_at "rds"
            (try unfold tNoPart)
            refine rd_cut (rv3.same (s4.trans (s5.trans s6))) g6 fun b7 H7 s7 g7 r7 => ?_
            refine rd_cat (r6.same s7) r7 g7 (by have := cl none (some at'); have := cl (some (at' + 1)) (some (at' + 2)); have := cl (some at') (some (at' + 1)); rw [List.length_append]; omega) fun b8 H8 s8 g8 r8 => ?_
            walk_at "rds"
            (try unfold tNoPart)
            refine rd_cut (rv3.same (s4.trans (s5.trans (s6.trans (s7.trans s8))))) g8 fun b9 H9 s9 g9 r9 => ?_
            refine rd_cat (r8.same s9) r9 g9 (by have := cl none (some at'); have := cl (some (at' + 1)) (some (at' + 2)); have := cl (some at') (some (at' + 1)); have := cl (some (at' + 2)) none; rw [List.length_append, List.length_append]; omega) fun b10 H10 s10 g10 r10 => ?_
            exact q _ _ _ r10 (fun P h1 h2 => (((h1.cut _ _).app (h1.cut _ _)).app (h1.cut _ _)).app (h1.cut _ _)) (bb.trans (But.of (s4.trans (s5.trans (s6.trans (s7.trans (s8.trans (s9.trans s10)))))))) g10
          cases n with
          | zero => exact hf.elim
          | succ n =>
            walk_at "rds"
            (try unfold tNoPart)
            refine rd_cut rv3 g3 fun b4 H4 s4 g4 r4 => ?_
            have hlt : at'.toNat < xs.length := by omega
            obtain ⟨di, hdi, rdi⟩ := (hr3.same s4).at (List.getElem?_eq_getElem hlt)
            walk_at "rds"
            refine ⟨a, _, _, _, rfl, rfl, SqT.of (s4 _ _ ha3), at_int a0 (List.getElem?_eq_getElem hlt), ?_⟩
            walk_at "rds"
            refine ⟨p, c, _, o, di, e, rfl, g4, rdi, ro3.same s4, hf.2 di (List.mem_of_getElem? hdi), fun v' d' H5 r5 h5 b5 g5 => ?_⟩
            refine ⟨by show 1 ≤ sizeLine; omega, fun t nt => ?_⟩
            have st := same_new nt (.tup [v'])
            have rt : Rp p (upd H5 t (.tup [v'])) (.ref t) (.tuple [d']) := .tup upd_same (g5.ne nt).symm (by show 1 ≤ 100000; decide) (.cons (r5.same st) .nil)
            refine rd_cat ((r4.mono b5).same st) rt (g5.new nt) (by have := cl none (some at'); show _ + 1 ≤ _; omega) fun b6 H6 s6 g6 r6 => ?_
            walk_at "rds"
            (try unfold tNoPart)
            refine rd_cut (((rv3.same s4).mono b5).same (st.trans s6)) g6 fun b7 H7 s7 g7 r7 => ?_
            refine rd_cat (r6.same s7) r7 g7 (by have := cl none (some at'); have := cl (some (at' + 1)) none; rw [List.length_append]; show _ + 1 + _ ≤ _; omega) fun b8 H8 s8 g8 r8 => ?_
            exact q _ _ _ r8 (fun P h1 h2 => ((h1.cut _ _).app (h5 P (h1.mem di (List.mem_of_getElem? hdi)) h2).one).app (h1.cut _ _)) (bb.trans ((But.of s4).trans (b5.trans (But.of (st.trans (s6.trans (s7.trans s8))))))) g8
end
end Mus

set_option maxRecDepth 100000
set_option maxHeartbeats 4000000
namespace Mus
open PySem L2
local macro_rules | `(tactic| walk_at "rd") => `(tactic| first
  | refine ⟨_, rfl, ?_⟩ | refine ⟨_, _, rfl, rfl, (⟨by decide, by decide, by decide⟩ : CPow _ _), ?_⟩ | refine ⟨_, _, rfl, rfl, ?_⟩ | refine ⟨rfl, ?_⟩ | refine iteT ?_ | refine iteF ?_
  | refine ⟨_, _, _, _, _, rfl, .ty _, Rp.ty (by assumption), kit_int _, ?_⟩ | refine ⟨_, _, _, _, _, rfl, .ty _, Rp.ty (by assumption), kit_bool _, ?_⟩
  | refine ⟨_, _, _, _, _, rfl, .ty _, Rp.ty (by assumption), kit_str _, ?_⟩ | refine ⟨_, _, _, _, _, rfl, .ty _, Rp.ty (by assumption), kit_tup _, ?_⟩)
local macro_rules | `(tactic| walk_at "cal") => `(tactic| first
  | refine ⟨_, _, _, _, _, rfl, (by assumption), ?_⟩ | refine ⟨_, _, _, _, _, rfl, (by assumption), (by assumption), ?_⟩)
local macro_rules | `(tactic| walk_at "sq") => `(tactic| first
  | refine ⟨_, _, rfl, Or.inr (SqT.of (by assumption)), ?_⟩ | refine ⟨_, _, _, _, rfl, rfl, SqT.of (by assumption), rfl, ?_⟩)
local macro_rules | `(tactic| walk_at "rds") => `(tactic| repeat first | walk_at "rd" | walk_at "cal" | walk_at "sq")

local macro_rules | `(tactic| walk_at "de") => `(tactic| repeat first
  | exact des_nil | exact de_bl | exact de_str | exact de_non | apply des_cons | apply de_tup | apply de_lst | apply de_cat | exact di_c | exact di_v rfl | apply di_opC | apply di_op | apply di_neg | apply de_i | (refine (⟨?_, ?_, ?_⟩ : CPow _ _) <;> decide) | exact Nat.le_of_ble_eq_true rfl | exact de_varD rfl (by assumption))
/-- the two sides agree -/
def sp_right : Sp := fun vs H Q _ => ∃ (p : Addr) (u v : V) (c d : PyData), vs = [u, v] ∧ Rp p H u c ∧ Rp p H v d ∧ ∀ H', Same H H' → Q (.bl true) H'
section
variable {P : Program} {w : World} {K : PySem.W.Frag} {mg : Str → Option Value} {base : Heap}
abbrev s__law_right : Stmt := top 21
abbrev N__law_right : List Str := ["count", "value", "due", "actual", "k"]
abbrev P__law_right : List Str := ["count", "value"]
theorem sc__law_right : FnScope N__law_right P__law_right (defScope s__law_right) := ⟨rfl, rfl, rfl, by decide +kernel, rfl, by decide +kernel, by decide +kernel⟩
theorem ok__law_right {f : Addr} {fd : FuncData} (T : Tx mg) (c__law_is_process : DefOk P w K mg base CX0 "_law_is_process" P__law_is_process 2 (spB2 isProc)) (c__law_is_member : DefOk P w K mg base CX0 "_law_is_member" P__law_is_member 3 (spB2 isMem)) (c__law_is_members : DefOk P w K mg base CX0 "_law_is_members" P__law_is_members 4 (spB2 isMems)) (c__law_is_view_id : DefOk P w K mg base CX0 "_law_is_view_id" P__law_is_view_id 4 (spB2 isVid)) (c_is_process : DefOk P w K mg base CX0 "is_process" P_is_process 2 (spB2 isProc)) (c_is_member : DefOk P w K mg base CX0 "is_member" P_is_member 3 (spB2 isMem)) (c_is_members : DefOk P w K mg base CX0 "is_members" P_is_members 4 (spB2 isMems)) (c_is_view_id : DefOk P w K mg base CX0 "is_view_id" P_is_view_id 4 (spB2 isVid))(F : Fun K "_law_right" "_law_right" s__law_right f fd) : FnOk P w K mg base CX0 (5) f fd P__law_right (sp_right) := by
  have nd := sc__law_right.nd
  refine F.ok sc__law_right (fun vs H Q E h => ?_) (fun cdv A outer s H vs Q E hr h => ?_)
  · obtain ⟨_, _, _, _, _, rfl, _⟩ := h
    rfl
  · obtain ⟨p, u, v, c, d, rfl, hc, hd, q⟩ := h
    have hs := sl
    refine ⟨_, (pss_cons (ps_set (i := 2) nd rfl (Or.inl rfl) (pe_lst (pa_cons (pcall c__law_is_process hr (pa_cons (pv 0) (pa_cons (pv 1) pa_nil))) (pa_cons (pcall c__law_is_member hr (pa_cons (pv 0) (pa_cons (pv 1) pa_nil))) (pa_cons (pcall c__law_is_members hr (pa_cons (pv 0) (pa_cons (pv 1) pa_nil))) pa_nil)))))
      (pss_cons (ps_set (i := 2) nd rfl (Or.inl rfl) (pe_op op_cat (pv 2) (pe_lst (pa_cons (pcall c__law_is_view_id hr (pa_cons (pv 0) (pa_cons (pv 1) pa_nil))) pa_nil))))
      (pss_cons (ps_set (i := 3) nd rfl (Or.inl rfl) (pe_lst (pa_cons (pcall c_is_process hr (pa_cons (pv 0) (pa_cons (pv 1) pa_nil))) (pa_cons (pcall c_is_member hr (pa_cons (pv 0) (pa_cons (pv 1) pa_nil))) (pa_cons (pcall c_is_members hr (pa_cons (pv 0) (pa_cons (pv 1) pa_nil))) (pa_cons (pcall c_is_view_id hr (pa_cons (pv 0) (pa_cons (pv 1) pa_nil))) pa_nil))))))
      (pss_cons (ps_for PassesOwn.never rfl (pi_range1 (by rfl) T.b_range (pa_cons pe_int pa_nil)) (pg_name (i := 4) nd rfl (Or.inl rfl))
        (pss_one (ps_if (PW.pt (pw_or (pt_not (pt_val (pe_callB call_isi (by rfl) T.b_isinstance (by decide +kernel) (pa_cons (pe_ix ix_list (pv 3) (pv 4) (fun _ _ => rfl)) (pa_cons (pe_ty "bool" T.b_bool) pa_nil))))) (pw_or1 (pt_cmpR op_ne (pe_ix ix_list (pv 3) (pv 4) (fun _ _ => rfl)) (pe_ix ix_list (pv 2) (pv 4) (fun _ _ => rfl)) (nomark _)))))
          (pss_one (ps_ret pe_bl))
          pss_nil)))
      (pss_one (ps_ret pe_bl)))))), ?_⟩
    walk_at "rds"
    refine ⟨by show 3 ≤ sizeLine; omega, fun t1 n1 => ?_⟩
    have s1 := same_new n1 (.lst [V.bl (isProc c d), .bl (isMem c d), .bl (isMems c d)])
    replace hc := hc.same s1
    replace hd := hd.same s1
    walk_at "rds"
    refine ⟨by show 1 ≤ sizeLine; omega, fun t2 n2 => ?_⟩
    have s2 := same_new n2 (.lst [V.bl (isVid c d)])
    refine ⟨t1, t2, _, _, rfl, rfl, s2 _ _ upd_same, upd_same, by show 3 + 1 ≤ sizeLine; omega, fun t3 n3 => ?_⟩
    have s3 := same_new n3 (.lst ([V.bl (isProc c d), .bl (isMem c d), .bl (isMems c d)] ++ [V.bl (isVid c d)]))
    replace hc := hc.same (s2.trans s3)
    replace hd := hd.same (s2.trans s3)
    walk_at "rds"
    refine ⟨by show 4 ≤ sizeLine; omega, fun t4 n4 => ?_⟩
    have s4 := same_new n4 (.lst ([V.bl (isProc c d), .bl (isMem c d), .bl (isMems c d), V.bl (isVid c d)]))
    have ss := (s1.trans s2).trans (s3.trans s4)
    have h3 := s4 _ _ upd_same
    refine ⟨4, rfl, by decide, by decide, for_range (lo := 0) (n := 4) (fun i σ H' => ∃ (x : Option V), σ = [some u, some v, some (.ref t3), some (.ref t4), x] ∧ H' t3 = some (.lst ([V.bl (isProc c d), .bl (isMem c d), .bl (isMems c d), V.bl (isVid c d)])) ∧ H' t4 = some (.lst ([V.bl (isProc c d), .bl (isMem c d), .bl (isMems c d), V.bl (isVid c d)])) ∧ Same H H') ⟨none, rfl, h3, upd_same, ss⟩ ?_ ?_⟩
    · rintro i σ H' hi ⟨x, rfl, h3, h4, ss⟩
      obtain ⟨b, hb⟩ : ∃ b, ([V.bl (isProc c d), .bl (isMem c d), .bl (isMems c d), V.bl (isVid c d)])[i]? = some (.bl b) := by
        match i, hi with
        | 0, _ | 1, _ | 2, _ | 3, _ => exact ⟨_, rfl⟩
      have hb2 := at_int (xs := [V.bl (isProc c d), .bl (isMem c d), .bl (isMems c d), V.bl (isVid c d)]) (i := 0 + (i : Int)) (v := .bl b) (by omega) (by rw [show ((0 : Int) + (i : Int)).toNat = i by omega]; exact hb)
      walk_at "rds"
      refine ⟨t4, _, _, _, rfl, rfl, SqL.of h4, hb2, ?_⟩
      walk_at "rds"
      refine ⟨_, _, _, _, true, rfl, .ty _, .base (.bl b), kit_ty (by decide +kernel), ?_⟩
      walk_at "rds"
      refine ⟨t4, _, _, _, rfl, rfl, SqL.of h4, hb2, ?_⟩
      walk_at "rds"
      refine ⟨t3, _, _, _, rfl, rfl, SqL.of h3, hb2, ?_⟩
      walk_at "rds"
      refine nF rfl ?_
      exact ⟨_, rfl, h3, h4, ss⟩
    · rintro σ H' ⟨x, rfl, h3, h4, ss⟩
      exact q _ ss
theorem no_call {CX : CXT} {k : Nat} {f : Addr} {fd : FuncData} {ps : List Str} {sp : Sp} (no : ∀ vs H Q E, ¬ sp vs H Q E) : FnOk P w K mg base CX k f fd ps sp :=
  ⟨fun vs H Q E h => absurd h (no vs H Q E), fun A outer s H args us vs Q E _ _ _ _ h => absurd h (no vs H Q E)⟩
def mk_spoilt (T : Tx mg) (aV : DefAt K mg "_law_spoilt" P__law_spoilt s__law_spoilt) (c__law_draw : DefOk P w K mg base CX0 "_law_draw" P__law_draw 1 (sp_draw)) : ∀ n : Nat, DefOk P w K mg base CX0 "_law_spoilt" P__law_spoilt (1 + n + 1) (sp_spoilt n)
  | 0 =>
    let t : DefOk P w K mg base CX0 "_law_spoilt" P__law_spoilt (1 + 0) (spv sp_spoilt 0) := aV.ok fun _ => no_call (by
      rintro vs H Q E ⟨m, h, _⟩
      omega)
    aV.ok fun F => ok__law_spoilt T c__law_draw t F
  | n + 1 =>
    let r := mk_spoilt T aV c__law_draw n
    let t : DefOk P w K mg base CX0 "_law_spoilt" P__law_spoilt (1 + (n + 1)) (spv sp_spoilt (n + 1)) := ⟨r.f, r.fd, r.G.imp (by
      rintro vs H Q E ⟨m, h, q⟩
      have e : n = m := by omega
      subst e
      exact q), r.m, r.kp, r.b⟩
    aV.ok fun F => ok__law_spoilt T c__law_draw t F
def sp_law (K : PySem.W.Frag) : Sp := fun vs H Q _ => ∃ (a : Addr) (ns : List Int), vs = [.ref a] ∧ SqL K H a (ns.map V.int) ∧ ns.length ≤ 63 ∧ ∀ H', Q (.bl true) H'
theorem Mems.fit {n : Int} {ds : List PyData} (h : Mems n ds) (hl : ds.length ≤ 3000) : fit 2 (.tuple ds) := ⟨hl, fun d hd => by
  obtain ⟨i, l, rfl, _⟩ := h d hd
  exact ⟨by simp, fun e he => by
    rcases List.mem_cons.mp he with rfl | he
    · exact True.intro
    · rw [List.mem_singleton.mp he]; exact True.intro⟩⟩
theorem fit_pair (n : Nat) (i j : Int) : fit (n + 1) (.tuple [.int i, .int j]) := ⟨by simp, fun e he => by
    rcases List.mem_cons.mp he with rfl | he
    · cases n <;> exact True.intro
    · rw [List.mem_singleton.mp he]; cases n <;> exact True.intro⟩
abbrev s_law : Stmt := top 22
abbrev N_law : List Str := ["script", "k", "bag", "count", "values", "asked", "value"]
abbrev P_law : List Str := ["script"]
theorem sc_law : FnScope N_law P_law (defScope s_law) := ⟨rfl, rfl, rfl, by decide +kernel, rfl, by decide +kernel, by decide +kernel⟩
theorem ok_law {f : Addr} {fd : FuncData} (T : Tx mg) (c__law_bag : DefOk P w K mg base CX0 "_law_bag" P__law_bag 1 (sp_bag K)) (c__law_draw : DefOk P w K mg base CX0 "_law_draw" P__law_draw 1 (sp_draw)) (c__law_positive : DefOk P w K mg base CX0 "_law_positive" P__law_positive 2 (sp_pos)) (c__law_members : DefOk P w K mg base CX0 "_law_members" P__law_members 3 (sp_mems)) (c__law_odd : DefOk P w K mg base CX0 "_law_odd" P__law_odd 2 (sp_odd 26)) (c__law_spoilt : DefOk P w K mg base CX0 "_law_spoilt" P__law_spoilt 4 (sp_spoilt 2)) (c__law_right : DefOk P w K mg base CX0 "_law_right" P__law_right 5 (sp_right))(F : Fun K "law" "law" s_law f fd) : FnOk P w K mg base CX0 (20) f fd P_law (sp_law K) := by
  have nd := sc_law.nd
  refine F.ok sc_law (fun vs H Q E h => ?_) (fun cdv A outer s H vs Q E hr h => ?_)
  · obtain ⟨_, _, rfl, _⟩ := h
    rfl
  · obtain ⟨a, ns, rfl, hS, h63, q⟩ := h
    have hs := sl
    refine ⟨_, (pss_cons (ps_for PassesOwn.never rfl (pi_range1 (by rfl) T.b_range (pa_cons (pe_callB (call_max2 rfl) (by rfl) T.b_max (by decide +kernel) (pa_cons pe_int (pa_cons (pe_callB (call_min2 rfl) (by rfl) T.b_min (by decide +kernel) (pa_cons pe_int (pa_cons (pe_callB call_len_seq (by rfl) T.b_len (by decide +kernel) (pa_cons (pv 0) pa_nil)) pa_nil))) pa_nil))) pa_nil)) (pg_name (i := 1) nd rfl (Or.inl rfl))
        (pss_cons (ps_set (i := 2) nd rfl (Or.inl rfl) (pcall c__law_bag hr (pa_cons (pv 0) (pa_cons (pv 1) pa_nil))))
        (pss_cons (ps_set (i := 3) nd rfl (Or.inl rfl) (pe_op op_add pe_int (pcall c__law_draw hr (pa_cons (pv 2) (pa_cons pe_int pa_nil)))))
        (pss_cons (ps_set (i := 4) nd rfl (Or.inl rfl) (pe_lst (pa_cons (pcall c__law_draw hr (pa_cons (pv 2) (pa_cons (pv 3) pa_nil))) (pa_cons (pe_tup (pa_cons (pcall c__law_draw hr (pa_cons (pv 2) (pa_cons (pv 3) pa_nil))) (pa_cons (pcall c__law_positive hr (pa_cons (pv 2) pa_nil)) pa_nil))) (pa_cons (pcall c__law_members hr (pa_cons (pv 2) (pa_cons (pv 3) pa_nil))) pa_nil)))))
        (pss_cons (ps_expr (pe_bm PySem.F.plainAttrs_list PySem.F.slot_list_append PySem.F.type_list_append mt_append (pv 4) (pa_cons (pe_tup (pa_cons (pe_op op_sub (pcall c__law_positive hr (pa_cons (pv 2) pa_nil)) pe_int) (pa_cons (pe_tup (pa_cons (pcall c__law_draw hr (pa_cons (pv 2) (pa_cons (pv 3) pa_nil))) (pa_cons (pcall c__law_positive hr (pa_cons (pv 2) pa_nil)) pa_nil))) pa_nil))) pa_nil)))
        (pss_cons (ps_set (i := 5) nd rfl (Or.inl rfl) (pv 3))
        (C8.pss_cut (ps_if (pt_cmpR op_eq (pcall c__law_draw hr (pa_cons (pv 2) (pa_cons pe_int pa_nil))) pe_int (nomark _))
          (pss_one (ps_set (i := 5) nd rfl (Or.inl rfl) (pe_ix ix_list (pe_lst (pa_cons pe_int (pa_cons pe_int (pa_cons (pe_un un_neg pe_int) (pa_cons pe_bl (pa_cons pe_non (pa_cons pe_str (pa_cons (pe_tup (pa_cons pe_int pa_nil)) (pa_cons pe_int (pa_cons pe_int pa_nil)))))))))) (pcall c__law_draw hr (pa_cons (pv 2) (pa_cons pe_int pa_nil))) (fun _ _ => rfl))))
          pss_nil)
        (pss_one (ps_for PassesOwn.never rfl (pi_list (pv 4)) (pg_name (i := 6) nd rfl (Or.inl rfl))
          (C8.pss_cut (ps_if (pt_cmpR op_gt (pcall c__law_draw hr (pa_cons (pv 2) (pa_cons pe_int pa_nil))) pe_int (nomark _))
            (pss_one (ps_set (i := 6) nd rfl (Or.inl rfl) (pcall c__law_spoilt hr (pa_cons (pv 2) (pa_cons (pv 6) (pa_cons (pcall c__law_odd hr (pa_cons (pv 2) (pa_cons (pv 3) pa_nil))) pa_nil))))))
            pss_nil)
          (pss_one (ps_if (pt_not (pt_val (pcall c__law_right hr (pa_cons (pv 5) (pa_cons (pv 6) pa_nil)))))
            (pss_one (ps_ret pe_bl))
            pss_nil))))))))))))
      (pss_one (ps_ret pe_bl))), ?_⟩
    have hl : (ns.map V.int).length = ns.length := List.length_map _
    have hj : ∀ L : Int, 0 ≤ L → 0 ≤ (if (if L < 30 then L else 30) > 1 then (if L < 30 then L else 30) else 1) ∧ (if (if L < 30 then L else 30) > 1 then (if L < 30 then L else 30) else 1) ≤ 30 := by
      intro L h
      split <;> split <;> omega
    have hj' := hj (((ns.map V.int).length : Nat) : Int) (by omega)
    walk_at "rds"
    refine ⟨a, _, rfl, .inl hS, ?_⟩
    refine ⟨_, _, rfl, ?_⟩
    refine ⟨_, _, rfl, ?_⟩
    refine ⟨_, rfl, by omega, by omega, for_range (lo := 0) (fun i σ H' => ∃ (x1 x2 x3 x4 x5 x6 : Option V), σ = [some (.ref a), x1, x2, x3, x4, x5, x6] ∧ Same H H') ⟨_, _, _, _, _, _, rfl, Same.rfl' H⟩ ?_ ?_⟩
    · rintro i σ H1 hi ⟨x1, x2, x3, x4, x5, x6, rfl, sH⟩
      refine ⟨_, rfl, _, rfl, a, ns, i, (by show [V.ref a, V.int (0 + (i : Int))] = _; rw [Int.zero_add]), sH.seq hS, fun p H2 np s2 g2 => ?_⟩
      refine ⟨_, rfl, p, _, 12, rfl, g2, by decide, by decide, fun r3 H3 r30 r31 b3 g3 => ?_⟩
      walk_at "rds"
      have n0 : (0 : Int) < 1 + r3 := by omega
      have n1 : (1 + r3).natAbs < 2 ^ 100 := by omega
      refine ⟨p, _, 1 + r3, rfl, g3, n0, n1, fun r4 H4 r40 r41 b4 g4 => ?_⟩
      walk_at "rds"
      refine ⟨p, _, 1 + r3, rfl, g4, n0, n1, fun r5 H5 r50 r51 b5 g5 => ?_⟩
      walk_at "rds"
      refine ⟨p, _, rfl, g5, fun l6 H6 l60 l61 b6 g6 => ?_⟩
      refine ⟨by show 2 ≤ sizeLine; omega, fun t7 n7 => ?_⟩
      have s7 := same_new n7 (.tup [V.int r5, V.int l6])
      have g7 := g6.new (o := .tup [V.int r5, V.int l6]) n7
      have d7 : Rp p (upd H6 t7 (.tup [V.int r5, V.int l6])) (.ref t7) (.tuple [.int r5, .int l6]) := .tup upd_same (g6.ne n7).symm (by show 2 ≤ 100000; decide) (.cons (.int _) (.cons (.int _) .nil))
      walk_at "rds"
      refine ⟨p, _, 1 + r3, rfl, g7, n0, by omega, fun a8 H8 ds8 d8 m8 c80 c81 b8 g8 => ?_⟩
      have e7 := d7.mono b8
      refine ⟨by show 3 ≤ sizeLine; omega, fun t9 n9 => ?_⟩
      have s9 := same_new n9 (.lst [V.int r4, V.ref t7, V.ref a8])
      have g9 := g8.new (o := .lst [V.int r4, V.ref t7, V.ref a8]) n9
      have p9 : t9 ≠ p := (g8.ne n9).symm
      walk_at "rds"
      refine ⟨.inl ⟨rfl, _, SqL.of upd_same⟩, ?_⟩
      walk_at "rds"
      refine ⟨p, _, rfl, g9, fun l10 H10 l100 l101 b10 g10 => ?_⟩
      walk_at "rds"
      refine ⟨p, _, 1 + r3, rfl, g10, n0, n1, fun r11 H11 r110 r111 b11 g11 => ?_⟩
      walk_at "rds"
      refine ⟨p, _, rfl, g11, fun l12 H12 l120 l121 b12 g12 => ?_⟩
      refine ⟨by show 2 ≤ sizeLine; omega, fun t13 n13 => ?_⟩
      have s13 := same_new n13 (.tup [V.int r11, V.int l12])
      have g13 := g12.new (o := .tup [V.int r11, V.int l12]) n13
      have d13 : Rp p (upd H12 t13 (.tup [V.int r11, V.int l12])) (.ref t13) (.tuple [.int r11, .int l12]) := .tup upd_same (g12.ne n13).symm (by show 2 ≤ 100000; decide) (.cons (.int _) (.cons (.int _) .nil))
      refine ⟨by show 2 ≤ sizeLine; omega, fun t14 n14 => ?_⟩
      have s14 := same_new n14 (.tup [V.int (l10 - 1), V.ref t13])
      have g14 := g13.new (o := .tup [V.int (l10 - 1), V.ref t13]) n14
      have d14 : Rp p (upd _ t14 (.tup [V.int (l10 - 1), V.ref t13])) (.ref t14) (.tuple [.int (l10 - 1), .tuple [.int r11, .int l12]]) := .tup upd_same (g13.ne n14).symm (by show 2 ≤ 100000; decide) (.cons (.int _) (.cons (d13.same s14) .nil))
      have bx := (b10.trans (b11.trans b12)).trans (But.of (s13.trans s14))
      have h9 := bx t9 _ upd_same p9
      refine ⟨t9, _, _, rfl, rfl, h9, by show 3 < sizeLine; omega, ?_⟩
      have r0 : Rps p _ [V.int r4, V.ref t7, V.ref a8, V.ref t14] [.int r4, .tuple [.int r5, .int l6], .tuple ds8, .tuple [.int (l10 - 1), .tuple [.int r11, .int l12]]] := .cons (.int _) (.cons ((e7.same s9).mono bx) (.cons ((d8.same s9).mono bx) (.cons d14 .nil)))
      have noL4 : ∀ d ∈ [.int r4, .tuple [.int r5, .int l6], .tuple ds8, .tuple [.int (l10 - 1), .tuple [.int r11, .int l12]]], NoL d := by
        intro d hd
        simp only [List.mem_cons, List.not_mem_nil, or_false] at hd
        rcases hd with rfl | rfl | rfl | rfl
        · exact .int _
        · exact .two (.int _) (.int _)
        · exact .tup m8.noL
        · exact .two (.int _) (.two (.int _) (.int _))
      have fit4 : ∀ d ∈ [.int r4, .tuple [.int r5, .int l6], .tuple ds8, .tuple [.int (l10 - 1), .tuple [.int r11, .int l12]]], fit 2 d := by
        intro d hd
        simp only [List.mem_cons, List.not_mem_nil, or_false] at hd
        rcases hd with rfl | rfl | rfl | rfl
        · exact True.intro
        · exact fit_pair _ _ _
        · exact m8.fit (by omega)
        · exact ⟨by simp, fun e he => by
            rcases List.mem_cons.mp he with rfl | he
            · exact True.intro
            · rw [List.mem_singleton.mp he]; exact fit_pair _ _ _⟩
      have r1 := r0.updL (o := .lst ([V.int r4, V.ref t7, V.ref a8] ++ [V.ref t14])) h9 noL4
      have g15 := g14.upd (o := .lst ([V.int r4, V.ref t7, V.ref a8] ++ [V.ref t14])) p9.symm
      have nt9 : H1 t9 = none := by
        have z := (But.of s2 (p := p)).trans (b3.trans (b4.trans (b5.trans (b6.trans ((But.of s7).trans b8)))))
        exact z.free n9 p9
      have b15 : But p H1 (upd _ t9 (.lst ([V.int r4, V.ref t7, V.ref a8] ++ [V.ref t14]))) :=
        (((But.of s2 (p := p)).trans (b3.trans (b4.trans (b5.trans (b6.trans ((But.of s7).trans b8)))))).trans ((But.of s9).trans bx)).later nt9
      have same_of : ∀ H', But p H1 H' → Same H H' := fun H' b c o h => b c o (sH c o h) (ne_of_none (sH c o h) np)
      refine ⟨_, rfl, ?_⟩
      refine ⟨fun σ' H' => ∃ (u : V) (cu : PyData), σ' = [some (.ref a), some (.int (0 + (i : Int))), some (.ref p), some (.int (1 + r3)), some (.ref t9), some u, x6] ∧ Rp p H' u cu ∧ Rps p H' [V.int r4, V.ref t7, V.ref a8, V.ref t14] [.int r4, .tuple [.int r5, .int l6], .tuple ds8, .tuple [.int (l10 - 1), .tuple [.int r11, .int l12]]] ∧ H' t9 = some (.lst [V.int r4, V.ref t7, V.ref a8, V.ref t14]) ∧ But p H1 H' ∧ Bag p i H', ?_, ?_⟩
      · walk_at "rds"
        refine ⟨p, _, 6, rfl, g15, by decide, by decide, fun r16 H16 r160 r161 b16 g16 => ?_⟩
        have h16 := b16 t9 _ upd_same p9
        walk_at "rds"
        refine iB (fun _ => ?_) (fun _ => ?_)
        · show tOp _ (tLst _) _ _ _ _
          show tLst _ _ _ _
          refine de_lstN 9 (fun _ => True) ⟨_, by walk_at "de", rfl, fun _ _ => trivial⟩ (by decide) g16 fun ds17 v17 H17 l17 _ s17 g17 d17 => ?_
          obtain _ | _ | _ | _ | @⟨a17, xs17, _, h17, na17, hr17⟩ | _ := d17
          walk_at "rds"
          refine ⟨p, _, 9, rfl, g17, by decide, by decide, fun r18 H18 r180 r181 b18 g18 => ?_⟩
          have hlt : r18.toNat < xs17.length := by have := hr17.length; omega
          obtain ⟨d, hd, rd⟩ := (hr17.mono b18).at (List.getElem?_eq_getElem hlt)
          refine ⟨a17, _, _, _, rfl, rfl, SqL.of (b18 _ _ h17 na17), at_int r180 (List.getElem?_eq_getElem hlt), ?_⟩
          exact ⟨_, d, rfl, rd, ((r1.mono b16).same s17).mono b18, b18 _ _ (s17 _ _ h16) p9, b15.trans (b16.trans ((But.of s17).trans b18)), g18⟩
        · exact ⟨_, _, rfl, .int _, r1.mono b16, h16, b15.trans b16, g16⟩
      · rintro σ' H17 ⟨u, cu, rfl, ru, r17, h17, b17, g17⟩
        refine ⟨_, rfl, t9, rfl, ⟨_, SqL.of h17⟩, for_list (K := K) (a := t9) (xs := [V.int r4, V.ref t7, V.ref a8, V.ref t14]) (fun j σ H' => ∃ x6 : Option V, σ = [some (.ref a), some (.int (0 + (i : Int))), some (.ref p), some (.int (1 + r3)), some (.ref t9), some u, x6] ∧ Rp p H' u cu ∧ Rps p H' [V.int r4, V.ref t7, V.ref a8, V.ref t14] [.int r4, .tuple [.int r5, .int l6], .tuple ds8, .tuple [.int (l10 - 1), .tuple [.int r11, .int l12]]] ∧ H' t9 = some (.lst [V.int r4, V.ref t7, V.ref a8, V.ref t14]) ∧ But p H1 H' ∧ Bag p i H') ⟨_, rfl, ru, r17, h17, b17, g17⟩ ?_ ?_ ?_⟩
        · rintro j σ H' _ ⟨x6, rfl, _, _, h, _⟩
          exact SqL.of h
        · rintro j x σ H18 hx ⟨x6, rfl, ru, r18, h18, b18, g18⟩
          obtain ⟨d, hd, rd⟩ := r18.at hx
          have fd := fit4 d (List.mem_of_getElem? hd)
          refine ⟨fun σ' H' => ∃ (v : V) (dv : PyData), σ' = [some (.ref a), some (.int (0 + (i : Int))), some (.ref p), some (.int (1 + r3)), some (.ref t9), some u, some v] ∧ Rp p H' v dv ∧ But p H18 H' ∧ Bag p i H', ?_, ?_⟩
          · walk_at "rds"
            refine ⟨p, _, 3, rfl, g18, by decide, by decide, fun r19 H19 _ _ b19 g19 => ?_⟩
            walk_at "rds"
            refine iB (fun _ => ?_) (fun _ => ?_)
            · walk_at "rds"
              refine ⟨p, _, _, rfl, g19, fun v20 d20 H20 rv20 b20 g20 => ?_⟩
              refine ⟨p, _, x, v20, d, d20, rfl, g20, (rd.mono b19).mono b20, rv20, fd, fun v21 d21 H21 r21 _ b21 g21 => ?_⟩
              exact ⟨_, _, rfl, r21, b19.trans (b20.trans b21), g21⟩
            · exact ⟨_, _, rfl, rd.mono b19, b19, g19⟩
          · rintro σ' H19 ⟨v, dv, rfl, rv, b19, g19⟩
            walk_at "rds"
            refine ⟨p, _, _, _, _, rfl, ru.mono b19, rv, fun H20 s20 => ?_⟩
            walk_at "rds"
            exact ⟨(ru.mono b19).same s20, (r18.mono b19).same s20, s20 _ _ (b19 _ _ h18 p9), b18.trans (b19.trans (But.of s20)), g19.same s20⟩
        · rintro σ H' ⟨x6, rfl, _, _, h, b, g⟩
          exact ⟨_, _, _, _, _, _, rfl, same_of _ b⟩
    · rintro σ H' ⟨x1, x2, x3, x4, x5, x6, rfl, sH⟩
      exact q _
end
end Mus

set_option maxRecDepth 100000
set_option maxHeartbeats 4000000
namespace Mus
open PySem L2
def at_mk {K : PySem.W.Frag} {h : Heap} {mg : Str → Option Value} {x : Str} {ps : List Str} {st : Stmt} {f : Addr} {oc : Value} {od an : Option Addr} {osl : Array (Option Value)} {kV dc pm cd ct : Value} (X : K.In h) (G : h.Ns mainGlobals mg) (a : PySem.W.nsIn K mainGlobals x = some (some (.ref f)))
    (l : K.lookup f = some ⟨oc, od, .func (PySem.W.fnOf x x (defArgs st) (defBody st) (defScope st) .none kV dc pm an cd ct), osl⟩) (c : PySem.W.codeIn K cd x = true) (k : PySem.W.keepIn K (.ref f) = true)
    (hb : ∀ (kV doc pm : Value) (an : Option Addr) (cdv ct : Value) (us : List Value), us.length = ps.length → bindArgs (PySem.W.fnOf x x (defArgs st) (defBody st) (defScope st) .none kV doc pm an cdv ct) ⟨us, []⟩ = pure (ps.zip us)) : DefAt K mg x ps st :=
  ⟨f, _, fun_mk (st := st) l c k, PySem.W.mg_of X G a, (fun_mk (st := st) l c k).binds hb⟩
theorem walk_ofX {l : PySem.W.OpenLaw} {n k : Nat} {q : Program} {loose : List Str} {XP : (Str → Option Value) → Heap → Prop} {YP : World → Heap → Prop} {d : DefRec} {K : Params → PySem.W.Frag} {sp : World → Sp} {x : Str}
    (most : l.most = some n) (few : n ≤ sizeLine) (nod : d.params.defaults = []) (room : Room k callerA) (kin : ∀ (w : World) (h : Heap), YP w h → (K w.params).In h)
    (F : ∀ (w : World) (mg : Str → Option Value) (at1 : Addr) (h : Heap), (K w.params).In h → h.Ns mainGlobals mg → XP mg h → mg d.name = some (.ref at1) →
      ∃ fd : FuncData, (∀ (s : Shared) (u : Value), BindsTo s fd ⟨[u], []⟩ [(x, u)]) ∧ ∀ base : Heap, (K w.params).In base → base.Ns mainGlobals mg → FnOk l.prog w (K w.params) mg base CX0 k at1 fd [x] (sp w))
    (hsp : ∀ (w : World) (H : Hp) (a : Addr) (ns : List Int), ns.length ≤ n → Only H → SqL (K w.params) H a (ns.map V.int) → sp w [.ref a] H (fun v _ => v = .bl true) fun _ _ _ => False) :
    PySem.W.WalkO q loose XP YP l.row.toRowW d [] (fun f vs => PySem.call f vs) := by
  refine Att.attach_call most nod fun w sb sc mg mB at1 o pm1 cd1 doc1 a vs ns G Y ho1 hd1 hc1 hm1 ob1 in1 ln1 hg1 => ?_
  have inK := kin w _ Y
  obtain ⟨fd, bnd, pr⟩ := F w mg at1 _ inK G.T.g G.X hm1
  exact law_call inK G.T.g G.T.b G.T.builtins G.T.nolimit hg1 ob1 in1 (Nat.le_trans ln1 few) room pr bnd (fun H hO hS => hsp w H a ns ln1 hO hS) fun H e s' z => z
theorem loose_int {n : Str} {i : Int} {mg : Str → Option Value} {h : Heap} (x : PySem.W.LooseAre [(n, PySem.W.WData.int i)] mg h) : ∃ t, mg n = some (.int i t) := by
  obtain ⟨v, h1, h2⟩ := x.val _ (List.mem_singleton.mpr rfl)
  cases h2
  exact ⟨_, h1⟩
theorem all_mk {l : PySem.W.OpenLaw} {w : World} {K : PySem.W.Frag} {h : Heap} {mg : Str → Option Value} {fa : Addr} (X : K.In h) (G : h.Ns mainGlobals mg) (hfa : mg "law" = some (.ref fa)) (hL0 : ∃ t, mg "MOST_NUMBER" = some (.int 1000000000000 t))
    {odx_is_integer anx_is_integer : Option Addr} {slx_is_integer : Array (Option Value)} {ocx_is_integer kVx_is_integer dcx_is_integer pmx_is_integer cdx_is_integer ctx_is_integer : Value} {fx_is_integer : Addr}
    {odx_is_process anx_is_process : Option Addr} {slx_is_process : Array (Option Value)} {ocx_is_process kVx_is_process dcx_is_process pmx_is_process cdx_is_process ctx_is_process : Value} {fx_is_process : Addr}
    {odx_is_member anx_is_member : Option Addr} {slx_is_member : Array (Option Value)} {ocx_is_member kVx_is_member dcx_is_member pmx_is_member cdx_is_member ctx_is_member : Value} {fx_is_member : Addr}
    {odx_is_members anx_is_members : Option Addr} {slx_is_members : Array (Option Value)} {ocx_is_members kVx_is_members dcx_is_members pmx_is_members cdx_is_members ctx_is_members : Value} {fx_is_members : Addr}
    {odx_is_view_id anx_is_view_id : Option Addr} {slx_is_view_id : Array (Option Value)} {ocx_is_view_id kVx_is_view_id dcx_is_view_id pmx_is_view_id cdx_is_view_id ctx_is_view_id : Value} {fx_is_view_id : Addr}
    {odx__law_bag anx__law_bag : Option Addr} {slx__law_bag : Array (Option Value)} {ocx__law_bag kVx__law_bag dcx__law_bag pmx__law_bag cdx__law_bag ctx__law_bag : Value} {fx__law_bag : Addr}
    {odx__law_draw anx__law_draw : Option Addr} {slx__law_draw : Array (Option Value)} {ocx__law_draw kVx__law_draw dcx__law_draw pmx__law_draw cdx__law_draw ctx__law_draw : Value} {fx__law_draw : Addr}
    {odx__law_is_int anx__law_is_int : Option Addr} {slx__law_is_int : Array (Option Value)} {ocx__law_is_int kVx__law_is_int dcx__law_is_int pmx__law_is_int cdx__law_is_int ctx__law_is_int : Value} {fx__law_is_int : Addr}
    {odx__law_positive anx__law_positive : Option Addr} {slx__law_positive : Array (Option Value)} {ocx__law_positive kVx__law_positive dcx__law_positive pmx__law_positive cdx__law_positive ctx__law_positive : Value} {fx__law_positive : Addr}
    {odx__law_members anx__law_members : Option Addr} {slx__law_members : Array (Option Value)} {ocx__law_members kVx__law_members dcx__law_members pmx__law_members cdx__law_members ctx__law_members : Value} {fx__law_members : Addr}
    {odx__law_odd anx__law_odd : Option Addr} {slx__law_odd : Array (Option Value)} {ocx__law_odd kVx__law_odd dcx__law_odd pmx__law_odd cdx__law_odd ctx__law_odd : Value} {fx__law_odd : Addr}
    {odx__law_spoilt anx__law_spoilt : Option Addr} {slx__law_spoilt : Array (Option Value)} {ocx__law_spoilt kVx__law_spoilt dcx__law_spoilt pmx__law_spoilt cdx__law_spoilt ctx__law_spoilt : Value} {fx__law_spoilt : Addr}
    {odx__law_is_process anx__law_is_process : Option Addr} {slx__law_is_process : Array (Option Value)} {ocx__law_is_process kVx__law_is_process dcx__law_is_process pmx__law_is_process cdx__law_is_process ctx__law_is_process : Value} {fx__law_is_process : Addr}
    {odx__law_is_member anx__law_is_member : Option Addr} {slx__law_is_member : Array (Option Value)} {ocx__law_is_member kVx__law_is_member dcx__law_is_member pmx__law_is_member cdx__law_is_member ctx__law_is_member : Value} {fx__law_is_member : Addr}
    {odx__law_is_members anx__law_is_members : Option Addr} {slx__law_is_members : Array (Option Value)} {ocx__law_is_members kVx__law_is_members dcx__law_is_members pmx__law_is_members cdx__law_is_members ctx__law_is_members : Value} {fx__law_is_members : Addr}
    {odx__law_is_view_id anx__law_is_view_id : Option Addr} {slx__law_is_view_id : Array (Option Value)} {ocx__law_is_view_id kVx__law_is_view_id dcx__law_is_view_id pmx__law_is_view_id cdx__law_is_view_id ctx__law_is_view_id : Value} {fx__law_is_view_id : Addr}
    {odx__law_right anx__law_right : Option Addr} {slx__law_right : Array (Option Value)} {ocx__law_right kVx__law_right dcx__law_right pmx__law_right cdx__law_right ctx__law_right : Value} {fx__law_right : Addr}
    {odx_law anx_law : Option Addr} {slx_law : Array (Option Value)} {ocx_law kVx_law dcx_law pmx_law cdx_law ctx_law : Value} {fx_law : Addr}
    {tMOST_PROCESSES : Tok}
    (ax_is_integer : PySem.W.nsIn K mainGlobals "is_integer" = some (some (.ref fx_is_integer)))
    (lx_is_integer : K.lookup fx_is_integer = some ⟨ocx_is_integer, odx_is_integer, .func (PySem.W.fnOf "is_integer" "is_integer" (defArgs s_is_integer) (defBody s_is_integer) (defScope s_is_integer) .none kVx_is_integer dcx_is_integer pmx_is_integer anx_is_integer cdx_is_integer ctx_is_integer), slx_is_integer⟩)
    (cx_is_integer : PySem.W.codeIn K cdx_is_integer "is_integer" = true)
    (kx_is_integer : PySem.W.keepIn K (.ref fx_is_integer) = true)
    (ax_is_process : PySem.W.nsIn K mainGlobals "is_process" = some (some (.ref fx_is_process)))
    (lx_is_process : K.lookup fx_is_process = some ⟨ocx_is_process, odx_is_process, .func (PySem.W.fnOf "is_process" "is_process" (defArgs s_is_process) (defBody s_is_process) (defScope s_is_process) .none kVx_is_process dcx_is_process pmx_is_process anx_is_process cdx_is_process ctx_is_process), slx_is_process⟩)
    (cx_is_process : PySem.W.codeIn K cdx_is_process "is_process" = true)
    (kx_is_process : PySem.W.keepIn K (.ref fx_is_process) = true)
    (ax_is_member : PySem.W.nsIn K mainGlobals "is_member" = some (some (.ref fx_is_member)))
    (lx_is_member : K.lookup fx_is_member = some ⟨ocx_is_member, odx_is_member, .func (PySem.W.fnOf "is_member" "is_member" (defArgs s_is_member) (defBody s_is_member) (defScope s_is_member) .none kVx_is_member dcx_is_member pmx_is_member anx_is_member cdx_is_member ctx_is_member), slx_is_member⟩)
    (cx_is_member : PySem.W.codeIn K cdx_is_member "is_member" = true)
    (kx_is_member : PySem.W.keepIn K (.ref fx_is_member) = true)
    (ax_is_members : PySem.W.nsIn K mainGlobals "is_members" = some (some (.ref fx_is_members)))
    (lx_is_members : K.lookup fx_is_members = some ⟨ocx_is_members, odx_is_members, .func (PySem.W.fnOf "is_members" "is_members" (defArgs s_is_members) (defBody s_is_members) (defScope s_is_members) .none kVx_is_members dcx_is_members pmx_is_members anx_is_members cdx_is_members ctx_is_members), slx_is_members⟩)
    (cx_is_members : PySem.W.codeIn K cdx_is_members "is_members" = true)
    (kx_is_members : PySem.W.keepIn K (.ref fx_is_members) = true)
    (ax_is_view_id : PySem.W.nsIn K mainGlobals "is_view_id" = some (some (.ref fx_is_view_id)))
    (lx_is_view_id : K.lookup fx_is_view_id = some ⟨ocx_is_view_id, odx_is_view_id, .func (PySem.W.fnOf "is_view_id" "is_view_id" (defArgs s_is_view_id) (defBody s_is_view_id) (defScope s_is_view_id) .none kVx_is_view_id dcx_is_view_id pmx_is_view_id anx_is_view_id cdx_is_view_id ctx_is_view_id), slx_is_view_id⟩)
    (cx_is_view_id : PySem.W.codeIn K cdx_is_view_id "is_view_id" = true)
    (kx_is_view_id : PySem.W.keepIn K (.ref fx_is_view_id) = true)
    (ax__law_bag : PySem.W.nsIn K mainGlobals "_law_bag" = some (some (.ref fx__law_bag)))
    (lx__law_bag : K.lookup fx__law_bag = some ⟨ocx__law_bag, odx__law_bag, .func (PySem.W.fnOf "_law_bag" "_law_bag" (defArgs s__law_bag) (defBody s__law_bag) (defScope s__law_bag) .none kVx__law_bag dcx__law_bag pmx__law_bag anx__law_bag cdx__law_bag ctx__law_bag), slx__law_bag⟩)
    (cx__law_bag : PySem.W.codeIn K cdx__law_bag "_law_bag" = true)
    (kx__law_bag : PySem.W.keepIn K (.ref fx__law_bag) = true)
    (ax__law_draw : PySem.W.nsIn K mainGlobals "_law_draw" = some (some (.ref fx__law_draw)))
    (lx__law_draw : K.lookup fx__law_draw = some ⟨ocx__law_draw, odx__law_draw, .func (PySem.W.fnOf "_law_draw" "_law_draw" (defArgs s__law_draw) (defBody s__law_draw) (defScope s__law_draw) .none kVx__law_draw dcx__law_draw pmx__law_draw anx__law_draw cdx__law_draw ctx__law_draw), slx__law_draw⟩)
    (cx__law_draw : PySem.W.codeIn K cdx__law_draw "_law_draw" = true)
    (kx__law_draw : PySem.W.keepIn K (.ref fx__law_draw) = true)
    (ax__law_is_int : PySem.W.nsIn K mainGlobals "_law_is_int" = some (some (.ref fx__law_is_int)))
    (lx__law_is_int : K.lookup fx__law_is_int = some ⟨ocx__law_is_int, odx__law_is_int, .func (PySem.W.fnOf "_law_is_int" "_law_is_int" (defArgs s__law_is_int) (defBody s__law_is_int) (defScope s__law_is_int) .none kVx__law_is_int dcx__law_is_int pmx__law_is_int anx__law_is_int cdx__law_is_int ctx__law_is_int), slx__law_is_int⟩)
    (cx__law_is_int : PySem.W.codeIn K cdx__law_is_int "_law_is_int" = true)
    (kx__law_is_int : PySem.W.keepIn K (.ref fx__law_is_int) = true)
    (ax__law_positive : PySem.W.nsIn K mainGlobals "_law_positive" = some (some (.ref fx__law_positive)))
    (lx__law_positive : K.lookup fx__law_positive = some ⟨ocx__law_positive, odx__law_positive, .func (PySem.W.fnOf "_law_positive" "_law_positive" (defArgs s__law_positive) (defBody s__law_positive) (defScope s__law_positive) .none kVx__law_positive dcx__law_positive pmx__law_positive anx__law_positive cdx__law_positive ctx__law_positive), slx__law_positive⟩)
    (cx__law_positive : PySem.W.codeIn K cdx__law_positive "_law_positive" = true)
    (kx__law_positive : PySem.W.keepIn K (.ref fx__law_positive) = true)
    (ax__law_members : PySem.W.nsIn K mainGlobals "_law_members" = some (some (.ref fx__law_members)))
    (lx__law_members : K.lookup fx__law_members = some ⟨ocx__law_members, odx__law_members, .func (PySem.W.fnOf "_law_members" "_law_members" (defArgs s__law_members) (defBody s__law_members) (defScope s__law_members) .none kVx__law_members dcx__law_members pmx__law_members anx__law_members cdx__law_members ctx__law_members), slx__law_members⟩)
    (cx__law_members : PySem.W.codeIn K cdx__law_members "_law_members" = true)
    (kx__law_members : PySem.W.keepIn K (.ref fx__law_members) = true)
    (ax__law_odd : PySem.W.nsIn K mainGlobals "_law_odd" = some (some (.ref fx__law_odd)))
    (lx__law_odd : K.lookup fx__law_odd = some ⟨ocx__law_odd, odx__law_odd, .func (PySem.W.fnOf "_law_odd" "_law_odd" (defArgs s__law_odd) (defBody s__law_odd) (defScope s__law_odd) .none kVx__law_odd dcx__law_odd pmx__law_odd anx__law_odd cdx__law_odd ctx__law_odd), slx__law_odd⟩)
    (cx__law_odd : PySem.W.codeIn K cdx__law_odd "_law_odd" = true)
    (kx__law_odd : PySem.W.keepIn K (.ref fx__law_odd) = true)
    (ax__law_spoilt : PySem.W.nsIn K mainGlobals "_law_spoilt" = some (some (.ref fx__law_spoilt)))
    (lx__law_spoilt : K.lookup fx__law_spoilt = some ⟨ocx__law_spoilt, odx__law_spoilt, .func (PySem.W.fnOf "_law_spoilt" "_law_spoilt" (defArgs s__law_spoilt) (defBody s__law_spoilt) (defScope s__law_spoilt) .none kVx__law_spoilt dcx__law_spoilt pmx__law_spoilt anx__law_spoilt cdx__law_spoilt ctx__law_spoilt), slx__law_spoilt⟩)
    (cx__law_spoilt : PySem.W.codeIn K cdx__law_spoilt "_law_spoilt" = true)
    (kx__law_spoilt : PySem.W.keepIn K (.ref fx__law_spoilt) = true)
    (ax__law_is_process : PySem.W.nsIn K mainGlobals "_law_is_process" = some (some (.ref fx__law_is_process)))
    (lx__law_is_process : K.lookup fx__law_is_process = some ⟨ocx__law_is_process, odx__law_is_process, .func (PySem.W.fnOf "_law_is_process" "_law_is_process" (defArgs s__law_is_process) (defBody s__law_is_process) (defScope s__law_is_process) .none kVx__law_is_process dcx__law_is_process pmx__law_is_process anx__law_is_process cdx__law_is_process ctx__law_is_process), slx__law_is_process⟩)
    (cx__law_is_process : PySem.W.codeIn K cdx__law_is_process "_law_is_process" = true)
    (kx__law_is_process : PySem.W.keepIn K (.ref fx__law_is_process) = true)
    (ax__law_is_member : PySem.W.nsIn K mainGlobals "_law_is_member" = some (some (.ref fx__law_is_member)))
    (lx__law_is_member : K.lookup fx__law_is_member = some ⟨ocx__law_is_member, odx__law_is_member, .func (PySem.W.fnOf "_law_is_member" "_law_is_member" (defArgs s__law_is_member) (defBody s__law_is_member) (defScope s__law_is_member) .none kVx__law_is_member dcx__law_is_member pmx__law_is_member anx__law_is_member cdx__law_is_member ctx__law_is_member), slx__law_is_member⟩)
    (cx__law_is_member : PySem.W.codeIn K cdx__law_is_member "_law_is_member" = true)
    (kx__law_is_member : PySem.W.keepIn K (.ref fx__law_is_member) = true)
    (ax__law_is_members : PySem.W.nsIn K mainGlobals "_law_is_members" = some (some (.ref fx__law_is_members)))
    (lx__law_is_members : K.lookup fx__law_is_members = some ⟨ocx__law_is_members, odx__law_is_members, .func (PySem.W.fnOf "_law_is_members" "_law_is_members" (defArgs s__law_is_members) (defBody s__law_is_members) (defScope s__law_is_members) .none kVx__law_is_members dcx__law_is_members pmx__law_is_members anx__law_is_members cdx__law_is_members ctx__law_is_members), slx__law_is_members⟩)
    (cx__law_is_members : PySem.W.codeIn K cdx__law_is_members "_law_is_members" = true)
    (kx__law_is_members : PySem.W.keepIn K (.ref fx__law_is_members) = true)
    (ax__law_is_view_id : PySem.W.nsIn K mainGlobals "_law_is_view_id" = some (some (.ref fx__law_is_view_id)))
    (lx__law_is_view_id : K.lookup fx__law_is_view_id = some ⟨ocx__law_is_view_id, odx__law_is_view_id, .func (PySem.W.fnOf "_law_is_view_id" "_law_is_view_id" (defArgs s__law_is_view_id) (defBody s__law_is_view_id) (defScope s__law_is_view_id) .none kVx__law_is_view_id dcx__law_is_view_id pmx__law_is_view_id anx__law_is_view_id cdx__law_is_view_id ctx__law_is_view_id), slx__law_is_view_id⟩)
    (cx__law_is_view_id : PySem.W.codeIn K cdx__law_is_view_id "_law_is_view_id" = true)
    (kx__law_is_view_id : PySem.W.keepIn K (.ref fx__law_is_view_id) = true)
    (ax__law_right : PySem.W.nsIn K mainGlobals "_law_right" = some (some (.ref fx__law_right)))
    (lx__law_right : K.lookup fx__law_right = some ⟨ocx__law_right, odx__law_right, .func (PySem.W.fnOf "_law_right" "_law_right" (defArgs s__law_right) (defBody s__law_right) (defScope s__law_right) .none kVx__law_right dcx__law_right pmx__law_right anx__law_right cdx__law_right ctx__law_right), slx__law_right⟩)
    (cx__law_right : PySem.W.codeIn K cdx__law_right "_law_right" = true)
    (kx__law_right : PySem.W.keepIn K (.ref fx__law_right) = true)
    (ax_law : PySem.W.nsIn K mainGlobals "law" = some (some (.ref fx_law)))
    (lx_law : K.lookup fx_law = some ⟨ocx_law, odx_law, .func (PySem.W.fnOf "law" "law" (defArgs s_law) (defBody s_law) (defScope s_law) .none kVx_law dcx_law pmx_law anx_law cdx_law ctx_law), slx_law⟩)
    (cx_law : PySem.W.codeIn K cdx_law "law" = true)
    (kx_law : PySem.W.keepIn K (.ref fx_law) = true)
    (vMOST_PROCESSES : PySem.W.nsIn K mainGlobals "MOST_PROCESSES" = some (some (.int 12 tMOST_PROCESSES)))
    (zlen : PySem.W.nsIn K mainGlobals "len" = some none)
    (zisinstance : PySem.W.nsIn K mainGlobals "isinstance" = some none)
    (zint : PySem.W.nsIn K mainGlobals "int" = some none)
    (zbool : PySem.W.nsIn K mainGlobals "bool" = some none)
    (ztuple : PySem.W.nsIn K mainGlobals "tuple" = some none)
    (zrange : PySem.W.nsIn K mainGlobals "range" = some none)
    (zmin : PySem.W.nsIn K mainGlobals "min" = some none)
    (zmax : PySem.W.nsIn K mainGlobals "max" = some none)
    (zsorted : PySem.W.nsIn K mainGlobals "sorted" = some none) :
    ∃ fd : FuncData, (∀ (s : Shared) (v : Value), BindsTo s fd ⟨[v], []⟩ [("script", v)]) ∧ ∀ base : Heap, K.In base → base.Ns mainGlobals mg → FnOk l.prog w K mg base CX0 20 fa fd ["script"] (sp_law K) := by
  have e := hfa.symm.trans (PySem.W.mg_of X G ax_law)
  cases e
  have T : Tx mg := {
    b_len := PySem.W.mg_none_of X G zlen
    b_isinstance := PySem.W.mg_none_of X G zisinstance
    b_int := PySem.W.mg_none_of X G zint
    b_bool := PySem.W.mg_none_of X G zbool
    b_tuple := PySem.W.mg_none_of X G ztuple
    b_range := PySem.W.mg_none_of X G zrange
    b_min := PySem.W.mg_none_of X G zmin
    b_max := PySem.W.mg_none_of X G zmax
    b_sorted := PySem.W.mg_none_of X G zsorted
    c_MOST_PROCESSES := ⟨_, PySem.W.mg_of X G vMOST_PROCESSES⟩
    c_MOST_NUMBER := hL0 }
  let a_is_integer : DefAt K mg "is_integer" P_is_integer s_is_integer := at_mk X G ax_is_integer lx_is_integer cx_is_integer kx_is_integer fun _ _ _ _ _ _ us hl => match us, hl with | [_, _, _], _ => rfl
  let a_is_process : DefAt K mg "is_process" P_is_process s_is_process := at_mk X G ax_is_process lx_is_process cx_is_process kx_is_process fun _ _ _ _ _ _ us hl => match us, hl with | [_, _], _ => rfl
  let a_is_member : DefAt K mg "is_member" P_is_member s_is_member := at_mk X G ax_is_member lx_is_member cx_is_member kx_is_member fun _ _ _ _ _ _ us hl => match us, hl with | [_, _], _ => rfl
  let a_is_members : DefAt K mg "is_members" P_is_members s_is_members := at_mk X G ax_is_members lx_is_members cx_is_members kx_is_members fun _ _ _ _ _ _ us hl => match us, hl with | [_, _], _ => rfl
  let a_is_view_id : DefAt K mg "is_view_id" P_is_view_id s_is_view_id := at_mk X G ax_is_view_id lx_is_view_id cx_is_view_id kx_is_view_id fun _ _ _ _ _ _ us hl => match us, hl with | [_, _], _ => rfl
  let a__law_bag : DefAt K mg "_law_bag" P__law_bag s__law_bag := at_mk X G ax__law_bag lx__law_bag cx__law_bag kx__law_bag fun _ _ _ _ _ _ us hl => match us, hl with | [_, _], _ => rfl
  let a__law_draw : DefAt K mg "_law_draw" P__law_draw s__law_draw := at_mk X G ax__law_draw lx__law_draw cx__law_draw kx__law_draw fun _ _ _ _ _ _ us hl => match us, hl with | [_, _], _ => rfl
  let a__law_is_int : DefAt K mg "_law_is_int" P__law_is_int s__law_is_int := at_mk X G ax__law_is_int lx__law_is_int cx__law_is_int kx__law_is_int fun _ _ _ _ _ _ us hl => match us, hl with | [_, _, _], _ => rfl
  let a__law_positive : DefAt K mg "_law_positive" P__law_positive s__law_positive := at_mk X G ax__law_positive lx__law_positive cx__law_positive kx__law_positive fun _ _ _ _ _ _ us hl => match us, hl with | [_], _ => rfl
  let a__law_members : DefAt K mg "_law_members" P__law_members s__law_members := at_mk X G ax__law_members lx__law_members cx__law_members kx__law_members fun _ _ _ _ _ _ us hl => match us, hl with | [_, _], _ => rfl
  let a__law_odd : DefAt K mg "_law_odd" P__law_odd s__law_odd := at_mk X G ax__law_odd lx__law_odd cx__law_odd kx__law_odd fun _ _ _ _ _ _ us hl => match us, hl with | [_, _], _ => rfl
  let a__law_spoilt : DefAt K mg "_law_spoilt" P__law_spoilt s__law_spoilt := at_mk X G ax__law_spoilt lx__law_spoilt cx__law_spoilt kx__law_spoilt fun _ _ _ _ _ _ us hl => match us, hl with | [_, _, _], _ => rfl
  let a__law_is_process : DefAt K mg "_law_is_process" P__law_is_process s__law_is_process := at_mk X G ax__law_is_process lx__law_is_process cx__law_is_process kx__law_is_process fun _ _ _ _ _ _ us hl => match us, hl with | [_, _], _ => rfl
  let a__law_is_member : DefAt K mg "_law_is_member" P__law_is_member s__law_is_member := at_mk X G ax__law_is_member lx__law_is_member cx__law_is_member kx__law_is_member fun _ _ _ _ _ _ us hl => match us, hl with | [_, _], _ => rfl
  let a__law_is_members : DefAt K mg "_law_is_members" P__law_is_members s__law_is_members := at_mk X G ax__law_is_members lx__law_is_members cx__law_is_members kx__law_is_members fun _ _ _ _ _ _ us hl => match us, hl with | [_, _], _ => rfl
  let a__law_is_view_id : DefAt K mg "_law_is_view_id" P__law_is_view_id s__law_is_view_id := at_mk X G ax__law_is_view_id lx__law_is_view_id cx__law_is_view_id kx__law_is_view_id fun _ _ _ _ _ _ us hl => match us, hl with | [_, _], _ => rfl
  let a__law_right : DefAt K mg "_law_right" P__law_right s__law_right := at_mk X G ax__law_right lx__law_right cx__law_right kx__law_right fun _ _ _ _ _ _ us hl => match us, hl with | [_, _], _ => rfl
  have F_law := fun_mk (st := s_law) lx_law cx_law kx_law
  refine ⟨PySem.W.fnOf "law" "law" (defArgs s_law) (defBody s_law) (defScope s_law) .none kVx_law dcx_law pmx_law anx_law cdx_law ctx_law, fun s v => .of_eq rfl, fun base _ _ => ?_⟩
  let c_is_integer : DefOk l.prog w K mg base CX0 "is_integer" P_is_integer 1 (spI) := a_is_integer.ok fun F => ok_is_integer T  F
  let c_is_process : DefOk l.prog w K mg base CX0 "is_process" P_is_process 2 (spB2 isProc) := a_is_process.ok fun F => ok_is_process T c_is_integer F
  let c_is_member : DefOk l.prog w K mg base CX0 "is_member" P_is_member 3 (spB2 isMem) := a_is_member.ok fun F => ok_is_member T c_is_integer c_is_process F
  let c_is_members : DefOk l.prog w K mg base CX0 "is_members" P_is_members 4 (spB2 isMems) := a_is_members.ok fun F => ok_is_members T c_is_member F
  let c_is_view_id : DefOk l.prog w K mg base CX0 "is_view_id" P_is_view_id 4 (spB2 isVid) := a_is_view_id.ok fun F => ok_is_view_id T c_is_integer c_is_member F
  let c__law_bag : DefOk l.prog w K mg base CX0 "_law_bag" P__law_bag 1 (sp_bag K) := a__law_bag.ok fun F => ok__law_bag T  F
  let c__law_draw : DefOk l.prog w K mg base CX0 "_law_draw" P__law_draw 1 (sp_draw) := a__law_draw.ok fun F => ok__law_draw T  F
  let c__law_is_int : DefOk l.prog w K mg base CX0 "_law_is_int" P__law_is_int 1 (spI) := a__law_is_int.ok fun F => ok__law_is_int T  F
  let c__law_positive : DefOk l.prog w K mg base CX0 "_law_positive" P__law_positive 2 (sp_pos) := a__law_positive.ok fun F => ok__law_positive T c__law_draw F
  let c__law_members : DefOk l.prog w K mg base CX0 "_law_members" P__law_members 3 (sp_mems) := a__law_members.ok fun F => ok__law_members T c__law_draw c__law_positive F
  let c__law_odd : DefOk l.prog w K mg base CX0 "_law_odd" P__law_odd 2 (sp_odd 26) := a__law_odd.ok fun F => ok__law_odd T c__law_draw F
  let c__law_spoilt : DefOk l.prog w K mg base CX0 "_law_spoilt" P__law_spoilt 4 (sp_spoilt 2) := mk_spoilt T a__law_spoilt c__law_draw 2
  let c__law_is_process : DefOk l.prog w K mg base CX0 "_law_is_process" P__law_is_process 2 (spB2 isProc) := a__law_is_process.ok fun F => ok__law_is_process T c__law_is_int F
  let c__law_is_member : DefOk l.prog w K mg base CX0 "_law_is_member" P__law_is_member 3 (spB2 isMem) := a__law_is_member.ok fun F => ok__law_is_member T c__law_is_int c__law_is_process F
  let c__law_is_members : DefOk l.prog w K mg base CX0 "_law_is_members" P__law_is_members 4 (spB2 isMems) := a__law_is_members.ok fun F => ok__law_is_members T c__law_is_member F
  let c__law_is_view_id : DefOk l.prog w K mg base CX0 "_law_is_view_id" P__law_is_view_id 4 (spB2 isVid) := a__law_is_view_id.ok fun F => ok__law_is_view_id T c__law_is_int c__law_is_member F
  let c__law_right : DefOk l.prog w K mg base CX0 "_law_right" P__law_right 5 (sp_right) := a__law_right.ok fun F => ok__law_right T c__law_is_process c__law_is_member c__law_is_members c__law_is_view_id c_is_process c_is_member c_is_members c_is_view_id F
  exact ok_law T c__law_bag c__law_draw c__law_positive c__law_members c__law_odd c__law_spoilt c__law_right F_law
end Mus
open PySem PySem.W PyProof.Rows
set_option maxRecDepth 100000 in
set_option maxHeartbeats 0 in
theorem PySem.Challenge.cw_mustercall_k01_members_and_view_ids_holds : PySem.Challenge.rw_mustercall_k01_members_and_view_ids.Holds := by
  w_on; o_law; k_head; (case hw => w_witness2)
  k_fill
  refine Mus.walk_ofX (l := PySem.Challenge.rw_mustercall_k01_members_and_view_ids) (n := 63) (k := 20) (x := "script") (sp := fun w => Mus.sp_law (_ : PySem.W.Frag)) rfl (by decide) rfl ⟨rfl, by decide, by decide⟩ (fun w h Y => PySem.W.kIn_of Y) ?F (fun _ _ a ns hl _ hS => ⟨a, ns, rfl, hS, hl, fun _ => rfl⟩)
  case F =>
    intro w mg fa h KX G XX hmg
    refine' Mus.all_mk KX G hmg (Mus.loose_int XX.2) ?ax_is_integer ?lx_is_integer ?cx_is_integer ?kx_is_integer ?ax_is_process ?lx_is_process ?cx_is_process ?kx_is_process ?ax_is_member ?lx_is_member ?cx_is_member ?kx_is_member ?ax_is_members ?lx_is_members ?cx_is_members ?kx_is_members ?ax_is_view_id ?lx_is_view_id ?cx_is_view_id ?kx_is_view_id ?ax__law_bag ?lx__law_bag ?cx__law_bag ?kx__law_bag ?ax__law_draw ?lx__law_draw ?cx__law_draw ?kx__law_draw ?ax__law_is_int ?lx__law_is_int ?cx__law_is_int ?kx__law_is_int ?ax__law_positive ?lx__law_positive ?cx__law_positive ?kx__law_positive ?ax__law_members ?lx__law_members ?cx__law_members ?kx__law_members ?ax__law_odd ?lx__law_odd ?cx__law_odd ?kx__law_odd ?ax__law_spoilt ?lx__law_spoilt ?cx__law_spoilt ?kx__law_spoilt ?ax__law_is_process ?lx__law_is_process ?cx__law_is_process ?kx__law_is_process ?ax__law_is_member ?lx__law_is_member ?cx__law_is_member ?kx__law_is_member ?ax__law_is_members ?lx__law_is_members ?cx__law_is_members ?kx__law_is_members ?ax__law_is_view_id ?lx__law_is_view_id ?cx__law_is_view_id ?kx__law_is_view_id ?ax__law_right ?lx__law_right ?cx__law_right ?kx__law_right ?ax_law ?lx_law ?cx_law ?kx_law ?vMOST_PROCESSES ?zlen ?zisinstance ?zint ?zbool ?ztuple ?zrange ?zmin ?zmax ?zsorted
    (case ax_is_integer => first | k_is | rfl)
    (case lx_is_integer => first | k_is | rfl)
    (case cx_is_integer => first | k_is | rfl)
    (case kx_is_integer => first | k_is | rfl)
    (case ax_is_process => first | k_is | rfl)
    (case lx_is_process => first | k_is | rfl)
    (case cx_is_process => first | k_is | rfl)
    (case kx_is_process => first | k_is | rfl)
    (case ax_is_member => first | k_is | rfl)
    (case lx_is_member => first | k_is | rfl)
    (case cx_is_member => first | k_is | rfl)
    (case kx_is_member => first | k_is | rfl)
    (case ax_is_members => first | k_is | rfl)
    (case lx_is_members => first | k_is | rfl)
    (case cx_is_members => first | k_is | rfl)
    (case kx_is_members => first | k_is | rfl)
    (case ax_is_view_id => first | k_is | rfl)
    (case lx_is_view_id => first | k_is | rfl)
    (case cx_is_view_id => first | k_is | rfl)
    (case kx_is_view_id => first | k_is | rfl)
    (case ax__law_bag => first | k_is | rfl)
    (case lx__law_bag => first | k_is | rfl)
    (case cx__law_bag => first | k_is | rfl)
    (case kx__law_bag => first | k_is | rfl)
    (case ax__law_draw => first | k_is | rfl)
    (case lx__law_draw => first | k_is | rfl)
    (case cx__law_draw => first | k_is | rfl)
    (case kx__law_draw => first | k_is | rfl)
    (case ax__law_is_int => first | k_is | rfl)
    (case lx__law_is_int => first | k_is | rfl)
    (case cx__law_is_int => first | k_is | rfl)
    (case kx__law_is_int => first | k_is | rfl)
    (case ax__law_positive => first | k_is | rfl)
    (case lx__law_positive => first | k_is | rfl)
    (case cx__law_positive => first | k_is | rfl)
    (case kx__law_positive => first | k_is | rfl)
    (case ax__law_members => first | k_is | rfl)
    (case lx__law_members => first | k_is | rfl)
    (case cx__law_members => first | k_is | rfl)
    (case kx__law_members => first | k_is | rfl)
    (case ax__law_odd => first | k_is | rfl)
    (case lx__law_odd => first | k_is | rfl)
    (case cx__law_odd => first | k_is | rfl)
    (case kx__law_odd => first | k_is | rfl)
    (case ax__law_spoilt => first | k_is | rfl)
    (case lx__law_spoilt => first | k_is | rfl)
    (case cx__law_spoilt => first | k_is | rfl)
    (case kx__law_spoilt => first | k_is | rfl)
    (case ax__law_is_process => first | k_is | rfl)
    (case lx__law_is_process => first | k_is | rfl)
    (case cx__law_is_process => first | k_is | rfl)
    (case kx__law_is_process => first | k_is | rfl)
    (case ax__law_is_member => first | k_is | rfl)
    (case lx__law_is_member => first | k_is | rfl)
    (case cx__law_is_member => first | k_is | rfl)
    (case kx__law_is_member => first | k_is | rfl)
    (case ax__law_is_members => first | k_is | rfl)
    (case lx__law_is_members => first | k_is | rfl)
    (case cx__law_is_members => first | k_is | rfl)
    (case kx__law_is_members => first | k_is | rfl)
    (case ax__law_is_view_id => first | k_is | rfl)
    (case lx__law_is_view_id => first | k_is | rfl)
    (case cx__law_is_view_id => first | k_is | rfl)
    (case kx__law_is_view_id => first | k_is | rfl)
    (case ax__law_right => first | k_is | rfl)
    (case lx__law_right => first | k_is | rfl)
    (case cx__law_right => first | k_is | rfl)
    (case kx__law_right => first | k_is | rfl)
    (case ax_law => first | k_is | rfl)
    (case lx_law => first | k_is | rfl)
    (case cx_law => first | k_is | rfl)
    (case kx_law => first | k_is | rfl)
    (case vMOST_PROCESSES => first | k_is | rfl)
    (case zlen => first | k_is | rfl)
    (case zisinstance => first | k_is | rfl)
    (case zint => first | k_is | rfl)
    (case zbool => first | k_is | rfl)
    (case ztuple => first | k_is | rfl)
    (case zrange => first | k_is | rfl)
    (case zmin => first | k_is | rfl)
    (case zmax => first | k_is | rfl)
    (case zsorted => first | k_is | rfl)

