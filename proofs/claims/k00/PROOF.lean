import PyProof.Rows.All
import Wide.All
import OpenK.AllK
import Wide.FinOn
import HandS.Base
import HandS.Call
import HandS.List
import HandS.Comp
import HandS.Ends
import HandS.Iter
import HandS.Text
import HandS.Words
import HandS.WordsList
import HandS.Wide
import HandS.Exc
import HandS.ExcOwn
import HandS.ExcInit
import HandS.ExcIs
import HandS.ExcValue
import HandS.IsInst
import KE.KExcIs
import PySem.Challenge.RW_mustercall_k00_errors_and_limits
set_option Elab.async false
set_option linter.all false
set_option maxRecDepth 100000
set_option maxHeartbeats 4000000
/-! What my proofs share: a def with its promise as one thing, small rules, heaps. -/
namespace Mus
open PySem L2
/-- a def of the text that keeps a promise, and all that a call of it asks -/
structure DefOk (P : Program) (w : World) (K : PySem.W.Frag) (mg : Str → Option Value) (base : Heap) (CX : CXT) (x : Str) (ps : List Str) (k : Nat) (sp : Sp) where
  f : Addr
  fd : FuncData
  G : FnOk P w K mg base CX k f fd ps sp
  m : mg x = some (.ref f)
  kp : PySem.W.keepIn K (.ref f) = true
  b : Binds K fd ps []
def DefOk.mono {P : Program} {w : World} {K : PySem.W.Frag} {mg : Str → Option Value} {base : Heap} {CX : CXT} {x : Str} {ps : List Str} {j k : Nat} {sp : Sp} (c : DefOk P w K mg base CX x ps j sp) (h : j ≤ k) : DefOk P w K mg base CX x ps k sp :=
  ⟨c.f, c.fd, c.G.mono h, c.m, c.kp, c.b⟩
/-- a def of the text as the top left it: no promise yet -/
structure DefAt (K : PySem.W.Frag) (mg : Str → Option Value) (x : Str) (ps : List Str) (st : Stmt) where
  f : Addr
  fd : FuncData
  F : Fun K x x st f fd
  m : mg x = some (.ref f)
  b : Binds K fd ps []
def DefAt.ok {P : Program} {w : World} {K : PySem.W.Frag} {mg : Str → Option Value} {base : Heap} {CX : CXT} {x : Str} {ps : List Str} {st : Stmt} {k : Nat} {sp : Sp} (d : DefAt K mg x ps st) (h : ∀ {f : Addr} {fd : FuncData}, Fun K x x st f fd → FnOk P w K mg base CX k f fd ps sp) : DefOk P w K mg base CX x ps k sp :=
  ⟨d.f, d.fd, h d.F, d.m, d.F.kp, d.b⟩
section
variable {X : Cx}
theorem pcall {x : Str} {ps : List Str} {j k : Nat} {sp : Sp} {e : Expr} {es : List Expr} {t : TA} {p pos : Pos} (c : DefOk X.prog X.w X.K X.mg X.base CX0 x ps j sp) (hr : Room k X.A) (ha : PA X (e :: es) t) (hj : j ≤ k := by first | decide | omega) (hg : Gl X x := by rfl)
    (db0 : (x == ("__debug__" : Str)) = false := by decide) (st0 : starEach (e :: es) X.env = (false, eval e X.env) :: starEach es X.env := by rfl) (pl0 : (backTo pos (starEach es X.env)).any (·.1) = false := by rfl) :
    PE X (.Call (.Name x p) (e :: es) [] pos) (tCall sp [] E0 t) := pe_call c.G (hr.mono hj) hg c.m c.kp c.b .nil pass0 ha db0 st0 pl0
/-- a text n times -/
theorem op_mul_str : OpR X (binaryOp .Mult) (fun x y H Q => ∃ (z : Str) (n : Int), x = .str z ∧ y = .int n ∧ 2 ≤ n ∧ n ≤ 1000 ∧ 1 ≤ z.length ∧ z.length ≤ 1000 ∧ ∀ r : Str, TL.tl r = (List.replicate n.toNat (TL.tl z)).flatten → Q (.str r) H) := by
  intro pins s σ H x y v u Q I rx ry h
  obtain ⟨z, n, rfl, rfl, h2, h3, h4, h5, q⟩ := h
  obtain ⟨t, rfl⟩ := rx
  obtain ⟨t', rfl⟩ := ry
  have n1 : ¬ n < 1 := by omega
  have n2 : ¬ (n == 1 || z.length == 0) = true := by
    rw [Bool.or_eq_true, beq_iff_eq, beq_iff_eq]; omega
  have hr : (decide (n < -(2 ^ 63 : Int)) || decide (n ≥ 2 ^ 63)) = false := by
    rw [decide_eq_false (by omega), decide_eq_false (by omega)]; rfl
  have hm : z.length * n.toNat ≤ 1000 * 1000 := Nat.mul_le_mul h5 (by omega)
  have hl : Builtin.Str.tooLong (z.length * n.toNat) = false := by
    unfold Builtin.Str.tooLong
    have e : sizeLine = 16777216 := sizeLine_eq
    rw [decide_eq_false (by omega)]
  have hb : ¬ ((z.length : Int) > (2 ^ 63 - 1) / n) := by
    have : (1000 : Int) ≤ (2 ^ 63 - 1) / n := by
      rw [Int.le_ediv_iff_mul_le (by omega)]
      omega
    omega
  refine PySem.P.mul_str hr (fun _ _ => hb) (fun _ _ => hl) ?_
  rw [if_neg n1, if_neg n2]
  have hf : ∀ (k : Nat) (acc : Array Nat), ((List.replicate k z.cps).foldl (· ++ ·) acc).toList = acc.toList ++ (List.replicate k z.cps.toList).flatten := by
    intro k
    induction k with
    | zero => intro acc; simp
    | succ k ih =>
      intro acc
      rw [List.replicate_succ, List.foldl_cons, ih, List.replicate_succ, List.flatten_cons, Array.toList_append, List.append_assoc]
  have hr : TL.tl (⟨(List.replicate n.toNat z.cps).foldl (· ++ ·) #[]⟩ : Str) = (List.replicate n.toNat (TL.tl z)).flatten := by
    show ((List.replicate n.toNat z.cps).foldl (· ++ ·) #[]).toList = _
    rw [hf]; rfl
  have hlen : (⟨(List.replicate n.toNat z.cps).foldl (· ++ ·) #[]⟩ : Str).length ≤ sizeLine := by
    rw [TL.len_tl, hr]
    have e : sizeLine = 16777216 := sizeLine_eq
    have z2 : ((List.replicate n.toNat (TL.tl z)).flatten).length = z.length * n.toNat := by
      rw [TL.len_tl]
      generalize n.toNat = k
      induction k with
      | zero => rfl
      | succ k ih => rw [List.replicate_succ, List.flatten_cons, List.length_append, ih, Nat.mul_succ, Nat.add_comm]
    omega
  exact ⟨hlen, .str _, H, I.tok _, ⟨_, rfl⟩, q _ hr⟩
/-- for c in a text -/
theorem for_str {z : Str} {g : TG} {tb : TS} {D : Ends} {σ : St} {H : Hp} (Pv : Nat → St → Hp → Prop) (h0 : Pv 0 σ H)
    (hs : ∀ i c σ H, (TL.tl z)[i]? = some c → Pv i σ H → g (.str ⟨#[c]⟩) σ H fun σ2 H2 => tb { D with nx := Pv (i + 1), ct := Pv (i + 1), bk := D.nx } σ2 H2) (hd : ∀ σ H, Pv (TL.tl z).length σ H → D.nx σ H) :
    ∃ W : Nat → Nat → St → Hp → Prop, (∃ m, W 0 m σ H) ∧ ∀ i m σ H, W i m σ H →
      ((Its z).stop i H ∧ D.nx σ H) ∨ ((Its z).go i H ∧ ∃ N : St → Hp → Prop, (∀ σ' H', N σ' H' → ∃ m', m' < m ∧ W (i + 1) m' σ' H') ∧ ∀ x H', (Its z).yld i H x H' → g x σ H' fun σ2 H2 => tb { D with nx := N, ct := N, bk := D.nx } σ2 H2) := by
  have hl : (TL.tl z).length = z.cps.size := Array.length_toList
  refine ⟨fun i m σ H => m = (TL.tl z).length - i ∧ i ≤ (TL.tl z).length ∧ Pv i σ H, ⟨(TL.tl z).length, rfl, Nat.zero_le _, h0⟩, ?_⟩
  rintro i m σ H ⟨rfl, le1, pv1⟩
  by_cases lt1 : i < (TL.tl z).length
  · refine .inr ⟨(by show i < z.cps.size; omega), Pv (i + 1), fun σ' H' p' => ⟨(TL.tl z).length - (i + 1), by omega, rfl, lt1, p'⟩, fun x H' y => ?_⟩
    obtain ⟨e, c, hc, ex⟩ := y
    subst e
    subst ex
    exact hs i c σ H' (by rw [Array.getElem?_toList]; exact hc) pv1
  · have e : i = (TL.tl z).length := by omega
    subst e
    exact .inl ⟨(by show z.cps.size ≤ _; omega), hd σ H pv1⟩
end
/-! ### heaps -/
/-- all but what stands at p is as it was -/
def But (p : Addr) (H H' : Hp) : Prop := ∀ b o, H b = some o → b ≠ p → H' b = some o
theorem But.refl (p : Addr) (H : Hp) : But p H H := fun _ _ h _ => h
theorem But.trans {p : Addr} {H H1 H2 : Hp} (a : But p H H1) (b : But p H1 H2) : But p H H2 := fun c o h n => b c o (a c o h n) n
theorem But.of {p : Addr} {H H' : Hp} (a : Same H H') : But p H H' := fun c o h _ => a c o h
theorem same_new {H : Hp} {p : Addr} (h : H p = none) (o : HO) : Same H (upd H p o) := fun b u q => by rw [upd_ne (ne_of_none q h)]; exact q
theorem but_upd {H : Hp} {p : Addr} (o : HO) : But p H (upd H p o) := fun b u q n => by rw [upd_ne n]; exact q
theorem same_seqT {K : PySem.W.Frag} {H H' : Hp} {a : Addr} {xs : List V} (e : Same H H') (h : SqT K H a xs) : SqT K H' a xs := by
  rcases h with (h | ⟨o, h⟩) | h
  · exact .inl (.inl (e _ _ h))
  · exact .inl (.inr ⟨o, e _ _ h⟩)
  · exact .inr h
/-- tuples stay where only a list may change -/
theorem But.seqT {K : PySem.W.Frag} {H H' : Hp} {p a : Addr} {xs ys : List V} (e : But p H H') (hp : H p = some (.lst ys)) (h : SqT K H a xs) : SqT K H' a xs := by
  rcases h with (h | ⟨o, h⟩) | h
  · exact .inl (.inl (e _ _ h (ne_of h hp (by intro z; cases z))))
  · exact .inl (.inr ⟨o, e _ _ h (ne_of h hp (by intro z; cases z))⟩)
  · exact .inr h
theorem But.seqL {K : PySem.W.Frag} {H H' : Hp} {p a : Addr} {xs : List V} (e : But p H H') (hp : a ≠ p) (h : SqL K H a xs) : SqL K H' a xs := by
  rcases h with (h | ⟨o, h⟩) | h
  · exact .inl (.inl (e _ _ h hp))
  · exact .inl (.inr ⟨o, e _ _ h hp⟩)
  · exact .inr h
end Mus

set_option maxRecDepth 100000
set_option maxHeartbeats 4000000
/-! Exceptions as values: made, kept in lists, asked for their class and their fields. -/
namespace Mus
open PySem PySem.Spec PyProof.Rows L2
section
variable {X : Cx} {o e : Expr} {es : List Expr} {to te : TE} {ta : TA} {f : Str} {p pos : Pos}
/-- C(e, ..), C with an own __init__, as a value -/
def tMkV (C : Addr) (sp : Sp) (ta : TA) : TE := fun σ H Q => ta σ H fun vs H1 => vs.length ≤ 1000 ∧ ∀ a, H1 a = none → sp (.ref a :: vs) (upd H1 a (exo a C none)) (fun v H2 => v = .non ∧ Q (.ref a) H2) (fun _ _ _ => False)
theorem pe_mkV {x : Str} {C fI : Addr} {k : Nat} {fd : FuncData} {ps : List Str} {sp : Sp} (T : OexC X.K C) (iC : PySem.W.findIn X.K (.ref C) "__init__" = some (some (.ref fI))) (tI : PySem.W.typeIn X.K (.ref fI) = some (.type "function"))
    (F1 : FnOk X.prog X.w X.K X.mg X.base CX0 k fI fd ps sp) (hr : Room (k + 1) X.A) (hb : Binds X.K fd ps []) (hg : Gl X x) (hm : X.mg x = some (.ref C)) (ha : PA X (e :: es) ta)
    (db0 : (x == ("__debug__" : Str)) = false := by decide) (he : starEach (e :: es) X.env = (false, eval e X.env) :: starEach es X.env := by rfl) (pl0 : (backTo pos (starEach es X.env)).any (·.1) = false := by rfl) :
    PE X (.Call (.Name x p) (e :: es) [] pos) (tMkV C sp ta) := by
  refine ⟨fun pn s σ H Q I h => ?_⟩
  obtain ⟨nm0, q, N, bs, chain, sn, sub, ab, col, dd, k0, k1, k2, k3, k5, cC, okC⟩ := T.cls
  refine wpAny_Call_Name_kw (ld_glob I hg hm ?_ db0)
  refine PySem.W.callWith_K (h₀ := X.base) I.ok.mod.kin T.kC (thn (ha.run pos pn s σ H _ I h) fun ws sa ⟨vs, Ha, Ia, ra, few, qa⟩ => ⟨Ia.kIn, ?_⟩) he pl0
  show wpAny _ _ (call (.ref C) ws) _ _ _
  obtain ⟨mem, g, dw, tn, io⟩ := sa
  have le1 : mem.objs.size ≤ mem.objs.size + 1 := Nat.le_succ _
  have fr : Ha (mem.objs.size + 1) = none := Ia.hok.fresh le1
  have pr := qa (mem.objs.size + 1) fr
  have old : ∀ b o, mem.get? b = some o → ((mem.push (PySem.W.kdv_tup ws)).push (PySem.HandSPX.excO C mem.objs.size)).get? b = some o := fun b o e => Heap.get?_push_of_some _ (Heap.get?_push_of_some _ e)
  have got : ((mem.push (PySem.W.kdv_tup ws)).push (PySem.HandSPX.excO C mem.objs.size)).get? (mem.objs.size + 1) = some (PySem.HandSPX.excO C mem.objs.size) := by heap_get
  have J2 : Inv X pn σ (upd Ha (mem.objs.size + 1) (exo (mem.objs.size + 1) C none)) ⟨(mem.push (PySem.W.kdv_tup ws)).push (PySem.HandSPX.excO C mem.objs.size), g, dw, tn, io⟩ :=
    Ia.laid (t' := tn) (a := mem.objs.size + 1) (o := exo (mem.objs.size + 1) C none) (h' := (mem.push (PySem.W.kdv_tup ws)).push (PySem.HandSPX.excO C mem.objs.size)) old le1 (exo_ok got)
  have rr : Vals (V.ref (mem.objs.size + 1) :: vs) (Value.ref (mem.objs.size + 1) :: ws) := .cons rfl ra
  have len1 : (Value.ref (mem.objs.size + 1) :: ws ++ []).length = ps.length := by
    have e := rr.length
    rw [F1.len _ _ _ _ pr] at e
    rw [List.append_nil]
    exact e.symm
  have room1 : ws.length ≤ sizeLine := by
    rw [← Paired.length ra, sizeLine_eq]
    omega
  have bnd := hb ⟨(mem.push (PySem.W.kdv_tup ws)).push (PySem.HandSPX.excO C mem.objs.size), g, dw, tn, io⟩ (Value.ref (mem.objs.size + 1) :: ws) J2.kIn len1
  rw [List.append_nil] at bnd
  refine wpAny_call (PySem.HandSPX.call_own F.excBase_ValueError (fun Y => PySem.HandSPX.refsVE_contains Y chain okC) (Ia.kIn _ _ cC) (PySem.W.looks_findIn Ia.kIn iC) (fun self => PySem.W.bind_fn Ia.kIn self tI) room1
    (codeAny_mono (F1.run _ X.stack _ _ ⟨Value.ref (mem.objs.size + 1) :: ws, []⟩ (Value.ref (mem.objs.size + 1) :: ws) _ _ (fun _ _ _ => False) (hr.make C ws []) (J2.env0.make C ws []) bnd rr pr) fun r s' ends => ?_))
  cases r with
  | error er => exact False.elim ends
  | ok fl =>
    cases fl with
    | ret u =>
      obtain ⟨v, H2, io2, bare3, un3, hok3, rv, isNon, qb⟩ := ends
      subst isNon
      obtain ⟨mem2, gs2, dw2, tn2, os'⟩ := s'
      obtain rfl : os' = io := io2
      exact ⟨rv, .ref (mem.objs.size + 1), H2, J2.call (h' := mem2) (g' := gs2) (d' := dw2) (t' := tn2) (ch := []) un3 hok3 bare3 (fun b z => absurd z (by simp)), rfl, qb⟩
    | next => exact False.elim ends
    | brk => exact False.elim ends
    | cont => exact False.elim ends
/-- C(), C without an own __init__, as a value -/
theorem pe_mkV0 {C : Addr} {bmB : List Value} {B newId initId : String} {x : Str} (F : ExcBaseFacts B newId initId bmB) (q : PySem.W.excIn X.K C bmB newId = true) (gC : X.mg x = some (.ref C)) (kC : PySem.W.keepIn X.K (.ref C) = true) (hg : Gl X x := by rfl) (db0 : (x == ("__debug__" : Str)) = false := by decide) :
    PE X (.Call (.Name x p) [] [] pos) (fun _ H Q => ∀ a, H a = none → Q (.ref a) (upd H a (exo a C none))) := by
  refine ⟨fun pn s σ H Q I h => ?_⟩
  refine wpAny_Call_Name_kw (ld_glob I hg gC ?_ db0)
  refine PySem.W.callWith_K0 I.kIn kC ?_
  show wpAny _ _ (call (.ref C) []) _ _ _
  obtain ⟨mem, g, dw, tn, io⟩ := s
  obtain ⟨chain, N, nm0, qn, bs, hdct, sn, sub, ab, col, dd, k0, k1, k2, k3, k5, mN, cC, hN, hni, T⟩ := exc_obj I.kIn q
  refine wpAny_call_exc_subT F T cC hN hni (fun h' a hm => ?_) (by show 0 ≤ sizeLine; rw [sizeLine_eq]; omega)
  have fr : H a = none := I.hok.gone hm.new
  obtain ⟨t, ht, _, _⟩ := hm.there
  exact ⟨.ref a, upd H a (exo a C none), I.laidN hm.keeps hm.new fr (exo_ok ht), rfl, h a fr⟩
/-- an exception that stands tracked, as an instance -/
theorem exo_inst {pins : List (Addr × Obj)} {σ : L2.St} {H : Hp} {s : Shared} {a C : Addr} {d : Option Addr} (I : Inv X pins σ H s) (ea : H a = some (exo a C d)) (ed : ∀ dx, d = some dx → ∃ fs, H dx = some (exd dx fs)) :
    ∃ ox od, PySem.W.InstAt s.heap a ox C od := by
  obtain ⟨t1, ho⟩ := exo_at I.hok ea
  cases d with
  | none => exact ⟨_, none, ho, rfl, rfl, trivial⟩
  | some dx =>
    obtain ⟨fs, e2⟩ := ed dx rfl
    obtain ⟨mA, hns, rel⟩ := exd_at I.hok e2
    obtain ⟨oD, _, _, hoD, _, _⟩ := hns.count (within_of rel)
    exact ⟨_, some oD, ho, rfl, rfl, hoD⟩
/-- isinstance(x, c), x an exception that stands tracked -/
def rIsV (K : PySem.W.Frag) : List V → Hp → VK → Prop := fun xs H Q => ∃ (a C : Addr) (d : Option Addr) (c : V) (cv : Value) (b : Bool), xs = [.ref a, c] ∧ H a = some (exo a C d) ∧ (∀ dx, d = some dx → ∃ fs, H dx = some (exd dx fs)) ∧ ClsV c cv ∧ ExcC K C ∧ PySem.W.kitOne K (.ref C) cv = some b ∧ Q (.bl b) H
theorem call_isV : CallR X (.builtin "isinstance") (rIsV X.K) := by
  intro pn s σ H xs ws Q I r h
  obtain ⟨a, C, d, c, cv, b, rfl, ea, ed, hcv, T, e, q⟩ := h
  obtain ⟨ua, ub, rfl, ra, rb⟩ := vals2 r
  cases (show ua = Value.ref a from ra)
  have ec := hcv.eq rb
  subst ec
  obtain ⟨ox, od, J⟩ := exo_inst I ea ed
  have hcl : (PySem.W.clsIn X.K C).isSome = true := by
    obtain ⟨cd, hc, _⟩ := PySem.W.any_some T.hd
    rw [hc]; rfl
  exact PySem.W.kia_one (PySem.W.kitx_exc hcl T.hg T.hk T.hs T.ha T.hn T.ht T.hm) I.kIn J e (fun z => nomatch z) fun tk => ⟨.bl b, H, I.tok tk, rfl, q⟩
/-- x.f, x an exception with its dict -/
def tExf (K : PySem.W.Frag) (f : Str) (te : TE) : TE := fun σ H Q => te σ H fun x H1 => ∃ (a C dx : Addr) (fs : List (Str × V)) (v : V), x = .ref a ∧ H1 a = some (exo a C (some dx)) ∧ H1 dx = some (exd dx fs) ∧ ExcC K C ∧ PySem.W.findIn K (.ref C) f = some none ∧ fs.lookup f = some v ∧ Q v H1
theorem pe_exf (he : PE X e te) (hb : attributeBase e f X.env (eval e X.env) = eval e X.env := by rfl) : PE X (.Attribute e f pos) (tExf X.K f te) := by
  refine ⟨fun pn s σ H Q I h => ?_⟩
  refine attr_of hb (thn (he.run pn s σ H _ I h) fun u sa got => ?_)
  obtain ⟨x, H1, I1, rx, a, C, dx, fs, v, ex, ea, ed, T, hno, hl, q⟩ := got
  subst ex
  obtain rfl : u = Value.ref a := rx
  obtain ⟨t1, ho⟩ := exo_at I1.hok ea
  obtain ⟨mA, hns, rel⟩ := exd_at I1.hok ed
  obtain ⟨od, hod, hlk⟩ := lookIn_ns hns
  obtain ⟨u, hu, ru⟩ := RelO.some_of (v := v) (o := mA f) (by rw [← hl]; exact rel f)
  have J : PySem.W.InstAt sa.heap a { cls := .ref C, dict := some dx, data := .fields #[.ref t1, .none, .none, .none, .bool false, .none] } C (some od) := ⟨ho, rfl, rfl, hod⟩
  exact PySem.HandSPX.exc_get I1.kIn J T.hg T.hk T.hs (PySem.W.findObj_own T.hd hno rfl (by rw [hlk, hu])) (handed_of ru) ⟨v, H1, I1.tok _, ru, q⟩
end
end Mus

set_option maxRecDepth 100000
set_option maxHeartbeats 4000000
namespace Mus
open PySem L2
theorem sl : sizeLine = 16777216 := sizeLine_eq
theorem dT {p : Prop} [Decidable p] {A B : Prop} (h : p) (a : A) : if decide p = true then A else B := by
  rw [decide_eq_true h]; exact iteT a
theorem dF {p : Prop} [Decidable p] {A B : Prop} (h : ¬ p) (b : B) : if decide p = true then A else B := by
  rw [decide_eq_false h]; exact iteF b
theorem nT {p : Prop} [Decidable p] {A B : Prop} (h : ¬ p) (a : A) : if (!decide p) = true then A else B := by
  rw [decide_eq_false h]; exact iteT a
theorem nF {p : Prop} [Decidable p] {A B : Prop} (h : p) (b : B) : if (!decide p) = true then A else B := by
  rw [decide_eq_true h]; exact iteF b
theorem pe_const {X : Cx} {x : Str} {i : Int} {pos : Pos} (hm : ∃ t, X.mg x = some (.int i t)) (hg : Gl X x := by rfl) (hd : (x == ("__debug__" : Str)) = false := by decide) : PE X (.Name x pos) (tC (.int i)) := by
  obtain ⟨t, h⟩ := hm
  exact pe_glob hg h ⟨t, rfl⟩ hd
theorem pe_ty {X : Cx} {x : Str} {pos : Pos} (n : String) (hm : X.mg x = none) (hv : bootBuiltins x = some (.type n) := by decide +kernel) (hg : Gl X x := by rfl) (hn : x ≠ "__name__" := by decide) (hd : (x == ("__debug__" : Str)) = false := by decide) : PE X (.Name x pos) (tC (.ty n)) := pe_bltn hg hm hv rfl hn hd
theorem pe_cls {X : Cx} {x : Str} {C : Addr} {pos : Pos} (hm : X.mg x = some (.ref C)) (hg : Gl X x := by rfl) (hd : (x == ("__debug__" : Str)) = false := by decide) : PE X (.Name x pos) (tC (.ref C)) := pe_glob (v := .ref C) hg hm rfl hd
theorem at_int {α : Type} {xs : List α} {i : Int} {v : α} (h0 : 0 ≤ i) (h : xs[i.toNat]? = some v) : atI xs i = some v := by
  have e : i = ((i.toNat : Nat) : Int) := by omega
  rw [e]
  exact atI_nat h
def top (i : Nat) : Stmt := PySem.Challenge.pw_mustercall_k00_errors_and_limits.main.body.getD i (.Pass ⟨0, 0, 0, 0⟩)
/-- the eight classes in the law's order, and their base M -/
structure Tx (K : PySem.W.Frag) (mg : Str → Option Value) (Cs : Nat → Addr) (M : Addr) : Prop where
  b_len : mg "len" = none
  b_isinstance : mg "isinstance" = none
  b_int : mg "int" = none
  b_range : mg "range" = none
  b_ValueError : mg "ValueError" = none
  g_BadText : mg "BadText" = some (.ref (Cs 0))
  g_BadPayload : mg "BadPayload" = some (.ref (Cs 1))
  g_BadLetter : mg "BadLetter" = some (.ref (Cs 2))
  g_BadMember : mg "BadMember" = some (.ref (Cs 3))
  g_BadView : mg "BadView" = some (.ref (Cs 4))
  g_DiskError : mg "DiskError" = some (.ref (Cs 5))
  g_DiskCrashed : mg "DiskCrashed" = some (.ref (Cs 6))
  g_BadSchedule : mg "BadSchedule" = some (.ref (Cs 7))
  g_MusterError : mg "MusterError" = some (.ref M)
  ex : ∀ i, i < 8 → ExcC K (Cs i)
  kit : ∀ i j, i < 8 → j < 8 → PySem.W.kitOne K (.ref (Cs i)) (.ref (Cs j)) = some (decide (i = j))
  kitM : ∀ i, i < 8 → PySem.W.kitOne K (.ref (Cs i)) (.ref M) = some true
  kitV : ∀ i, i < 8 → PySem.W.kitOne K (.ref (Cs i)) (.type "ValueError") = some true
  x_BadText : PySem.W.excIn K (Cs 0) [.type "ValueError", .type "Exception", .type "BaseException", .type "object"] "ValueError.__new__" = true
  k_BadText : PySem.W.keepIn K (.ref (Cs 0)) = true
  x_BadPayload : PySem.W.excIn K (Cs 1) [.type "ValueError", .type "Exception", .type "BaseException", .type "object"] "ValueError.__new__" = true
  k_BadPayload : PySem.W.keepIn K (.ref (Cs 1)) = true
  x_BadLetter : PySem.W.excIn K (Cs 2) [.type "ValueError", .type "Exception", .type "BaseException", .type "object"] "ValueError.__new__" = true
  k_BadLetter : PySem.W.keepIn K (.ref (Cs 2)) = true
  x_BadMember : PySem.W.excIn K (Cs 3) [.type "ValueError", .type "Exception", .type "BaseException", .type "object"] "ValueError.__new__" = true
  k_BadMember : PySem.W.keepIn K (.ref (Cs 3)) = true
  x_BadView : PySem.W.excIn K (Cs 4) [.type "ValueError", .type "Exception", .type "BaseException", .type "object"] "ValueError.__new__" = true
  k_BadView : PySem.W.keepIn K (.ref (Cs 4)) = true
  x_DiskError : PySem.W.excIn K (Cs 5) [.type "ValueError", .type "Exception", .type "BaseException", .type "object"] "ValueError.__new__" = true
  k_DiskError : PySem.W.keepIn K (.ref (Cs 5)) = true
  x_DiskCrashed : PySem.W.excIn K (Cs 6) [.type "ValueError", .type "Exception", .type "BaseException", .type "object"] "ValueError.__new__" = true
  k_DiskCrashed : PySem.W.keepIn K (.ref (Cs 6)) = true
  o_BadSchedule : OexC K (Cs 7)
  n_line : PySem.W.findIn K (.ref (Cs 7)) "line" = some none
  n_reason : PySem.W.findIn K (.ref (Cs 7)) "reason" = some none
  c_MOST_PROCESSES : ∃ t, mg "MOST_PROCESSES" = some (.int 12 t)
  c_MOST_NUMBER : ∃ t, mg "MOST_NUMBER" = some (.int 1000000000000 t)
  c_MOST_PAYLOAD : ∃ t, mg "MOST_PAYLOAD" = some (.int 30 t)
  c_MOST_DIGITS : ∃ t, mg "MOST_DIGITS" = some (.int 24 t)
  c_MOST_DEPTH : ∃ t, mg "MOST_DEPTH" = some (.int 8 t)
  c_MOST_LENGTH : ∃ t, mg "MOST_LENGTH" = some (.int 100000 t)
section
variable {P : Program} {w : World} {K : PySem.W.Frag} {mg : Str → Option Value} {base : Heap} {Cs : Nat → Addr} {M : Addr}
/-- an exception of the i-th class stands at a -/
def Err (Cs : Nat → Addr) (H : Hp) (a : Addr) (i : Nat) : Prop := ∃ d, H a = some (exo a (Cs i) d) ∧ ∀ dx, d = some dx → ∃ fs, H dx = some (exd dx fs)
theorem Err.same {H H' : Hp} {a : Addr} {i : Nat} (s : Same H H') (h : Err Cs H a i) : Err Cs H' a i := by
  obtain ⟨d, h1, h2⟩ := h
  exact ⟨d, s _ _ h1, fun dx e => by obtain ⟨fs, q⟩ := h2 dx e; exact ⟨fs, s _ _ q⟩⟩
theorem same_newE {H : Hp} {p : Addr} (h : H p = none) (o : HO) : Same H (upd H p o) := same_new h o
abbrev s_BadSchedule___init__ : Stmt := inClass (top 9) 0
abbrev N_BadSchedule___init__ : List Str := ["self", "line", "reason"]
abbrev P_BadSchedule___init__ : List Str := ["self", "line", "reason"]
theorem sc_BadSchedule___init__ : FnScope N_BadSchedule___init__ P_BadSchedule___init__ (defScope s_BadSchedule___init__) := ⟨rfl, rfl, rfl, by decide +kernel, rfl, by decide +kernel, by decide +kernel⟩
def sp_init (Cs : Nat → Addr) : Sp := fun vs H Q _ => ∃ (a : Addr) (u v : V), vs = [.ref a, u, v] ∧ H a = some (exo a (Cs 7) none) ∧ ∀ d H', H d = none → (∀ b o, H b = some o → b ≠ a → H' b = some o) → H' a = some (exo a (Cs 7) (some d)) → H' d = some (exd d [("reason", v), ("line", u)]) → Q .non H'
theorem ok_init {f : Addr} {fd : FuncData} (T : Tx K mg Cs M) (F : Fun K "__init__" "BadSchedule.__init__" s_BadSchedule___init__ f fd) : FnOk P w K mg base CX0 1 f fd P_BadSchedule___init__ (sp_init Cs) := by
  have nd := sc_BadSchedule___init__.nd
  refine F.ok sc_BadSchedule___init__ (fun vs H Q E h => ?_) (fun cdv A outer s H vs Q E hr h => ?_)
  · obtain ⟨_, _, _, rfl, _⟩ := h
    rfl
  · obtain ⟨a, u, v, rfl, ha, q⟩ := h
    refine ⟨_, (pss_cons (ps_ost (pv 0) (pv 1))
      (pss_one (ps_ost (pv 0) (pv 2)))), ?_⟩
    refine ⟨_, rfl, _, rfl, a, Cs 7, rfl, T.o_BadSchedule, T.n_line, .inl ⟨ha, fun d nd hne => ?_⟩⟩
    refine ⟨_, rfl, _, rfl, a, Cs 7, rfl, T.o_BadSchedule, T.n_reason, .inr ⟨d, [("line", u)], upd_same, by rw [upd_ne hne, upd_same], by show 1 ≤ 900; decide, ?_⟩⟩
    refine q d _ nd (fun b o h hb => ?_) ?_ upd_same
    · have hbd : b ≠ d := ne_of_none h nd
      rw [upd_ne hbd, upd_ne hb, upd_ne hbd]; exact h
    · rw [upd_ne hne.symm, upd_same]
abbrev s__law_cell : Stmt := top 17
abbrev N__law_cell : List Str := ["script", "k"]
abbrev P__law_cell : List Str := ["script", "k"]
theorem sc__law_cell : FnScope N__law_cell P__law_cell (defScope s__law_cell) := ⟨rfl, rfl, rfl, by decide +kernel, rfl, by decide +kernel, by decide +kernel⟩
def sp__law_cell (K : PySem.W.Frag) : Sp := fun vs H Q _ => ∃ (a : Addr) (ns : List Int) (k : Nat), vs = [.ref a, .int k] ∧ SqL K H a (ns.map V.int) ∧ ∀ x, Q (.int x) H
theorem ok__law_cell {f : Addr} {fd : FuncData} (T : Tx K mg Cs M) (F : Fun K "_law_cell" "_law_cell" s__law_cell f fd) : FnOk P w K mg base CX0 1 f fd P__law_cell (sp__law_cell K) := by
  have nd := sc__law_cell.nd
  refine F.ok sc__law_cell (fun vs H Q E h => ?_) (fun cdv A outer s H vs Q E hr h => ?_)
  · obtain ⟨_, _, _, rfl, _⟩ := h
    rfl
  · obtain ⟨a, ns, k, rfl, hS, q⟩ := h
    refine ⟨_, (pss_cons (ps_if (pt_cmpR op_lt (pv 1) (pe_callB call_len_seq (by rfl) T.b_len (by decide +kernel) (pa_cons (pv 0) pa_nil)) (nomark _))
        (pss_one (ps_ret (pe_callTy call_int1 (by rfl) T.b_int (by decide +kernel) (pa_cons (pe_ix ix_list (pv 0) (pv 1) (fun _ _ => rfl)) pa_nil))))
        pss_nil)
      (pss_one (ps_ret pe_int))), ?_⟩
    have hl : (ns.map V.int).length = ns.length := List.length_map _
    refine ⟨_, rfl, _, rfl, a, _, rfl, .inl hS, _, _, rfl, rfl, _, rfl, ?_⟩
    by_cases hk : (k : Int) < (((ns.map V.int).length : Nat) : Int)
    · refine dT hk ?_
      have hk2 : k < ns.length := by omega
      exact ⟨_, rfl, _, rfl, a, _, _, .int ns[k], rfl, rfl, hS, atI_nat (by rw [List.getElem?_map, List.getElem?_eq_getElem hk2]; rfl), .inl ⟨_, rfl, q _⟩⟩
    · exact dF hk (q _)
abbrev s__law_kinds : Stmt := top 18
abbrev N__law_kinds : List Str := ["e", "kinds"]
abbrev P__law_kinds : List Str := ["e"]
theorem sc__law_kinds : FnScope N__law_kinds P__law_kinds (defScope s__law_kinds) := ⟨rfl, rfl, rfl, by decide +kernel, rfl, by decide +kernel, by decide +kernel⟩
def kinds (i : Nat) : List Bool := [decide (i = 0), decide (i = 1), decide (i = 2), decide (i = 3), decide (i = 4), decide (i = 5), decide (i = 6), decide (i = 7)]
def sp__law_kinds (Cs : Nat → Addr) : Sp := fun vs H Q _ => ∃ (a : Addr) (i : Nat), vs = [.ref a] ∧ i < 8 ∧ Err Cs H a i ∧ ∀ p H', Same H H' → H' p = some (.lst ((kinds i).map V.bl)) → Q (.ref p) H'
theorem ok__law_kinds {f : Addr} {fd : FuncData} (T : Tx K mg Cs M) (F : Fun K "_law_kinds" "_law_kinds" s__law_kinds f fd) : FnOk P w K mg base CX0 1 f fd P__law_kinds (sp__law_kinds Cs) := by
  have nd := sc__law_kinds.nd
  refine F.ok sc__law_kinds (fun vs H Q E h => ?_) (fun cdv A outer s H vs Q E hr h => ?_)
  · obtain ⟨_, _, rfl, _⟩ := h
    rfl
  · obtain ⟨a, i, rfl, hi, he, q⟩ := h
    have hs := sl
    refine ⟨_, (pss_cons (ps_set (i := 1) nd rfl (Or.inl rfl) (pe_lst (pa_cons (pe_callB call_isV (by rfl) T.b_isinstance (by decide +kernel) (pa_cons (pv 0) (pa_cons (pe_cls T.g_BadText) pa_nil))) (pa_cons (pe_callB call_isV (by rfl) T.b_isinstance (by decide +kernel) (pa_cons (pv 0) (pa_cons (pe_cls T.g_BadPayload) pa_nil))) (pa_cons (pe_callB call_isV (by rfl) T.b_isinstance (by decide +kernel) (pa_cons (pv 0) (pa_cons (pe_cls T.g_BadLetter) pa_nil))) (pa_cons (pe_callB call_isV (by rfl) T.b_isinstance (by decide +kernel) (pa_cons (pv 0) (pa_cons (pe_cls T.g_BadMember) pa_nil))) pa_nil))))))
      (pss_cons (ps_set (i := 1) nd rfl (Or.inl rfl) (pe_op op_cat (pv 1) (pe_lst (pa_cons (pe_callB call_isV (by rfl) T.b_isinstance (by decide +kernel) (pa_cons (pv 0) (pa_cons (pe_cls T.g_BadView) pa_nil))) (pa_cons (pe_callB call_isV (by rfl) T.b_isinstance (by decide +kernel) (pa_cons (pv 0) (pa_cons (pe_cls T.g_DiskError) pa_nil))) (pa_cons (pe_callB call_isV (by rfl) T.b_isinstance (by decide +kernel) (pa_cons (pv 0) (pa_cons (pe_cls T.g_DiskCrashed) pa_nil))) pa_nil))))))
      (pss_one (ps_ret (pe_op op_cat (pv 1) (pe_lst (pa_cons (pe_callB call_isV (by rfl) T.b_isinstance (by decide +kernel) (pa_cons (pv 0) (pa_cons (pe_cls T.g_BadSchedule) pa_nil))) pa_nil))))))), ?_⟩
    obtain ⟨d, h1, h2⟩ := id he
    refine ⟨_, rfl, a, _, d, _, _, _, rfl, h1, h2, .own _, T.ex i hi, T.kit i 0 hi (by omega), ?_⟩
    refine ⟨_, rfl, a, _, d, _, _, _, rfl, h1, h2, .own _, T.ex i hi, T.kit i 1 hi (by omega), ?_⟩
    refine ⟨_, rfl, a, _, d, _, _, _, rfl, h1, h2, .own _, T.ex i hi, T.kit i 2 hi (by omega), ?_⟩
    refine ⟨_, rfl, a, _, d, _, _, _, rfl, h1, h2, .own _, T.ex i hi, T.kit i 3 hi (by omega), ?_⟩
    refine ⟨by show 4 ≤ sizeLine; omega, fun p1 n1 => ?_⟩
    have s1 := same_new n1 (.lst [.bl (decide (i = 0)), .bl (decide (i = 1)), .bl (decide (i = 2)), .bl (decide (i = 3))])
    obtain ⟨d, h1, h2⟩ := he.same s1
    refine ⟨_, rfl, ?_⟩
    refine ⟨_, rfl, a, _, d, _, _, _, rfl, h1, h2, .own _, T.ex i hi, T.kit i 4 hi (by omega), ?_⟩
    refine ⟨_, rfl, a, _, d, _, _, _, rfl, h1, h2, .own _, T.ex i hi, T.kit i 5 hi (by omega), ?_⟩
    refine ⟨_, rfl, a, _, d, _, _, _, rfl, h1, h2, .own _, T.ex i hi, T.kit i 6 hi (by omega), ?_⟩
    refine ⟨by show 3 ≤ sizeLine; omega, fun p2 n2 => ?_⟩
    have s2 := same_new n2 (.lst [.bl (decide (i = 4)), .bl (decide (i = 5)), .bl (decide (i = 6))])
    refine ⟨p1, p2, _, _, rfl, rfl, s2 _ _ upd_same, upd_same, by show 4 + 3 ≤ sizeLine; omega, fun p3 n3 => ?_⟩
    have s3 := same_new n3 (.lst ([.bl (decide (i = 0)), .bl (decide (i = 1)), .bl (decide (i = 2)), .bl (decide (i = 3))] ++ [.bl (decide (i = 4)), .bl (decide (i = 5)), .bl (decide (i = 6))]))
    obtain ⟨d, h1, h2⟩ := he.same (s1.trans (s2.trans s3))
    refine ⟨_, rfl, ?_⟩
    refine ⟨_, rfl, a, _, d, _, _, _, rfl, h1, h2, .own _, T.ex i hi, T.kit i 7 hi (by omega), ?_⟩
    refine ⟨by show 1 ≤ sizeLine; omega, fun p4 n4 => ?_⟩
    have s4 := same_new n4 (.lst [.bl (decide (i = 7))])
    refine ⟨p3, p4, _, _, rfl, rfl, s4 _ _ upd_same, upd_same, by show 7 + 1 ≤ sizeLine; omega, fun p5 n5 => ?_⟩
    exact q p5 _ ((s1.trans (s2.trans s3)).trans (s4.trans (same_new n5 _))) upd_same
end
end Mus

set_option maxRecDepth 100000
set_option maxHeartbeats 4000000
namespace Mus
open PySem L2
section
variable {P : Program} {w : World} {K : PySem.W.Frag} {mg : Str → Option Value} {base : Heap} {Cs : Nat → Addr} {M : Addr}
theorem dp_bools {K : PySem.W.Frag} {H : Hp} : ∀ bs : List Bool, DpAll K H (bs.map V.bl) (bs.map PyData.bool)
  | [] => .nil
  | b :: bs => .cons (.bl b) (dp_bools bs)
theorem dp_ints {K : PySem.W.Frag} {H : Hp} : ∀ bs : List Int, DpAll K H (bs.map V.int) (bs.map PyData.int)
  | [] => .nil
  | b :: bs => .cons (.int b) (dp_ints bs)
theorem kinds_shaped (i : Nat) (hi : i < 8) : SeqAt.shaped (.list ((kinds i).map PyData.bool)) = true ∧ PyData.eqv (.list ((kinds i).map PyData.bool)) (.list ((kinds i).map PyData.bool)) = true := by
  have h : i = 0 ∨ i = 1 ∨ i = 2 ∨ i = 3 ∨ i = 4 ∨ i = 5 ∨ i = 6 ∨ i = 7 := by omega
  rcases h with rfl | rfl | rfl | rfl | rfl | rfl | rfl | rfl <;> exact ⟨by decide +kernel, by decide +kernel⟩
theorem kinds_get {i j : Nat} (hj : j < 8) : (kinds i)[j]? = some (decide (i = j)) := by
  have h : j = 0 ∨ j = 1 ∨ j = 2 ∨ j = 3 ∨ j = 4 ∨ j = 5 ∨ j = 6 ∨ j = 7 := by omega
  rcases h with rfl | rfl | rfl | rfl | rfl | rfl | rfl | rfl <;> rfl
abbrev s__law_right : Stmt := top 19
abbrev N__law_right : List Str := ["errors", "k", "j"]
abbrev P__law_right : List Str := ["errors"]
theorem sc__law_right : FnScope N__law_right P__law_right (defScope s__law_right) := ⟨rfl, rfl, rfl, by decide +kernel, rfl, by decide +kernel, by decide +kernel⟩
def sp__law_right (Cs : Nat → Addr) : Sp := fun vs H Q _ => ∃ (p : Addr) (as : List Addr), vs = [.ref p] ∧ H p = some (.lst (as.map V.ref)) ∧ as.length = 8 ∧ (∀ i a, as[i]? = some a → Err Cs H a i) ∧ ∀ H', Same H H' → Q (.bl true) H'
theorem ok__law_right {f : Addr} {fd : FuncData} (T : Tx K mg Cs M) (c__law_kinds : DefOk P w K mg base CX0 "_law_kinds" P__law_kinds 1 (sp__law_kinds Cs)) (F : Fun K "_law_right" "_law_right" s__law_right f fd) : FnOk P w K mg base CX0 2 f fd P__law_right (sp__law_right Cs) := by
  have nd := sc__law_right.nd
  refine F.ok sc__law_right (fun vs H Q E h => ?_) (fun cdv A outer s H vs Q E hr h => ?_)
  · obtain ⟨_, _, rfl, _⟩ := h
    rfl
  · obtain ⟨p, as, rfl, hp, h8, he, q⟩ := h
    have hs := sl
    refine ⟨_, (pss_cons (ps_for PassesOwn.never rfl (pi_range1 (by rfl) T.b_range (pa_cons pe_int pa_nil)) (pg_name (i := 1) nd rfl (Or.inr rfl))
        (pss_cons (ps_if (PW.pt (pw_or (pt_not (pt_val (pe_callB call_isV (by rfl) T.b_isinstance (by decide +kernel) (pa_cons (pe_ix ix_list (pv 0) (pv 1) (fun _ _ => rfl)) (pa_cons (pe_cls T.g_MusterError) pa_nil))))) (pw_or1 (pt_not (pt_val (pe_callB call_isV (by rfl) T.b_isinstance (by decide +kernel) (pa_cons (pe_ix ix_list (pv 0) (pv 1) (fun _ _ => rfl)) (pa_cons (pe_ty "ValueError" T.b_ValueError) pa_nil))))))))
          (pss_one (ps_ret pe_bl))
          pss_nil)
        (pss_one (ps_if (pt_cmpR (op_neD hr.units) (pcall c__law_kinds hr (pa_cons (pe_ix ix_list (pv 0) (pv 1) (fun _ _ => rfl)) pa_nil)) (pe_lc (own := [("j", 2)]) (g := gName 2) rfl nd (pi_range1 (by rfl) T.b_range (pa_cons pe_int pa_nil)) (blkOk_by (own := [("j", 2)]) (N := N__law_right) (sc := defScope s__law_right) (by decide +kernel)) (fun _ _ _ _ _ => pg_name (i := 2) nd rfl (Or.inl rfl)) (fun _ _ _ _ _ => pts_nil) (fun _ _ _ _ _ => (pe_cmpR op_eq (pv 2) (pv 1) (nomark _)))) (nomark _))
          (pss_one (ps_ret pe_bl))
          pss_nil))))
      (pss_one (ps_ret pe_bl))), ?_⟩
    refine ⟨8, rfl, by decide, by decide, for_range (lo := 0) (n := 8) (fun i σ H' => Same H H' ∧ ∃ x y, σ = [some (.ref p), x, y]) ⟨Same.refl H, _, _, rfl⟩ ?_ ?_⟩
    · rintro i σ H' hi ⟨s1, x, y, rfl⟩
      have hp1 := s1 _ _ hp
      have ha : as[i]? = some as[i] := List.getElem?_eq_getElem (by omega)
      have hat : atI (as.map V.ref) (0 + (i : Int)) = some (V.ref as[i]) := by
        rw [Int.zero_add]
        exact atI_nat (by rw [List.getElem?_map, ha]; rfl)
      have e1 := (he i _ ha).same s1
      generalize as[i] = a at ha hat e1
      obtain ⟨d, h1, h2⟩ := id e1
      refine ⟨_, rfl, _, rfl, p, _, _, _, rfl, rfl, SqL.of hp1, hat, a, _, d, _, _, _, rfl, h1, h2, .own _, T.ex i hi, T.kitM i hi, _, rfl, iteF ?_⟩
      refine ⟨_, rfl, _, rfl, p, _, _, _, rfl, rfl, SqL.of hp1, hat, a, _, d, _, _, _, rfl, h1, h2, .ty _, T.ex i hi, T.kitV i hi, _, rfl, iteF ?_⟩
      refine ⟨_, rfl, _, rfl, p, _, _, _, rfl, rfl, SqL.of hp1, hat, a, i, rfl, hi, e1, fun l H2 s2 hl => ?_⟩
      refine ⟨8, rfl, by decide, by decide, fun D nD => lc_range (lo := 0) (n := 8) (fun j H3 => Same H2 H3 ∧ ∃ acc, H3 D = some (.lst (acc.map V.bl)) ∧ acc = (kinds i).take j) ⟨same_new nD _, [], upd_same, rfl⟩ ?_ ?_⟩
      · rintro j H3 hj ⟨s3, acc, hD, ea⟩
        refine ⟨rfl, ?_⟩
        refine ⟨_, rfl, _, rfl, rfl, acc.map V.bl, hD, ?_, ?_⟩
        · rw [ea, List.length_map, List.length_take]
          have : (kinds i).length = 8 := rfl
          omega
        · refine ⟨fun b o h => ?_, acc ++ [decide (i = j)], ?_, ?_⟩
          · rw [upd_ne (ne_of_none h nD)]; exact s3 b o h
          · have eb : decide (V.int (0 + (j : Int)) = V.int (0 + (i : Int))) = decide (i = j) := by
              by_cases h : i = j
              · subst h; rw [decide_eq_true rfl, decide_eq_true rfl]
              · rw [decide_eq_false h]; exact decide_eq_false (by intro z; have := V.int.inj z; omega)
            rw [upd_same, List.map_append]
            show some (HO.lst (acc.map V.bl ++ [V.bl (decide (V.int (0 + (j : Int)) = V.int (0 + (i : Int))))])) = _
            rw [eb]; rfl
          · have g := kinds_get (i := i) hj
            have hjl : j < (kinds i).length := hj
            rw [ea, List.take_succ_eq_append_getElem hjl, (List.getElem?_eq_some_iff.mp g).2]
      · rintro H3 ⟨s3, acc, hD, ea⟩
        have e8 : (kinds i).take 8 = kinds i := rfl
        rw [e8] at ea
        rw [ea] at hD
        obtain ⟨z1, z2⟩ := kinds_shaped i hi
        refine ⟨.list ((kinds i).map PyData.bool), .list ((kinds i).map PyData.bool), .lst (SqL.of (s3 _ _ hl)) (dp_bools _), .lst (SqL.of hD) (dp_bools _), z1, z1, _, rfl, ?_⟩
        rw [z2]
        exact iteF ⟨s1.trans (s2.trans s3), _, _, rfl⟩
    · rintro σ H' ⟨s1, x, y, rfl⟩
      exact q H' s1
abbrev s_law : Stmt := top 20
abbrev N_law : List Str := ["script", "line", "reason", "last", "errors", "limits"]
abbrev P_law : List Str := ["script"]
theorem sc_law : FnScope N_law P_law (defScope s_law) := ⟨rfl, rfl, rfl, by decide +kernel, rfl, by decide +kernel, by decide +kernel⟩
def sp_law (K : PySem.W.Frag) : Sp := fun vs H Q _ => ∃ (a : Addr) (ns : List Int), vs = [.ref a] ∧ SqL K H a (ns.map V.int) ∧ ns.length ≤ 63 ∧ ∀ H', Q (.bl true) H'
theorem ok_law {f fI : Addr} {fd fdI : FuncData} (T : Tx K mg Cs M) (T_i : PySem.W.findIn K (.ref (Cs 7)) "__init__" = some (some (.ref fI))) (T_t : PySem.W.typeIn K (.ref fI) = some (.type "function")) (G_i : FnOk P w K mg base CX0 1 fI fdI P_BadSchedule___init__ (sp_init Cs)) (b_i : Binds K fdI P_BadSchedule___init__ [])
    (c__law_cell : DefOk P w K mg base CX0 "_law_cell" P__law_cell 1 (sp__law_cell K)) (c__law_right : DefOk P w K mg base CX0 "_law_right" P__law_right 2 (sp__law_right Cs)) (F : Fun K "law" "law" s_law f fd) : FnOk P w K mg base CX0 4 f fd P_law (sp_law K) := by
  have nd := sc_law.nd
  refine F.ok sc_law (fun vs H Q E h => ?_) (fun cdv A outer s H vs Q E hr h => ?_)
  · obtain ⟨_, _, rfl, _⟩ := h
    rfl
  · obtain ⟨a, ns, rfl, hS, h63, q⟩ := h
    have hs := sl
    refine ⟨_, (pss_cons (ps_set (i := 1) nd rfl (Or.inl rfl) (pe_op op_mod (pcall c__law_cell hr (pa_cons (pv 0) (pa_cons pe_int pa_nil))) (pe_op op_pow pe_int pe_int)))
      (pss_cons (ps_set (i := 2) nd rfl (Or.inl rfl) (pe_ix ix_list (pe_lst (pa_cons pe_str (pa_cons pe_str (pa_cons pe_str pa_nil)))) (pe_op op_mod (pcall c__law_cell hr (pa_cons (pv 0) (pa_cons pe_int pa_nil))) pe_int) (fun _ _ => rfl)))
      (pss_cons (ps_set (i := 3) nd rfl (Or.inl rfl) (pe_mkV T.o_BadSchedule T_i T_t G_i (hr.mono (by decide)) b_i rfl T.g_BadSchedule (pa_cons (pv 1) (pa_cons (pv 2) pa_nil))))
      (pss_cons (ps_set (i := 4) nd rfl (Or.inl rfl) (pe_lst (pa_cons (pe_mkV0 PySem.F.excBase_ValueError T.x_BadText T.g_BadText T.k_BadText) (pa_cons (pe_mkV0 PySem.F.excBase_ValueError T.x_BadPayload T.g_BadPayload T.k_BadPayload) (pa_cons (pe_mkV0 PySem.F.excBase_ValueError T.x_BadLetter T.g_BadLetter T.k_BadLetter) (pa_cons (pe_mkV0 PySem.F.excBase_ValueError T.x_BadMember T.g_BadMember T.k_BadMember) (pa_cons (pe_mkV0 PySem.F.excBase_ValueError T.x_BadView T.g_BadView T.k_BadView) (pa_cons (pe_mkV0 PySem.F.excBase_ValueError T.x_DiskError T.g_DiskError T.k_DiskError) (pa_cons (pe_mkV0 PySem.F.excBase_ValueError T.x_DiskCrashed T.g_DiskCrashed T.k_DiskCrashed) (pa_cons (pv 3) pa_nil))))))))))
      (pss_cons (ps_if (PW.pt (pw_or (pt_not (pt_val (pcall c__law_right hr (pa_cons (pv 4) pa_nil)))) (pw_or (pt_cmpR op_ne (pe_exf (pv 3)) (pv 1) (nomark _)) (pw_or1 (pt_cmpR op_ne (pe_exf (pv 3)) (pv 2) (nomark _))))))
        (pss_one (ps_ret pe_bl))
        pss_nil)
      (pss_cons (ps_set (i := 5) nd rfl (Or.inl rfl) (pe_lst (pa_cons (pe_const T.c_MOST_PROCESSES) (pa_cons (pe_const T.c_MOST_NUMBER) (pa_cons (pe_const T.c_MOST_PAYLOAD) (pa_cons (pe_const T.c_MOST_DIGITS) (pa_cons (pe_const T.c_MOST_DEPTH) (pa_cons (pe_const T.c_MOST_LENGTH) pa_nil))))))))
      (pss_one (ps_ret (pe_cmpR (op_eqD hr.units) (pv 5) (pe_lst (pa_cons pe_int (pa_cons (pe_op op_pow pe_int pe_int) (pa_cons pe_int (pa_cons pe_int (pa_cons pe_int (pa_cons pe_int pa_nil))))))) (nomark _)))))))))), ?_⟩
    refine ⟨_, rfl, a, ns, 0, rfl, hS, fun line => ?_⟩
    refine ⟨_, _, rfl, rfl, ⟨by decide, by decide, by decide⟩, _, _, rfl, rfl, (by show (0 : Int) < 10 ^ 9; decide), ?_⟩
    refine ⟨by show 3 ≤ sizeLine; omega, fun rl nrl => ?_⟩
    have s1 := same_new nrl (.lst [.str (Str.ofString "act"), .str (Str.ofString ""), .str (Str.ofString "position")])
    refine ⟨_, rfl, a, ns, 1, rfl, s1.seq hS, fun x => ?_⟩
    have m0 : 0 ≤ x % 3 := Int.emod_nonneg _ (by decide)
    have m1 : x % 3 < 3 := Int.emod_lt_of_pos _ (by decide)
    obtain ⟨rs, hrs⟩ : ∃ rs : Str, atI [V.str (Str.ofString "act"), V.str (Str.ofString ""), V.str (Str.ofString "position")] (x % 3) = some (V.str rs) := by
      have h : x % 3 = 0 ∨ x % 3 = 1 ∨ x % 3 = 2 := by omega
      rcases h with h | h | h <;> rw [h] <;> exact ⟨_, rfl⟩
    refine ⟨_, _, rfl, rfl, (by show (0 : Int) < 3; decide), rl, _, _, .str rs, rfl, rfl, SqL.of upd_same, hrs, ?_⟩
    -- last = BadSchedule(line, reason)
    refine ⟨_, rfl, _, rfl, by show 2 ≤ 1000; decide, fun e7 n7 => ⟨e7, _, _, rfl, upd_same, fun d H2 nd2 k2 h7 hd => ⟨rfl, ?_⟩⟩⟩
    have s2 : Same (upd H rl (.lst [.str (Str.ofString "act"), .str (Str.ofString ""), .str (Str.ofString "position")])) H2 := fun b o h => by
      have z := ne_of_none h n7
      exact k2 b o (by rw [upd_ne z]; exact h) z
    -- the seven others
    refine fun a0 n0 => ?_
    have t0 := same_new n0 (exo a0 (Cs 0) none)
    refine fun a1 n1 => ?_
    have t1 := same_new n1 (exo a1 (Cs 1) none)
    refine fun a2 n2 => ?_
    have t2 := same_new n2 (exo a2 (Cs 2) none)
    refine fun a3 n3 => ?_
    have t3 := same_new n3 (exo a3 (Cs 3) none)
    refine fun a4 n4 => ?_
    have t4 := same_new n4 (exo a4 (Cs 4) none)
    refine fun a5 n5 => ?_
    have t5 := same_new n5 (exo a5 (Cs 5) none)
    refine fun a6 n6 => ?_
    have t6 := same_new n6 (exo a6 (Cs 6) none)
    refine ⟨_, rfl, by show 8 ≤ sizeLine; omega, fun p np => ?_⟩
    have tp := same_new np (.lst [.ref a0, .ref a1, .ref a2, .ref a3, .ref a4, .ref a5, .ref a6, .ref e7])
    have u6 := t6.trans tp
    have u5 := t5.trans u6
    have u4 := t4.trans u5
    have u3 := t3.trans u4
    have u2 := t2.trans u3
    have u1 := t1.trans u2
    have u0 := t0.trans u1
    have errs : ∀ i b, [a0, a1, a2, a3, a4, a5, a6, e7][i]? = some b → Err Cs _ b i := fun i b hb => by
      match i, hb with
      | 0, hb => rw [← Option.some.inj hb]; exact ⟨none, u1 _ _ upd_same, fun dx z => by cases z⟩
      | 1, hb => rw [← Option.some.inj hb]; exact ⟨none, u2 _ _ upd_same, fun dx z => by cases z⟩
      | 2, hb => rw [← Option.some.inj hb]; exact ⟨none, u3 _ _ upd_same, fun dx z => by cases z⟩
      | 3, hb => rw [← Option.some.inj hb]; exact ⟨none, u4 _ _ upd_same, fun dx z => by cases z⟩
      | 4, hb => rw [← Option.some.inj hb]; exact ⟨none, u5 _ _ upd_same, fun dx z => by cases z⟩
      | 5, hb => rw [← Option.some.inj hb]; exact ⟨none, u6 _ _ upd_same, fun dx z => by cases z⟩
      | 6, hb => rw [← Option.some.inj hb]; exact ⟨none, tp _ _ upd_same, fun dx z => by cases z⟩
      | 7, hb => rw [← Option.some.inj hb]; exact ⟨some d, u0 _ _ h7, fun dx z => by cases z; exact ⟨_, u0 _ _ hd⟩⟩
      | i + 8, hb => simp at hb
    refine ⟨_, rfl, p, [a0, a1, a2, a3, a4, a5, a6, e7], rfl, upd_same, rfl, errs, fun H3 s3 => ?_⟩
    have g7 := s3 _ _ (u0 _ _ h7)
    have gd := s3 _ _ (u0 _ _ hd)
    refine ⟨_, rfl, iteF ?_⟩
    refine ⟨_, rfl, e7, Cs 7, d, _, _, rfl, g7, gd, T.ex 7 (by decide), T.n_line, by rfl, _, rfl, rfl, _, rfl, nF rfl ?_⟩
    refine ⟨_, rfl, e7, Cs 7, d, _, _, rfl, g7, gd, T.ex 7 (by decide), T.n_reason, by rfl, _, rfl, rfl, _, rfl, nF rfl ?_⟩
    refine ⟨by show 6 ≤ sizeLine; omega, fun l1 nl1 => ?_⟩
    refine ⟨_, rfl, _, _, rfl, rfl, ⟨by decide, by decide, by decide⟩, by show 6 ≤ sizeLine; omega, fun l2 nl2 => ?_⟩
    have v2 := same_new nl2 (.lst [.int 12, .int (10 ^ 12), .int 30, .int 24, .int 8, .int 100000])
    refine ⟨.list ([12, 1000000000000, 30, 24, 8, 100000].map PyData.int), .list ([12, 1000000000000, 30, 24, 8, 100000].map PyData.int), .lst (SqL.of (v2 _ _ upd_same)) (dp_ints [12, 1000000000000, 30, 24, 8, 100000]), .lst (SqL.of upd_same) (dp_ints [12, 1000000000000, 30, 24, 8, 100000]), by decide +kernel, by decide +kernel, ?_⟩
    have z : PyData.eqv (.list ([12, 1000000000000, 30, 24, 8, 100000].map PyData.int)) (.list ([12, 1000000000000, 30, 24, 8, 100000].map PyData.int)) = true := by decide +kernel
    rw [z]
    exact q _
end
end Mus

set_option maxRecDepth 100000
set_option maxHeartbeats 4000000
namespace Mus
open PySem L2
def at_mk {K : PySem.W.Frag} {h : Heap} {mg : Str → Option Value} {x : Str} {ps : List Str} {st : Stmt} {f : Addr} {oc : Value} {od an : Option Addr} {osl : Array (Option Value)} {kV dc pm cd ct : Value} (X : K.In h) (G : h.Ns mainGlobals mg) (a : PySem.W.nsIn K mainGlobals x = some (some (.ref f)))
    (l : K.lookup f = some ⟨oc, od, .func (PySem.W.fnOf x x (defArgs st) (defBody st) (defScope st) .none kV dc pm an cd ct), osl⟩) (c : PySem.W.codeIn K cd x = true) (k : PySem.W.keepIn K (.ref f) = true)
    (hb : ∀ (kV doc pm : Value) (an : Option Addr) (cdv ct : Value) (us : List Value), us.length = ps.length → bindArgs (PySem.W.fnOf x x (defArgs st) (defBody st) (defScope st) .none kV doc pm an cdv ct) ⟨us, []⟩ = pure (ps.zip us)) : DefAt K mg x ps st :=
  ⟨f, _, fun_mk (st := st) l c k, PySem.W.mg_of X G a, (fun_mk (st := st) l c k).binds hb⟩
theorem walk_ofX {l : PySem.W.OpenLaw} {n k : Nat} {q : Program} {loose : List Str} {XP : (Str → Option Value) → Heap → Prop} {YP : World → Heap → Prop} {d : DefRec} {K : Params → PySem.W.Frag} {sp : World → Sp} {x : Str}
    (most : l.most = some n) (few : n ≤ sizeLine) (nod : d.params.defaults = []) (room : Room k callerA) (kin : ∀ (w : World) (h : Heap), YP w h → (K w.params).In h)
    (F : ∀ (w : World) (mg : Str → Option Value) (at1 : Addr) (h : Heap), (K w.params).In h → h.Ns mainGlobals mg → XP mg h → mg d.name = some (.ref at1) →
      ∃ fd : FuncData, (∀ (s : Shared) (u : Value), BindsTo s fd ⟨[u], []⟩ [(x, u)]) ∧ ∀ base : Heap, (K w.params).In base → base.Ns mainGlobals mg → FnOk l.prog w (K w.params) mg base CX0 k at1 fd [x] (sp w))
    (hsp : ∀ (w : World) (H : Hp) (a : Addr) (ns : List Int), ns.length ≤ n → Only H → SqL (K w.params) H a (ns.map V.int) → sp w [.ref a] H (fun v _ => v = .bl true) fun _ _ _ => False) :
    PySem.W.WalkO q loose XP YP l.row.toRowW d [] (fun f vs => PySem.call f vs) := by
  refine Att.attach_call most nod fun w sb sc mg mB at1 o pm1 cd1 doc1 a vs ns G Y ho1 hd1 hc1 hm1 ob1 in1 ln1 hg1 => ?_
  have inK := kin w _ Y
  obtain ⟨fd, bnd, pr⟩ := F w mg at1 _ inK G.T.g G.X hm1
  exact law_call inK G.T.g G.T.b G.T.builtins G.T.nolimit hg1 ob1 in1 (Nat.le_trans ln1 few) room pr bnd (fun H hO hS => hsp w H a ns ln1 hO hS) fun H e s' z => z
theorem loose_int {n : Str} {i : Int} {mg : Str → Option Value} {h : Heap} (x : PySem.W.LooseAre [(n, PySem.W.WData.int i)] mg h) : ∃ t, mg n = some (.int i t) := by
  obtain ⟨v, h1, h2⟩ := x.val _ (List.mem_singleton.mpr rfl)
  cases h2
  exact ⟨_, h1⟩
theorem all_mk {l : PySem.W.OpenLaw} {w : World} {K : PySem.W.Frag} {h : Heap} {mg : Str → Option Value} {fa : Addr} (X : K.In h) (G : h.Ns mainGlobals mg) (hfa : mg "law" = some (.ref fa)) (hMN : ∃ t, mg "MOST_NUMBER" = some (.int 1000000000000 t))
    {C0 C1 C2 C3 C4 C5 C6 C7 M : Addr}
    {nm q : Str} {N : Addr} {bs : List Value} {sn : List Str} {sub : List Value} {ab : Bool} {col : Option Bool} {dd : Option Addr} {m0 m1 m2 m3 m5 : Option Value}
    {odxI anxI : Option Addr} {slxI : Array (Option Value)} {ocxI kVxI dcxI pmxI cdxI ctxI : Value} {fxI : Addr}
    {odx__law_cell anx__law_cell : Option Addr} {slx__law_cell : Array (Option Value)} {ocx__law_cell kVx__law_cell dcx__law_cell pmx__law_cell cdx__law_cell ctx__law_cell : Value} {fx__law_cell : Addr}
    {odx__law_kinds anx__law_kinds : Option Addr} {slx__law_kinds : Array (Option Value)} {ocx__law_kinds kVx__law_kinds dcx__law_kinds pmx__law_kinds cdx__law_kinds ctx__law_kinds : Value} {fx__law_kinds : Addr}
    {odx__law_right anx__law_right : Option Addr} {slx__law_right : Array (Option Value)} {ocx__law_right kVx__law_right dcx__law_right pmx__law_right cdx__law_right ctx__law_right : Value} {fx__law_right : Addr}
    {odx_law anx_law : Option Addr} {slx_law : Array (Option Value)} {ocx_law kVx_law dcx_law pmx_law cdx_law ctx_law : Value} {fx_law : Addr}
    {tMOST_PROCESSES : Tok}
    {tMOST_PAYLOAD : Tok}
    {tMOST_DIGITS : Tok}
    {tMOST_DEPTH : Tok}
    {tMOST_LENGTH : Tok}
    (aC0 : PySem.W.nsIn K mainGlobals "BadText" = some (some (.ref C0)))
    (aC1 : PySem.W.nsIn K mainGlobals "BadPayload" = some (some (.ref C1)))
    (aC2 : PySem.W.nsIn K mainGlobals "BadLetter" = some (some (.ref C2)))
    (aC3 : PySem.W.nsIn K mainGlobals "BadMember" = some (some (.ref C3)))
    (aC4 : PySem.W.nsIn K mainGlobals "BadView" = some (some (.ref C4)))
    (aC5 : PySem.W.nsIn K mainGlobals "DiskError" = some (some (.ref C5)))
    (aC6 : PySem.W.nsIn K mainGlobals "DiskCrashed" = some (some (.ref C6)))
    (aC7 : PySem.W.nsIn K mainGlobals "BadSchedule" = some (some (.ref C7)))
    (aM : PySem.W.nsIn K mainGlobals "MusterError" = some (some (.ref M)))
    (hg0 : PySem.W.findIn K (.ref C0) "__getattribute__" = some (some (.builtin "BaseException.__getattribute__")))
    (hk0 : PySem.W.findIn K (.ref C0) "__getattr__" = some none)
    (hs0 : PySem.W.subIn K (.ref C0) (.type "BaseException") = some true)
    (hd0 : PySem.W.hasDictIn K C0 = true)
    (ha0 : PySem.W.findIn K (.ref C0) "__class__" = some (some (.builtin "object.__class__")))
    (hm0 : PySem.W.mroIn K C0 (.type "object") = some true)
    (kC0 : PySem.W.keepIn K (.ref C0) = true)
    (hg1 : PySem.W.findIn K (.ref C1) "__getattribute__" = some (some (.builtin "BaseException.__getattribute__")))
    (hk1 : PySem.W.findIn K (.ref C1) "__getattr__" = some none)
    (hs1 : PySem.W.subIn K (.ref C1) (.type "BaseException") = some true)
    (hd1 : PySem.W.hasDictIn K C1 = true)
    (ha1 : PySem.W.findIn K (.ref C1) "__class__" = some (some (.builtin "object.__class__")))
    (hm1 : PySem.W.mroIn K C1 (.type "object") = some true)
    (kC1 : PySem.W.keepIn K (.ref C1) = true)
    (hg2 : PySem.W.findIn K (.ref C2) "__getattribute__" = some (some (.builtin "BaseException.__getattribute__")))
    (hk2 : PySem.W.findIn K (.ref C2) "__getattr__" = some none)
    (hs2 : PySem.W.subIn K (.ref C2) (.type "BaseException") = some true)
    (hd2 : PySem.W.hasDictIn K C2 = true)
    (ha2 : PySem.W.findIn K (.ref C2) "__class__" = some (some (.builtin "object.__class__")))
    (hm2 : PySem.W.mroIn K C2 (.type "object") = some true)
    (kC2 : PySem.W.keepIn K (.ref C2) = true)
    (hg3 : PySem.W.findIn K (.ref C3) "__getattribute__" = some (some (.builtin "BaseException.__getattribute__")))
    (hk3 : PySem.W.findIn K (.ref C3) "__getattr__" = some none)
    (hs3 : PySem.W.subIn K (.ref C3) (.type "BaseException") = some true)
    (hd3 : PySem.W.hasDictIn K C3 = true)
    (ha3 : PySem.W.findIn K (.ref C3) "__class__" = some (some (.builtin "object.__class__")))
    (hm3 : PySem.W.mroIn K C3 (.type "object") = some true)
    (kC3 : PySem.W.keepIn K (.ref C3) = true)
    (hg4 : PySem.W.findIn K (.ref C4) "__getattribute__" = some (some (.builtin "BaseException.__getattribute__")))
    (hk4 : PySem.W.findIn K (.ref C4) "__getattr__" = some none)
    (hs4 : PySem.W.subIn K (.ref C4) (.type "BaseException") = some true)
    (hd4 : PySem.W.hasDictIn K C4 = true)
    (ha4 : PySem.W.findIn K (.ref C4) "__class__" = some (some (.builtin "object.__class__")))
    (hm4 : PySem.W.mroIn K C4 (.type "object") = some true)
    (kC4 : PySem.W.keepIn K (.ref C4) = true)
    (hg5 : PySem.W.findIn K (.ref C5) "__getattribute__" = some (some (.builtin "BaseException.__getattribute__")))
    (hk5 : PySem.W.findIn K (.ref C5) "__getattr__" = some none)
    (hs5 : PySem.W.subIn K (.ref C5) (.type "BaseException") = some true)
    (hd5 : PySem.W.hasDictIn K C5 = true)
    (ha5 : PySem.W.findIn K (.ref C5) "__class__" = some (some (.builtin "object.__class__")))
    (hm5 : PySem.W.mroIn K C5 (.type "object") = some true)
    (kC5 : PySem.W.keepIn K (.ref C5) = true)
    (hg6 : PySem.W.findIn K (.ref C6) "__getattribute__" = some (some (.builtin "BaseException.__getattribute__")))
    (hk6 : PySem.W.findIn K (.ref C6) "__getattr__" = some none)
    (hs6 : PySem.W.subIn K (.ref C6) (.type "BaseException") = some true)
    (hd6 : PySem.W.hasDictIn K C6 = true)
    (ha6 : PySem.W.findIn K (.ref C6) "__class__" = some (some (.builtin "object.__class__")))
    (hm6 : PySem.W.mroIn K C6 (.type "object") = some true)
    (kC6 : PySem.W.keepIn K (.ref C6) = true)
    (hg7 : PySem.W.findIn K (.ref C7) "__getattribute__" = some (some (.builtin "BaseException.__getattribute__")))
    (hk7 : PySem.W.findIn K (.ref C7) "__getattr__" = some none)
    (hs7 : PySem.W.subIn K (.ref C7) (.type "BaseException") = some true)
    (hd7 : PySem.W.hasDictIn K C7 = true)
    (ha7 : PySem.W.findIn K (.ref C7) "__class__" = some (some (.builtin "object.__class__")))
    (hm7 : PySem.W.mroIn K C7 (.type "object") = some true)
    (kC7 : PySem.W.keepIn K (.ref C7) = true)
    (hn : PySem.W.specialIn K (.builtin "object.__class__") "__get__" = some (some (.builtin "getset_descriptor.__get__")))
    (ht : PySem.W.takesIn K (.builtin "object.__class__") = some true)
    (xC0 : PySem.W.excIn K C0 [.type "ValueError", .type "Exception", .type "BaseException", .type "object"] "ValueError.__new__" = true)
    (xC1 : PySem.W.excIn K C1 [.type "ValueError", .type "Exception", .type "BaseException", .type "object"] "ValueError.__new__" = true)
    (xC2 : PySem.W.excIn K C2 [.type "ValueError", .type "Exception", .type "BaseException", .type "object"] "ValueError.__new__" = true)
    (xC3 : PySem.W.excIn K C3 [.type "ValueError", .type "Exception", .type "BaseException", .type "object"] "ValueError.__new__" = true)
    (xC4 : PySem.W.excIn K C4 [.type "ValueError", .type "Exception", .type "BaseException", .type "object"] "ValueError.__new__" = true)
    (xC5 : PySem.W.excIn K C5 [.type "ValueError", .type "Exception", .type "BaseException", .type "object"] "ValueError.__new__" = true)
    (xC6 : PySem.W.excIn K C6 [.type "ValueError", .type "Exception", .type "BaseException", .type "object"] "ValueError.__new__" = true)
    (e0_0 : PySem.W.kitOne K (.ref C0) (.ref C0) = some true)
    (e0_1 : PySem.W.kitOne K (.ref C0) (.ref C1) = some false)
    (e0_2 : PySem.W.kitOne K (.ref C0) (.ref C2) = some false)
    (e0_3 : PySem.W.kitOne K (.ref C0) (.ref C3) = some false)
    (e0_4 : PySem.W.kitOne K (.ref C0) (.ref C4) = some false)
    (e0_5 : PySem.W.kitOne K (.ref C0) (.ref C5) = some false)
    (e0_6 : PySem.W.kitOne K (.ref C0) (.ref C6) = some false)
    (e0_7 : PySem.W.kitOne K (.ref C0) (.ref C7) = some false)
    (eM0 : PySem.W.kitOne K (.ref C0) (.ref M) = some true)
    (eV0 : PySem.W.kitOne K (.ref C0) (.type "ValueError") = some true)
    (e1_0 : PySem.W.kitOne K (.ref C1) (.ref C0) = some false)
    (e1_1 : PySem.W.kitOne K (.ref C1) (.ref C1) = some true)
    (e1_2 : PySem.W.kitOne K (.ref C1) (.ref C2) = some false)
    (e1_3 : PySem.W.kitOne K (.ref C1) (.ref C3) = some false)
    (e1_4 : PySem.W.kitOne K (.ref C1) (.ref C4) = some false)
    (e1_5 : PySem.W.kitOne K (.ref C1) (.ref C5) = some false)
    (e1_6 : PySem.W.kitOne K (.ref C1) (.ref C6) = some false)
    (e1_7 : PySem.W.kitOne K (.ref C1) (.ref C7) = some false)
    (eM1 : PySem.W.kitOne K (.ref C1) (.ref M) = some true)
    (eV1 : PySem.W.kitOne K (.ref C1) (.type "ValueError") = some true)
    (e2_0 : PySem.W.kitOne K (.ref C2) (.ref C0) = some false)
    (e2_1 : PySem.W.kitOne K (.ref C2) (.ref C1) = some false)
    (e2_2 : PySem.W.kitOne K (.ref C2) (.ref C2) = some true)
    (e2_3 : PySem.W.kitOne K (.ref C2) (.ref C3) = some false)
    (e2_4 : PySem.W.kitOne K (.ref C2) (.ref C4) = some false)
    (e2_5 : PySem.W.kitOne K (.ref C2) (.ref C5) = some false)
    (e2_6 : PySem.W.kitOne K (.ref C2) (.ref C6) = some false)
    (e2_7 : PySem.W.kitOne K (.ref C2) (.ref C7) = some false)
    (eM2 : PySem.W.kitOne K (.ref C2) (.ref M) = some true)
    (eV2 : PySem.W.kitOne K (.ref C2) (.type "ValueError") = some true)
    (e3_0 : PySem.W.kitOne K (.ref C3) (.ref C0) = some false)
    (e3_1 : PySem.W.kitOne K (.ref C3) (.ref C1) = some false)
    (e3_2 : PySem.W.kitOne K (.ref C3) (.ref C2) = some false)
    (e3_3 : PySem.W.kitOne K (.ref C3) (.ref C3) = some true)
    (e3_4 : PySem.W.kitOne K (.ref C3) (.ref C4) = some false)
    (e3_5 : PySem.W.kitOne K (.ref C3) (.ref C5) = some false)
    (e3_6 : PySem.W.kitOne K (.ref C3) (.ref C6) = some false)
    (e3_7 : PySem.W.kitOne K (.ref C3) (.ref C7) = some false)
    (eM3 : PySem.W.kitOne K (.ref C3) (.ref M) = some true)
    (eV3 : PySem.W.kitOne K (.ref C3) (.type "ValueError") = some true)
    (e4_0 : PySem.W.kitOne K (.ref C4) (.ref C0) = some false)
    (e4_1 : PySem.W.kitOne K (.ref C4) (.ref C1) = some false)
    (e4_2 : PySem.W.kitOne K (.ref C4) (.ref C2) = some false)
    (e4_3 : PySem.W.kitOne K (.ref C4) (.ref C3) = some false)
    (e4_4 : PySem.W.kitOne K (.ref C4) (.ref C4) = some true)
    (e4_5 : PySem.W.kitOne K (.ref C4) (.ref C5) = some false)
    (e4_6 : PySem.W.kitOne K (.ref C4) (.ref C6) = some false)
    (e4_7 : PySem.W.kitOne K (.ref C4) (.ref C7) = some false)
    (eM4 : PySem.W.kitOne K (.ref C4) (.ref M) = some true)
    (eV4 : PySem.W.kitOne K (.ref C4) (.type "ValueError") = some true)
    (e5_0 : PySem.W.kitOne K (.ref C5) (.ref C0) = some false)
    (e5_1 : PySem.W.kitOne K (.ref C5) (.ref C1) = some false)
    (e5_2 : PySem.W.kitOne K (.ref C5) (.ref C2) = some false)
    (e5_3 : PySem.W.kitOne K (.ref C5) (.ref C3) = some false)
    (e5_4 : PySem.W.kitOne K (.ref C5) (.ref C4) = some false)
    (e5_5 : PySem.W.kitOne K (.ref C5) (.ref C5) = some true)
    (e5_6 : PySem.W.kitOne K (.ref C5) (.ref C6) = some false)
    (e5_7 : PySem.W.kitOne K (.ref C5) (.ref C7) = some false)
    (eM5 : PySem.W.kitOne K (.ref C5) (.ref M) = some true)
    (eV5 : PySem.W.kitOne K (.ref C5) (.type "ValueError") = some true)
    (e6_0 : PySem.W.kitOne K (.ref C6) (.ref C0) = some false)
    (e6_1 : PySem.W.kitOne K (.ref C6) (.ref C1) = some false)
    (e6_2 : PySem.W.kitOne K (.ref C6) (.ref C2) = some false)
    (e6_3 : PySem.W.kitOne K (.ref C6) (.ref C3) = some false)
    (e6_4 : PySem.W.kitOne K (.ref C6) (.ref C4) = some false)
    (e6_5 : PySem.W.kitOne K (.ref C6) (.ref C5) = some false)
    (e6_6 : PySem.W.kitOne K (.ref C6) (.ref C6) = some true)
    (e6_7 : PySem.W.kitOne K (.ref C6) (.ref C7) = some false)
    (eM6 : PySem.W.kitOne K (.ref C6) (.ref M) = some true)
    (eV6 : PySem.W.kitOne K (.ref C6) (.type "ValueError") = some true)
    (e7_0 : PySem.W.kitOne K (.ref C7) (.ref C0) = some false)
    (e7_1 : PySem.W.kitOne K (.ref C7) (.ref C1) = some false)
    (e7_2 : PySem.W.kitOne K (.ref C7) (.ref C2) = some false)
    (e7_3 : PySem.W.kitOne K (.ref C7) (.ref C3) = some false)
    (e7_4 : PySem.W.kitOne K (.ref C7) (.ref C4) = some false)
    (e7_5 : PySem.W.kitOne K (.ref C7) (.ref C5) = some false)
    (e7_6 : PySem.W.kitOne K (.ref C7) (.ref C6) = some false)
    (e7_7 : PySem.W.kitOne K (.ref C7) (.ref C7) = some true)
    (eM7 : PySem.W.kitOne K (.ref C7) (.ref M) = some true)
    (eV7 : PySem.W.kitOne K (.ref C7) (.type "ValueError") = some true)
    (xL : K.lookup C7 = some (excClassObj nm q C7 N bs [.ref M, .type "ValueError", .type "Exception", .type "BaseException", .type "object"] true sn sub ab col dd m0 m1 m2 m3 m5 "ValueError.__new__"))
    (sa : PySem.W.findIn K (.ref C7) "__setattr__" = some (some (.builtin "object.__setattr__")))
    (tyC : PySem.W.typeIn K (.ref C7) = some (.type "type"))
    (nl : PySem.W.findIn K (.ref C7) "line" = some none)
    (nr : PySem.W.findIn K (.ref C7) "reason" = some none)
    (iI : PySem.W.findIn K (.ref C7) "__init__" = some (some (.ref fxI)))
    (lxI : K.lookup fxI = some ⟨ocxI, odxI, .func (PySem.W.fnOf "__init__" "BadSchedule.__init__" (defArgs s_BadSchedule___init__) (defBody s_BadSchedule___init__) (defScope s_BadSchedule___init__) .none kVxI dcxI pmxI anxI cdxI ctxI), slxI⟩)
    (cxI : PySem.W.codeIn K cdxI "BadSchedule.__init__" = true)
    (kxI : PySem.W.keepIn K (.ref fxI) = true)
    (tI : PySem.W.typeIn K (.ref fxI) = some (.type "function"))
    (ax__law_cell : PySem.W.nsIn K mainGlobals "_law_cell" = some (some (.ref fx__law_cell)))
    (lx__law_cell : K.lookup fx__law_cell = some ⟨ocx__law_cell, odx__law_cell, .func (PySem.W.fnOf "_law_cell" "_law_cell" (defArgs s__law_cell) (defBody s__law_cell) (defScope s__law_cell) .none kVx__law_cell dcx__law_cell pmx__law_cell anx__law_cell cdx__law_cell ctx__law_cell), slx__law_cell⟩)
    (cx__law_cell : PySem.W.codeIn K cdx__law_cell "_law_cell" = true)
    (kx__law_cell : PySem.W.keepIn K (.ref fx__law_cell) = true)
    (ax__law_kinds : PySem.W.nsIn K mainGlobals "_law_kinds" = some (some (.ref fx__law_kinds)))
    (lx__law_kinds : K.lookup fx__law_kinds = some ⟨ocx__law_kinds, odx__law_kinds, .func (PySem.W.fnOf "_law_kinds" "_law_kinds" (defArgs s__law_kinds) (defBody s__law_kinds) (defScope s__law_kinds) .none kVx__law_kinds dcx__law_kinds pmx__law_kinds anx__law_kinds cdx__law_kinds ctx__law_kinds), slx__law_kinds⟩)
    (cx__law_kinds : PySem.W.codeIn K cdx__law_kinds "_law_kinds" = true)
    (kx__law_kinds : PySem.W.keepIn K (.ref fx__law_kinds) = true)
    (ax__law_right : PySem.W.nsIn K mainGlobals "_law_right" = some (some (.ref fx__law_right)))
    (lx__law_right : K.lookup fx__law_right = some ⟨ocx__law_right, odx__law_right, .func (PySem.W.fnOf "_law_right" "_law_right" (defArgs s__law_right) (defBody s__law_right) (defScope s__law_right) .none kVx__law_right dcx__law_right pmx__law_right anx__law_right cdx__law_right ctx__law_right), slx__law_right⟩)
    (cx__law_right : PySem.W.codeIn K cdx__law_right "_law_right" = true)
    (kx__law_right : PySem.W.keepIn K (.ref fx__law_right) = true)
    (ax_law : PySem.W.nsIn K mainGlobals "law" = some (some (.ref fx_law)))
    (lx_law : K.lookup fx_law = some ⟨ocx_law, odx_law, .func (PySem.W.fnOf "law" "law" (defArgs s_law) (defBody s_law) (defScope s_law) .none kVx_law dcx_law pmx_law anx_law cdx_law ctx_law), slx_law⟩)
    (cx_law : PySem.W.codeIn K cdx_law "law" = true)
    (kx_law : PySem.W.keepIn K (.ref fx_law) = true)
    (vMOST_PROCESSES : PySem.W.nsIn K mainGlobals "MOST_PROCESSES" = some (some (.int 12 tMOST_PROCESSES)))
    (vMOST_PAYLOAD : PySem.W.nsIn K mainGlobals "MOST_PAYLOAD" = some (some (.int 30 tMOST_PAYLOAD)))
    (vMOST_DIGITS : PySem.W.nsIn K mainGlobals "MOST_DIGITS" = some (some (.int 24 tMOST_DIGITS)))
    (vMOST_DEPTH : PySem.W.nsIn K mainGlobals "MOST_DEPTH" = some (some (.int 8 tMOST_DEPTH)))
    (vMOST_LENGTH : PySem.W.nsIn K mainGlobals "MOST_LENGTH" = some (some (.int 100000 tMOST_LENGTH)))
    (zlen : PySem.W.nsIn K mainGlobals "len" = some none)
    (zisinstance : PySem.W.nsIn K mainGlobals "isinstance" = some none)
    (zint : PySem.W.nsIn K mainGlobals "int" = some none)
    (zrange : PySem.W.nsIn K mainGlobals "range" = some none)
    (zValueError : PySem.W.nsIn K mainGlobals "ValueError" = some none) :
    ∃ fd : FuncData, (∀ (s : Shared) (v : Value), BindsTo s fd ⟨[v], []⟩ [("script", v)]) ∧ ∀ base : Heap, K.In base → base.Ns mainGlobals mg → FnOk l.prog w K mg base CX0 4 fa fd ["script"] (sp_law K) := by
  have e := hfa.symm.trans (PySem.W.mg_of X G ax_law)
  cases e
  let Cs : Nat → Addr := fun i => match i with | 0 => C0 | 1 => C1 | 2 => C2 | 3 => C3 | 4 => C4 | 5 => C5 | 6 => C6 | _ => C7
  have T : Tx K mg Cs M := {
    b_len := PySem.W.mg_none_of X G zlen
    b_isinstance := PySem.W.mg_none_of X G zisinstance
    b_int := PySem.W.mg_none_of X G zint
    b_range := PySem.W.mg_none_of X G zrange
    b_ValueError := PySem.W.mg_none_of X G zValueError
    g_BadText := PySem.W.mg_of X G aC0
    g_BadPayload := PySem.W.mg_of X G aC1
    g_BadLetter := PySem.W.mg_of X G aC2
    g_BadMember := PySem.W.mg_of X G aC3
    g_BadView := PySem.W.mg_of X G aC4
    g_DiskError := PySem.W.mg_of X G aC5
    g_DiskCrashed := PySem.W.mg_of X G aC6
    g_BadSchedule := PySem.W.mg_of X G aC7
    g_MusterError := PySem.W.mg_of X G aM
    ex := fun i hi => by
      match i, hi with
      | 0, _ => exact ⟨hg0, hk0, hs0, hd0, ha0, hn, ht, hm0⟩
      | 1, _ => exact ⟨hg1, hk1, hs1, hd1, ha1, hn, ht, hm1⟩
      | 2, _ => exact ⟨hg2, hk2, hs2, hd2, ha2, hn, ht, hm2⟩
      | 3, _ => exact ⟨hg3, hk3, hs3, hd3, ha3, hn, ht, hm3⟩
      | 4, _ => exact ⟨hg4, hk4, hs4, hd4, ha4, hn, ht, hm4⟩
      | 5, _ => exact ⟨hg5, hk5, hs5, hd5, ha5, hn, ht, hm5⟩
      | 6, _ => exact ⟨hg6, hk6, hs6, hd6, ha6, hn, ht, hm6⟩
      | 7, _ => exact ⟨hg7, hk7, hs7, hd7, ha7, hn, ht, hm7⟩
      | i + 8, h => omega
    kit := fun i j hi hj => by
      match i, j, hi, hj with
      | 0, 0, _, _ => exact e0_0
      | 0, 1, _, _ => exact e0_1
      | 0, 2, _, _ => exact e0_2
      | 0, 3, _, _ => exact e0_3
      | 0, 4, _, _ => exact e0_4
      | 0, 5, _, _ => exact e0_5
      | 0, 6, _, _ => exact e0_6
      | 0, 7, _, _ => exact e0_7
      | 1, 0, _, _ => exact e1_0
      | 1, 1, _, _ => exact e1_1
      | 1, 2, _, _ => exact e1_2
      | 1, 3, _, _ => exact e1_3
      | 1, 4, _, _ => exact e1_4
      | 1, 5, _, _ => exact e1_5
      | 1, 6, _, _ => exact e1_6
      | 1, 7, _, _ => exact e1_7
      | 2, 0, _, _ => exact e2_0
      | 2, 1, _, _ => exact e2_1
      | 2, 2, _, _ => exact e2_2
      | 2, 3, _, _ => exact e2_3
      | 2, 4, _, _ => exact e2_4
      | 2, 5, _, _ => exact e2_5
      | 2, 6, _, _ => exact e2_6
      | 2, 7, _, _ => exact e2_7
      | 3, 0, _, _ => exact e3_0
      | 3, 1, _, _ => exact e3_1
      | 3, 2, _, _ => exact e3_2
      | 3, 3, _, _ => exact e3_3
      | 3, 4, _, _ => exact e3_4
      | 3, 5, _, _ => exact e3_5
      | 3, 6, _, _ => exact e3_6
      | 3, 7, _, _ => exact e3_7
      | 4, 0, _, _ => exact e4_0
      | 4, 1, _, _ => exact e4_1
      | 4, 2, _, _ => exact e4_2
      | 4, 3, _, _ => exact e4_3
      | 4, 4, _, _ => exact e4_4
      | 4, 5, _, _ => exact e4_5
      | 4, 6, _, _ => exact e4_6
      | 4, 7, _, _ => exact e4_7
      | 5, 0, _, _ => exact e5_0
      | 5, 1, _, _ => exact e5_1
      | 5, 2, _, _ => exact e5_2
      | 5, 3, _, _ => exact e5_3
      | 5, 4, _, _ => exact e5_4
      | 5, 5, _, _ => exact e5_5
      | 5, 6, _, _ => exact e5_6
      | 5, 7, _, _ => exact e5_7
      | 6, 0, _, _ => exact e6_0
      | 6, 1, _, _ => exact e6_1
      | 6, 2, _, _ => exact e6_2
      | 6, 3, _, _ => exact e6_3
      | 6, 4, _, _ => exact e6_4
      | 6, 5, _, _ => exact e6_5
      | 6, 6, _, _ => exact e6_6
      | 6, 7, _, _ => exact e6_7
      | 7, 0, _, _ => exact e7_0
      | 7, 1, _, _ => exact e7_1
      | 7, 2, _, _ => exact e7_2
      | 7, 3, _, _ => exact e7_3
      | 7, 4, _, _ => exact e7_4
      | 7, 5, _, _ => exact e7_5
      | 7, 6, _, _ => exact e7_6
      | 7, 7, _, _ => exact e7_7
      | i + 8, j, h, _ => omega
      | i, j + 8, _, h => omega
    kitM := fun i hi => by
      match i, hi with
      | 0, _ => exact eM0
      | 1, _ => exact eM1
      | 2, _ => exact eM2
      | 3, _ => exact eM3
      | 4, _ => exact eM4
      | 5, _ => exact eM5
      | 6, _ => exact eM6
      | 7, _ => exact eM7
      | i + 8, h => omega
    kitV := fun i hi => by
      match i, hi with
      | 0, _ => exact eV0
      | 1, _ => exact eV1
      | 2, _ => exact eV2
      | 3, _ => exact eV3
      | 4, _ => exact eV4
      | 5, _ => exact eV5
      | 6, _ => exact eV6
      | 7, _ => exact eV7
      | i + 8, h => omega
    x_BadText := xC0
    k_BadText := kC0
    x_BadPayload := xC1
    k_BadPayload := kC1
    x_BadLetter := xC2
    k_BadLetter := kC2
    x_BadMember := xC3
    k_BadMember := kC3
    x_BadView := xC4
    k_BadView := kC4
    x_DiskError := xC5
    k_DiskError := kC5
    x_DiskCrashed := xC6
    k_DiskCrashed := kC6
    o_BadSchedule := { cls := ⟨nm, q, N, bs, _, sn, sub, ab, col, dd, m0, m1, m2, m3, m5, xL, rfl⟩, sa := sa, exC := hs7, tyC := tyC, kC := kC7 }
    n_line := nl
    n_reason := nr
    c_MOST_NUMBER := hMN
    c_MOST_PROCESSES := ⟨_, PySem.W.mg_of X G vMOST_PROCESSES⟩
    c_MOST_PAYLOAD := ⟨_, PySem.W.mg_of X G vMOST_PAYLOAD⟩
    c_MOST_DIGITS := ⟨_, PySem.W.mg_of X G vMOST_DIGITS⟩
    c_MOST_DEPTH := ⟨_, PySem.W.mg_of X G vMOST_DEPTH⟩
    c_MOST_LENGTH := ⟨_, PySem.W.mg_of X G vMOST_LENGTH⟩
  }
  have F_i := fun_mk (st := s_BadSchedule___init__) lxI cxI kxI
  have b_i := F_i.binds (ps := P_BadSchedule___init__) fun _ _ _ _ _ _ us hl => match us, hl with | [_, _, _], _ => rfl
  let a__law_cell : DefAt K mg "_law_cell" P__law_cell s__law_cell := at_mk X G ax__law_cell lx__law_cell cx__law_cell kx__law_cell fun _ _ _ _ _ _ us hl => match us, hl with | [_, _], _ => rfl
  let a__law_kinds : DefAt K mg "_law_kinds" P__law_kinds s__law_kinds := at_mk X G ax__law_kinds lx__law_kinds cx__law_kinds kx__law_kinds fun _ _ _ _ _ _ us hl => match us, hl with | [_], _ => rfl
  let a__law_right : DefAt K mg "_law_right" P__law_right s__law_right := at_mk X G ax__law_right lx__law_right cx__law_right kx__law_right fun _ _ _ _ _ _ us hl => match us, hl with | [_], _ => rfl
  have F_law := fun_mk (st := s_law) lx_law cx_law kx_law
  refine ⟨PySem.W.fnOf "law" "law" (defArgs s_law) (defBody s_law) (defScope s_law) .none kVx_law dcx_law pmx_law anx_law cdx_law ctx_law, fun s v => .of_eq rfl, fun base _ _ => ?_⟩
  let c__law_cell : DefOk l.prog w K mg base CX0 "_law_cell" P__law_cell 1 (sp__law_cell K) := a__law_cell.ok fun F => ok__law_cell T F
  let c__law_kinds : DefOk l.prog w K mg base CX0 "_law_kinds" P__law_kinds 1 (sp__law_kinds Cs) := a__law_kinds.ok fun F => ok__law_kinds T F
  let c__law_right : DefOk l.prog w K mg base CX0 "_law_right" P__law_right 2 (sp__law_right Cs) := a__law_right.ok fun F => ok__law_right T c__law_kinds F
  exact ok_law T iI tI (ok_init T F_i) b_i c__law_cell c__law_right F_law
end Mus
open PySem PySem.W PyProof.Rows
set_option maxRecDepth 100000 in
set_option maxHeartbeats 0 in
theorem PySem.Challenge.cw_mustercall_k00_errors_and_limits_holds : PySem.Challenge.rw_mustercall_k00_errors_and_limits.Holds := by
  w_on; o_law; k_head; (case hw => w_witness2)
  k_fill
  refine Mus.walk_ofX (l := PySem.Challenge.rw_mustercall_k00_errors_and_limits) (n := 63) (k := 4) (x := "script") (sp := fun w => Mus.sp_law (_ : PySem.W.Frag)) rfl (by decide) rfl ⟨rfl, by decide, by decide⟩ (fun w h Y => PySem.W.kIn_of Y) ?F (fun _ _ a ns hl _ hS => ⟨a, ns, rfl, hS, hl, fun _ => rfl⟩)
  case F =>
    intro w mg fa h KX G XX hmg
    refine' Mus.all_mk KX G hmg (Mus.loose_int XX.2) ?aC0 ?aC1 ?aC2 ?aC3 ?aC4 ?aC5 ?aC6 ?aC7 ?aM ?hg0 ?hk0 ?hs0 ?hd0 ?ha0 ?hm0 ?kC0 ?hg1 ?hk1 ?hs1 ?hd1 ?ha1 ?hm1 ?kC1 ?hg2 ?hk2 ?hs2 ?hd2 ?ha2 ?hm2 ?kC2 ?hg3 ?hk3 ?hs3 ?hd3 ?ha3 ?hm3 ?kC3 ?hg4 ?hk4 ?hs4 ?hd4 ?ha4 ?hm4 ?kC4 ?hg5 ?hk5 ?hs5 ?hd5 ?ha5 ?hm5 ?kC5 ?hg6 ?hk6 ?hs6 ?hd6 ?ha6 ?hm6 ?kC6 ?hg7 ?hk7 ?hs7 ?hd7 ?ha7 ?hm7 ?kC7 ?hn ?ht ?xC0 ?xC1 ?xC2 ?xC3 ?xC4 ?xC5 ?xC6 ?e0_0 ?e0_1 ?e0_2 ?e0_3 ?e0_4 ?e0_5 ?e0_6 ?e0_7 ?eM0 ?eV0 ?e1_0 ?e1_1 ?e1_2 ?e1_3 ?e1_4 ?e1_5 ?e1_6 ?e1_7 ?eM1 ?eV1 ?e2_0 ?e2_1 ?e2_2 ?e2_3 ?e2_4 ?e2_5 ?e2_6 ?e2_7 ?eM2 ?eV2 ?e3_0 ?e3_1 ?e3_2 ?e3_3 ?e3_4 ?e3_5 ?e3_6 ?e3_7 ?eM3 ?eV3 ?e4_0 ?e4_1 ?e4_2 ?e4_3 ?e4_4 ?e4_5 ?e4_6 ?e4_7 ?eM4 ?eV4 ?e5_0 ?e5_1 ?e5_2 ?e5_3 ?e5_4 ?e5_5 ?e5_6 ?e5_7 ?eM5 ?eV5 ?e6_0 ?e6_1 ?e6_2 ?e6_3 ?e6_4 ?e6_5 ?e6_6 ?e6_7 ?eM6 ?eV6 ?e7_0 ?e7_1 ?e7_2 ?e7_3 ?e7_4 ?e7_5 ?e7_6 ?e7_7 ?eM7 ?eV7 ?xL ?sa ?tyC ?nl ?nr ?iI ?lxI ?cxI ?kxI ?tI ?ax__law_cell ?lx__law_cell ?cx__law_cell ?kx__law_cell ?ax__law_kinds ?lx__law_kinds ?cx__law_kinds ?kx__law_kinds ?ax__law_right ?lx__law_right ?cx__law_right ?kx__law_right ?ax_law ?lx_law ?cx_law ?kx_law ?vMOST_PROCESSES ?vMOST_PAYLOAD ?vMOST_DIGITS ?vMOST_DEPTH ?vMOST_LENGTH ?zlen ?zisinstance ?zint ?zrange ?zValueError
    (case aC0 => first | k_is | rfl)
    (case aC1 => first | k_is | rfl)
    (case aC2 => first | k_is | rfl)
    (case aC3 => first | k_is | rfl)
    (case aC4 => first | k_is | rfl)
    (case aC5 => first | k_is | rfl)
    (case aC6 => first | k_is | rfl)
    (case aC7 => first | k_is | rfl)
    (case aM => first | k_is | rfl)
    (case hg0 => first | k_is | rfl)
    (case hk0 => first | k_is | rfl)
    (case hs0 => first | k_is | rfl)
    (case hd0 => first | k_is | rfl)
    (case ha0 => first | k_is | rfl)
    (case hm0 => first | k_is | rfl)
    (case kC0 => first | k_is | rfl)
    (case hg1 => first | k_is | rfl)
    (case hk1 => first | k_is | rfl)
    (case hs1 => first | k_is | rfl)
    (case hd1 => first | k_is | rfl)
    (case ha1 => first | k_is | rfl)
    (case hm1 => first | k_is | rfl)
    (case kC1 => first | k_is | rfl)
    (case hg2 => first | k_is | rfl)
    (case hk2 => first | k_is | rfl)
    (case hs2 => first | k_is | rfl)
    (case hd2 => first | k_is | rfl)
    (case ha2 => first | k_is | rfl)
    (case hm2 => first | k_is | rfl)
    (case kC2 => first | k_is | rfl)
    (case hg3 => first | k_is | rfl)
    (case hk3 => first | k_is | rfl)
    (case hs3 => first | k_is | rfl)
    (case hd3 => first | k_is | rfl)
    (case ha3 => first | k_is | rfl)
    (case hm3 => first | k_is | rfl)
    (case kC3 => first | k_is | rfl)
    (case hg4 => first | k_is | rfl)
    (case hk4 => first | k_is | rfl)
    (case hs4 => first | k_is | rfl)
    (case hd4 => first | k_is | rfl)
    (case ha4 => first | k_is | rfl)
    (case hm4 => first | k_is | rfl)
    (case kC4 => first | k_is | rfl)
    (case hg5 => first | k_is | rfl)
    (case hk5 => first | k_is | rfl)
    (case hs5 => first | k_is | rfl)
    (case hd5 => first | k_is | rfl)
    (case ha5 => first | k_is | rfl)
    (case hm5 => first | k_is | rfl)
    (case kC5 => first | k_is | rfl)
    (case hg6 => first | k_is | rfl)
    (case hk6 => first | k_is | rfl)
    (case hs6 => first | k_is | rfl)
    (case hd6 => first | k_is | rfl)
    (case ha6 => first | k_is | rfl)
    (case hm6 => first | k_is | rfl)
    (case kC6 => first | k_is | rfl)
    (case hg7 => first | k_is | rfl)
    (case hk7 => first | k_is | rfl)
    (case hs7 => first | k_is | rfl)
    (case hd7 => first | k_is | rfl)
    (case ha7 => first | k_is | rfl)
    (case hm7 => first | k_is | rfl)
    (case kC7 => first | k_is | rfl)
    (case hn => first | k_is | rfl)
    (case ht => first | k_is | rfl)
    (case xC0 => k_exc)
    (case xC1 => k_exc)
    (case xC2 => k_exc)
    (case xC3 => k_exc)
    (case xC4 => k_exc)
    (case xC5 => k_exc)
    (case xC6 => k_exc)
    (case e0_0 => first | k_is | rfl)
    (case e0_1 => first | k_is | rfl)
    (case e0_2 => first | k_is | rfl)
    (case e0_3 => first | k_is | rfl)
    (case e0_4 => first | k_is | rfl)
    (case e0_5 => first | k_is | rfl)
    (case e0_6 => first | k_is | rfl)
    (case e0_7 => first | k_is | rfl)
    (case eM0 => first | k_is | rfl)
    (case eV0 => first | k_is | rfl)
    (case e1_0 => first | k_is | rfl)
    (case e1_1 => first | k_is | rfl)
    (case e1_2 => first | k_is | rfl)
    (case e1_3 => first | k_is | rfl)
    (case e1_4 => first | k_is | rfl)
    (case e1_5 => first | k_is | rfl)
    (case e1_6 => first | k_is | rfl)
    (case e1_7 => first | k_is | rfl)
    (case eM1 => first | k_is | rfl)
    (case eV1 => first | k_is | rfl)
    (case e2_0 => first | k_is | rfl)
    (case e2_1 => first | k_is | rfl)
    (case e2_2 => first | k_is | rfl)
    (case e2_3 => first | k_is | rfl)
    (case e2_4 => first | k_is | rfl)
    (case e2_5 => first | k_is | rfl)
    (case e2_6 => first | k_is | rfl)
    (case e2_7 => first | k_is | rfl)
    (case eM2 => first | k_is | rfl)
    (case eV2 => first | k_is | rfl)
    (case e3_0 => first | k_is | rfl)
    (case e3_1 => first | k_is | rfl)
    (case e3_2 => first | k_is | rfl)
    (case e3_3 => first | k_is | rfl)
    (case e3_4 => first | k_is | rfl)
    (case e3_5 => first | k_is | rfl)
    (case e3_6 => first | k_is | rfl)
    (case e3_7 => first | k_is | rfl)
    (case eM3 => first | k_is | rfl)
    (case eV3 => first | k_is | rfl)
    (case e4_0 => first | k_is | rfl)
    (case e4_1 => first | k_is | rfl)
    (case e4_2 => first | k_is | rfl)
    (case e4_3 => first | k_is | rfl)
    (case e4_4 => first | k_is | rfl)
    (case e4_5 => first | k_is | rfl)
    (case e4_6 => first | k_is | rfl)
    (case e4_7 => first | k_is | rfl)
    (case eM4 => first | k_is | rfl)
    (case eV4 => first | k_is | rfl)
    (case e5_0 => first | k_is | rfl)
    (case e5_1 => first | k_is | rfl)
    (case e5_2 => first | k_is | rfl)
    (case e5_3 => first | k_is | rfl)
    (case e5_4 => first | k_is | rfl)
    (case e5_5 => first | k_is | rfl)
    (case e5_6 => first | k_is | rfl)
    (case e5_7 => first | k_is | rfl)
    (case eM5 => first | k_is | rfl)
    (case eV5 => first | k_is | rfl)
    (case e6_0 => first | k_is | rfl)
    (case e6_1 => first | k_is | rfl)
    (case e6_2 => first | k_is | rfl)
    (case e6_3 => first | k_is | rfl)
    (case e6_4 => first | k_is | rfl)
    (case e6_5 => first | k_is | rfl)
    (case e6_6 => first | k_is | rfl)
    (case e6_7 => first | k_is | rfl)
    (case eM6 => first | k_is | rfl)
    (case eV6 => first | k_is | rfl)
    (case e7_0 => first | k_is | rfl)
    (case e7_1 => first | k_is | rfl)
    (case e7_2 => first | k_is | rfl)
    (case e7_3 => first | k_is | rfl)
    (case e7_4 => first | k_is | rfl)
    (case e7_5 => first | k_is | rfl)
    (case e7_6 => first | k_is | rfl)
    (case e7_7 => first | k_is | rfl)
    (case eM7 => first | k_is | rfl)
    (case eV7 => first | k_is | rfl)
    (case xL => first | k_is | rfl)
    (case sa => first | k_is | rfl)
    (case tyC => first | k_is | rfl)
    (case nl => first | k_is | rfl)
    (case nr => first | k_is | rfl)
    (case iI => first | k_is | rfl)
    (case lxI => first | k_is | rfl)
    (case cxI => first | k_is | rfl)
    (case kxI => first | k_is | rfl)
    (case tI => first | k_is | rfl)
    (case ax__law_cell => first | k_is | rfl)
    (case lx__law_cell => first | k_is | rfl)
    (case cx__law_cell => first | k_is | rfl)
    (case kx__law_cell => first | k_is | rfl)
    (case ax__law_kinds => first | k_is | rfl)
    (case lx__law_kinds => first | k_is | rfl)
    (case cx__law_kinds => first | k_is | rfl)
    (case kx__law_kinds => first | k_is | rfl)
    (case ax__law_right => first | k_is | rfl)
    (case lx__law_right => first | k_is | rfl)
    (case cx__law_right => first | k_is | rfl)
    (case kx__law_right => first | k_is | rfl)
    (case ax_law => first | k_is | rfl)
    (case lx_law => first | k_is | rfl)
    (case cx_law => first | k_is | rfl)
    (case kx_law => first | k_is | rfl)
    (case vMOST_PROCESSES => first | k_is | rfl)
    (case vMOST_PAYLOAD => first | k_is | rfl)
    (case vMOST_DIGITS => first | k_is | rfl)
    (case vMOST_DEPTH => first | k_is | rfl)
    (case vMOST_LENGTH => first | k_is | rfl)
    (case zlen => first | k_is | rfl)
    (case zisinstance => first | k_is | rfl)
    (case zint => first | k_is | rfl)
    (case zrange => first | k_is | rfl)
    (case zValueError => first | k_is | rfl)

