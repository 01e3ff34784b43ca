import PyProof.Rows.All
import Wide.All
import OpenK.AllK
import Wide.FinOn
import PyProof.EqAt
import PyProof.EqKinds
import PyProof.TupleCall
import KE.KFromBytes
import KE.KExcIs
import HandS.ForExc
import HandS.ForMost
import HandS.ExcInit
import HandS.ExcValue
import HandS.ExcIs
import HandS.ExcField
import HandS.TryMany
import HandS.IsInst
import HandS.FStr
import HandS.RaiseMore
import PySem.Challenge.RW_roundpost_k00_error_classes
set_option Elab.async false
set_option linter.all false
set_option maxRecDepth 100000
set_option maxHeartbeats 4000000
namespace Mv
open PySem PySem.Spec PyProof.Rows L2

/-! ### exceptions as values -/
/-- at a: an exception of the class at C, without fields or with the fields fs -/
def IsE (H : Hp) (a C : Addr) : Prop := H a = some (ExO (.ref C) a) ∨ ∃ d fs, H a = some (exo a C (some d)) ∧ H d = some (exd d fs)
theorem IsE.same {H H' : Hp} {a C : Addr} (h : IsE H a C) (s : Same H H') : IsE H' a C := by
  rcases h with h | ⟨d, fs, h, q⟩
  · exact .inl (s _ _ h)
  · exact .inr ⟨d, fs, s _ _ h, s _ _ q⟩
theorem IsE.inst {X : Cx} {pins : List (Addr × Obj)} {σ : L2.St} {H : Hp} {s : Shared} {a C : Addr} (I : Inv X pins σ H s) (h : IsE H a C) : ∃ ox od, PySem.W.InstAt s.heap a ox C od := by
  rcases h with h | ⟨d, fs, h, q⟩
  · obtain ⟨⟨oe, vs, ho, ⟨h1, h2⟩, hd, _⟩, _, _⟩ := I.hok a _ h
    refine ⟨oe, none, ho, h1, ?_, ?_⟩
    · unfold PySem.W.notCls
      rw [hd] <;> rfl
    · rw [h2]
      trivial
  · obtain ⟨t1, ho⟩ := exo_at I.hok h
    obtain ⟨mA, ⟨od, es, ep, hod, hr⟩, _⟩ := exd_at I.hok q
    exact ⟨_, some od, ho, rfl, rfl, hod⟩
/-- isinstance(e, c), e an exception held as a value -/
def rIsX (K : PySem.W.Frag) : List V → Hp → VK → Prop := fun xs H Q => ∃ (a C : Addr) (c : V) (u : Value) (b : Bool), xs = [.ref a, c] ∧ ClsV c u ∧ IsE H a C ∧ ExcC K C ∧ PySem.W.kitOne K (.ref C) u = some b ∧ Q (.bl b) H
theorem kit_exc {K : PySem.W.Frag} {C x : Addr} {ox : Obj} {od : Option Obj} (T : ExcC K C) : PySem.W.KitX K (.ref x) (.ref C) (fun h => PySem.W.InstAt h x ox C od) := by
  refine PySem.W.kitx_exc ?_ T.hg T.hk T.hs T.ha T.hn T.ht T.hm
  obtain ⟨cd, hc, _⟩ := PySem.W.any_some T.hd
  rw [hc] <;> rfl
theorem call_isX {X : Cx} : CallR X (.builtin "isinstance") (rIsX X.K) := by
  intro pins s σ H xs us Q I r h
  obtain ⟨a, C, c, u, b, rfl, k, hE, T, e, q⟩ := h
  obtain ⟨u1, u2, rfl, r1, r2⟩ := vals2 r
  have e2 := k.eq r2
  subst e2
  cases (show u1 = Value.ref a from r1)
  obtain ⟨ox, od, J⟩ := hE.inst I
  exact PySem.W.kia_one (kit_exc T) I.kIn J e (fun z => nomatch z) fun tk => ⟨.bl b, H, I.tok tk, rfl, q⟩

/-- e.f, e an exception held as a value, f one of its fields -/
def tXv (K : PySem.W.Frag) (f : Str) (te : TE) : TE := fun σ H Q => te σ H fun x H1 => ∃ (a C d : Addr) (fs : List (Str × V)) (v : V), x = .ref a ∧ H1 a = some (exo a C (some d)) ∧ H1 d = some (exd d fs) ∧ XfC K C ∧ PySem.W.findIn K (.ref C) f = some none ∧ fs.lookup f = some v ∧ Q v H1
theorem pe_xv {X : Cx} {e : Expr} {te : TE} {pos : Pos} {n : Str} (he : PE X e te) (hb : attributeBase e n X.env (eval e X.env) = eval e X.env := by rfl) :
    PE X (.Attribute e n pos) (tXv X.K n te) := by
  refine ⟨fun pins s σ H Q I h => ?_⟩
  refine attr_of hb (thn (he.run pins s σ H _ I h) fun u s1 hh => ?_)
  obtain ⟨x, H1, I1, rx, a, C, d, fs, v, ex, ea, ed, T, hno, l, q⟩ := hh
  subst ex
  obtain rfl : u = Value.ref a := rx
  obtain ⟨t1, ho⟩ := exo_at I1.hok ea
  obtain ⟨mA, hns, hr⟩ := exd_at I1.hok ed
  obtain ⟨od, hod, hl⟩ := lookIn_ns hns
  obtain ⟨u, hu, ru⟩ := RelO.some_of (v := v) (o := mA n) (by rw [← l]; exact hr n)
  have J : PySem.W.InstAt s1.heap a _ C (some od) := ⟨ho, rfl, rfl, hod⟩
  exact HandSPX.exc_get I1.kIn J T.ga T.gg T.exC (PySem.W.findObj_own T.hdC hno rfl (by rw [hl, hu])) (handed_of ru) ⟨v, H1, I1.tok _, ru, q⟩

/-! ### Base.__init__(self, ..), Base an own class over ValueError without an __init__ of its own -/
structure BaseC (K : PySem.W.Frag) (B : Addr) : Prop where
  sp : PySem.W.specialIn K (.ref B) "__getattribute__" = some (some (.builtin "type.__getattribute__"))
  rd : PySem.W.readsIn K B (.type "type") = true
  fd : PySem.W.findCls K (.ref B) (.type "type") "__init__" = some (.val (.builtin "ValueError.__init__"))
theorem pe_clinit {X : Cx} {B : Addr} {x : Str} {e : Expr} {es : List Expr} {ta : TA} {p1 p2 pos : Pos} {pl : Sem Bool} (T0 : BaseC X.K B) (hg : Gl X x) (hm : X.mg x = some (.ref B)) (ha : PA X (e :: es) ta) (hdb : (x == ("__debug__" : Str)) = false := by decide)
    (hc : eval (.Call (.Attribute (.Name x p1) "__init__" p2) (e :: es) [] pos) X.env = (do
      let ov ← eval (.Name x p1) X.env
      standAt p2.atName
      let (f, first) ← holding [ov] (getMethod ov "__init__" pl)
      callWith pos f first (backTo pos (starEach (e :: es) X.env)) (backToKw pos (keywordEach [] X.env))) := by rfl)
    (he : starEach (e :: es) X.env = (false, eval e X.env) :: starEach es X.env := by rfl) (hpl : (backTo pos (starEach es X.env)).any (·.1) = false := by rfl) :
    PE X (.Call (.Attribute (.Name x p1) "__init__" p2) (e :: es) [] pos) (tVeI X.K ta) := by
  refine ⟨fun pins s σ H Q I h => ?_⟩
  refine PySem.W.methodCall_KW (ld_glob I hg hm ?_ hdb) hc
  refine PySem.W.method_cls I.kIn T0.sp (PySem.W.cls_value I.kIn T0.rd T0.fd (by decide +kernel) ?_)
  show wpAny _ _ (callWith pos (Value.builtin "ValueError.__init__") [] (backTo pos (starEach (e :: es) X.env)) []) _ _ _
  refine PyProof.Rows.callWith_method1 (thn (ha.run pos pins _ σ H _ (I.tok _) h) fun us s1 ⟨vs, H1, I1, r1, a, C, ws, ev, hl, T, ea, q⟩ => ?_) he hpl
  subst ev
  cases r1 with
  | @cons _ u0 _ ur ra rw' =>
    obtain rfl : u0 = Value.ref a := ra
    have hlen : ur.length ≤ sizeLine := by
      rw [← Paired.length rw', sizeLine_eq]
      omega
    exact oinit_ok T I1 ea hlen fun s' J => ⟨.non, H1, J, rfl, q⟩

/-! ### an own exception class called with keywords -/
section
open PySem.HandSPX
variable {prog : Program} {w : World} {A : Around} {E : Value → Shared → Prop} {R : Result → Shared → Prop} {hp : Heap} {g : Array GenState} {dr : Drawn} {tk : Nat} {os : OsState}
variable {nm qn : Str} {C N : Addr} {bs bm bmB : List Value} {hd : Bool} {sn : List Str} {sub : List Value} {ab : Bool} {col : Option Bool} {dd : Option Addr} {k0 k1 k2 k3 k5 : Option Value} {B nid iid : String} {rest : List Value} {kw : List (Str × Value)} {fI : Addr}
theorem kw_newcheck (F : ExcBaseFacts B nid iid bmB) (hT : ∀ X : String, bm.contains (.type X) = bmB.contains (.type X)) {Q : Unit → Shared → Prop}
    (hC : hp.get? C = some (excClassObj nm qn C N bs bm hd sn sub ab col dd k0 k1 k2 k3 k5 nid)) (hq : Q () ⟨hp, g, dr, tk, os⟩) :
    wpAny (model prog w) A (checkBuiltinCall nid ⟨.ref C :: rest, kw⟩) Q E ⟨hp, g, dr, tk, os⟩ := by
  have c1 : (Value.ref C :: bm).contains (.type B) = true := by
    rw [List.contains_cons, hT B, F.hasB]
    exact Bool.or_true _
  have c2 := F.noStar
  simp only [checkBuiltinCall, F.newKind, F.newSplit, F.newRow]
  repeat (first
    | refine wpAny_loadPart_at hC ?_
    | (refine wpAny_isSubtype_exc hC ?_
       rw [c1])
    | refine wpAny_staticBase_exc hC ?_
    | refine wpAny_madeBy_exc hC ?_
    | simp only [bne_self_eq_false, Bool.false_eq_true, if_false]
    | wp_step)
  exact hq
theorem kw_new (F : ExcBaseFacts B nid iid bmB) (hT : ∀ X : String, bm.contains (.type X) = bmB.contains (.type X)) (hC : hp.get? C = some (excClassObj nm qn C N bs bm hd sn sub ab col dd k0 k1 k2 k3 k5 nid)) (hz : rest.length ≤ sizeLine)
    (hq : R (.ok (.ret (.ref (hp.objs.size + 1)))) ⟨(hp.push (PySem.W.kdv_tup rest)).push (excO C hp.objs.size), g, dr, tk, os⟩) :
    codeAny (model prog w) A (.builtin nid ⟨.ref C :: rest, kw⟩) R ⟨hp, g, dr, tk, os⟩ := by
  have e0 := F.ends
  have up : ∀ X : String, (Value.ref C :: bm).contains (.type X) = bmB.contains (.type X) := fun X => by
    rw [List.contains_cons, hT X]
    rfl
  have c1 := (up B).trans F.hasB
  have c2 := (up "AttributeError").trans F.noAttr
  have c3 := (up "NameError").trans F.noName
  refine codeAny_builtinAt F.entry ?_
  unfold Builtin.«BaseException.__new__»
  refine PySem.wpAt_bind ?_
  change PySem.wpAt _ _ _ (stack >>= _) _ _ _
  refine PySem.wpAt_bind (PySem.wpAt_stack fun _ _ => wpAt_of_wpAny ?_)
  wp_walk
  refine wpAt_of_wpAny ?_
  rw [F.owner]
  repeat (first
    | with_reducible refine wpAny_madeHere_exc F.canon hC ?_
    | with_reducible refine wpAny_loadPart_at hC ?_
    | (with_reducible refine wpAny_isSubtype_exc hC ?_
       first | rw [c1] | rw [c2] | rw [c3])
    | wp_step)
  change R _ _
  rw [Heap.size_push]
  exact hq
theorem kw_typecall (F : ExcBaseFacts B nid iid bmB) (hT : ∀ X : String, bm.contains (.type X) = bmB.contains (.type X)) (hC : hp.get? C = some (excClassObj nm qn C N bs bm hd sn sub ab col dd k0 k1 k2 k3 k5 nid)) (hz : rest.length ≤ sizeLine)
    (hi : PySem.W.Looks (model prog w) hp (typeLookup (.ref C) "__init__") (some (.ref fI))) (hb : ∀ self, PySem.W.Looks (model prog w) hp (bindSpecial (.ref fI) self) (.ref fI, [self])) {Q : Fin → Shared → Prop}
    (hq : codeAny (model prog w) A (.call (.ref fI) ⟨.ref (hp.objs.size + 1) :: rest, kw⟩)
      (fun r s' => match r with | .ok (.ret v) => v = .none ∧ Q (.done (.ret (.ref (hp.objs.size + 1)))) s' | .ok _ => False | .error e => E e s')
      ⟨(hp.push (PySem.W.kdv_tup rest)).push (excO C hp.objs.size), g, dr, tk, os⟩) :
    wpAny (model prog w) A (Builtin.«type.__call__» ⟨.ref C :: rest, kw⟩) Q E ⟨hp, g, dr, tk, os⟩ := by
  have up : ∀ b o, hp.get? b = some o → ((hp.push (PySem.W.kdv_tup rest)).push (excO C hp.objs.size)).get? b = some o := fun b o z =>
    Heap.get?_push_of_some _ (Heap.get?_push_of_some _ z)
  have at1 : ((hp.push (PySem.W.kdv_tup rest)).push (excO C hp.objs.size)).get? (hp.objs.size + 1) = some (excO C hp.objs.size) := by heap_get
  have own : (Value.ref C :: bm).contains (.ref C) = true := by simp
  have L1 := hi.keeps up
  have L2 := (hb (.ref (hp.objs.size + 1))).keeps up
  have C1 := up C _ hC
  repeat (first | with_reducible refine wpAny_loadPart_at hC ?_ | with_reducible refine wpAny_madeBy_exc hC ?_ | wp_step)
  refine codeAny_call_builtin_code (Code.quiet_builtin _ F.quiet) (kw_newcheck F hT hC (kw_new F hT hC hz ?_))
  change wpAny _ _ _ _ _ _
  unfold isInstance
  repeat (first
    | with_reducible refine wpAny_loadPart_at at1 ?_
    | (with_reducible refine wpAny_isSubtype_exc C1 ?_
       rw [own])
    | wp_step)
  change wpAny _ _ (typeLookup (.ref C) _) _ _ _
  refine L1.at (wpAny_holding (wpAny_bind (L2.at (wpAny_bind (wpAny_call (codeAny_mono hq ?_))))))
  intro r s' z
  cases r with
  | error e => exact z
  | ok fl =>
    cases fl with
    | ret v =>
      obtain ⟨rfl, y⟩ := z
      first
        | exact wpAny_pure (wpAny_pure y)
        | (wp_walk
           exact y)
    | next => exact z.elim
    | brk => exact z.elim
    | cont => exact z.elim
theorem kw_tccheck {Q : Unit → Shared → Prop} (hC : hp.get? C = some (excClassObj nm qn C N bs bm hd sn sub ab col dd k0 k1 k2 k3 k5 nid)) (hq : Q () ⟨hp, g, dr, tk, os⟩) :
    wpAny (model prog w) A (checkBuiltinCall "type.__call__" ⟨.ref C :: rest, kw⟩) Q E ⟨hp, g, dr, tk, os⟩ := by
  have l3 := tc_sub
  have ty : (⟨hp, g, dr, tk, os⟩ : Shared).TypeIs (.ref C) "type" := ⟨_, hC, rfl⟩
  simp only [checkBuiltinCall, tc_kind, tc_split]
  repeat (any_goals (first
    | assumption
    | with_reducible refine wpAny_loadPart_at hC ?_
    | with_reducible refine wpAny_onRaise ?_
    | with_reducible refine wpAny_map ?_
    | wp_step))
theorem kw_call (F : ExcBaseFacts B nid iid bmB) (hT : ∀ X : String, bm.contains (.type X) = bmB.contains (.type X)) (hC : hp.get? C = some (excClassObj nm qn C N bs bm hd sn sub ab col dd k0 k1 k2 k3 k5 nid)) (hz : rest.length ≤ sizeLine)
    (hi : PySem.W.Looks (model prog w) hp (typeLookup (.ref C) "__init__") (some (.ref fI))) (hb : ∀ self, PySem.W.Looks (model prog w) hp (bindSpecial (.ref fI) self) (.ref fI, [self]))
    (hq : codeAny (model prog w) (A.under (.builtin "type.__call__" ⟨.ref C :: rest, kw⟩)) (.call (.ref fI) ⟨.ref (hp.objs.size + 1) :: rest, kw⟩) (PySem.W.InitBack (hp.objs.size + 1) R)
      ⟨(hp.push (PySem.W.kdv_tup rest)).push (excO C hp.objs.size), g, dr, tk, os⟩) :
    codeAny (model prog w) A (.call (.ref C) ⟨rest, kw⟩) R ⟨hp, g, dr, tk, os⟩ := by
  have l1 := tc_lookup
  have l2 := tc_bind (.ref C)
  have ty : (⟨hp, g, dr, tk, os⟩ : Shared).TypeIs (.ref C) "type" := ⟨_, hC, rfl⟩
  refine codeAny_of_tree ?_
  change wpAny _ _ (callAny (.ref C) _) _ _ _
  repeat (any_goals (first | assumption | with_reducible refine wpAny_loadPart_at hC ?_ | wp_step))
  refine ⟨rfl, codeAny_call_builtin_at (Code.quiet_builtin _ (by decide +kernel)) entry_typeCall (kw_tccheck hC (kw_typecall F hT hC hz hi hb (codeAny_mono hq ?_)))⟩
  intro r s' z
  cases r with
  | error e => exact z
  | ok fl => cases fl <;> exact z
end

/-! ### C(e, .., k = v, ..) with an own __init__, as a value -/
/-- how __init__ binds: us the positional arguments behind self, ws the keywords' values, g puts them in the parameters' order -/
def KwTo (K : PySem.W.Frag) (fd : FuncData) (n : Nat) (ps ks : List Str) (g : List Value → List Value → List Value) : Prop :=
  ∀ (s : Shared) (u0 : Value) (us ws : List Value), K.In s.heap → us.length = n → (u0 :: g us ws).length = ps.length → BindsTo s fd ⟨u0 :: us, ks.zip ws⟩ (ps.zip (u0 :: g us ws))
def tMkV (C : Addr) (n : Nat) (sp : Sp) (t : TA) : TE := fun σ H Q => t σ H fun vs H1 => (vs.length = n ∧ n ≤ 1000) ∧ ∀ a, H1 a = none → sp (.ref a :: vs) (upd H1 a (exo a C none)) (fun v H2 => v = .non ∧ Q (.ref a) H2) (fun _ _ _ => False)
def tMkVK (C : Addr) (sp : Sp) (gV : List V → List V → List V) (tk : TA) : TE := fun σ H Q => tk σ H fun zs H1 => ∀ a, H1 a = none → sp (.ref a :: gV [] zs) (upd H1 a (exo a C none)) (fun v H2 => v = .non ∧ Q (.ref a) H2) (fun _ _ _ => False)
section
variable {X : Cx} {CX : CXT} {k n : Nat} {C fI : Addr} {fd : FuncData} {ps ks : List Str} {sp : Sp} {x : Str} {p pos : Pos} {e : Expr} {es : List Expr} {kws : List Keyword} {t tk : TA} {g : List Value → List Value → List Value} {gV : List V → List V → List V}
theorem run_mkV {pins : List (Addr × Obj)} {σ : L2.St} {H1 : Hp} {s1 : Shared} {Q : VK} {us ws : List Value} {avs : List V} (T : OexC X.K C) (iC : PySem.W.findIn X.K (.ref C) "__init__" = some (some (.ref fI))) (tI : PySem.W.typeIn X.K (.ref fI) = some (.type "function"))
    (F1 : FnOk X.prog X.w X.K X.mg X.base CX k fI fd ps sp) (hr : Room (k + 1) X.A) (hb : KwTo X.K fd n ps ks g) (hx : Passes CX X (fun _ _ _ => False)) (hun : us.length = n) (hus : n ≤ 1000)
    (I1 : Inv X pins σ H1 s1) (r1 : Vals avs (g us ws)) (q1 : ∀ a, H1 a = none → sp (.ref a :: avs) (upd H1 a (exo a C none)) (fun v H2 => v = .non ∧ Q (.ref a) H2) (fun _ _ _ => False)) :
    wpAny (model X.prog X.w) X.A (call (.ref C) us (ks.zip ws)) (EP X pins σ Q) X.xe s1 := by
  obtain ⟨_, _, _, _, bm, _, _, _, _, _, _, _, _, _, _, hC, hbm⟩ := T.cls
  obtain ⟨h0, g0, dr, tk0, os⟩ := s1
  generalize hn : h0.objs.size = n0
  have nw : H1 (n0 + 1) = none := I1.hok.fresh (by show h0.objs.size ≤ n0 + 1; omega)
  have q2 := q1 (n0 + 1) nw
  have kk : ∀ b o, h0.get? b = some o → ((h0.push (PySem.W.kdv_tup us)).push (PySem.HandSPX.excO C n0)).get? b = some o := fun b o z => Heap.get?_push_of_some _ (Heap.get?_push_of_some _ z)
  have at1 : ((h0.push (PySem.W.kdv_tup us)).push (PySem.HandSPX.excO C n0)).get? (n0 + 1) = some (PySem.HandSPX.excO C n0) := by
    subst hn
    heap_get
  have I2 := I1.laid (t' := tk0) (a := n0 + 1) (o := exo (n0 + 1) C none) (h' := (h0.push (PySem.W.kdv_tup us)).push (PySem.HandSPX.excO C n0)) kk (by show h0.objs.size ≤ n0 + 1; omega) (exo_ok at1)
  have r2 : Vals (V.ref (n0 + 1) :: avs) (Value.ref (n0 + 1) :: g us ws) := .cons rfl r1
  have hl : (Value.ref (n0 + 1) :: g us ws).length = ps.length := r2.length.symm.trans (F1.len _ _ _ _ q2)
  subst hn
  refine wpAny_call (kw_call F.excBase_ValueError (fun Y => PySem.HandSPX.refsVE_contains Y bm hbm) (I1.kIn _ _ hC) (by rw [sizeLine_eq, hun]; omega) (PySem.W.looks_findIn I1.kIn iC) (fun self => PySem.W.bind_fn I1.kIn self tI) ?_)
  refine codeAny_mono (F1.run _ X.stack _ _ ⟨Value.ref (h0.objs.size + 1) :: us, ks.zip ws⟩ _ _ _ (fun _ _ _ => False) (hr.make C us (ks.zip ws)) (I2.env0.make C us (ks.zip ws)) (hb _ _ us ws I2.kIn hun hl) r2 q2) fun r s' z => ?_
  cases r with
  | error er => exact hx pins σ _ _ er s' I2 z
  | ok fl =>
    cases fl with
    | ret u =>
      obtain ⟨v, H2, I3, rv, rfl, q3⟩ := I2.after z
      exact ⟨rv, ⟨V.ref (h0.objs.size + 1), H2, I3, rfl, q3⟩⟩
    | next => exact z.elim
    | brk => exact z.elim
    | cont => exact z.elim
theorem pe_mkV (T : OexC X.K C) (iC : PySem.W.findIn X.K (.ref C) "__init__" = some (some (.ref fI))) (tI : PySem.W.typeIn X.K (.ref fI) = some (.type "function"))
    (F1 : FnOk X.prog X.w X.K X.mg X.base CX k fI fd ps sp) (hr : Room (k + 1) X.A) (hb : KwTo X.K fd n ps [] (fun us _ => us)) (hx : Passes CX X (fun _ _ _ => False)) (hg : Gl X x) (hm : X.mg x = some (.ref C)) (ha : PA X (e :: es) t)
    (hdb : (x == ("__debug__" : Str)) = false := by decide) (he : starEach (e :: es) X.env = (false, eval e X.env) :: starEach es X.env := by rfl) (hpl : (backTo pos (starEach es X.env)).any (·.1) = false := by rfl) :
    PE X (.Call (.Name x p) (e :: es) [] pos) (tMkV C n sp t) := by
  refine ⟨fun pins s σ H Q I h => wpAny_Call_Name_kw (ld_glob I hg hm ?_ hdb)⟩
  refine PySem.W.callWith_K (h₀ := X.base) I.ok.mod.kin T.kC (thn (ha.run pos pins s σ H _ I h) fun us s1 ⟨vs, H1, I1, r1, hz, q1⟩ => ⟨I1.kIn, ?_⟩) he hpl
  exact run_mkV (ks := []) (ws := []) T iC tI F1 hr hb hx (r1.length.symm.trans hz.1) hz.2 I1 r1 q1
theorem pe_mkVK (T : OexC X.K C) (iC : PySem.W.findIn X.K (.ref C) "__init__" = some (some (.ref fI))) (tI : PySem.W.typeIn X.K (.ref fI) = some (.type "function"))
    (F1 : FnOk X.prog X.w X.K X.mg X.base CX k fI fd ps sp) (hr : Room (k + 1) X.A) (hb : KwTo X.K fd 0 ps ks g) (hrel : ∀ {zs : List V} {ws : List Value}, Vals zs ws → Vals (gV [] zs) (g [] ws)) (hx : Passes CX X (fun _ _ _ => False)) (hg : Gl X x) (hm : X.mg x = some (.ref C))
    (hkw : PK X kws tk) (hall : (backToKw pos (keywordEach kws X.env)).all (·.1.isSome) = true := by rfl) (hks : (backToKw pos (keywordEach kws X.env)).filterMap (·.1) = ks := by rfl) (hdb : (x == ("__debug__" : Str)) = false := by decide)
    (hpl : ((backTo pos (starEach [] X.env)).any (·.1) || (backToKw pos (keywordEach kws X.env)).any (·.1.isNone)) = false := by rfl) :
    PE X (.Call (.Name x p) [] kws pos) (tMkVK C sp gV tk) := by
  refine ⟨fun pins s σ H Q I h => wpAny_Call_Name_kw (ld_glob I hg hm ?_ hdb)⟩
  refine PySem.W.callWith_KW0 (h₀ := X.base) I.ok.mod.kin T.kC hall (thn (hkw.run pos pins s σ H _ I h) fun ws s1 ⟨zs, H1, I1, rz, q1⟩ => ⟨I1.kIn, ?_⟩) hpl
  rw [hks]
  exact run_mkV (us := []) T iC tI F1 hr hb hx rfl (Nat.zero_le _) I1 (hrel rz) q1
end

/-! ### within an except suite: isinstance of the caught exception, with or without fields -/
def DictOk (H : Hp) (d : Option Addr) : Prop := ∀ dd, d = some dd → ∃ fs, H dd = some (.xd fs)
def rIsC (K : PySem.W.Frag) (D a : Addr) (d : Option Addr) : List V → Hp → VK → Prop := fun xs H Q => ∃ (c : V) (u : Value) (b : Bool), xs = [.ref a, c] ∧ ClsV c u ∧ DictOk H d ∧ ExcC K D ∧ PySem.W.kitOne K (.ref D) u = some b ∧ Q (.bl b) H
theorem call_isC {X : Cx} {a D : Addr} {oe : Obj} {d : Option Addr} {cls : Value} {pn : List (Addr × Obj)} (hz : Zc cls d oe) (hf : ∃ vs, oe.data = .fields vs) : CallR (X.suite a ((a, oe) :: pn)) (.builtin "isinstance") (fun xs H Q => cls = .ref D ∧ rIsC X.K D a d xs H Q) := by
  intro pins s σ H xs us Q I r h
  obtain ⟨rfl, c, u, b, rfl, k, hD, T, e, q⟩ := h
  obtain ⟨u1, u2, rfl, r1, r2⟩ := vals2 r
  have e2 := k.eq r2
  subst e2
  cases (show u1 = Value.ref a from r1)
  obtain ⟨hget, _⟩ := I.pin (a, oe) (List.mem_append.mpr (.inl List.mem_cons_self))
  obtain ⟨vs, hv⟩ := hf
  obtain ⟨h1, h2⟩ := hz
  have nc : PySem.W.notCls oe = true := by
    unfold PySem.W.notCls
    rw [hv] <;> rfl
  have J : ∃ od, PySem.W.InstAt s.heap a oe D od := by
    cases d with
    | none =>
      refine ⟨none, hget, h1, nc, ?_⟩
      rw [h2]
      trivial
    | some dd =>
      obtain ⟨fs, hfs⟩ := hD dd rfl
      obtain ⟨mA, ⟨od, es, ep, hod, _⟩, _⟩ := (show ObjOk X.prog X.w H s.heap dd (.xd fs) from I.hok dd _ hfs)
      refine ⟨some od, hget, h1, nc, ?_⟩
      rw [h2]
      exact hod
  obtain ⟨od, J⟩ := J
  exact PySem.W.kia_one (kit_exc T) I.kIn J e (fun z => nomatch z) fun tk => ⟨.bl b, H, I.tok tk, rfl, q⟩
end Mv

set_option Elab.async false
set_option linter.all false
set_option maxRecDepth 100000
set_option maxHeartbeats 4000000
namespace K00
open PySem PySem.Spec PyProof.Rows L2 Mv
/-! ### the text -/
def topS (i : Nat) : Stmt := PySem.Challenge.pw_roundpost_k00_error_classes.main.body.getD i (.Pass ⟨0, 0, 0, 0⟩)
abbrev sInit : Stmt := inClass (topS 6) 0
abbrev sFlags : Stmt := topS 34
abbrev sCaught : Stmt := topS 35
abbrev sBase : Stmt := topS 36
abbrev sLaw : Stmt := topS 37
theorem scI : FnScope ["self", "row", "word"] ["self", "row", "word"] (defScope sInit) := ⟨rfl, rfl, rfl, by decide +kernel, rfl, by decide +kernel, by decide +kernel⟩
theorem scF : FnScope ["_law_e", "_law_got"] ["_law_e"] (defScope sFlags) := ⟨rfl, rfl, rfl, by decide +kernel, rfl, by decide +kernel, by decide +kernel⟩
theorem scC : FnScope ["_law_number", "_law_text"] ["_law_number", "_law_text"] (defScope sCaught) := ⟨rfl, rfl, rfl, by decide +kernel, rfl, by decide +kernel, by decide +kernel⟩
theorem scB : FnScope ["_law_row", "_law_word", "_law_e"] ["_law_row", "_law_word"] (defScope sBase) := ⟨rfl, rfl, rfl, by decide +kernel, rfl, by decide +kernel, by decide +kernel⟩
theorem scL : FnScope ["_law_script", "_law_number", "_law_text", "_law_row", "_law_word", "_law_made", "_law_at", "_law_e", "_law_base", "_law_other", "_law_k"] ["_law_script"] (defScope sLaw) := ⟨rfl, rfl, rfl, by decide +kernel, rfl, by decide +kernel, by decide +kernel⟩
/-- the classes' names, in the law's sequence -/
def nms : List Str := ["BadWeb", "BadPlace", "BadRoad", "BadPieces", "BadRows", "BadRota", "BadRanks", "BadCount", "BadWeek", "BadMoment", "BadTrail", "BadWay", "BadOrders", "BadIndex", "BadTree", "BadTable", "BadSnow", "BadRing", "BadChain", "BadDay", "BadReports", "BadRotas", "BadScript", "BadName", "BadDemands", "BadJoin", "BadTurns", "NothingToUndo", "Full", "BadCommand", "TooMany"]
def nm (i : Nat) : Str := nms.getD i ""
/-- what the top has written of the classes: c i the i-th one, cP the one above -/
structure Txt (K : PySem.W.Frag) (mg : Str → Option Value) (c : Nat → Addr) (cP fI : Addr) : Prop where
  g : ∀ i, i < 31 → mg (nm i) = some (.ref (c i))
  gP : mg "PostError" = some (.ref cP)
  ex : ∀ i, i < 31 → i ≠ 4 → PySem.W.excIn K (c i) [.type "ValueError", .type "Exception", .type "BaseException", .type "object"] "ValueError.__new__" = true
  exP : PySem.W.excIn K cP [.type "ValueError", .type "Exception", .type "BaseException", .type "object"] "ValueError.__new__" = true
  kp : ∀ i, i < 31 → PySem.W.keepIn K (.ref (c i)) = true
  kpP : PySem.W.keepIn K (.ref cP) = true
  cl : ∀ i, i < 31 → ExcC K (c i)
  clP : ExcC K cP
  kit : ∀ i j, i < 31 → j < 31 → PySem.W.kitOne K (.ref (c i)) (.ref (c j)) = some (decide (i = j))
  kitP : ∀ i, i < 31 → PySem.W.kitOne K (.ref (c i)) (.ref cP) = some true
  kitV : ∀ i, i < 31 → PySem.W.kitOne K (.ref (c i)) (.type "ValueError") = some true
  kitQ : ∀ j, j < 31 → PySem.W.kitOne K (.ref cP) (.ref (c j)) = some false
  kitW : PySem.W.kitOne K (.ref cP) (.type "ValueError") = some true
  ty : ∀ i, i < 31 → PySem.W.typeIn K (.ref (c i)) = some (.type "type")
  exm : ∀ i j, i < 31 → j < 31 → PySem.W.exmOne K (.ref (c i)) (.ref (c j)) = some (decide (i = j))
  exmP : PySem.W.exmOne K (.ref (c 4)) (.ref cP) = some true
  oex : OexC K (c 4)
  iC : PySem.W.findIn K (.ref (c 4)) "__init__" = some (some (.ref fI))
  tI : PySem.W.typeIn K (.ref fI) = some (.type "function")
  nRow : PySem.W.findIn K (.ref (c 4)) "row" = some none
  nWord : PySem.W.findIn K (.ref (c 4)) "word" = some none
  bas : BaseC K cP
  zI : mg "isinstance" = none
  zV : mg "ValueError" = none
  zSum : mg "sum" = none
  zStr : mg "str" = none
  zInt : mg "int" = none
  zEn : mg "enumerate" = none
  zLen : mg "len" = none
  zRg : mg "range" = none
/-- a class as a value -/
theorem pe_cls {X : Cx} {x : Str} {C : Addr} {pos : Pos} (hg : Gl X x) (hm : X.mg x = some (.ref C)) (hd : (x == ("__debug__" : Str)) = false := by decide) : PE X (.Name x pos) (tC (.ref C)) := pe_glob hg hm (v := .ref C) rfl hd
section
variable {P : Program} {w : World} {K : PySem.W.Frag} {mg : Str → Option Value} {base : Heap} {c : Nat → Addr} {cP fI : Addr}
/-! ### flags -/
/-- an exception of class number i (31: the one above) -/
def cls (c : Nat → Addr) (cP : Addr) (i : Nat) : Addr := if i < 31 then c i else cP
def flags (i : Nat) : List V := (List.range 31).map fun j => .bl (decide (i = j))
def spFl (c : Nat → Addr) (cP : Addr) : Sp := fun vs H Q _ => ∃ (a : Addr) (i : Nat), vs = [.ref a] ∧ i ≤ 31 ∧ IsE H a (cls c cP i) ∧ ∀ H' p, Same H H' → H p = none → H' p = some (.lst (flags i)) → Q (.ref p) H'
theorem rd_is (T : Txt K mg c cP fI) {H : Hp} {a : Addr} {i j : Nat} {r : List (Option V)} {Q : VK} (hi : i ≤ 31) (hj : j < 31) (h : IsE H a (cls c cP i)) (q : Q (.bl (decide (i = j))) H) :
    tCB (rIsX K) (tCons (tVar 0) (tCons (tC (.ref (c j))) tNil)) (some (.ref a) :: r) H Q := by
  refine ⟨.ref a, rfl, a, cls c cP i, .ref (c j), .ref (c j), _, rfl, .own _, h, ?_, ?_, q⟩
  · unfold cls
    split
    · exact T.cl i (by assumption)
    · exact T.clP
  · unfold cls
    split
    · exact T.kit i j (by assumption) hj
    · rename_i z
      have e : i = 31 := by omega
      rw [T.kitQ j hj, decide_eq_false (by omega)]
theorem same_upd {H : Hp} {p : Addr} {o : HO} (h : H p = none) : Same H (upd H p o) := fun b x e => by
  rw [upd_ne (ne_of_none e h)]
  exact e
theorem ok_flags (T : Txt K mg c cP fI) {f : Addr} {fd : FuncData} {k : Nat} (F : Fun K "_law_flags" "_law_flags" sFlags f fd) : FnOk P w K mg base CX0 (k + 1) f fd ["_law_e"] (spFl c cP) := by
  refine F.ok scF (fun vs H Q E h => ?_) (fun cdv A outer s H vs Q E hr h => ?_)
  · obtain ⟨a, i, rfl, _⟩ := h
    rfl
  · obtain ⟨a, i, rfl, hi, hE, q⟩ := h
    refine ⟨_, (pss_cons (ps_set (i := 1) scF.nd rfl (.inl rfl) (pe_lst (pa_cons (pe_callB call_isX (by rfl) T.zI (by decide +kernel) (pa_cons (pv 0) (pa_cons (pe_cls rfl (T.g 0 (by decide))) pa_nil))) (pa_cons (pe_callB call_isX (by rfl) T.zI (by decide +kernel) (pa_cons (pv 0) (pa_cons (pe_cls rfl (T.g 1 (by decide))) pa_nil))) (pa_cons (pe_callB call_isX (by rfl) T.zI (by decide +kernel) (pa_cons (pv 0) (pa_cons (pe_cls rfl (T.g 2 (by decide))) pa_nil))) (pa_cons (pe_callB call_isX (by rfl) T.zI (by decide +kernel) (pa_cons (pv 0) (pa_cons (pe_cls rfl (T.g 3 (by decide))) pa_nil))) pa_nil))))))
      (pss_cons (ps_set (i := 1) scF.nd rfl (.inl rfl) (pe_op op_cat (pv 1) (pe_lst (pa_cons (pe_callB call_isX (by rfl) T.zI (by decide +kernel) (pa_cons (pv 0) (pa_cons (pe_cls rfl (T.g 4 (by decide))) pa_nil))) (pa_cons (pe_callB call_isX (by rfl) T.zI (by decide +kernel) (pa_cons (pv 0) (pa_cons (pe_cls rfl (T.g 5 (by decide))) pa_nil))) (pa_cons (pe_callB call_isX (by rfl) T.zI (by decide +kernel) (pa_cons (pv 0) (pa_cons (pe_cls rfl (T.g 6 (by decide))) pa_nil))) (pa_cons (pe_callB call_isX (by rfl) T.zI (by decide +kernel) (pa_cons (pv 0) (pa_cons (pe_cls rfl (T.g 7 (by decide))) pa_nil))) pa_nil)))))))
      (pss_cons (ps_set (i := 1) scF.nd rfl (.inl rfl) (pe_op op_cat (pv 1) (pe_lst (pa_cons (pe_callB call_isX (by rfl) T.zI (by decide +kernel) (pa_cons (pv 0) (pa_cons (pe_cls rfl (T.g 8 (by decide))) pa_nil))) (pa_cons (pe_callB call_isX (by rfl) T.zI (by decide +kernel) (pa_cons (pv 0) (pa_cons (pe_cls rfl (T.g 9 (by decide))) pa_nil))) (pa_cons (pe_callB call_isX (by rfl) T.zI (by decide +kernel) (pa_cons (pv 0) (pa_cons (pe_cls rfl (T.g 10 (by decide))) pa_nil))) (pa_cons (pe_callB call_isX (by rfl) T.zI (by decide +kernel) (pa_cons (pv 0) (pa_cons (pe_cls rfl (T.g 11 (by decide))) pa_nil))) pa_nil)))))))
      (pss_cons (ps_set (i := 1) scF.nd rfl (.inl rfl) (pe_op op_cat (pv 1) (pe_lst (pa_cons (pe_callB call_isX (by rfl) T.zI (by decide +kernel) (pa_cons (pv 0) (pa_cons (pe_cls rfl (T.g 12 (by decide))) pa_nil))) (pa_cons (pe_callB call_isX (by rfl) T.zI (by decide +kernel) (pa_cons (pv 0) (pa_cons (pe_cls rfl (T.g 13 (by decide))) pa_nil))) (pa_cons (pe_callB call_isX (by rfl) T.zI (by decide +kernel) (pa_cons (pv 0) (pa_cons (pe_cls rfl (T.g 14 (by decide))) pa_nil))) (pa_cons (pe_callB call_isX (by rfl) T.zI (by decide +kernel) (pa_cons (pv 0) (pa_cons (pe_cls rfl (T.g 15 (by decide))) pa_nil))) pa_nil)))))))
      (pss_cons (ps_set (i := 1) scF.nd rfl (.inl rfl) (pe_op op_cat (pv 1) (pe_lst (pa_cons (pe_callB call_isX (by rfl) T.zI (by decide +kernel) (pa_cons (pv 0) (pa_cons (pe_cls rfl (T.g 16 (by decide))) pa_nil))) (pa_cons (pe_callB call_isX (by rfl) T.zI (by decide +kernel) (pa_cons (pv 0) (pa_cons (pe_cls rfl (T.g 17 (by decide))) pa_nil))) (pa_cons (pe_callB call_isX (by rfl) T.zI (by decide +kernel) (pa_cons (pv 0) (pa_cons (pe_cls rfl (T.g 18 (by decide))) pa_nil))) (pa_cons (pe_callB call_isX (by rfl) T.zI (by decide +kernel) (pa_cons (pv 0) (pa_cons (pe_cls rfl (T.g 19 (by decide))) pa_nil))) pa_nil)))))))
      (pss_cons (ps_set (i := 1) scF.nd rfl (.inl rfl) (pe_op op_cat (pv 1) (pe_lst (pa_cons (pe_callB call_isX (by rfl) T.zI (by decide +kernel) (pa_cons (pv 0) (pa_cons (pe_cls rfl (T.g 20 (by decide))) pa_nil))) (pa_cons (pe_callB call_isX (by rfl) T.zI (by decide +kernel) (pa_cons (pv 0) (pa_cons (pe_cls rfl (T.g 21 (by decide))) pa_nil))) (pa_cons (pe_callB call_isX (by rfl) T.zI (by decide +kernel) (pa_cons (pv 0) (pa_cons (pe_cls rfl (T.g 22 (by decide))) pa_nil))) (pa_cons (pe_callB call_isX (by rfl) T.zI (by decide +kernel) (pa_cons (pv 0) (pa_cons (pe_cls rfl (T.g 23 (by decide))) pa_nil))) pa_nil)))))))
      (pss_cons (ps_set (i := 1) scF.nd rfl (.inl rfl) (pe_op op_cat (pv 1) (pe_lst (pa_cons (pe_callB call_isX (by rfl) T.zI (by decide +kernel) (pa_cons (pv 0) (pa_cons (pe_cls rfl (T.g 24 (by decide))) pa_nil))) (pa_cons (pe_callB call_isX (by rfl) T.zI (by decide +kernel) (pa_cons (pv 0) (pa_cons (pe_cls rfl (T.g 25 (by decide))) pa_nil))) (pa_cons (pe_callB call_isX (by rfl) T.zI (by decide +kernel) (pa_cons (pv 0) (pa_cons (pe_cls rfl (T.g 26 (by decide))) pa_nil))) (pa_cons (pe_callB call_isX (by rfl) T.zI (by decide +kernel) (pa_cons (pv 0) (pa_cons (pe_cls rfl (T.g 27 (by decide))) pa_nil))) pa_nil)))))))
      (pss_cons (ps_set (i := 1) scF.nd rfl (.inl rfl) (pe_op op_cat (pv 1) (pe_lst (pa_cons (pe_callB call_isX (by rfl) T.zI (by decide +kernel) (pa_cons (pv 0) (pa_cons (pe_cls rfl (T.g 28 (by decide))) pa_nil))) (pa_cons (pe_callB call_isX (by rfl) T.zI (by decide +kernel) (pa_cons (pv 0) (pa_cons (pe_cls rfl (T.g 29 (by decide))) pa_nil))) (pa_cons (pe_callB call_isX (by rfl) T.zI (by decide +kernel) (pa_cons (pv 0) (pa_cons (pe_cls rfl (T.g 30 (by decide))) pa_nil))) pa_nil))))))
      (pss_one (ps_ret (pv 1))))))))))), ?_⟩
    have sz : ∀ n : Nat, n ≤ 100 → n ≤ sizeLine := fun n h => Nat.le_trans h (by decide)
    refine (rd_is T hi (j := 0) (by decide) hE (rd_is T hi (j := 1) (by decide) hE (rd_is T hi (j := 2) (by decide) hE (rd_is T hi (j := 3) (by decide) hE ⟨sz _ (by show 4 ≤ 100; decide), fun p0 n0 => ?_⟩))))
    have s0 : Same H (upd H p0 (.lst [V.bl (decide (i = 0)), V.bl (decide (i = 1)), V.bl (decide (i = 2)), V.bl (decide (i = 3))])) := same_upd n0
    have e0 : upd H p0 (.lst [V.bl (decide (i = 0)), V.bl (decide (i = 1)), V.bl (decide (i = 2)), V.bl (decide (i = 3))]) p0 = some (.lst [V.bl (decide (i = 0)), V.bl (decide (i = 1)), V.bl (decide (i = 2)), V.bl (decide (i = 3))]) := upd_same
    have f0 : H p0 = none := n0
    generalize upd H p0 (.lst [V.bl (decide (i = 0)), V.bl (decide (i = 1)), V.bl (decide (i = 2)), V.bl (decide (i = 3))]) = H0 at s0 e0 ⊢
    have h0 := hE.same s0
    refine ⟨.ref p0, rfl, (rd_is T hi (j := 4) (by decide) h0 (rd_is T hi (j := 5) (by decide) h0 (rd_is T hi (j := 6) (by decide) h0 (rd_is T hi (j := 7) (by decide) h0 ⟨sz _ (by show 4 ≤ 100; decide), fun b m => ⟨p0, b, [V.bl (decide (i = 0)), V.bl (decide (i = 1)), V.bl (decide (i = 2)), V.bl (decide (i = 3))], [V.bl (decide (i = 4)), V.bl (decide (i = 5)), V.bl (decide (i = 6)), V.bl (decide (i = 7))], rfl, rfl, ?_, upd_same, sz _ (by show 8 ≤ 100; decide), fun p1 n1 => ?_⟩⟩))))⟩
    · rw [upd_ne (ne_of_none e0 m)]
      exact e0
    have t1 : Same H0 (upd (upd H0 b (.lst [V.bl (decide (i = 4)), V.bl (decide (i = 5)), V.bl (decide (i = 6)), V.bl (decide (i = 7))])) p1 (.lst [V.bl (decide (i = 0)), V.bl (decide (i = 1)), V.bl (decide (i = 2)), V.bl (decide (i = 3)), V.bl (decide (i = 4)), V.bl (decide (i = 5)), V.bl (decide (i = 6)), V.bl (decide (i = 7))])) := (same_upd m).trans (same_upd n1)
    have f1 : H0 p1 = none := Same.free (same_upd m) n1
    have e1 : (upd (upd H0 b (.lst [V.bl (decide (i = 4)), V.bl (decide (i = 5)), V.bl (decide (i = 6)), V.bl (decide (i = 7))])) p1 (.lst [V.bl (decide (i = 0)), V.bl (decide (i = 1)), V.bl (decide (i = 2)), V.bl (decide (i = 3)), V.bl (decide (i = 4)), V.bl (decide (i = 5)), V.bl (decide (i = 6)), V.bl (decide (i = 7))])) p1 = some (.lst [V.bl (decide (i = 0)), V.bl (decide (i = 1)), V.bl (decide (i = 2)), V.bl (decide (i = 3)), V.bl (decide (i = 4)), V.bl (decide (i = 5)), V.bl (decide (i = 6)), V.bl (decide (i = 7))]) := upd_same
    change tSeq _ _ _ _ (upd (upd H0 b (.lst [V.bl (decide (i = 4)), V.bl (decide (i = 5)), V.bl (decide (i = 6)), V.bl (decide (i = 7))])) p1 (.lst [V.bl (decide (i = 0)), V.bl (decide (i = 1)), V.bl (decide (i = 2)), V.bl (decide (i = 3)), V.bl (decide (i = 4)), V.bl (decide (i = 5)), V.bl (decide (i = 6)), V.bl (decide (i = 7))]))
    generalize (upd (upd H0 b (.lst [V.bl (decide (i = 4)), V.bl (decide (i = 5)), V.bl (decide (i = 6)), V.bl (decide (i = 7))])) p1 (.lst [V.bl (decide (i = 0)), V.bl (decide (i = 1)), V.bl (decide (i = 2)), V.bl (decide (i = 3)), V.bl (decide (i = 4)), V.bl (decide (i = 5)), V.bl (decide (i = 6)), V.bl (decide (i = 7))])) = H1 at t1 e1 ⊢
    have s1 := s0.trans t1
    have h1 := hE.same s1
    refine ⟨.ref p1, rfl, (rd_is T hi (j := 8) (by decide) h1 (rd_is T hi (j := 9) (by decide) h1 (rd_is T hi (j := 10) (by decide) h1 (rd_is T hi (j := 11) (by decide) h1 ⟨sz _ (by show 4 ≤ 100; decide), fun b m => ⟨p1, b, [V.bl (decide (i = 0)), V.bl (decide (i = 1)), V.bl (decide (i = 2)), V.bl (decide (i = 3)), V.bl (decide (i = 4)), V.bl (decide (i = 5)), V.bl (decide (i = 6)), V.bl (decide (i = 7))], [V.bl (decide (i = 8)), V.bl (decide (i = 9)), V.bl (decide (i = 10)), V.bl (decide (i = 11))], rfl, rfl, ?_, upd_same, sz _ (by show 12 ≤ 100; decide), fun p2 n2 => ?_⟩⟩))))⟩
    · rw [upd_ne (ne_of_none e1 m)]
      exact e1
    have t2 : Same H1 (upd (upd H1 b (.lst [V.bl (decide (i = 8)), V.bl (decide (i = 9)), V.bl (decide (i = 10)), V.bl (decide (i = 11))])) p2 (.lst [V.bl (decide (i = 0)), V.bl (decide (i = 1)), V.bl (decide (i = 2)), V.bl (decide (i = 3)), V.bl (decide (i = 4)), V.bl (decide (i = 5)), V.bl (decide (i = 6)), V.bl (decide (i = 7)), V.bl (decide (i = 8)), V.bl (decide (i = 9)), V.bl (decide (i = 10)), V.bl (decide (i = 11))])) := (same_upd m).trans (same_upd n2)
    have f2 : H1 p2 = none := Same.free (same_upd m) n2
    have e2 : (upd (upd H1 b (.lst [V.bl (decide (i = 8)), V.bl (decide (i = 9)), V.bl (decide (i = 10)), V.bl (decide (i = 11))])) p2 (.lst [V.bl (decide (i = 0)), V.bl (decide (i = 1)), V.bl (decide (i = 2)), V.bl (decide (i = 3)), V.bl (decide (i = 4)), V.bl (decide (i = 5)), V.bl (decide (i = 6)), V.bl (decide (i = 7)), V.bl (decide (i = 8)), V.bl (decide (i = 9)), V.bl (decide (i = 10)), V.bl (decide (i = 11))])) p2 = some (.lst [V.bl (decide (i = 0)), V.bl (decide (i = 1)), V.bl (decide (i = 2)), V.bl (decide (i = 3)), V.bl (decide (i = 4)), V.bl (decide (i = 5)), V.bl (decide (i = 6)), V.bl (decide (i = 7)), V.bl (decide (i = 8)), V.bl (decide (i = 9)), V.bl (decide (i = 10)), V.bl (decide (i = 11))]) := upd_same
    change tSeq _ _ _ _ (upd (upd H1 b (.lst [V.bl (decide (i = 8)), V.bl (decide (i = 9)), V.bl (decide (i = 10)), V.bl (decide (i = 11))])) p2 (.lst [V.bl (decide (i = 0)), V.bl (decide (i = 1)), V.bl (decide (i = 2)), V.bl (decide (i = 3)), V.bl (decide (i = 4)), V.bl (decide (i = 5)), V.bl (decide (i = 6)), V.bl (decide (i = 7)), V.bl (decide (i = 8)), V.bl (decide (i = 9)), V.bl (decide (i = 10)), V.bl (decide (i = 11))]))
    generalize (upd (upd H1 b (.lst [V.bl (decide (i = 8)), V.bl (decide (i = 9)), V.bl (decide (i = 10)), V.bl (decide (i = 11))])) p2 (.lst [V.bl (decide (i = 0)), V.bl (decide (i = 1)), V.bl (decide (i = 2)), V.bl (decide (i = 3)), V.bl (decide (i = 4)), V.bl (decide (i = 5)), V.bl (decide (i = 6)), V.bl (decide (i = 7)), V.bl (decide (i = 8)), V.bl (decide (i = 9)), V.bl (decide (i = 10)), V.bl (decide (i = 11))])) = H2 at t2 e2 ⊢
    have s2 := s1.trans t2
    have h2 := hE.same s2
    refine ⟨.ref p2, rfl, (rd_is T hi (j := 12) (by decide) h2 (rd_is T hi (j := 13) (by decide) h2 (rd_is T hi (j := 14) (by decide) h2 (rd_is T hi (j := 15) (by decide) h2 ⟨sz _ (by show 4 ≤ 100; decide), fun b m => ⟨p2, b, [V.bl (decide (i = 0)), V.bl (decide (i = 1)), V.bl (decide (i = 2)), V.bl (decide (i = 3)), V.bl (decide (i = 4)), V.bl (decide (i = 5)), V.bl (decide (i = 6)), V.bl (decide (i = 7)), V.bl (decide (i = 8)), V.bl (decide (i = 9)), V.bl (decide (i = 10)), V.bl (decide (i = 11))], [V.bl (decide (i = 12)), V.bl (decide (i = 13)), V.bl (decide (i = 14)), V.bl (decide (i = 15))], rfl, rfl, ?_, upd_same, sz _ (by show 16 ≤ 100; decide), fun p3 n3 => ?_⟩⟩))))⟩
    · rw [upd_ne (ne_of_none e2 m)]
      exact e2
    have t3 : Same H2 (upd (upd H2 b (.lst [V.bl (decide (i = 12)), V.bl (decide (i = 13)), V.bl (decide (i = 14)), V.bl (decide (i = 15))])) p3 (.lst [V.bl (decide (i = 0)), V.bl (decide (i = 1)), V.bl (decide (i = 2)), V.bl (decide (i = 3)), V.bl (decide (i = 4)), V.bl (decide (i = 5)), V.bl (decide (i = 6)), V.bl (decide (i = 7)), V.bl (decide (i = 8)), V.bl (decide (i = 9)), V.bl (decide (i = 10)), V.bl (decide (i = 11)), V.bl (decide (i = 12)), V.bl (decide (i = 13)), V.bl (decide (i = 14)), V.bl (decide (i = 15))])) := (same_upd m).trans (same_upd n3)
    have f3 : H2 p3 = none := Same.free (same_upd m) n3
    have e3 : (upd (upd H2 b (.lst [V.bl (decide (i = 12)), V.bl (decide (i = 13)), V.bl (decide (i = 14)), V.bl (decide (i = 15))])) p3 (.lst [V.bl (decide (i = 0)), V.bl (decide (i = 1)), V.bl (decide (i = 2)), V.bl (decide (i = 3)), V.bl (decide (i = 4)), V.bl (decide (i = 5)), V.bl (decide (i = 6)), V.bl (decide (i = 7)), V.bl (decide (i = 8)), V.bl (decide (i = 9)), V.bl (decide (i = 10)), V.bl (decide (i = 11)), V.bl (decide (i = 12)), V.bl (decide (i = 13)), V.bl (decide (i = 14)), V.bl (decide (i = 15))])) p3 = some (.lst [V.bl (decide (i = 0)), V.bl (decide (i = 1)), V.bl (decide (i = 2)), V.bl (decide (i = 3)), V.bl (decide (i = 4)), V.bl (decide (i = 5)), V.bl (decide (i = 6)), V.bl (decide (i = 7)), V.bl (decide (i = 8)), V.bl (decide (i = 9)), V.bl (decide (i = 10)), V.bl (decide (i = 11)), V.bl (decide (i = 12)), V.bl (decide (i = 13)), V.bl (decide (i = 14)), V.bl (decide (i = 15))]) := upd_same
    change tSeq _ _ _ _ (upd (upd H2 b (.lst [V.bl (decide (i = 12)), V.bl (decide (i = 13)), V.bl (decide (i = 14)), V.bl (decide (i = 15))])) p3 (.lst [V.bl (decide (i = 0)), V.bl (decide (i = 1)), V.bl (decide (i = 2)), V.bl (decide (i = 3)), V.bl (decide (i = 4)), V.bl (decide (i = 5)), V.bl (decide (i = 6)), V.bl (decide (i = 7)), V.bl (decide (i = 8)), V.bl (decide (i = 9)), V.bl (decide (i = 10)), V.bl (decide (i = 11)), V.bl (decide (i = 12)), V.bl (decide (i = 13)), V.bl (decide (i = 14)), V.bl (decide (i = 15))]))
    generalize (upd (upd H2 b (.lst [V.bl (decide (i = 12)), V.bl (decide (i = 13)), V.bl (decide (i = 14)), V.bl (decide (i = 15))])) p3 (.lst [V.bl (decide (i = 0)), V.bl (decide (i = 1)), V.bl (decide (i = 2)), V.bl (decide (i = 3)), V.bl (decide (i = 4)), V.bl (decide (i = 5)), V.bl (decide (i = 6)), V.bl (decide (i = 7)), V.bl (decide (i = 8)), V.bl (decide (i = 9)), V.bl (decide (i = 10)), V.bl (decide (i = 11)), V.bl (decide (i = 12)), V.bl (decide (i = 13)), V.bl (decide (i = 14)), V.bl (decide (i = 15))])) = H3 at t3 e3 ⊢
    have s3 := s2.trans t3
    have h3 := hE.same s3
    refine ⟨.ref p3, rfl, (rd_is T hi (j := 16) (by decide) h3 (rd_is T hi (j := 17) (by decide) h3 (rd_is T hi (j := 18) (by decide) h3 (rd_is T hi (j := 19) (by decide) h3 ⟨sz _ (by show 4 ≤ 100; decide), fun b m => ⟨p3, b, [V.bl (decide (i = 0)), V.bl (decide (i = 1)), V.bl (decide (i = 2)), V.bl (decide (i = 3)), V.bl (decide (i = 4)), V.bl (decide (i = 5)), V.bl (decide (i = 6)), V.bl (decide (i = 7)), V.bl (decide (i = 8)), V.bl (decide (i = 9)), V.bl (decide (i = 10)), V.bl (decide (i = 11)), V.bl (decide (i = 12)), V.bl (decide (i = 13)), V.bl (decide (i = 14)), V.bl (decide (i = 15))], [V.bl (decide (i = 16)), V.bl (decide (i = 17)), V.bl (decide (i = 18)), V.bl (decide (i = 19))], rfl, rfl, ?_, upd_same, sz _ (by show 20 ≤ 100; decide), fun p4 n4 => ?_⟩⟩))))⟩
    · rw [upd_ne (ne_of_none e3 m)]
      exact e3
    have t4 : Same H3 (upd (upd H3 b (.lst [V.bl (decide (i = 16)), V.bl (decide (i = 17)), V.bl (decide (i = 18)), V.bl (decide (i = 19))])) p4 (.lst [V.bl (decide (i = 0)), V.bl (decide (i = 1)), V.bl (decide (i = 2)), V.bl (decide (i = 3)), V.bl (decide (i = 4)), V.bl (decide (i = 5)), V.bl (decide (i = 6)), V.bl (decide (i = 7)), V.bl (decide (i = 8)), V.bl (decide (i = 9)), V.bl (decide (i = 10)), V.bl (decide (i = 11)), V.bl (decide (i = 12)), V.bl (decide (i = 13)), V.bl (decide (i = 14)), V.bl (decide (i = 15)), V.bl (decide (i = 16)), V.bl (decide (i = 17)), V.bl (decide (i = 18)), V.bl (decide (i = 19))])) := (same_upd m).trans (same_upd n4)
    have f4 : H3 p4 = none := Same.free (same_upd m) n4
    have e4 : (upd (upd H3 b (.lst [V.bl (decide (i = 16)), V.bl (decide (i = 17)), V.bl (decide (i = 18)), V.bl (decide (i = 19))])) p4 (.lst [V.bl (decide (i = 0)), V.bl (decide (i = 1)), V.bl (decide (i = 2)), V.bl (decide (i = 3)), V.bl (decide (i = 4)), V.bl (decide (i = 5)), V.bl (decide (i = 6)), V.bl (decide (i = 7)), V.bl (decide (i = 8)), V.bl (decide (i = 9)), V.bl (decide (i = 10)), V.bl (decide (i = 11)), V.bl (decide (i = 12)), V.bl (decide (i = 13)), V.bl (decide (i = 14)), V.bl (decide (i = 15)), V.bl (decide (i = 16)), V.bl (decide (i = 17)), V.bl (decide (i = 18)), V.bl (decide (i = 19))])) p4 = some (.lst [V.bl (decide (i = 0)), V.bl (decide (i = 1)), V.bl (decide (i = 2)), V.bl (decide (i = 3)), V.bl (decide (i = 4)), V.bl (decide (i = 5)), V.bl (decide (i = 6)), V.bl (decide (i = 7)), V.bl (decide (i = 8)), V.bl (decide (i = 9)), V.bl (decide (i = 10)), V.bl (decide (i = 11)), V.bl (decide (i = 12)), V.bl (decide (i = 13)), V.bl (decide (i = 14)), V.bl (decide (i = 15)), V.bl (decide (i = 16)), V.bl (decide (i = 17)), V.bl (decide (i = 18)), V.bl (decide (i = 19))]) := upd_same
    change tSeq _ _ _ _ (upd (upd H3 b (.lst [V.bl (decide (i = 16)), V.bl (decide (i = 17)), V.bl (decide (i = 18)), V.bl (decide (i = 19))])) p4 (.lst [V.bl (decide (i = 0)), V.bl (decide (i = 1)), V.bl (decide (i = 2)), V.bl (decide (i = 3)), V.bl (decide (i = 4)), V.bl (decide (i = 5)), V.bl (decide (i = 6)), V.bl (decide (i = 7)), V.bl (decide (i = 8)), V.bl (decide (i = 9)), V.bl (decide (i = 10)), V.bl (decide (i = 11)), V.bl (decide (i = 12)), V.bl (decide (i = 13)), V.bl (decide (i = 14)), V.bl (decide (i = 15)), V.bl (decide (i = 16)), V.bl (decide (i = 17)), V.bl (decide (i = 18)), V.bl (decide (i = 19))]))
    generalize (upd (upd H3 b (.lst [V.bl (decide (i = 16)), V.bl (decide (i = 17)), V.bl (decide (i = 18)), V.bl (decide (i = 19))])) p4 (.lst [V.bl (decide (i = 0)), V.bl (decide (i = 1)), V.bl (decide (i = 2)), V.bl (decide (i = 3)), V.bl (decide (i = 4)), V.bl (decide (i = 5)), V.bl (decide (i = 6)), V.bl (decide (i = 7)), V.bl (decide (i = 8)), V.bl (decide (i = 9)), V.bl (decide (i = 10)), V.bl (decide (i = 11)), V.bl (decide (i = 12)), V.bl (decide (i = 13)), V.bl (decide (i = 14)), V.bl (decide (i = 15)), V.bl (decide (i = 16)), V.bl (decide (i = 17)), V.bl (decide (i = 18)), V.bl (decide (i = 19))])) = H4 at t4 e4 ⊢
    have s4 := s3.trans t4
    have h4 := hE.same s4
    refine ⟨.ref p4, rfl, (rd_is T hi (j := 20) (by decide) h4 (rd_is T hi (j := 21) (by decide) h4 (rd_is T hi (j := 22) (by decide) h4 (rd_is T hi (j := 23) (by decide) h4 ⟨sz _ (by show 4 ≤ 100; decide), fun b m => ⟨p4, b, [V.bl (decide (i = 0)), V.bl (decide (i = 1)), V.bl (decide (i = 2)), V.bl (decide (i = 3)), V.bl (decide (i = 4)), V.bl (decide (i = 5)), V.bl (decide (i = 6)), V.bl (decide (i = 7)), V.bl (decide (i = 8)), V.bl (decide (i = 9)), V.bl (decide (i = 10)), V.bl (decide (i = 11)), V.bl (decide (i = 12)), V.bl (decide (i = 13)), V.bl (decide (i = 14)), V.bl (decide (i = 15)), V.bl (decide (i = 16)), V.bl (decide (i = 17)), V.bl (decide (i = 18)), V.bl (decide (i = 19))], [V.bl (decide (i = 20)), V.bl (decide (i = 21)), V.bl (decide (i = 22)), V.bl (decide (i = 23))], rfl, rfl, ?_, upd_same, sz _ (by show 24 ≤ 100; decide), fun p5 n5 => ?_⟩⟩))))⟩
    · rw [upd_ne (ne_of_none e4 m)]
      exact e4
    have t5 : Same H4 (upd (upd H4 b (.lst [V.bl (decide (i = 20)), V.bl (decide (i = 21)), V.bl (decide (i = 22)), V.bl (decide (i = 23))])) p5 (.lst [V.bl (decide (i = 0)), V.bl (decide (i = 1)), V.bl (decide (i = 2)), V.bl (decide (i = 3)), V.bl (decide (i = 4)), V.bl (decide (i = 5)), V.bl (decide (i = 6)), V.bl (decide (i = 7)), V.bl (decide (i = 8)), V.bl (decide (i = 9)), V.bl (decide (i = 10)), V.bl (decide (i = 11)), V.bl (decide (i = 12)), V.bl (decide (i = 13)), V.bl (decide (i = 14)), V.bl (decide (i = 15)), V.bl (decide (i = 16)), V.bl (decide (i = 17)), V.bl (decide (i = 18)), V.bl (decide (i = 19)), V.bl (decide (i = 20)), V.bl (decide (i = 21)), V.bl (decide (i = 22)), V.bl (decide (i = 23))])) := (same_upd m).trans (same_upd n5)
    have f5 : H4 p5 = none := Same.free (same_upd m) n5
    have e5 : (upd (upd H4 b (.lst [V.bl (decide (i = 20)), V.bl (decide (i = 21)), V.bl (decide (i = 22)), V.bl (decide (i = 23))])) p5 (.lst [V.bl (decide (i = 0)), V.bl (decide (i = 1)), V.bl (decide (i = 2)), V.bl (decide (i = 3)), V.bl (decide (i = 4)), V.bl (decide (i = 5)), V.bl (decide (i = 6)), V.bl (decide (i = 7)), V.bl (decide (i = 8)), V.bl (decide (i = 9)), V.bl (decide (i = 10)), V.bl (decide (i = 11)), V.bl (decide (i = 12)), V.bl (decide (i = 13)), V.bl (decide (i = 14)), V.bl (decide (i = 15)), V.bl (decide (i = 16)), V.bl (decide (i = 17)), V.bl (decide (i = 18)), V.bl (decide (i = 19)), V.bl (decide (i = 20)), V.bl (decide (i = 21)), V.bl (decide (i = 22)), V.bl (decide (i = 23))])) p5 = some (.lst [V.bl (decide (i = 0)), V.bl (decide (i = 1)), V.bl (decide (i = 2)), V.bl (decide (i = 3)), V.bl (decide (i = 4)), V.bl (decide (i = 5)), V.bl (decide (i = 6)), V.bl (decide (i = 7)), V.bl (decide (i = 8)), V.bl (decide (i = 9)), V.bl (decide (i = 10)), V.bl (decide (i = 11)), V.bl (decide (i = 12)), V.bl (decide (i = 13)), V.bl (decide (i = 14)), V.bl (decide (i = 15)), V.bl (decide (i = 16)), V.bl (decide (i = 17)), V.bl (decide (i = 18)), V.bl (decide (i = 19)), V.bl (decide (i = 20)), V.bl (decide (i = 21)), V.bl (decide (i = 22)), V.bl (decide (i = 23))]) := upd_same
    change tSeq _ _ _ _ (upd (upd H4 b (.lst [V.bl (decide (i = 20)), V.bl (decide (i = 21)), V.bl (decide (i = 22)), V.bl (decide (i = 23))])) p5 (.lst [V.bl (decide (i = 0)), V.bl (decide (i = 1)), V.bl (decide (i = 2)), V.bl (decide (i = 3)), V.bl (decide (i = 4)), V.bl (decide (i = 5)), V.bl (decide (i = 6)), V.bl (decide (i = 7)), V.bl (decide (i = 8)), V.bl (decide (i = 9)), V.bl (decide (i = 10)), V.bl (decide (i = 11)), V.bl (decide (i = 12)), V.bl (decide (i = 13)), V.bl (decide (i = 14)), V.bl (decide (i = 15)), V.bl (decide (i = 16)), V.bl (decide (i = 17)), V.bl (decide (i = 18)), V.bl (decide (i = 19)), V.bl (decide (i = 20)), V.bl (decide (i = 21)), V.bl (decide (i = 22)), V.bl (decide (i = 23))]))
    generalize (upd (upd H4 b (.lst [V.bl (decide (i = 20)), V.bl (decide (i = 21)), V.bl (decide (i = 22)), V.bl (decide (i = 23))])) p5 (.lst [V.bl (decide (i = 0)), V.bl (decide (i = 1)), V.bl (decide (i = 2)), V.bl (decide (i = 3)), V.bl (decide (i = 4)), V.bl (decide (i = 5)), V.bl (decide (i = 6)), V.bl (decide (i = 7)), V.bl (decide (i = 8)), V.bl (decide (i = 9)), V.bl (decide (i = 10)), V.bl (decide (i = 11)), V.bl (decide (i = 12)), V.bl (decide (i = 13)), V.bl (decide (i = 14)), V.bl (decide (i = 15)), V.bl (decide (i = 16)), V.bl (decide (i = 17)), V.bl (decide (i = 18)), V.bl (decide (i = 19)), V.bl (decide (i = 20)), V.bl (decide (i = 21)), V.bl (decide (i = 22)), V.bl (decide (i = 23))])) = H5 at t5 e5 ⊢
    have s5 := s4.trans t5
    have h5 := hE.same s5
    refine ⟨.ref p5, rfl, (rd_is T hi (j := 24) (by decide) h5 (rd_is T hi (j := 25) (by decide) h5 (rd_is T hi (j := 26) (by decide) h5 (rd_is T hi (j := 27) (by decide) h5 ⟨sz _ (by show 4 ≤ 100; decide), fun b m => ⟨p5, b, [V.bl (decide (i = 0)), V.bl (decide (i = 1)), V.bl (decide (i = 2)), V.bl (decide (i = 3)), V.bl (decide (i = 4)), V.bl (decide (i = 5)), V.bl (decide (i = 6)), V.bl (decide (i = 7)), V.bl (decide (i = 8)), V.bl (decide (i = 9)), V.bl (decide (i = 10)), V.bl (decide (i = 11)), V.bl (decide (i = 12)), V.bl (decide (i = 13)), V.bl (decide (i = 14)), V.bl (decide (i = 15)), V.bl (decide (i = 16)), V.bl (decide (i = 17)), V.bl (decide (i = 18)), V.bl (decide (i = 19)), V.bl (decide (i = 20)), V.bl (decide (i = 21)), V.bl (decide (i = 22)), V.bl (decide (i = 23))], [V.bl (decide (i = 24)), V.bl (decide (i = 25)), V.bl (decide (i = 26)), V.bl (decide (i = 27))], rfl, rfl, ?_, upd_same, sz _ (by show 28 ≤ 100; decide), fun p6 n6 => ?_⟩⟩))))⟩
    · rw [upd_ne (ne_of_none e5 m)]
      exact e5
    have t6 : Same H5 (upd (upd H5 b (.lst [V.bl (decide (i = 24)), V.bl (decide (i = 25)), V.bl (decide (i = 26)), V.bl (decide (i = 27))])) p6 (.lst [V.bl (decide (i = 0)), V.bl (decide (i = 1)), V.bl (decide (i = 2)), V.bl (decide (i = 3)), V.bl (decide (i = 4)), V.bl (decide (i = 5)), V.bl (decide (i = 6)), V.bl (decide (i = 7)), V.bl (decide (i = 8)), V.bl (decide (i = 9)), V.bl (decide (i = 10)), V.bl (decide (i = 11)), V.bl (decide (i = 12)), V.bl (decide (i = 13)), V.bl (decide (i = 14)), V.bl (decide (i = 15)), V.bl (decide (i = 16)), V.bl (decide (i = 17)), V.bl (decide (i = 18)), V.bl (decide (i = 19)), V.bl (decide (i = 20)), V.bl (decide (i = 21)), V.bl (decide (i = 22)), V.bl (decide (i = 23)), V.bl (decide (i = 24)), V.bl (decide (i = 25)), V.bl (decide (i = 26)), V.bl (decide (i = 27))])) := (same_upd m).trans (same_upd n6)
    have f6 : H5 p6 = none := Same.free (same_upd m) n6
    have e6 : (upd (upd H5 b (.lst [V.bl (decide (i = 24)), V.bl (decide (i = 25)), V.bl (decide (i = 26)), V.bl (decide (i = 27))])) p6 (.lst [V.bl (decide (i = 0)), V.bl (decide (i = 1)), V.bl (decide (i = 2)), V.bl (decide (i = 3)), V.bl (decide (i = 4)), V.bl (decide (i = 5)), V.bl (decide (i = 6)), V.bl (decide (i = 7)), V.bl (decide (i = 8)), V.bl (decide (i = 9)), V.bl (decide (i = 10)), V.bl (decide (i = 11)), V.bl (decide (i = 12)), V.bl (decide (i = 13)), V.bl (decide (i = 14)), V.bl (decide (i = 15)), V.bl (decide (i = 16)), V.bl (decide (i = 17)), V.bl (decide (i = 18)), V.bl (decide (i = 19)), V.bl (decide (i = 20)), V.bl (decide (i = 21)), V.bl (decide (i = 22)), V.bl (decide (i = 23)), V.bl (decide (i = 24)), V.bl (decide (i = 25)), V.bl (decide (i = 26)), V.bl (decide (i = 27))])) p6 = some (.lst [V.bl (decide (i = 0)), V.bl (decide (i = 1)), V.bl (decide (i = 2)), V.bl (decide (i = 3)), V.bl (decide (i = 4)), V.bl (decide (i = 5)), V.bl (decide (i = 6)), V.bl (decide (i = 7)), V.bl (decide (i = 8)), V.bl (decide (i = 9)), V.bl (decide (i = 10)), V.bl (decide (i = 11)), V.bl (decide (i = 12)), V.bl (decide (i = 13)), V.bl (decide (i = 14)), V.bl (decide (i = 15)), V.bl (decide (i = 16)), V.bl (decide (i = 17)), V.bl (decide (i = 18)), V.bl (decide (i = 19)), V.bl (decide (i = 20)), V.bl (decide (i = 21)), V.bl (decide (i = 22)), V.bl (decide (i = 23)), V.bl (decide (i = 24)), V.bl (decide (i = 25)), V.bl (decide (i = 26)), V.bl (decide (i = 27))]) := upd_same
    change tSeq _ _ _ _ (upd (upd H5 b (.lst [V.bl (decide (i = 24)), V.bl (decide (i = 25)), V.bl (decide (i = 26)), V.bl (decide (i = 27))])) p6 (.lst [V.bl (decide (i = 0)), V.bl (decide (i = 1)), V.bl (decide (i = 2)), V.bl (decide (i = 3)), V.bl (decide (i = 4)), V.bl (decide (i = 5)), V.bl (decide (i = 6)), V.bl (decide (i = 7)), V.bl (decide (i = 8)), V.bl (decide (i = 9)), V.bl (decide (i = 10)), V.bl (decide (i = 11)), V.bl (decide (i = 12)), V.bl (decide (i = 13)), V.bl (decide (i = 14)), V.bl (decide (i = 15)), V.bl (decide (i = 16)), V.bl (decide (i = 17)), V.bl (decide (i = 18)), V.bl (decide (i = 19)), V.bl (decide (i = 20)), V.bl (decide (i = 21)), V.bl (decide (i = 22)), V.bl (decide (i = 23)), V.bl (decide (i = 24)), V.bl (decide (i = 25)), V.bl (decide (i = 26)), V.bl (decide (i = 27))]))
    generalize (upd (upd H5 b (.lst [V.bl (decide (i = 24)), V.bl (decide (i = 25)), V.bl (decide (i = 26)), V.bl (decide (i = 27))])) p6 (.lst [V.bl (decide (i = 0)), V.bl (decide (i = 1)), V.bl (decide (i = 2)), V.bl (decide (i = 3)), V.bl (decide (i = 4)), V.bl (decide (i = 5)), V.bl (decide (i = 6)), V.bl (decide (i = 7)), V.bl (decide (i = 8)), V.bl (decide (i = 9)), V.bl (decide (i = 10)), V.bl (decide (i = 11)), V.bl (decide (i = 12)), V.bl (decide (i = 13)), V.bl (decide (i = 14)), V.bl (decide (i = 15)), V.bl (decide (i = 16)), V.bl (decide (i = 17)), V.bl (decide (i = 18)), V.bl (decide (i = 19)), V.bl (decide (i = 20)), V.bl (decide (i = 21)), V.bl (decide (i = 22)), V.bl (decide (i = 23)), V.bl (decide (i = 24)), V.bl (decide (i = 25)), V.bl (decide (i = 26)), V.bl (decide (i = 27))])) = H6 at t6 e6 ⊢
    have s6 := s5.trans t6
    have h6 := hE.same s6
    refine ⟨.ref p6, rfl, (rd_is T hi (j := 28) (by decide) h6 (rd_is T hi (j := 29) (by decide) h6 (rd_is T hi (j := 30) (by decide) h6 ⟨sz _ (by show 3 ≤ 100; decide), fun b m => ⟨p6, b, [V.bl (decide (i = 0)), V.bl (decide (i = 1)), V.bl (decide (i = 2)), V.bl (decide (i = 3)), V.bl (decide (i = 4)), V.bl (decide (i = 5)), V.bl (decide (i = 6)), V.bl (decide (i = 7)), V.bl (decide (i = 8)), V.bl (decide (i = 9)), V.bl (decide (i = 10)), V.bl (decide (i = 11)), V.bl (decide (i = 12)), V.bl (decide (i = 13)), V.bl (decide (i = 14)), V.bl (decide (i = 15)), V.bl (decide (i = 16)), V.bl (decide (i = 17)), V.bl (decide (i = 18)), V.bl (decide (i = 19)), V.bl (decide (i = 20)), V.bl (decide (i = 21)), V.bl (decide (i = 22)), V.bl (decide (i = 23)), V.bl (decide (i = 24)), V.bl (decide (i = 25)), V.bl (decide (i = 26)), V.bl (decide (i = 27))], [V.bl (decide (i = 28)), V.bl (decide (i = 29)), V.bl (decide (i = 30))], rfl, rfl, ?_, upd_same, sz _ (by show 31 ≤ 100; decide), fun p7 n7 => ?_⟩⟩)))⟩
    · rw [upd_ne (ne_of_none e6 m)]
      exact e6
    have t7 : Same H6 (upd (upd H6 b (.lst [V.bl (decide (i = 28)), V.bl (decide (i = 29)), V.bl (decide (i = 30))])) p7 (.lst [V.bl (decide (i = 0)), V.bl (decide (i = 1)), V.bl (decide (i = 2)), V.bl (decide (i = 3)), V.bl (decide (i = 4)), V.bl (decide (i = 5)), V.bl (decide (i = 6)), V.bl (decide (i = 7)), V.bl (decide (i = 8)), V.bl (decide (i = 9)), V.bl (decide (i = 10)), V.bl (decide (i = 11)), V.bl (decide (i = 12)), V.bl (decide (i = 13)), V.bl (decide (i = 14)), V.bl (decide (i = 15)), V.bl (decide (i = 16)), V.bl (decide (i = 17)), V.bl (decide (i = 18)), V.bl (decide (i = 19)), V.bl (decide (i = 20)), V.bl (decide (i = 21)), V.bl (decide (i = 22)), V.bl (decide (i = 23)), V.bl (decide (i = 24)), V.bl (decide (i = 25)), V.bl (decide (i = 26)), V.bl (decide (i = 27)), V.bl (decide (i = 28)), V.bl (decide (i = 29)), V.bl (decide (i = 30))])) := (same_upd m).trans (same_upd n7)
    have f7 : H6 p7 = none := Same.free (same_upd m) n7
    have e7 : (upd (upd H6 b (.lst [V.bl (decide (i = 28)), V.bl (decide (i = 29)), V.bl (decide (i = 30))])) p7 (.lst [V.bl (decide (i = 0)), V.bl (decide (i = 1)), V.bl (decide (i = 2)), V.bl (decide (i = 3)), V.bl (decide (i = 4)), V.bl (decide (i = 5)), V.bl (decide (i = 6)), V.bl (decide (i = 7)), V.bl (decide (i = 8)), V.bl (decide (i = 9)), V.bl (decide (i = 10)), V.bl (decide (i = 11)), V.bl (decide (i = 12)), V.bl (decide (i = 13)), V.bl (decide (i = 14)), V.bl (decide (i = 15)), V.bl (decide (i = 16)), V.bl (decide (i = 17)), V.bl (decide (i = 18)), V.bl (decide (i = 19)), V.bl (decide (i = 20)), V.bl (decide (i = 21)), V.bl (decide (i = 22)), V.bl (decide (i = 23)), V.bl (decide (i = 24)), V.bl (decide (i = 25)), V.bl (decide (i = 26)), V.bl (decide (i = 27)), V.bl (decide (i = 28)), V.bl (decide (i = 29)), V.bl (decide (i = 30))])) p7 = some (.lst [V.bl (decide (i = 0)), V.bl (decide (i = 1)), V.bl (decide (i = 2)), V.bl (decide (i = 3)), V.bl (decide (i = 4)), V.bl (decide (i = 5)), V.bl (decide (i = 6)), V.bl (decide (i = 7)), V.bl (decide (i = 8)), V.bl (decide (i = 9)), V.bl (decide (i = 10)), V.bl (decide (i = 11)), V.bl (decide (i = 12)), V.bl (decide (i = 13)), V.bl (decide (i = 14)), V.bl (decide (i = 15)), V.bl (decide (i = 16)), V.bl (decide (i = 17)), V.bl (decide (i = 18)), V.bl (decide (i = 19)), V.bl (decide (i = 20)), V.bl (decide (i = 21)), V.bl (decide (i = 22)), V.bl (decide (i = 23)), V.bl (decide (i = 24)), V.bl (decide (i = 25)), V.bl (decide (i = 26)), V.bl (decide (i = 27)), V.bl (decide (i = 28)), V.bl (decide (i = 29)), V.bl (decide (i = 30))]) := upd_same
    change tSeq _ _ _ _ (upd (upd H6 b (.lst [V.bl (decide (i = 28)), V.bl (decide (i = 29)), V.bl (decide (i = 30))])) p7 (.lst [V.bl (decide (i = 0)), V.bl (decide (i = 1)), V.bl (decide (i = 2)), V.bl (decide (i = 3)), V.bl (decide (i = 4)), V.bl (decide (i = 5)), V.bl (decide (i = 6)), V.bl (decide (i = 7)), V.bl (decide (i = 8)), V.bl (decide (i = 9)), V.bl (decide (i = 10)), V.bl (decide (i = 11)), V.bl (decide (i = 12)), V.bl (decide (i = 13)), V.bl (decide (i = 14)), V.bl (decide (i = 15)), V.bl (decide (i = 16)), V.bl (decide (i = 17)), V.bl (decide (i = 18)), V.bl (decide (i = 19)), V.bl (decide (i = 20)), V.bl (decide (i = 21)), V.bl (decide (i = 22)), V.bl (decide (i = 23)), V.bl (decide (i = 24)), V.bl (decide (i = 25)), V.bl (decide (i = 26)), V.bl (decide (i = 27)), V.bl (decide (i = 28)), V.bl (decide (i = 29)), V.bl (decide (i = 30))]))
    generalize (upd (upd H6 b (.lst [V.bl (decide (i = 28)), V.bl (decide (i = 29)), V.bl (decide (i = 30))])) p7 (.lst [V.bl (decide (i = 0)), V.bl (decide (i = 1)), V.bl (decide (i = 2)), V.bl (decide (i = 3)), V.bl (decide (i = 4)), V.bl (decide (i = 5)), V.bl (decide (i = 6)), V.bl (decide (i = 7)), V.bl (decide (i = 8)), V.bl (decide (i = 9)), V.bl (decide (i = 10)), V.bl (decide (i = 11)), V.bl (decide (i = 12)), V.bl (decide (i = 13)), V.bl (decide (i = 14)), V.bl (decide (i = 15)), V.bl (decide (i = 16)), V.bl (decide (i = 17)), V.bl (decide (i = 18)), V.bl (decide (i = 19)), V.bl (decide (i = 20)), V.bl (decide (i = 21)), V.bl (decide (i = 22)), V.bl (decide (i = 23)), V.bl (decide (i = 24)), V.bl (decide (i = 25)), V.bl (decide (i = 26)), V.bl (decide (i = 27)), V.bl (decide (i = 28)), V.bl (decide (i = 29)), V.bl (decide (i = 30))])) = H7 at t7 e7 ⊢
    have s7 := s6.trans t7
    have h7 := hE.same s7
    exact ⟨.ref p7, rfl, q H7 p7 s7 (Same.free s6 f7) e7⟩
/-! ### BadRows.__init__ -/
def fld (r w : Int) : List (Str × V) := [("word", .int w), ("row", .int r)]
def made (H : Hp) (a d C : Addr) (r w : Int) : Hp := upd (upd (upd H d (exd d [("row", .int r)])) a (exo a C (some d))) d (exd d (fld r w))
def spInit (C : Addr) : Sp := fun vs H Q _ => ∃ (a : Addr) (r w : Int), vs = [.ref a, .int r, .int w] ∧ (0 ≤ r ∧ r < 1000) ∧ (0 ≤ w ∧ w < 1000) ∧ H a = some (exo a C none) ∧ ∀ d, H d = none → d ≠ a → Q .non (made H a d C r w)
theorem str_app (a b : Str) : (a ++ b).length = a.length + b.length := Array.size_append
theorem log_small {r : Int} (h : 0 ≤ r ∧ r < 1000) : r.natAbs.log2 < 1920 := by
  have e : r.natAbs < 2 ^ 10 := by omega
  by_cases z : r.natAbs = 0
  · rw [z]
    decide
  · have := (Nat.log2_lt z).mpr e
    omega
theorem text_small {r : Int} (h : 0 ≤ r ∧ r < 1000) : (Str.ofString (toString r)).length ≤ 11 := by
  have e := int_text_length_le (a := r) (k := 10) (by decide) (by
    have e : r.natAbs < 2 ^ 10 := by omega
    by_cases z : r.natAbs = 0
    · rw [z]
      decide
    · exact (Nat.log2_lt z).mpr e)
  rw [PySem.ofString_length]
  exact e
theorem ok_init (T : Txt K mg c cP fI) {fd : FuncData} (F : Fun K "__init__" "BadRows.__init__" sInit fI fd) : FnOk P w K mg base CX0 1 fI fd ["self", "row", "word"] (spInit (c 4)) := by
  refine F.ok scI (fun vs H Q E h => ?_) (fun cdv A outer s H vs Q E hr h => ?_)
  · obtain ⟨a, r, z, rfl, _⟩ := h
    rfl
  · obtain ⟨a, r, z, rfl, hr1, hz1, ha, q⟩ := h
    refine ⟨_, pss_cons (ps_expr (pe_clinit T.bas rfl T.gP (pa_cons (pv 0) (pa_cons (pe_joined (.cons pe_str (.cons (pe_fmt (pv 1)) (.cons pe_str (.cons (pe_fmt (pv 2)) .nil))))) pa_nil))))
      (pss_cons (ps_ost (pv 0) (pv 1)) (pss_one (ps_ost (pv 0) (pv 2)))), ?_⟩
    have l1 := text_small hr1
    have l2 := text_small hz1
    refine ⟨.ref a, rfl, ⟨_, rfl, ?_, .int r, rfl, .inr ⟨r, rfl, log_small hr1, ⟨_, rfl, ?_, _, rfl, ?_, .int z, rfl, .inr ⟨z, rfl, log_small hz1, ⟨_, rfl, ?_, ?_⟩⟩⟩⟩⟩⟩
    · rw [str_app]
      exact Nat.le_trans (m := 100) (by show 0 + 13 ≤ 100; decide) (by decide)
    · rw [str_app, str_app]
      exact Nat.le_trans (m := 100) (by show 0 + 13 + (Str.ofString (toString r)).length ≤ 100; omega) (by decide)
    · rw [str_app, str_app, str_app]
      exact Nat.le_trans (m := 100) (by show 0 + 13 + (Str.ofString (toString r)).length + 7 ≤ 100; omega) (by decide)
    · rw [str_app, str_app, str_app, str_app]
      exact Nat.le_trans (m := 100) (by show 0 + 13 + (Str.ofString (toString r)).length + 7 + (Str.ofString (toString z)).length ≤ 100; omega) (by decide)
    · refine ⟨a, c 4, [_], rfl, by show 1 ≤ 1000; decide, T.oex, ha, ?_⟩
      refine ⟨.int r, rfl, .ref a, rfl, a, c 4, rfl, T.oex, T.nRow, .inl ⟨ha, fun d nd ne => ?_⟩⟩
      refine ⟨.int z, rfl, .ref a, rfl, a, c 4, rfl, T.oex, T.nWord, .inr ⟨d, [("row", .int r)], upd_same, ?_, by show 1 ≤ 900; decide, q d nd ne⟩⟩
      rw [upd_ne ne, upd_same]
/-! ### which class catches -/
def nums : List Nat := [0, 1, 3, 14, 28, 30]
def spCa : Sp := fun vs H Q _ => ∃ (n : Nat) (t : Str), vs = [.int n, .str t] ∧ n ∈ nums ∧ ∀ H', Same H H' → Q (.bl true) H'
/-- raise C(text) -/
def tR (C : Addr) (W : WX) : TS := fun _ σ H => tVar 1 σ H fun _ H1 => W (.ref C) none σ H1
def tT (n : Int) : TT := tTest (tOp rEq (tVar 0) (tC (.int n)))
def tRb (n : Int) : TS := tRet (tOp rEq (tVar 0) (tC (.int n)))
def t_ca (c : Nat → Addr) (W : WX) : TS :=
  tSeq (tIfS (tT 0) (tR (c 0) W) tNext) (tSeq (tIfS (tT 1) (tR (c 1) W) tNext) (tSeq (tIfS (tT 3) (tR (c 3) W) tNext) (tSeq (tIfS (tT 14) (tR (c 14) W) tNext) (tSeq (tIfS (tT 28) (tR (c 28) W) tNext) (tR (c 30) W)))))
theorem ps_r {X : Cx} (T : Txt X.K X.mg c cP fI) {W : WX} {x : Str} {i : Nat} {e : Expr} {p pos pos2 : Pos} (hi : i < 31) (h4 : i ≠ 4) (hx : x = nm i) (hc : X.calm = true) (tk : Takes X W) (hg : Gl X x) (he : PE X e (tVar 1))
    (hs : starEach [e] X.env = (false, eval e X.env) :: starEach [] X.env := by rfl) (hdb : (x == ("__debug__" : Str)) = false := by decide) : PS X (.Raise (some (.Call (.Name x p) [e] [] pos)) none pos2) (tR (c i) W) := by
  subst hx
  exact ps_raise hc tk (SkE.pmk_own1 F.excBase_ValueError (T.ex i hi h4) (T.g i hi) (T.kp i hi) (raises_own (T.cl i hi).hs (T.ty i hi)) hg he hs hdb)
theorem ok_caught (T : Txt K mg c cP fI) {f : Addr} {fd : FuncData} {k : Nat} (F : Fun K "_law_is_caught" "_law_is_caught" sCaught f fd) : FnOk P w K mg base CX0 (k + 1) f fd ["_law_number", "_law_text"] spCa := by
  refine F.ok scC (fun vs H Q E h => ?_) (fun cdv A outer s H vs Q E hr h => ?_)
  · obtain ⟨n, t, rfl, _⟩ := h
    rfl
  · obtain ⟨n, t_, rfl, hn, q⟩ := h
    refine ⟨_, pss_one (ps_try_many (tb := t_ca c) (Wout := fun _ _ _ _ => False) (l := [(.ref (c 0), fun _ _ _ => tRb 0), (.ref (c 1), fun _ _ _ => tRb 1), (.ref (c 3), fun _ _ _ => tRb 3), (.ref (c 14), fun _ _ _ => tRb 14), (.ref (c 28), fun _ _ _ => tRb 28), (.ref (c 30), fun _ _ _ => tRet (tOp (rIn K true) (tVar 0) (tLst (tCons (tC (.int 0)) (tCons (tC (.int 1)) (tCons (tC (.int 3)) (tCons (tC (.int 14)) (tCons (tC (.int 28)) tNil))))))))]) rfl rfl takes0
      (fun W pn xe tk _ => pss_cons (ps_if (pt_cmpR op_eq (pv 0) pe_int (nomark _)) (pss_one (ps_r T (by decide) (by decide) rfl rfl tk rfl (pv 1))) pss_nil)
        (pss_cons (ps_if (pt_cmpR op_eq (pv 0) pe_int (nomark _)) (pss_one (ps_r T (by decide) (by decide) rfl rfl tk rfl (pv 1))) pss_nil)
        (pss_cons (ps_if (pt_cmpR op_eq (pv 0) pe_int (nomark _)) (pss_one (ps_r T (by decide) (by decide) rfl rfl tk rfl (pv 1))) pss_nil)
        (pss_cons (ps_if (pt_cmpR op_eq (pv 0) pe_int (nomark _)) (pss_one (ps_r T (by decide) (by decide) rfl rfl tk rfl (pv 1))) pss_nil)
        (pss_cons (ps_if (pt_cmpR op_eq (pv 0) pe_int (nomark _)) (pss_one (ps_r T (by decide) (by decide) rfl rfl tk rfl (pv 1))) pss_nil)
        (pss_one (ps_r T (by decide) (by decide) rfl rfl tk rfl (pv 1))))))))
      (.cons ⟨rfl, by decide, .inl (T.g 0 (by decide))⟩ (fun a oe cls d pn hz hf => pss_one (ps_ret (pe_cmpR op_eq (pv 0) pe_int (nomark _))))
      (.cons ⟨rfl, by decide, .inl (T.g 1 (by decide))⟩ (fun a oe cls d pn hz hf => pss_one (ps_ret (pe_cmpR op_eq (pv 0) pe_int (nomark _))))
      (.cons ⟨rfl, by decide, .inl (T.g 3 (by decide))⟩ (fun a oe cls d pn hz hf => pss_one (ps_ret (pe_cmpR op_eq (pv 0) pe_int (nomark _))))
      (.cons ⟨rfl, by decide, .inl (T.g 14 (by decide))⟩ (fun a oe cls d pn hz hf => pss_one (ps_ret (pe_cmpR op_eq (pv 0) pe_int (nomark _))))
      (.cons ⟨rfl, by decide, .inl (T.g 28 (by decide))⟩ (fun a oe cls d pn hz hf => pss_one (ps_ret (pe_cmpR op_eq (pv 0) pe_int (nomark _))))
      (.cons ⟨rfl, by decide, .inl (T.g 30 (by decide))⟩ (fun a oe cls d pn hz hf => pss_one (ps_ret (pe_cmpR op_notIn_seq (pv 0) (pe_lst (pa_cons pe_int (pa_cons pe_int (pa_cons pe_int (pa_cons pe_int (pa_cons pe_int pa_nil)))))) (by rfl)))) .nil))))))), ?_⟩
    have no : ∀ i j, i < 31 → j < 31 → i ≠ j → ∀ {A : Prop} {B : Prop}, B → ∃ b, PySem.W.exmOne K (.ref (c i)) (.ref (c j)) = some b ∧ (b = true → A) ∧ (b = false → B) := fun i j hi hj ne A B h =>
      ⟨false, by rw [T.exm i j hi hj, decide_eq_false ne], fun z => Bool.noConfusion z, fun _ => h⟩
    have yes : ∀ i, i < 31 → ∀ {A : Prop} {B : Prop}, A → ∃ b, PySem.W.exmOne K (.ref (c i)) (.ref (c i)) = some b ∧ (b = true → A) ∧ (b = false → B) := fun i hi A B h =>
      ⟨true, by rw [T.exm i i hi hi, decide_eq_true rfl], fun _ => h, fun z => Bool.noConfusion z⟩
    have tt : ∀ (m : Int) (D : Ends) (t u : TS) (H : Hp), (if decide (V.int (n : Int) = V.int m) = true then t D [some (.int n), some (.str t_)] H else u D [some (.int n), some (.str t_)] H) → tIfS (tT m) t u D [some (.int n), some (.str t_)] H := fun m D t u H h =>
      ⟨.int n, rfl, rfl, _, rfl, h⟩
    have it : ∀ {A B : Prop} {x y : V}, x = y → A → if decide (x = y) = true then A else B := fun e h => by
      rw [if_pos (decide_eq_true e)]
      exact h
    have ie : ∀ {A B : Prop} {x y : V}, x ≠ y → B → if decide (x = y) = true then A else B := fun e h => by
      rw [if_neg (fun z => e (of_decide_eq_true z))]
      exact h
    simp only [nums, List.mem_cons, List.not_mem_nil, or_false] at hn
    rcases hn with rfl | rfl | rfl | rfl | rfl | rfl
    · refine tt 0 _ _ _ _ (it rfl ⟨.str t_, rfl, yes 0 (by decide) fun a _ => ?_⟩)
      exact ⟨_, rfl, rfl, q _ (Same.refl _)⟩
    · refine tt 0 _ _ _ _ (ie (by decide) (tt 1 _ _ _ _ (it rfl ⟨.str t_, rfl, no 1 0 (by decide) (by decide) (by decide) (yes 1 (by decide) fun a _ => ?_)⟩)))
      exact ⟨_, rfl, rfl, q _ (Same.refl _)⟩
    · refine tt 0 _ _ _ _ (ie (by decide) (tt 1 _ _ _ _ (ie (by decide) (tt 3 _ _ _ _ (it rfl ⟨.str t_, rfl, no 3 0 (by decide) (by decide) (by decide) (no 3 1 (by decide) (by decide) (by decide) (yes 3 (by decide) fun a _ => ?_))⟩)))))
      exact ⟨_, rfl, rfl, q _ (Same.refl _)⟩
    · refine tt 0 _ _ _ _ (ie (by decide) (tt 1 _ _ _ _ (ie (by decide) (tt 3 _ _ _ _ (ie (by decide) (tt 14 _ _ _ _ (it rfl ⟨.str t_, rfl, no 14 0 (by decide) (by decide) (by decide) (no 14 1 (by decide) (by decide) (by decide) (no 14 3 (by decide) (by decide) (by decide) (yes 14 (by decide) fun a _ => ?_)))⟩)))))))
      exact ⟨_, rfl, rfl, q _ (Same.refl _)⟩
    · refine tt 0 _ _ _ _ (ie (by decide) (tt 1 _ _ _ _ (ie (by decide) (tt 3 _ _ _ _ (ie (by decide) (tt 14 _ _ _ _ (ie (by decide) (tt 28 _ _ _ _ (it rfl ⟨.str t_, rfl, no 28 0 (by decide) (by decide) (by decide) (no 28 1 (by decide) (by decide) (by decide) (no 28 3 (by decide) (by decide) (by decide) (no 28 14 (by decide) (by decide) (by decide) (yes 28 (by decide) fun a _ => ?_))))⟩)))))))))
      exact ⟨_, rfl, rfl, q _ (Same.refl _)⟩
    · refine tt 0 _ _ _ _ (ie (by decide) (tt 1 _ _ _ _ (ie (by decide) (tt 3 _ _ _ _ (ie (by decide) (tt 14 _ _ _ _ (ie (by decide) (tt 28 _ _ _ _ (ie (by decide) (⟨.str t_, rfl, no 30 0 (by decide) (by decide) (by decide) (no 30 1 (by decide) (by decide) (by decide) (no 30 3 (by decide) (by decide) (by decide) (no 30 14 (by decide) (by decide) (by decide) (no 30 28 (by decide) (by decide) (by decide) (yes 30 (by decide) fun a _ => ?_)))))⟩))))))))))
      exact ⟨_, rfl, by show 5 ≤ sizeLine; decide, fun p np => ⟨p, _, rfl, .inl (SqL.of upd_same), rfl, rfl, q _ (same_upd np)⟩⟩
/-! ### the class above catches -/
def spBa : Sp := fun vs H Q _ => ∃ (r z : Int), vs = [.int r, .int z] ∧ (0 ≤ r ∧ r < 1000) ∧ (0 ≤ z ∧ z < 1000) ∧ ∀ H', Same H H' → Q (.bl true) H'
theorem xf_of {K : PySem.W.Frag} {C : Addr} (T : ExcC K C) : XfC K C := ⟨T.hg, T.hk, T.hs, T.hd⟩
def t_su (K : PySem.W.Frag) (C : Addr) (a : Addr) (cl : Value) (d : Option Addr) : TS :=
  tRet (tAndV (tCB (fun xs H Q => cl = .ref C ∧ rIsC K C a d xs H Q) (tCons (tVar 2) (tCons (tC (.ref C)) tNil))) (tAndV (tOp rEq (tXf a cl d C "row" (tVar 2)) (tVar 0)) (tOp rEq (tXf a cl d C "word" (tVar 2)) (tVar 1))))
def t_ba (C : Addr) (W : WX) : TS := fun _ σ H => tMkO C (spInit C) [] (tCons (tVar 0) (tCons (tVar 1) tNil)) σ H fun cl d H' => W cl d σ H'
theorem ok_base (T : Txt K mg c cP fI) {fd fdI : FuncData} {f : Addr} (F : Fun K "_law_is_base_caught" "_law_is_base_caught" sBase f fd) (FI : Fun K "__init__" "BadRows.__init__" sInit fI fdI) (bI : Binds K fdI ["self", "row", "word"] []) :
    FnOk P w K mg base CX0 3 f fd ["_law_row", "_law_word"] spBa := by
  have GI : FnOk P w K mg base CX0 1 fI fdI ["self", "row", "word"] (spInit (c 4)) := ok_init T FI
  refine F.ok scB (fun vs H Q E h => ?_) (fun cdv A outer s H vs Q E hr h => ?_)
  · obtain ⟨r, z, rfl, _⟩ := h
    rfl
  · obtain ⟨r, z, rfl, hr1, hz1, q⟩ := h
    have C4 := T.cl 4 (by decide)
    refine ⟨_, pss_one (ps_try_as (i := 2) (tb := t_ba (c 4)) (ts := t_su K (c 4)) (Wout := fun _ _ _ _ => False) rfl rfl scB.nd rfl rfl ⟨rfl, by decide, .inl T.gP⟩ takes0
      (fun W pn xe tk _ => pss_one (ps_raise rfl tk (pmk_oex T.oex T.iC T.tI GI hr bI .nil pass0 rfl (T.g 4 (by decide)) (pa_cons (pv 0) (pa_cons (pv 1) pa_nil)))))
      (fun a oe cls d pn hz hf => pss_one (ps_ret (pe_and (pe_callB (call_isC hz hf) (by rfl) T.zI (by decide +kernel) (pa_cons (pv 2) (pa_cons (pe_cls rfl (T.g 4 (by decide))) pa_nil)))
        (pe_and (pe_cmpR op_eq (pe_xf (xf_of C4) T.nRow hz hf (pv 2)) (pv 0) (nomark _)) (pe_one (pe_cmpR op_eq (pe_xf (xf_of C4) T.nWord hz hf (pv 2)) (pv 1) (nomark _)))))))), ?_⟩
    refine ⟨.int r, rfl, .int z, rfl, by show 2 ≤ 1000; decide, fun a na => ⟨a, r, z, rfl, hr1, hz1, upd_same, fun d nd ne => ⟨rfl, d, fld r z, ?_, upd_same, ?_, ?_⟩⟩⟩
    · unfold made
      rw [upd_ne (Ne.symm ne), upd_same]
    · rw [upd_ne ne] at nd
      exact nd
    · have kk : PySem.W.kitOne K (.ref (c 4)) (.ref (c 4)) = some true := T.kit 4 4 (by decide) (by decide)
      rw [upd_ne ne] at nd
      refine ⟨true, T.exmP, fun _ a' _ => ?_, fun z => Bool.noConfusion z⟩
      refine ⟨.ref a', rfl, rfl, .ref (c 4), .ref (c 4), true, rfl, .own _, fun dd e => by cases e; exact ⟨_, upd_same⟩, C4, kk, true, rfl, ?_⟩
      rw [if_pos rfl]
      refine ⟨.ref a', rfl, rfl, rfl, d, fld r z, .int r, rfl, upd_same, rfl, .int r, rfl, rfl, true, by rw [decide_eq_true rfl], ?_⟩
      rw [if_pos rfl]
      refine ⟨.ref a', rfl, rfl, rfl, d, fld r z, .int z, rfl, upd_same, rfl, .int z, rfl, rfl, ?_⟩
      rw [decide_eq_true rfl]
      refine q _ fun b o hb => ?_
      have b1 := ne_of_none hb na
      have b2 := ne_of_none hb nd
      rw [upd_ne b2]
      unfold del made
      rw [if_neg b1, upd_ne b2, upd_ne b1, upd_ne b2, upd_ne b1]
      exact hb
end
end K00

set_option Elab.async false
set_option linter.all false
set_option maxRecDepth 100000
set_option maxHeartbeats 4000000
namespace K00
open PySem PySem.Spec PyProof.Rows L2 Mv
abbrev NL : List Str := ["_law_script", "_law_number", "_law_text", "_law_row", "_law_word", "_law_made", "_law_at", "_law_e", "_law_base", "_law_other", "_law_k"]
/-- word and row given by their names -/
def gSw : List V → List V → List V := fun _ zs => match zs with
  | [x, y] => [y, x]
  | _ => []
def gSwU : List Value → List Value → List Value := fun _ zs => match zs with
  | [x, y] => [y, x]
  | _ => []
theorem sw_rel {zs : List V} {ws : List Value} (r : Vals zs ws) : Vals (gSw [] zs) (gSwU [] ws) := by
  cases r with
  | nil => exact .nil
  | cons a r =>
    cases r with
    | nil => exact .nil
    | cons b r =>
      cases r with
      | nil => exact .cons b (.cons a .nil)
      | cons _ _ => exact .nil
section
variable {P : Program} {w : World} {K : PySem.W.Frag} {mg : Str → Option Value} {base : Heap} {c : Nat → Addr} {cP fI : Addr} {fdI : FuncData}
theorem kw_pos (_ : Fun K "__init__" "BadRows.__init__" sInit fI fdI) (bI : Binds K fdI ["self", "row", "word"] []) : KwTo K fdI 2 ["self", "row", "word"] [] (fun us _ => us) := fun s u0 us ws hK _ hl => by
  have b := bI s (u0 :: us) hK (by rw [List.append_nil]; exact hl)
  rw [List.append_nil] at b
  exact b
theorem kw_swap (F : Fun K "__init__" "BadRows.__init__" sInit fI fdI) : KwTo K fdI 0 ["self", "row", "word"] ["word", "row"] gSwU := fun s u0 us ws hK h0 hl => by
  obtain ⟨oc, od, kV, doc, pm, an, cdv, ct, osl, rfl, lk, hcd⟩ := F.ex
  obtain rfl : us = [] := List.length_eq_zero_iff.mp h0
  match ws, hl with
  | [x, y], _ => exact BindsTo.of_eq (by first | rfl | with_unfolding_all rfl)
theorem cut_1 (ns : List Int) : cutV (ns.map V.int) none (some 1) = (ns.take 1).map V.int := by
  unfold cutV
  rw [HT.sIx_none, show HT.sIx (ns.map V.int).length (ns.map V.int).length (some 1) = min 1 (ns.map V.int).length from HT.sIx_nat _ _ 1, List.drop_zero, Nat.sub_zero, List.length_map, ← List.map_take]
  congr 1
  rw [List.take_eq_take_iff]
  omega
theorem for_enumL {K : PySem.W.Frag} {a : Addr} {xs : List V} {g : TG} {tb : TS} {D : Ends} {σ : L2.St} {H : Hp} (Pv : Nat → L2.St → Hp → Prop) (h0 : Pv 0 σ H) (hq : ∀ i σ H, Pv i σ H → SqL K H a xs)
    (hs : ∀ (i : Nat) (x : V) (T : Addr) (σ : L2.St) (H : Hp), xs[i]? = some x → Pv i σ H → H T = none → g (.ref T) σ (upd H T (.tup [.int (i : Nat), x])) fun σ2 H2 => tb { D with nx := Pv (i + 1), ct := Pv (i + 1), bk := D.nx } σ2 H2) (hd : ∀ σ H, Pv xs.length σ H → D.nx σ H) :
    ∃ W : Nat → Nat → L2.St → Hp → Prop, (∃ m, W 0 m σ H) ∧ ∀ i m σ H, W i m σ H →
      ((Ite K a).stop i H ∧ D.nx σ H) ∨ ((Ite K a).go i H ∧ ∃ N : L2.St → Hp → Prop, (∀ σ' H', N σ' H' → ∃ m', m' < m ∧ W (i + 1) m' σ' H') ∧ ∀ v H', (Ite K a).yld i H v H' → g v σ H' fun σ2 H2 => tb { D with nx := N, ct := N, bk := D.nx } σ2 H2) := by
  refine ⟨fun i m σ H => m = xs.length - i ∧ i ≤ xs.length ∧ Pv i σ H, ⟨_, rfl, Nat.zero_le _, h0⟩, ?_⟩
  intro i m σ H hW
  obtain ⟨rfl, hi, p⟩ := hW
  have hx := hq i σ H p
  rcases Nat.lt_or_ge i xs.length with lt | ge
  · refine .inr ⟨⟨xs, xs[i], hx, List.getElem?_eq_getElem lt⟩, Pv (i + 1), fun σ' H' p' => ⟨_, (by omega : xs.length - (i + 1) < xs.length - i), rfl, lt, p'⟩, ?_⟩
    intro v H' y
    obtain ⟨T, x, rfl, nT, rfl, fx⟩ := y
    exact hs i x T σ H (fx xs hx) p nT
  · obtain rfl : i = xs.length := Nat.le_antisymm hi ge
    exact .inl ⟨⟨xs, hx, Nat.le_refl _⟩, hd σ H p⟩
/-! ### readings in short -/
theorem st_set {te : TE} {g : TG} {u : TS} {D : Ends} {σ : L2.St} {H : Hp} (h : te σ H fun x H1 => g x σ H1 (u D)) : tSeq (tAsg te g) u D σ H := h
theorem rd_lst {t : TA} {σ : L2.St} {H : Hp} {Q : VK} (h : t σ H fun xs H1 => xs.length ≤ sizeLine ∧ ∀ p, H1 p = none → Q (.ref p) (upd H1 p (.lst xs))) : tLst t σ H Q := h
theorem rd_op {r : R2} {ta tb : TE} {σ : L2.St} {H : Hp} {Q : VK} (h : ta σ H fun x H1 => tb σ H1 fun y H2 => r x y H2 Q) : tOp r ta tb σ H Q := h
/-! ### data -/
theorem dp_all_bl {K : PySem.W.Frag} {H : Hp} : ∀ bs : List Bool, DpAll K H (bs.map V.bl) (bs.map PyData.bool)
  | [] => .nil
  | b :: r => .cons (.bl b) (dp_all_bl r)
theorem lay_bl : ∀ bs : List Bool, PyData.canLayAll0 (bs.map PyData.bool) = true
  | [] => rfl
  | b :: r => by
    show (PyData.canLay0 (.bool b) && PyData.canLayAll0 (r.map PyData.bool)) = true
    rw [lay_bl r]
    rfl
theorem dep_bl : ∀ bs : List Bool, PyData.depthAll (bs.map PyData.bool) ≤ 1
  | [] => Nat.zero_le _
  | b :: r => Nat.max_le.mpr ⟨by show PyData.depth (.bool b) ≤ 1; exact Nat.zero_le _, dep_bl r⟩
theorem shaped_bl (bs : List Bool) : SeqAt.shaped (.list (bs.map PyData.bool)) = true := by
  have e1 : PyData.canLay0 (.list (bs.map PyData.bool)) = true := lay_bl bs
  have e2 : PyData.depth (.list (bs.map PyData.bool)) ≤ 64 := by
    show PyData.depthAll (bs.map PyData.bool) + 1 ≤ 64
    have := dep_bl bs
    omega
  unfold SeqAt.shaped
  rw [e1, decide_eq_true e2]
  rfl
theorem flags_bl (i : Nat) : flags i = ((List.range 31).map fun j => decide (i = j)).map V.bl := by
  unfold flags
  rw [List.map_map]
  rfl
/-! ### the list of the exceptions -/
def IsR (H : Hp) (a C : Addr) (r z : Int) : Prop := ∃ d, H a = some (exo a C (some d)) ∧ H d = some (exd d (fld r z))
theorem IsR.same {H H' : Hp} {a C : Addr} {r z : Int} (h : IsR H a C r z) (s : Same H H') : IsR H' a C r z := by
  obtain ⟨d, h1, h2⟩ := h
  exact ⟨d, s _ _ h1, s _ _ h2⟩
theorem IsR.isE {H : Hp} {a C : Addr} {r z : Int} (h : IsR H a C r z) : IsE H a C := by
  obtain ⟨d, h1, h2⟩ := h
  exact .inr ⟨d, _, h1, h2⟩
def Es (c : Nat → Addr) (H : Hp) (o : Nat) (xs : List V) : Prop := ∀ j x, xs[j]? = some x → ∃ a, x = .ref a ∧ IsE H a (c (o + j))
theorem Es.nil {H : Hp} {o : Nat} : Es c H o [] := fun j x e => by simp at e
theorem Es.cons {H : Hp} {o : Nat} {a : Addr} {xs : List V} (h : IsE H a (c o)) (r : Es c H (o + 1) xs) : Es c H o (.ref a :: xs) := fun j x e => by
  cases j with
  | zero =>
    obtain rfl : V.ref a = x := Option.some.inj e
    exact ⟨a, rfl, h⟩
  | succ j =>
    obtain ⟨b, e1, e2⟩ := r j x e
    refine ⟨b, e1, ?_⟩
    rw [show o + (j + 1) = o + 1 + j by omega]
    exact e2
theorem Es.same {H H' : Hp} {o : Nat} {xs : List V} (h : Es c H o xs) (s : Same H H') : Es c H' o xs := fun j x e => by
  obtain ⟨a, e1, e2⟩ := h j x e
  exact ⟨a, e1, e2.same s⟩
theorem Es.app {H : Hp} {o : Nat} {xs ys : List V} (h : Es c H o xs) (r : Es c H (o + xs.length) ys) : Es c H o (xs ++ ys) := fun j x e => by
  rcases Nat.lt_or_ge j xs.length with lt | ge
  · rw [List.getElem?_append_left lt] at e
    exact h j x e
  · rw [List.getElem?_append_right ge] at e
    obtain ⟨a, e1, e2⟩ := r _ x e
    refine ⟨a, e1, ?_⟩
    rw [show o + j = o + xs.length + (j - xs.length) by omega]
    exact e2
/-- the list that stands at p: the first n exceptions, the fifth one with its fields -/
structure M (c : Nat → Addr) (r z : Int) (H : Hp) (p : Addr) (xs : List V) (n : Nat) : Prop where
  at_ : H p = some (.lst xs)
  len : xs.length = n
  es : Es c H 0 xs
  five : ∃ a, xs[4]? = some (.ref a) ∧ IsR H a (c 4) r z
theorem M.same {r z : Int} {H H' : Hp} {p : Addr} {xs : List V} {n : Nat} (h : M c r z H p xs n) (s : Same H H') : M c r z H' p xs n :=
  ⟨s _ _ h.at_, h.len, h.es.same s, let ⟨a, e, q⟩ := h.five; ⟨a, e, q.same s⟩⟩
/-- X(text) -/
def tX (C : Addr) : TE := fun σ H Q => tVar 2 σ H fun _ H1 => ∀ a, H1 a = none → Q (.ref a) (upd H1 a (ExO (.ref C) a))
theorem rd_ex {C : Addr} {σ : L2.St} {t : Str} {H : Hp} {Q : VK} (hσ : σ[2]? = some (some (.str t))) (k : ∀ a H', Same H H' → IsE H' a C → Q (.ref a) H') : tX C σ H Q :=
  ⟨_, hσ, fun a na => k a _ (same_upd na) (.inl upd_same)⟩
theorem made_same {H : Hp} {a d C : Addr} {r z : Int} (na : H a = none) (nd : upd H a (exo a C none) d = none) (ne : d ≠ a) : Same H (made (upd H a (exo a C none)) a d C r z) := fun b o hb => by
  rw [upd_ne ne] at nd
  have b1 := ne_of_none hb na
  have b2 := ne_of_none hb nd
  unfold made
  rw [upd_ne b2, upd_ne b1, upd_ne b2, upd_ne b1]
  exact hb
theorem made_isR {H : Hp} {a d C : Addr} {r z : Int} (ne : d ≠ a) : IsR (made H a d C r z) a C r z := by
  refine ⟨d, ?_, upd_same⟩
  unfold made
  rw [upd_ne (Ne.symm ne), upd_same]
/-- BadRows(row, word) -/
theorem rd_br {C : Addr} {σ : L2.St} {r z : Int} {H : Hp} {Q : VK} (h3 : σ[3]? = some (some (.int r))) (h4 : σ[4]? = some (some (.int z))) (hr : 0 ≤ r ∧ r < 1000) (hz : 0 ≤ z ∧ z < 1000)
    (k : ∀ a H', Same H H' → IsR H' a C r z → Q (.ref a) H') : tMkV C 2 (spInit C) (tCons (tVar 3) (tCons (tVar 4) tNil)) σ H Q :=
  ⟨_, h3, _, h4, ⟨rfl, by decide⟩, fun a na => ⟨a, r, z, rfl, hr, hz, upd_same, fun d nd ne => ⟨rfl, k a _ (made_same na nd ne) (made_isR ne)⟩⟩⟩
theorem rd_g0 {σ : L2.St} {t : Str} {r z : Int} {H : Hp} {Q : List V → Hp → Prop} (hσ : σ[2]? = some (some (.str t))) (h3 : σ[3]? = some (some (.int r))) (h4 : σ[4]? = some (some (.int z))) (hr : 0 ≤ r ∧ r < 1000) (hz : 0 ≤ z ∧ z < 1000)
    (k : ∀ xs H', Same H H' → xs.length = 7 → Es c H' 0 xs → (∃ a, xs[4]? = some (.ref a) ∧ IsR H' a (c 4) r z) → Q xs H') : (tCons (tX (c 0)) (tCons (tX (c 1)) (tCons (tX (c 2)) (tCons (tX (c 3)) (tCons (tMkV (c 4) 2 (spInit (c 4)) (tCons (tVar 3) (tCons (tVar 4) tNil))) (tCons (tX (c 5)) (tCons (tX (c 6)) tNil))))))) σ H Q := by
  refine rd_ex hσ fun a0 H0 s0 i0 => rd_ex hσ fun a1 H1 s1 i1 => rd_ex hσ fun a2 H2 s2 i2 => rd_ex hσ fun a3 H3 s3 i3 => rd_br h3 h4 hr hz fun a4 H4 s4 i4 => rd_ex hσ fun a5 H5 s5 i5 => rd_ex hσ fun a6 H6 s6 i6 => ?_
  have u6 : Same H6 H6 := Same.refl _
  have u5 : Same H5 H6 := s6.trans u6
  have u4 : Same H4 H6 := s5.trans u5
  have u3 : Same H3 H6 := s4.trans u4
  have u2 : Same H2 H6 := s3.trans u3
  have u1 : Same H1 H6 := s2.trans u2
  have u0 : Same H0 H6 := s1.trans u1
  exact k _ _ (s0.trans u0) rfl (.cons (i0.same u0) (.cons (i1.same u1) (.cons (i2.same u2) (.cons (i3.same u3) (.cons (i4.isE.same u4) (.cons (i5.same u5) (.cons (i6.same u6) .nil))))))) ⟨a4, rfl, i4.same u4⟩
theorem rd_g1 {σ : L2.St} {t : Str} {H : Hp} {Q : List V → Hp → Prop} (hσ : σ[2]? = some (some (.str t)))
    (k : ∀ xs H', Same H H' → xs.length = 7 → Es c H' 7 xs → Q xs H') : (tCons (tX (c 7)) (tCons (tX (c 8)) (tCons (tX (c 9)) (tCons (tX (c 10)) (tCons (tX (c 11)) (tCons (tX (c 12)) (tCons (tX (c 13)) tNil))))))) σ H Q := by
  refine rd_ex hσ fun a7 H7 s7 i7 => rd_ex hσ fun a8 H8 s8 i8 => rd_ex hσ fun a9 H9 s9 i9 => rd_ex hσ fun a10 H10 s10 i10 => rd_ex hσ fun a11 H11 s11 i11 => rd_ex hσ fun a12 H12 s12 i12 => rd_ex hσ fun a13 H13 s13 i13 => ?_
  have u13 : Same H13 H13 := Same.refl _
  have u12 : Same H12 H13 := s13.trans u13
  have u11 : Same H11 H13 := s12.trans u12
  have u10 : Same H10 H13 := s11.trans u11
  have u9 : Same H9 H13 := s10.trans u10
  have u8 : Same H8 H13 := s9.trans u9
  have u7 : Same H7 H13 := s8.trans u8
  exact k _ _ (s7.trans u7) rfl (.cons (i7.same u7) (.cons (i8.same u8) (.cons (i9.same u9) (.cons (i10.same u10) (.cons (i11.same u11) (.cons (i12.same u12) (.cons (i13.same u13) .nil)))))))
theorem rd_g2 {σ : L2.St} {t : Str} {H : Hp} {Q : List V → Hp → Prop} (hσ : σ[2]? = some (some (.str t)))
    (k : ∀ xs H', Same H H' → xs.length = 7 → Es c H' 14 xs → Q xs H') : (tCons (tX (c 14)) (tCons (tX (c 15)) (tCons (tX (c 16)) (tCons (tX (c 17)) (tCons (tX (c 18)) (tCons (tX (c 19)) (tCons (tX (c 20)) tNil))))))) σ H Q := by
  refine rd_ex hσ fun a14 H14 s14 i14 => rd_ex hσ fun a15 H15 s15 i15 => rd_ex hσ fun a16 H16 s16 i16 => rd_ex hσ fun a17 H17 s17 i17 => rd_ex hσ fun a18 H18 s18 i18 => rd_ex hσ fun a19 H19 s19 i19 => rd_ex hσ fun a20 H20 s20 i20 => ?_
  have u20 : Same H20 H20 := Same.refl _
  have u19 : Same H19 H20 := s20.trans u20
  have u18 : Same H18 H20 := s19.trans u19
  have u17 : Same H17 H20 := s18.trans u18
  have u16 : Same H16 H20 := s17.trans u17
  have u15 : Same H15 H20 := s16.trans u16
  have u14 : Same H14 H20 := s15.trans u15
  exact k _ _ (s14.trans u14) rfl (.cons (i14.same u14) (.cons (i15.same u15) (.cons (i16.same u16) (.cons (i17.same u17) (.cons (i18.same u18) (.cons (i19.same u19) (.cons (i20.same u20) .nil)))))))
theorem rd_g3 {σ : L2.St} {t : Str} {H : Hp} {Q : List V → Hp → Prop} (hσ : σ[2]? = some (some (.str t)))
    (k : ∀ xs H', Same H H' → xs.length = 7 → Es c H' 21 xs → Q xs H') : (tCons (tX (c 21)) (tCons (tX (c 22)) (tCons (tX (c 23)) (tCons (tX (c 24)) (tCons (tX (c 25)) (tCons (tX (c 26)) (tCons (tX (c 27)) tNil))))))) σ H Q := by
  refine rd_ex hσ fun a21 H21 s21 i21 => rd_ex hσ fun a22 H22 s22 i22 => rd_ex hσ fun a23 H23 s23 i23 => rd_ex hσ fun a24 H24 s24 i24 => rd_ex hσ fun a25 H25 s25 i25 => rd_ex hσ fun a26 H26 s26 i26 => rd_ex hσ fun a27 H27 s27 i27 => ?_
  have u27 : Same H27 H27 := Same.refl _
  have u26 : Same H26 H27 := s27.trans u27
  have u25 : Same H25 H27 := s26.trans u26
  have u24 : Same H24 H27 := s25.trans u25
  have u23 : Same H23 H27 := s24.trans u24
  have u22 : Same H22 H27 := s23.trans u23
  have u21 : Same H21 H27 := s22.trans u22
  exact k _ _ (s21.trans u21) rfl (.cons (i21.same u21) (.cons (i22.same u22) (.cons (i23.same u23) (.cons (i24.same u24) (.cons (i25.same u25) (.cons (i26.same u26) (.cons (i27.same u27) .nil)))))))
theorem rd_g4 {σ : L2.St} {t : Str} {H : Hp} {Q : List V → Hp → Prop} (hσ : σ[2]? = some (some (.str t)))
    (k : ∀ xs H', Same H H' → xs.length = 3 → Es c H' 28 xs → Q xs H') : (tCons (tX (c 28)) (tCons (tX (c 29)) (tCons (tX (c 30)) tNil))) σ H Q := by
  refine rd_ex hσ fun a28 H28 s28 i28 => rd_ex hσ fun a29 H29 s29 i29 => rd_ex hσ fun a30 H30 s30 i30 => ?_
  have u30 : Same H30 H30 := Same.refl _
  have u29 : Same H29 H30 := s30.trans u30
  have u28 : Same H28 H30 := s29.trans u29
  exact k _ _ (s28.trans u28) rfl (.cons (i28.same u28) (.cons (i29.same u29) (.cons (i30.same u30) .nil)))
def spLaw (K : PySem.W.Frag) : Sp := fun vs H Q _ => ∃ (a : Addr) (ns : List Int), vs = [.ref a] ∧ SqL K H a (ns.map V.int) ∧ ns.length ≤ 63 ∧ ∀ H', Q (.bl true) H'
theorem ok_law (T_ : Txt K mg c cP fI) {f fF fC fB : Addr} {fd fdF fdC fdB : FuncData} (FL : Fun K "law" "law" sLaw f fd) (FI : Fun K "__init__" "BadRows.__init__" sInit fI fdI) (bI : Binds K fdI ["self", "row", "word"] [])
    (FF : Fun K "_law_flags" "_law_flags" sFlags fF fdF) (bF : Binds K fdF ["_law_e"] []) (gF : mg "_law_flags" = some (.ref fF))
    (FC : Fun K "_law_is_caught" "_law_is_caught" sCaught fC fdC) (bC : Binds K fdC ["_law_number", "_law_text"] []) (gC : mg "_law_is_caught" = some (.ref fC))
    (FB : Fun K "_law_is_base_caught" "_law_is_base_caught" sBase fB fdB) (bB : Binds K fdB ["_law_row", "_law_word"] []) (gB : mg "_law_is_base_caught" = some (.ref fB)) :
    FnOk P w K mg base CX0 5 f fd ["_law_script"] (spLaw K) := by
  have GI : FnOk P w K mg base CX0 1 fI fdI ["self", "row", "word"] (spInit (c 4)) := ok_init T_ FI
  have GF : FnOk P w K mg base CX0 1 fF fdF ["_law_e"] (spFl c cP) := ok_flags T_ FF
  have GC : FnOk P w K mg base CX0 1 fC fdC ["_law_number", "_law_text"] spCa := ok_caught T_ FC
  have GB : FnOk P w K mg base CX0 3 fB fdB ["_law_row", "_law_word"] spBa := ok_base T_ FB FI bI
  refine FL.ok scL (fun vs H Q E h => ?_) (fun cdv A outer s H vs Q E hr h => ?_)
  · obtain ⟨a, ns, rfl, _⟩ := h
    rfl
  · obtain ⟨a, ns, rfl, hS, hlen, q⟩ := h
    have hr1 : Room 1 _ := hr.mono (by decide)
    have hr2 : Room 2 _ := hr.mono (by decide)
    have hr3 : Room 3 _ := hr.mono (by decide)
    refine ⟨_, (pss_cons (ps_set (i := 1) scL.nd rfl (.inl rfl) (pe_callB (cr_sum rfl) (by rfl) T_.zSum (by decide +kernel) (pa_cons (pe_slice sl_list (pv 0) po_none (po_some pe_int)) pa_nil)))
      (pss_cons (ps_asg (pe_tup (pa_cons (pe_op op_add_str pe_str (pe_callTy call_str_int (by rfl) T_.zStr (by decide +kernel) (pa_cons (pe_op op_mod (pe_callTy call_int1 (by rfl) T_.zInt (by decide +kernel) (pa_cons (pv 1) pa_nil)) pe_int) pa_nil))) (pa_cons (pe_op op_mod (pe_callTy call_int1 (by rfl) T_.zInt (by decide +kernel) (pa_cons (pv 1) pa_nil)) pe_int) (pa_cons (pe_op op_mod (pe_callTy call_int1 (by rfl) T_.zInt (by decide +kernel) (pa_cons (pe_op op_fdiv (pv 1) pe_int) pa_nil)) pe_int) pa_nil)))) (pg_tup rfl (pgs_cons (pg_name (i := 2) scL.nd rfl (.inr rfl)) (pgs_cons (pg_name (i := 3) scL.nd rfl (.inl rfl)) (pgs_cons (pg_name (i := 4) scL.nd rfl (.inl rfl)) pgs_nil)))))
      (pss_cons (ps_set (i := 5) scL.nd rfl (.inl rfl) (pe_lst (pa_cons (pe_exc1 F.excBase_ValueError (T_.ex 0 (by decide) (by decide)) (T_.g 0 (by decide)) (T_.kp 0 (by decide)) rfl (pv 2)) (pa_cons (pe_exc1 F.excBase_ValueError (T_.ex 1 (by decide) (by decide)) (T_.g 1 (by decide)) (T_.kp 1 (by decide)) rfl (pv 2)) (pa_cons (pe_exc1 F.excBase_ValueError (T_.ex 2 (by decide) (by decide)) (T_.g 2 (by decide)) (T_.kp 2 (by decide)) rfl (pv 2)) (pa_cons (pe_exc1 F.excBase_ValueError (T_.ex 3 (by decide) (by decide)) (T_.g 3 (by decide)) (T_.kp 3 (by decide)) rfl (pv 2)) (pa_cons (pe_mkV T_.oex T_.iC T_.tI GI hr2 (kw_pos FI bI) pass0 rfl (T_.g 4 (by decide)) (pa_cons (pv 3) (pa_cons (pv 4) pa_nil))) (pa_cons (pe_exc1 F.excBase_ValueError (T_.ex 5 (by decide) (by decide)) (T_.g 5 (by decide)) (T_.kp 5 (by decide)) rfl (pv 2)) (pa_cons (pe_exc1 F.excBase_ValueError (T_.ex 6 (by decide) (by decide)) (T_.g 6 (by decide)) (T_.kp 6 (by decide)) rfl (pv 2)) pa_nil)))))))))
      (pss_cons (ps_set (i := 5) scL.nd rfl (.inl rfl) (pe_op op_cat (pv 5) (pe_lst (pa_cons (pe_exc1 F.excBase_ValueError (T_.ex 7 (by decide) (by decide)) (T_.g 7 (by decide)) (T_.kp 7 (by decide)) rfl (pv 2)) (pa_cons (pe_exc1 F.excBase_ValueError (T_.ex 8 (by decide) (by decide)) (T_.g 8 (by decide)) (T_.kp 8 (by decide)) rfl (pv 2)) (pa_cons (pe_exc1 F.excBase_ValueError (T_.ex 9 (by decide) (by decide)) (T_.g 9 (by decide)) (T_.kp 9 (by decide)) rfl (pv 2)) (pa_cons (pe_exc1 F.excBase_ValueError (T_.ex 10 (by decide) (by decide)) (T_.g 10 (by decide)) (T_.kp 10 (by decide)) rfl (pv 2)) (pa_cons (pe_exc1 F.excBase_ValueError (T_.ex 11 (by decide) (by decide)) (T_.g 11 (by decide)) (T_.kp 11 (by decide)) rfl (pv 2)) (pa_cons (pe_exc1 F.excBase_ValueError (T_.ex 12 (by decide) (by decide)) (T_.g 12 (by decide)) (T_.kp 12 (by decide)) rfl (pv 2)) (pa_cons (pe_exc1 F.excBase_ValueError (T_.ex 13 (by decide) (by decide)) (T_.g 13 (by decide)) (T_.kp 13 (by decide)) rfl (pv 2)) pa_nil))))))))))
      (pss_cons (ps_set (i := 5) scL.nd rfl (.inl rfl) (pe_op op_cat (pv 5) (pe_lst (pa_cons (pe_exc1 F.excBase_ValueError (T_.ex 14 (by decide) (by decide)) (T_.g 14 (by decide)) (T_.kp 14 (by decide)) rfl (pv 2)) (pa_cons (pe_exc1 F.excBase_ValueError (T_.ex 15 (by decide) (by decide)) (T_.g 15 (by decide)) (T_.kp 15 (by decide)) rfl (pv 2)) (pa_cons (pe_exc1 F.excBase_ValueError (T_.ex 16 (by decide) (by decide)) (T_.g 16 (by decide)) (T_.kp 16 (by decide)) rfl (pv 2)) (pa_cons (pe_exc1 F.excBase_ValueError (T_.ex 17 (by decide) (by decide)) (T_.g 17 (by decide)) (T_.kp 17 (by decide)) rfl (pv 2)) (pa_cons (pe_exc1 F.excBase_ValueError (T_.ex 18 (by decide) (by decide)) (T_.g 18 (by decide)) (T_.kp 18 (by decide)) rfl (pv 2)) (pa_cons (pe_exc1 F.excBase_ValueError (T_.ex 19 (by decide) (by decide)) (T_.g 19 (by decide)) (T_.kp 19 (by decide)) rfl (pv 2)) (pa_cons (pe_exc1 F.excBase_ValueError (T_.ex 20 (by decide) (by decide)) (T_.g 20 (by decide)) (T_.kp 20 (by decide)) rfl (pv 2)) pa_nil))))))))))
      (pss_cons (ps_set (i := 5) scL.nd rfl (.inl rfl) (pe_op op_cat (pv 5) (pe_lst (pa_cons (pe_exc1 F.excBase_ValueError (T_.ex 21 (by decide) (by decide)) (T_.g 21 (by decide)) (T_.kp 21 (by decide)) rfl (pv 2)) (pa_cons (pe_exc1 F.excBase_ValueError (T_.ex 22 (by decide) (by decide)) (T_.g 22 (by decide)) (T_.kp 22 (by decide)) rfl (pv 2)) (pa_cons (pe_exc1 F.excBase_ValueError (T_.ex 23 (by decide) (by decide)) (T_.g 23 (by decide)) (T_.kp 23 (by decide)) rfl (pv 2)) (pa_cons (pe_exc1 F.excBase_ValueError (T_.ex 24 (by decide) (by decide)) (T_.g 24 (by decide)) (T_.kp 24 (by decide)) rfl (pv 2)) (pa_cons (pe_exc1 F.excBase_ValueError (T_.ex 25 (by decide) (by decide)) (T_.g 25 (by decide)) (T_.kp 25 (by decide)) rfl (pv 2)) (pa_cons (pe_exc1 F.excBase_ValueError (T_.ex 26 (by decide) (by decide)) (T_.g 26 (by decide)) (T_.kp 26 (by decide)) rfl (pv 2)) (pa_cons (pe_exc1 F.excBase_ValueError (T_.ex 27 (by decide) (by decide)) (T_.g 27 (by decide)) (T_.kp 27 (by decide)) rfl (pv 2)) pa_nil))))))))))
      (pss_cons (ps_set (i := 5) scL.nd rfl (.inl rfl) (pe_op op_cat (pv 5) (pe_lst (pa_cons (pe_exc1 F.excBase_ValueError (T_.ex 28 (by decide) (by decide)) (T_.g 28 (by decide)) (T_.kp 28 (by decide)) rfl (pv 2)) (pa_cons (pe_exc1 F.excBase_ValueError (T_.ex 29 (by decide) (by decide)) (T_.g 29 (by decide)) (T_.kp 29 (by decide)) rfl (pv 2)) (pa_cons (pe_exc1 F.excBase_ValueError (T_.ex 30 (by decide) (by decide)) (T_.g 30 (by decide)) (T_.kp 30 (by decide)) rfl (pv 2)) pa_nil))))))
      (pss_cons (ps_for PassesOwn.never rfl (pi_enum (by rfl) T_.zEn (pa_cons (pv 5) pa_nil)) (pg_tup rfl (pgs_cons (pg_name (i := 6) scL.nd rfl (.inr rfl)) (pgs_cons (pg_name (i := 7) scL.nd rfl (.inl rfl)) pgs_nil)))
        (pss_cons (ps_if (PW.pt (pw_or (pt_not (pt_val (pe_callB call_isX (by rfl) T_.zI (by decide +kernel) (pa_cons (pv 7) (pa_cons (pe_cls rfl T_.gP) pa_nil))))) (pw_or1 (pt_not (pt_val (pe_callB call_isX (by rfl) T_.zI (by decide +kernel) (pa_cons (pv 7) (pa_cons (pe_bltn (v := .ty "ValueError") (by rfl) T_.zV (by decide +kernel) rfl) pa_nil)))))))) (pss_one (ps_ret pe_bl)) pss_nil)
        (pss_one (ps_if (pt_cmpR (op_neD hr.units) (pe_call GF hr1 (by rfl) gF FF.kp bF .nil pass0 (pa_cons (pv 7) pa_nil)) (pe_lc (own := [("_law_k", 10)]) (g := gName 10) (tt := tYes) rfl scL.nd (pi_range1 rfl T_.zRg (pa_cons (pe_callB call_len_seq (by rfl) T_.zLen PySem.boot_len (pa_cons (pv 5) pa_nil)) pa_nil)) (blkOk_by (N := NL) (sc := defScope sLaw) (by decide +kernel)) (fun _ _ _ _ _ => pg_name (i := 10) scL.nd rfl (.inl rfl)) (fun _ _ _ _ _ => pts_nil) (fun _ _ _ _ _ => pe_cmpR op_eq (pv 10) (pv 6) (nomark _))) (nomark _)) (pss_one (ps_ret pe_bl)) pss_nil))))
      (pss_cons (ps_par (i := 8) (j := 9) rfl scL.nd rfl rfl (by decide) rfl rfl (pa_cons (pe_exc1 F.excBase_ValueError T_.exP T_.gP T_.kpP rfl (pv 2)) (pa_cons (pe_mkVK (gV := gSw) T_.oex T_.iC T_.tI GI hr2 (kw_swap FI) (fun r => sw_rel r) pass0 rfl (T_.g 4 (by decide)) (pk_cons (pv 4) (pk_cons (pv 3) pk_nil))) pa_nil)) (by rfl))
      (pss_cons (ps_if (PW.pt (pw_or (pt_cmpR op_in_seq pe_bl (pe_call GF hr1 (by rfl) gF FF.kp bF .nil pass0 (pa_cons (pv 8) pa_nil)) (by rfl)) (pw_or1 (pt_not (pt_val (pe_callB call_isX (by rfl) T_.zI (by decide +kernel) (pa_cons (pv 8) (pa_cons (pe_bltn (v := .ty "ValueError") (by rfl) T_.zV (by decide +kernel) rfl) pa_nil)))))))) (pss_one (ps_ret pe_bl)) pss_nil)
      (pss_cons (ps_if (pt_cmpR (op_neD hr.units) (pe_lst (pa_cons (pe_xv (pe_ix ix_list (pv 5) pe_int (fun _ _ => rfl))) (pa_cons (pe_xv (pe_ix ix_list (pv 5) pe_int (fun _ _ => rfl))) (pa_cons (pe_xv (pv 9)) (pa_cons (pe_xv (pv 9)) pa_nil))))) (pe_lst (pa_cons (pv 3) (pa_cons (pv 4) (pa_cons (pv 3) (pa_cons (pv 4) pa_nil))))) (nomark _)) (pss_one (ps_ret pe_bl)) pss_nil)
      (pss_cons (ps_if (pt_cmpR op_in_seq pe_bl (pe_lc (own := [("_law_at", 6)]) (g := gName 6) (tt := tYes) rfl scL.nd (pi_list (pe_lst (pa_cons pe_int (pa_cons pe_int (pa_cons pe_int (pa_cons pe_int (pa_cons pe_int (pa_cons pe_int pa_nil)))))))) (blkOk_by (N := NL) (sc := defScope sLaw) (by decide +kernel)) (fun _ _ _ _ _ => pg_name (i := 6) scL.nd rfl (.inl rfl)) (fun _ _ _ _ _ => pts_nil) (fun _ _ _ _ _ => pe_call GC hr1 (by rfl) gC FC.kp bC .nil pass0 (pa_cons (pv 6) (pa_cons (pv 2) pa_nil)))) (by rfl)) (pss_one (ps_ret pe_bl)) pss_nil)
      (pss_one (ps_ret (pe_call GB hr3 (by rfl) gB FB.kp bB .nil pass0 (pa_cons (pv 3) (pa_cons (pv 4) pa_nil))))))))))))))))), ?_⟩
    have sz : ∀ n : Nat, n ≤ 100 → n ≤ sizeLine := fun n h => Nat.le_trans h (by decide)
    -- number
    refine ⟨.ref a, rfl, 1, rfl, a, _, rfl, hS, fun p0 _ => ⟨p0, ns.take 1, rfl, .inl (.inl ?_), ?_⟩⟩
    · rw [upd_same, cut_1]
    generalize upd H p0 (.lst (cutV (ns.map V.int) none (some 1))) = H0
    generalize (ns.take 1).sum = n
    have hr1' : (0 : Int) ≤ n % 997 ∧ n % 997 < 1000 := ⟨Int.emod_nonneg _ (by decide), Int.lt_trans (Int.emod_lt_of_pos _ (by decide)) (by decide)⟩
    have hz1' : (0 : Int) ≤ n / 7 % 89 ∧ n / 7 % 89 < 1000 := ⟨Int.emod_nonneg _ (by decide), Int.lt_trans (Int.emod_lt_of_pos _ (by decide)) (by decide)⟩
    have ht1 : (0 : Int) ≤ n % 1000 ∧ n % 1000 < 1000 := ⟨Int.emod_nonneg _ (by decide), Int.emod_lt_of_pos _ (by decide)⟩
    have tl := text_small ht1
    refine ⟨_, rfl, .inl ⟨_, rfl, _, _, rfl, rfl, by show (0 : Int) < 1000; decide, _, rfl, log_small ht1, _, _, rfl, rfl, ?_, ?_⟩⟩
    · exact sz _ (by show 1 + (Str.ofString (toString (n % 1000))).length ≤ 100; omega)
    refine ⟨_, rfl, .inl ⟨_, rfl, _, _, rfl, rfl, by show (0 : Int) < 997; decide, ?_⟩⟩
    refine ⟨_, rfl, _, _, rfl, rfl, ⟨by decide, by decide⟩, .inl ⟨_, rfl, _, _, rfl, rfl, by show (0 : Int) < 89; decide, ?_⟩⟩
    refine ⟨sz _ (by show 3 ≤ 100; decide), fun p1 _ => ⟨p1, _, rfl, .inl (.inl upd_same), rfl, _, _, rfl, _, _, rfl, _, _, rfl, rfl, ?_⟩⟩
    dsimp only
    change tSeq (tAsg (tLst _) _) _ _ [some (.ref a), some (.int n), some (.str ("t" ++ Str.ofString (toString (n % 1000)))), some (.int (n % 997)), some (.int (n / 7 % 89)), none, none, none, none, none, none] (upd H0 p1 _)
    generalize upd H0 p1 _ = H1
    generalize ("t" ++ Str.ofString (toString (n % 1000)) : Str) = t
    generalize n % 997 = r at hr1' ⊢
    generalize n / 7 % 89 = z at hz1' ⊢
    -- made
    refine st_set (rd_lst (rd_g0 (c := c) (σ := [some (.ref a), some (.int n), some (.str t), some (.int r), some (.int z), none, none, none, none, none, none]) (t := t) rfl rfl rfl hr1' hz1' ?_))
    refine fun xs H2 _ L E5 E4 => ⟨sz _ (by rw [L]; decide), fun p2 n2 => ?_⟩
    have M0 : M c r z (upd H2 p2 (.lst xs)) p2 xs 7 := ⟨upd_same, L, E5.same (same_upd n2), let ⟨a, e, q⟩ := E4; ⟨a, e, q.same (same_upd n2)⟩⟩
    dsimp only [gName]
    change tSeq (tAsg (tOp _ _ _) _) _ _ [some (.ref a), some (.int n), some (.str t), some (.int r), some (.int z), some (.ref p2), none, none, none, none, none] (upd H2 p2 (.lst xs))
    generalize upd H2 p2 (.lst xs) = H2 at M0 ⊢
    clear L E5 E4 n2
    refine st_set (rd_op ⟨.ref p2, rfl, rd_lst (rd_g1 (c := c) (σ := [some (.ref a), some (.int n), some (.str t), some (.int r), some (.int z), some (.ref p2), none, none, none, none, none]) (t := t) rfl ?_)⟩)
    refine fun ys H' s L E' => ⟨sz _ (by rw [L]; decide), fun b nb => ⟨p2, b, xs, ys, rfl, rfl, ?_, upd_same, sz _ (by rw [L, M0.len]; decide), fun p3 n3 => ?_⟩⟩
    · rw [upd_ne (ne_of_none (s _ _ M0.at_) nb)]
      exact s _ _ M0.at_
    have M1 : M c r z (upd (upd H' b (.lst ys)) p3 (.lst (xs ++ ys))) p3 (xs ++ ys) 14 := by
      have s2 : Same H' (upd (upd H' b (.lst ys)) p3 (.lst (xs ++ ys))) := (same_upd nb).trans (same_upd n3)
      have m2 := M0.same (s.trans s2)
      refine ⟨upd_same, by rw [List.length_append, L, m2.len], m2.es.app (by rw [m2.len]; exact E'.same s2), ?_⟩
      obtain ⟨a4, e4, q4⟩ := m2.five
      exact ⟨a4, by rw [List.getElem?_append_left (by rw [m2.len]; decide)]; exact e4, q4⟩
    dsimp only [gName]
    change tSeq (tAsg (tOp _ _ _) _) _ _ [some (.ref a), some (.int n), some (.str t), some (.int r), some (.int z), some (.ref p3), none, none, none, none, none] (upd (upd H' b (.lst ys)) p3 (.lst (xs ++ ys)))
    generalize upd (upd H' b (.lst ys)) p3 (.lst (xs ++ ys)) = H3 at M1 ⊢
    generalize xs ++ ys = xs at M1 ⊢
    clear L E' s nb n3
    refine st_set (rd_op ⟨.ref p3, rfl, rd_lst (rd_g2 (c := c) (σ := [some (.ref a), some (.int n), some (.str t), some (.int r), some (.int z), some (.ref p3), none, none, none, none, none]) (t := t) rfl ?_)⟩)
    refine fun ys H' s L E' => ⟨sz _ (by rw [L]; decide), fun b nb => ⟨p3, b, xs, ys, rfl, rfl, ?_, upd_same, sz _ (by rw [L, M1.len]; decide), fun p4 n4 => ?_⟩⟩
    · rw [upd_ne (ne_of_none (s _ _ M1.at_) nb)]
      exact s _ _ M1.at_
    have M2 : M c r z (upd (upd H' b (.lst ys)) p4 (.lst (xs ++ ys))) p4 (xs ++ ys) 21 := by
      have s2 : Same H' (upd (upd H' b (.lst ys)) p4 (.lst (xs ++ ys))) := (same_upd nb).trans (same_upd n4)
      have m2 := M1.same (s.trans s2)
      refine ⟨upd_same, by rw [List.length_append, L, m2.len], m2.es.app (by rw [m2.len]; exact E'.same s2), ?_⟩
      obtain ⟨a4, e4, q4⟩ := m2.five
      exact ⟨a4, by rw [List.getElem?_append_left (by rw [m2.len]; decide)]; exact e4, q4⟩
    dsimp only [gName]
    change tSeq (tAsg (tOp _ _ _) _) _ _ [some (.ref a), some (.int n), some (.str t), some (.int r), some (.int z), some (.ref p4), none, none, none, none, none] (upd (upd H' b (.lst ys)) p4 (.lst (xs ++ ys)))
    generalize upd (upd H' b (.lst ys)) p4 (.lst (xs ++ ys)) = H4 at M2 ⊢
    generalize xs ++ ys = xs at M2 ⊢
    clear L E' s nb n4
    refine st_set (rd_op ⟨.ref p4, rfl, rd_lst (rd_g3 (c := c) (σ := [some (.ref a), some (.int n), some (.str t), some (.int r), some (.int z), some (.ref p4), none, none, none, none, none]) (t := t) rfl ?_)⟩)
    refine fun ys H' s L E' => ⟨sz _ (by rw [L]; decide), fun b nb => ⟨p4, b, xs, ys, rfl, rfl, ?_, upd_same, sz _ (by rw [L, M2.len]; decide), fun p5 n5 => ?_⟩⟩
    · rw [upd_ne (ne_of_none (s _ _ M2.at_) nb)]
      exact s _ _ M2.at_
    have M3 : M c r z (upd (upd H' b (.lst ys)) p5 (.lst (xs ++ ys))) p5 (xs ++ ys) 28 := by
      have s2 : Same H' (upd (upd H' b (.lst ys)) p5 (.lst (xs ++ ys))) := (same_upd nb).trans (same_upd n5)
      have m2 := M2.same (s.trans s2)
      refine ⟨upd_same, by rw [List.length_append, L, m2.len], m2.es.app (by rw [m2.len]; exact E'.same s2), ?_⟩
      obtain ⟨a4, e4, q4⟩ := m2.five
      exact ⟨a4, by rw [List.getElem?_append_left (by rw [m2.len]; decide)]; exact e4, q4⟩
    dsimp only [gName]
    change tSeq (tAsg (tOp _ _ _) _) _ _ [some (.ref a), some (.int n), some (.str t), some (.int r), some (.int z), some (.ref p5), none, none, none, none, none] (upd (upd H' b (.lst ys)) p5 (.lst (xs ++ ys)))
    generalize upd (upd H' b (.lst ys)) p5 (.lst (xs ++ ys)) = H5 at M3 ⊢
    generalize xs ++ ys = xs at M3 ⊢
    clear L E' s nb n5
    refine st_set (rd_op ⟨.ref p5, rfl, rd_lst (rd_g4 (c := c) (σ := [some (.ref a), some (.int n), some (.str t), some (.int r), some (.int z), some (.ref p5), none, none, none, none, none]) (t := t) rfl ?_)⟩)
    refine fun ys H' s L E' => ⟨sz _ (by rw [L]; decide), fun b nb => ⟨p5, b, xs, ys, rfl, rfl, ?_, upd_same, sz _ (by rw [L, M3.len]; decide), fun p6 n6 => ?_⟩⟩
    · rw [upd_ne (ne_of_none (s _ _ M3.at_) nb)]
      exact s _ _ M3.at_
    have M4 : M c r z (upd (upd H' b (.lst ys)) p6 (.lst (xs ++ ys))) p6 (xs ++ ys) 31 := by
      have s2 : Same H' (upd (upd H' b (.lst ys)) p6 (.lst (xs ++ ys))) := (same_upd nb).trans (same_upd n6)
      have m2 := M3.same (s.trans s2)
      refine ⟨upd_same, by rw [List.length_append, L, m2.len], m2.es.app (by rw [m2.len]; exact E'.same s2), ?_⟩
      obtain ⟨a4, e4, q4⟩ := m2.five
      exact ⟨a4, by rw [List.getElem?_append_left (by rw [m2.len]; decide)]; exact e4, q4⟩
    dsimp only [gName]
    change tSeq (tFor _ _ _) _ _ [some (.ref a), some (.int n), some (.str t), some (.int r), some (.int z), some (.ref p6), none, none, none, none, none] (upd (upd H' b (.lst ys)) p6 (.lst (xs ++ ys)))
    generalize upd (upd H' b (.lst ys)) p6 (.lst (xs ++ ys)) = H6 at M4 ⊢
    generalize xs ++ ys = xs at M4 ⊢
    clear L E' s nb n6
    -- the loop
    refine ⟨.ref p6, rfl, p6, xs, rfl, .inl (.inl M4.at_), for_enumL (xs := xs) (fun i σ H => ∃ y6 y7, σ = [some (.ref a), some (.int n), some (.str t), some (.int r), some (.int z), some (.ref p6), y6, y7, none, none, none] ∧ M c r z H p6 xs 31)
      ⟨none, none, rfl, M4⟩ (fun i σ H h => ?_) (fun i x T σ H hx h nT => ?_) (fun σ H h => ?_)⟩
    · obtain ⟨_, _, _, m⟩ := h
      exact .inl (.inl m.at_)
    · obtain ⟨y6, y7, rfl, m⟩ := h
      obtain ⟨ai, rfl, hE⟩ := m.es i x hx
      rw [Nat.zero_add] at hE
      have hi : i < 31 := by
        have := (List.getElem?_eq_some_iff.mp hx).1
        rw [m.len] at this
        exact this
      refine ⟨T, _, rfl, .inl (.inl upd_same), rfl, _, _, rfl, _, _, rfl, rfl, ?_⟩
      have m1 := m.same (same_upd (o := .tup [.int (i : Nat), .ref ai]) nT)
      have hE1 := hE.same (same_upd (o := .tup [.int (i : Nat), .ref ai]) nT)
      dsimp only [gName]
      change tSeq (tIfS _ _ _) _ _ [some (.ref a), some (.int n), some (.str t), some (.int r), some (.int z), some (.ref p6), some (.int (i : Nat)), some (.ref ai), none, none, none] (upd H T (.tup [.int (i : Nat), .ref ai]))
      generalize upd H T (.tup [.int (i : Nat), .ref ai]) = H1 at m1 hE1 ⊢
      clear m hE nT
      refine ⟨.ref ai, rfl, ai, c i, .ref cP, .ref cP, true, rfl, .own _, hE1, T_.cl i hi, T_.kitP i hi, true, rfl, iteF ?_⟩
      refine ⟨.ref ai, rfl, ai, c i, .ty "ValueError", .type "ValueError", true, rfl, .ty _, hE1, T_.cl i hi, T_.kitV i hi, true, rfl, iteF ?_⟩
      refine ⟨.ref ai, rfl, ai, i, rfl, Nat.le_of_lt hi, ?_, fun H2 p s2 np e2 => ?_⟩
      · unfold cls
        rw [if_pos hi]
        exact hE1
      have m2 := m1.same s2
      have e31 : ((xs.length : Nat) : Int).toNat = 31 := by
        rw [m2.len]
        rfl
      refine ⟨.ref p6, rfl, p6, xs, rfl, .inl (.inl (.inl m2.at_)), (xs.length : Int), rfl, by omega, by rw [m2.len]; decide, fun D nD => ?_⟩
      rw [e31]
      refine lc_range (lo := 0) (n := 31) (fun k H3 => Same H2 H3 ∧ H3 D = some (.lst ((List.range k).map fun j => V.bl (decide (i = j))))) ⟨same_upd nD, upd_same⟩ (fun k H3 hk h => ?_) (fun H3 h => ?_)
      · obtain ⟨s3, e3⟩ := h
        refine ⟨rfl, _, rfl, _, rfl, rfl, _, e3, ?_, ?_, ?_⟩
        · rw [List.length_map, List.length_range]
          exact small1000 (by omega)
        · exact fun b o hb => by rw [upd_ne (ne_of_none hb nD)]; exact s3 _ _ hb
        · have ek : decide (V.int (0 + (k : Int)) = V.int (i : Int)) = decide (i = k) := by
            by_cases z : i = k
            · rw [z, Int.zero_add, decide_eq_true rfl, decide_eq_true rfl]
            · rw [decide_eq_false z, decide_eq_false]
              intro q
              have := V.int.inj q
              omega
          rw [upd_same, ek, List.range_succ, List.map_append]
          rfl
      · obtain ⟨s3, e3⟩ := h
        have dl : ∀ {p : Addr}, H3 p = some (.lst (flags i)) → Dp K H3 (.ref p) (.list (((List.range 31).map fun j => decide (i = j)).map PyData.bool)) := fun e => by
          rw [flags_bl] at e
          exact .lst (.inl (.inl e)) (dp_all_bl _)
        have sh : SeqAt.shaped (.list (((List.range 31).map fun j => decide (i = j)).map PyData.bool)) = true := shaped_bl _
        have eqv : PyData.eqv (.list (((List.range 31).map fun j => decide (i = j)).map PyData.bool)) (.list (((List.range 31).map fun j => decide (i = j)).map PyData.bool)) = true := SeqAt.eqv_refl _ (SeqAt.canLay_of_shaped sh)
        refine ⟨_, _, dl (s3 _ _ e2), dl e3, sh, sh, !PyData.eqv _ _, rfl, ?_⟩
        rw [eqv]
        refine iteF ⟨_, _, rfl, m2.same s3⟩
    · obtain ⟨y6, y7, rfl, m⟩ := h
      have X4 : XfC K (c 4) := xf_of (T_.cl 4 (by decide))
      -- the one above; word and row by their names
      refine ⟨_, rfl, fun b1 nb1 => ⟨.int z, rfl, .int r, rfl, fun b2 nb2 => ⟨b2, r, z, rfl, hr1', hz1', upd_same, fun d nd ne => ⟨rfl, _, _, rfl, ?_⟩⟩⟩⟩
      have sA : Same H (upd H b1 (ExO (.ref cP) b1)) := same_upd nb1
      have iA : IsE (upd H b1 (ExO (.ref cP) b1)) b1 cP := .inl upd_same
      have sB := made_same (r := r) (z := z) nb2 nd ne
      have iB : IsR (made (upd (upd H b1 (ExO (.ref cP) b1)) b2 (exo b2 (c 4) none)) b2 d (c 4) r z) b2 (c 4) r z := made_isR ne
      have m1 := m.same (sA.trans sB)
      have i1 := iA.same sB
      dsimp only
      change tSeq (tIfS _ _ _) _ _ [some (.ref a), some (.int n), some (.str t), some (.int r), some (.int z), some (.ref p6), y6, y7, some (.ref b1), some (.ref b2), none] (made (upd (upd H b1 (ExO (.ref cP) b1)) b2 (exo b2 (c 4) none)) b2 d (c 4) r z)
      generalize made (upd (upd H b1 (ExO (.ref cP) b1)) b2 (exo b2 (c 4) none)) b2 d (c 4) r z = H1 at iB m1 i1 ⊢
      clear sA sB iA nb1 nb2 nd ne m
      -- True in the flags of the one above
      refine ⟨.ref b1, rfl, b1, 31, rfl, Nat.le_refl _, i1, fun H2 p s2 np e2 => ⟨p, flags 31, rfl, .inl (.inl (.inl e2)), rfl, by decide +kernel, inV (.bl true) (flags 31), rfl, ?_⟩⟩
      rw [show inV (.bl true) (flags 31) = false by decide +kernel]
      have m2 := m1.same s2
      have i2 := i1.same s2
      have k2 := iB.same s2
      refine ⟨.ref b1, rfl, b1, cP, .ty "ValueError", .type "ValueError", true, rfl, .ty _, i2, T_.clP, T_.kitW, true, rfl, iteF ?_⟩
      -- the fields
      obtain ⟨a4, x4, d4, r1, r2⟩ := m2.five
      obtain ⟨d5, r3, r4⟩ := k2
      refine ⟨.ref p6, rfl, p6, xs, 4, .ref a4, rfl, rfl, .inl (.inl m2.at_), atI_nat (j := 4) x4, a4, c 4, d4, fld r z, .int r, rfl, r1, r2, X4, T_.nRow, rfl, ?_⟩
      refine ⟨.ref p6, rfl, p6, xs, 4, .ref a4, rfl, rfl, .inl (.inl m2.at_), atI_nat (j := 4) x4, a4, c 4, d4, fld r z, .int z, rfl, r1, r2, X4, T_.nWord, rfl, ?_⟩
      refine ⟨.ref b2, rfl, b2, c 4, d5, fld r z, .int r, rfl, r3, r4, X4, T_.nRow, rfl, ?_⟩
      refine ⟨.ref b2, rfl, b2, c 4, d5, fld r z, .int z, rfl, r3, r4, X4, T_.nWord, rfl, ?_⟩
      refine ⟨sz _ (by show 4 ≤ 100; decide), fun l1 nl1 => ⟨_, rfl, _, rfl, _, rfl, _, rfl, sz _ (by show 4 ≤ 100; decide), fun l2 nl2 => ?_⟩⟩
      have d4' : ∀ {p : Addr} {H : Hp}, H p = some (.lst [.int r, .int z, .int r, .int z]) → Dp K H (.ref p) (.list [.int r, .int z, .int r, .int z]) := fun e => .lst (.inl (.inl e)) (.cons (.int _) (.cons (.int _) (.cons (.int _) (.cons (.int _) .nil))))
      refine ⟨_, _, d4' (by rw [upd_ne (ne_of_none upd_same nl2), upd_same]), d4' upd_same, by rfl, by rfl, !PyData.eqv _ _, rfl, ?_⟩
      rw [SeqAt.eqv_refl _ (by rfl)]
      refine iteF ?_
      -- each is caught by its own class
      refine ⟨sz _ (by show 6 ≤ 100; decide), fun l3 nl3 => ⟨l3, rfl, ⟨_, .inl (.inl upd_same)⟩, fun D nD => ?_⟩⟩
      refine lc_list (K := K) (a := l3) (xs := [.int 0, .int 1, .int 3, .int 14, .int 28, .int 30]) (fun k H => H l3 = some (.lst [.int 0, .int 1, .int 3, .int 14, .int 28, .int 30]) ∧ H D = some (.lst (List.replicate k (V.bl true))))
        ⟨by rw [upd_ne (ne_of_none upd_same nD), upd_same], upd_same⟩ (fun k H _ h => .inl (.inl h.1)) (fun k x H hk h => ?_) (fun H h => ?_)
      · obtain ⟨h1, h2⟩ := h
        have hk6 : k < 6 := (List.getElem?_eq_some_iff.mp hk).1
        have lD : l3 ≠ D := fun e => by
          rw [e, upd_same] at nD
          cases nD
        have hx : ∃ v : Nat, x = .int (v : Int) ∧ v ∈ nums := by
          have e := List.mem_of_getElem? hk
          simp only [List.mem_cons, List.not_mem_nil, or_false] at e
          rcases e with rfl | rfl | rfl | rfl | rfl | rfl
          · exact ⟨0, rfl, by decide⟩
          · exact ⟨1, rfl, by decide⟩
          · exact ⟨3, rfl, by decide⟩
          · exact ⟨14, rfl, by decide⟩
          · exact ⟨28, rfl, by decide⟩
          · exact ⟨30, rfl, by decide⟩
        obtain ⟨v, rfl, hv⟩ := hx
        refine ⟨rfl, .int (v : Int), rfl, .str t, rfl, v, t, rfl, hv, fun H' s' => ⟨_, s' _ _ h2, ?_, ?_, ?_⟩⟩
        · rw [List.length_replicate]
          exact small1000 (by omega)
        · rw [upd_ne lD]
          exact s' _ _ h1
        · rw [upd_same, List.replicate_succ']
      · refine ⟨D, _, rfl, .inl (.inl (.inl h.2)), rfl, by rfl, inV (.bl false) (List.replicate 6 (.bl true)), rfl, ?_⟩
        rw [show inV (.bl false) (List.replicate 6 (.bl true)) = false by decide +kernel]
        refine iteF ?_
        exact ⟨_, rfl, _, rfl, r, z, rfl, hr1', hz1', fun H' _ => q H'⟩
end
end K00

set_option Elab.async false
set_option linter.all false
set_option maxRecDepth 100000
set_option maxHeartbeats 4000000
namespace K00
open PySem PySem.Spec PyProof.Rows L2 Mv
def veT : List Value := [.type "ValueError", .type "Exception", .type "BaseException", .type "object"]
/-- what is asked of a class's written part -/
def chk1 (K : PySem.W.Frag) (C : Addr) : Bool :=
  decide (PySem.W.findIn K (.ref C) "__getattribute__" = some (some (.builtin "BaseException.__getattribute__"))) && (decide (PySem.W.findIn K (.ref C) "__getattr__" = some none) && (decide (PySem.W.subIn K (.ref C) (.type "BaseException") = some true) &&
  (PySem.W.hasDictIn K C && (decide (PySem.W.findIn K (.ref C) "__class__" = some (some (.builtin "object.__class__"))) && (decide (PySem.W.specialIn K (.builtin "object.__class__") "__get__" = some (some (.builtin "getset_descriptor.__get__"))) &&
  (decide (PySem.W.takesIn K (.builtin "object.__class__") = some true) && (decide (PySem.W.mroIn K C (.type "object") = some true) && (PySem.W.keepIn K (.ref C) && decide (PySem.W.typeIn K (.ref C) = some (.type "type"))))))))))
theorem chk1_ok {K : PySem.W.Frag} {C : Addr} (h : chk1 K C = true) : ExcC K C ∧ PySem.W.keepIn K (.ref C) = true ∧ PySem.W.typeIn K (.ref C) = some (.type "type") := by
  unfold chk1 at h
  simp only [Bool.and_eq_true, decide_eq_true_eq] at h
  obtain ⟨h1, h2, h3, h4, h5, h6, h7, h8, h9, h10⟩ := h
  exact ⟨⟨h1, h2, h3, h4, h5, h6, h7, h8⟩, h9, h10⟩
def nc (Cs : List Addr) (i : Nat) : Addr := Cs.getD i 0
def upto (p : Nat → Bool) : Nat → Bool
  | 0 => true
  | n + 1 => upto p n && p n
theorem upto_ok {p : Nat → Bool} : ∀ {n : Nat}, upto p n = true → ∀ i, i < n → p i = true
  | 0, _, i, hi => absurd hi (Nat.not_lt_zero i)
  | n + 1, h, i, hi => by
    have h' : (upto p n && p n) = true := h
    rw [Bool.and_eq_true] at h'
    rcases Nat.lt_or_ge i n with lt | ge
    · exact upto_ok h'.1 i lt
    · obtain rfl : i = n := by omega
      exact h'.2
def chkA (K : PySem.W.Frag) (Cs : List Addr) (CP : Addr) : Bool :=
  upto (fun i => chk1 K (nc Cs i)) 31 && (chk1 K CP && (upto (fun i => i == 4 || PySem.W.excIn K (nc Cs i) veT "ValueError.__new__") 31 && (PySem.W.excIn K CP veT "ValueError.__new__" &&
  (upto (fun i => upto (fun j => decide (PySem.W.subIn K (.ref (nc Cs i)) (.ref (nc Cs j)) = some (decide (i = j)))) 31) 31 &&
  (upto (fun i => decide (PySem.W.subIn K (.ref (nc Cs i)) (.ref CP) = some true)) 31 && (upto (fun i => decide (PySem.W.subIn K (.ref (nc Cs i)) (.type "ValueError") = some true)) 31 &&
  (upto (fun j => decide (PySem.W.subIn K (.ref CP) (.ref (nc Cs j)) = some false)) 31 && (decide (PySem.W.subIn K (.ref CP) (.type "ValueError") = some true) &&
  upto (fun i => upto (fun j => decide (i = j) || !decide (nc Cs i = nc Cs j)) 31) 31 && upto (fun i => !decide (nc Cs i = CP)) 31))))))))
theorem kit_ref {K : PySem.W.Frag} {A B : Addr} {b : Bool} (hd : PySem.W.hasDictIn K B = true) (ht : PySem.W.typeIn K (.ref B) = some (.type "type")) (hs : PySem.W.subIn K (.ref A) (.ref B) = some b) (hb : A = B → b = true) : PySem.W.kitOne K (.ref A) (.ref B) = some b := by
  unfold PySem.W.kitOne
  by_cases e : A = B
  · subst e
    rw [if_pos (by simp), hb rfl]
  · rw [if_neg (by simpa using e)]
    obtain ⟨cd, hc, _⟩ := PySem.W.any_some hd
    show (if ((PySem.W.clsIn K B).isSome && PySem.W.typeIn K (.ref B) == some (.type "type")) = true then PySem.W.subIn K (.ref A) (.ref B) else none) = some b
    rw [if_pos (by rw [hc, ht]; rfl)]
    exact hs
theorem kit_VE {K : PySem.W.Frag} {A : Addr} {b : Bool} (hs : PySem.W.subIn K (.ref A) (.type "ValueError") = some b) : PySem.W.kitOne K (.ref A) (.type "ValueError") = some b := by
  show (if PySem.W.kitMeta "ValueError" = true then PySem.W.subIn K (.ref A) (.type "ValueError") else none) = some b
  rw [if_pos (by decide +kernel)]
  exact hs
section
variable {K : PySem.W.Frag} {mg : Str → Option Value} {h : Heap}
theorem txt_mk (X : K.In h) (G : h.Ns mainGlobals mg) {C0 C1 C2 C3 C4 C5 C6 C7 C8 C9 C10 C11 C12 C13 C14 C15 C16 C17 C18 C19 C20 C21 C22 C23 C24 C25 C26 C27 C28 C29 C30 CP fI : Addr} (a0 : PySem.W.nsIn K mainGlobals "BadWeb" = some (some (.ref C0))) (a1 : PySem.W.nsIn K mainGlobals "BadPlace" = some (some (.ref C1))) (a2 : PySem.W.nsIn K mainGlobals "BadRoad" = some (some (.ref C2))) (a3 : PySem.W.nsIn K mainGlobals "BadPieces" = some (some (.ref C3))) (a4 : PySem.W.nsIn K mainGlobals "BadRows" = some (some (.ref C4))) (a5 : PySem.W.nsIn K mainGlobals "BadRota" = some (some (.ref C5))) (a6 : PySem.W.nsIn K mainGlobals "BadRanks" = some (some (.ref C6))) (a7 : PySem.W.nsIn K mainGlobals "BadCount" = some (some (.ref C7))) (a8 : PySem.W.nsIn K mainGlobals "BadWeek" = some (some (.ref C8))) (a9 : PySem.W.nsIn K mainGlobals "BadMoment" = some (some (.ref C9))) (a10 : PySem.W.nsIn K mainGlobals "BadTrail" = some (some (.ref C10))) (a11 : PySem.W.nsIn K mainGlobals "BadWay" = some (some (.ref C11))) (a12 : PySem.W.nsIn K mainGlobals "BadOrders" = some (some (.ref C12))) (a13 : PySem.W.nsIn K mainGlobals "BadIndex" = some (some (.ref C13))) (a14 : PySem.W.nsIn K mainGlobals "BadTree" = some (some (.ref C14))) (a15 : PySem.W.nsIn K mainGlobals "BadTable" = some (some (.ref C15))) (a16 : PySem.W.nsIn K mainGlobals "BadSnow" = some (some (.ref C16))) (a17 : PySem.W.nsIn K mainGlobals "BadRing" = some (some (.ref C17))) (a18 : PySem.W.nsIn K mainGlobals "BadChain" = some (some (.ref C18))) (a19 : PySem.W.nsIn K mainGlobals "BadDay" = some (some (.ref C19))) (a20 : PySem.W.nsIn K mainGlobals "BadReports" = some (some (.ref C20))) (a21 : PySem.W.nsIn K mainGlobals "BadRotas" = some (some (.ref C21))) (a22 : PySem.W.nsIn K mainGlobals "BadScript" = some (some (.ref C22))) (a23 : PySem.W.nsIn K mainGlobals "BadName" = some (some (.ref C23))) (a24 : PySem.W.nsIn K mainGlobals "BadDemands" = some (some (.ref C24))) (a25 : PySem.W.nsIn K mainGlobals "BadJoin" = some (some (.ref C25))) (a26 : PySem.W.nsIn K mainGlobals "BadTurns" = some (some (.ref C26))) (a27 : PySem.W.nsIn K mainGlobals "NothingToUndo" = some (some (.ref C27))) (a28 : PySem.W.nsIn K mainGlobals "Full" = some (some (.ref C28))) (a29 : PySem.W.nsIn K mainGlobals "BadCommand" = some (some (.ref C29))) (a30 : PySem.W.nsIn K mainGlobals "TooMany" = some (some (.ref C30))) (aP : PySem.W.nsIn K mainGlobals "PostError" = some (some (.ref CP)))
    (ck : chkA K [C0, C1, C2, C3, C4, C5, C6, C7, C8, C9, C10, C11, C12, C13, C14, C15, C16, C17, C18, C19, C20, C21, C22, C23, C24, C25, C26, C27, C28, C29, C30] CP = true) {nm q : Str} {N : Addr} {bs : List Value} {sn : List Str} {sub : List Value} {ab : Bool} {col : Option Bool} {dd : Option Addr} {m0 m1 m2 m3 m5 : Option Value}
    (xL : K.lookup C4 = some (excClassObj nm q C4 N bs (.ref CP :: veT) true sn sub ab col dd m0 m1 m2 m3 m5 "ValueError.__new__")) (sa : PySem.W.findIn K (.ref C4) "__setattr__" = some (some (.builtin "object.__setattr__")))
    (iC : PySem.W.findIn K (.ref C4) "__init__" = some (some (.ref fI))) (tI : PySem.W.typeIn K (.ref fI) = some (.type "function")) (nR : PySem.W.findIn K (.ref C4) "row" = some none) (nW : PySem.W.findIn K (.ref C4) "word" = some none)
    (b1 : PySem.W.specialIn K (.ref CP) "__getattribute__" = some (some (.builtin "type.__getattribute__"))) (b2 : PySem.W.readsIn K CP (.type "type") = true) (b3 : PySem.W.findCls K (.ref CP) (.type "type") "__init__" = some (.val (.builtin "ValueError.__init__")))
    (z1 : PySem.W.nsIn K mainGlobals "isinstance" = some none) (z2 : PySem.W.nsIn K mainGlobals "ValueError" = some none) (z3 : PySem.W.nsIn K mainGlobals "sum" = some none) (z4 : PySem.W.nsIn K mainGlobals "str" = some none) (z5 : PySem.W.nsIn K mainGlobals "int" = some none)
    (z6 : PySem.W.nsIn K mainGlobals "enumerate" = some none) (z7 : PySem.W.nsIn K mainGlobals "len" = some none) (z8 : PySem.W.nsIn K mainGlobals "range" = some none) : Txt K mg (nc [C0, C1, C2, C3, C4, C5, C6, C7, C8, C9, C10, C11, C12, C13, C14, C15, C16, C17, C18, C19, C20, C21, C22, C23, C24, C25, C26, C27, C28, C29, C30]) CP fI := by
  unfold chkA at ck
  simp only [Bool.and_eq_true] at ck
  obtain ⟨k1, k2, k3, k4, k5, k6, k7, k8, ⟨k9, k10⟩, k11⟩ := ck
  have cl : ∀ i, i < 31 → ExcC K (nc [C0, C1, C2, C3, C4, C5, C6, C7, C8, C9, C10, C11, C12, C13, C14, C15, C16, C17, C18, C19, C20, C21, C22, C23, C24, C25, C26, C27, C28, C29, C30] i) ∧ PySem.W.keepIn K (.ref (nc [C0, C1, C2, C3, C4, C5, C6, C7, C8, C9, C10, C11, C12, C13, C14, C15, C16, C17, C18, C19, C20, C21, C22, C23, C24, C25, C26, C27, C28, C29, C30] i)) = true ∧ PySem.W.typeIn K (.ref (nc [C0, C1, C2, C3, C4, C5, C6, C7, C8, C9, C10, C11, C12, C13, C14, C15, C16, C17, C18, C19, C20, C21, C22, C23, C24, C25, C26, C27, C28, C29, C30] i)) = some (.type "type") := fun i hi => chk1_ok (upto_ok k1 i hi)
  obtain ⟨clP, kpP, tyP⟩ := chk1_ok k2
  have sij : ∀ i j, i < 31 → j < 31 → PySem.W.subIn K (.ref (nc [C0, C1, C2, C3, C4, C5, C6, C7, C8, C9, C10, C11, C12, C13, C14, C15, C16, C17, C18, C19, C20, C21, C22, C23, C24, C25, C26, C27, C28, C29, C30] i)) (.ref (nc [C0, C1, C2, C3, C4, C5, C6, C7, C8, C9, C10, C11, C12, C13, C14, C15, C16, C17, C18, C19, C20, C21, C22, C23, C24, C25, C26, C27, C28, C29, C30] j)) = some (decide (i = j)) := fun i j hi hj => of_decide_eq_true (upto_ok (upto_ok k5 i hi) j hj)
  have ne : ∀ i j, i < 31 → j < 31 → nc [C0, C1, C2, C3, C4, C5, C6, C7, C8, C9, C10, C11, C12, C13, C14, C15, C16, C17, C18, C19, C20, C21, C22, C23, C24, C25, C26, C27, C28, C29, C30] i = nc [C0, C1, C2, C3, C4, C5, C6, C7, C8, C9, C10, C11, C12, C13, C14, C15, C16, C17, C18, C19, C20, C21, C22, C23, C24, C25, C26, C27, C28, C29, C30] j → decide (i = j) = true := fun i j hi hj e => by
    have z := upto_ok (upto_ok k10 i hi) j hj
    rw [decide_eq_true e] at z
    simpa using z
  have neP : ∀ i, i < 31 → nc [C0, C1, C2, C3, C4, C5, C6, C7, C8, C9, C10, C11, C12, C13, C14, C15, C16, C17, C18, C19, C20, C21, C22, C23, C24, C25, C26, C27, C28, C29, C30] i ≠ CP := fun i hi e => by
    have z := upto_ok k11 i hi
    rw [decide_eq_true e] at z
    cases z
  refine ⟨fun i hi => ?_, PySem.W.mg_of X G aP, fun i hi h4 => ?_, k4, fun i hi => (cl i hi).2.1, kpP, fun i hi => (cl i hi).1, clP, fun i j hi hj => kit_ref (cl j hj).1.hd (cl j hj).2.2 (sij i j hi hj) (ne i j hi hj),
    fun i hi => kit_ref clP.hd tyP (of_decide_eq_true (upto_ok k6 i hi)) (fun e => absurd e (neP i hi)), fun i hi => kit_VE (of_decide_eq_true (upto_ok k7 i hi)), fun j hj => kit_ref (cl j hj).1.hd (cl j hj).2.2 (of_decide_eq_true (upto_ok k8 j hj)) (fun e => absurd e.symm (neP j hj)),
    kit_VE (of_decide_eq_true k9), fun i hi => (cl i hi).2.2, fun i j hi hj => PySem.W.exm_ref (cl j hj).1.hs (cl j hj).1.hd (cl j hj).2.2 (sij i j hi hj), PySem.W.exm_ref clP.hs clP.hd tyP (of_decide_eq_true (upto_ok k6 4 (by decide))),
    ⟨⟨nm, q, N, bs, _, sn, sub, ab, col, dd, m0, m1, m2, m3, m5, xL, by rfl⟩, sa, (cl 4 (by decide)).1.hs, (cl 4 (by decide)).2.2, (cl 4 (by decide)).2.1⟩, iC, tI, nR, nW, ⟨b1, b2, b3⟩,
    PySem.W.mg_none_of X G z1, PySem.W.mg_none_of X G z2, PySem.W.mg_none_of X G z3, PySem.W.mg_none_of X G z4, PySem.W.mg_none_of X G z5, PySem.W.mg_none_of X G z6, PySem.W.mg_none_of X G z7, PySem.W.mg_none_of X G z8⟩
  · exact match i, hi with | 0, _ => PySem.W.mg_of X G a0 | 1, _ => PySem.W.mg_of X G a1 | 2, _ => PySem.W.mg_of X G a2 | 3, _ => PySem.W.mg_of X G a3 | 4, _ => PySem.W.mg_of X G a4 | 5, _ => PySem.W.mg_of X G a5 | 6, _ => PySem.W.mg_of X G a6 | 7, _ => PySem.W.mg_of X G a7 | 8, _ => PySem.W.mg_of X G a8 | 9, _ => PySem.W.mg_of X G a9 | 10, _ => PySem.W.mg_of X G a10 | 11, _ => PySem.W.mg_of X G a11 | 12, _ => PySem.W.mg_of X G a12 | 13, _ => PySem.W.mg_of X G a13 | 14, _ => PySem.W.mg_of X G a14 | 15, _ => PySem.W.mg_of X G a15 | 16, _ => PySem.W.mg_of X G a16 | 17, _ => PySem.W.mg_of X G a17 | 18, _ => PySem.W.mg_of X G a18 | 19, _ => PySem.W.mg_of X G a19 | 20, _ => PySem.W.mg_of X G a20 | 21, _ => PySem.W.mg_of X G a21 | 22, _ => PySem.W.mg_of X G a22 | 23, _ => PySem.W.mg_of X G a23 | 24, _ => PySem.W.mg_of X G a24 | 25, _ => PySem.W.mg_of X G a25 | 26, _ => PySem.W.mg_of X G a26 | 27, _ => PySem.W.mg_of X G a27 | 28, _ => PySem.W.mg_of X G a28 | 29, _ => PySem.W.mg_of X G a29 | 30, _ => PySem.W.mg_of X G a30 | n + 31, z => absurd z (by omega)
  · have z := upto_ok k3 i hi
    rw [Bool.or_eq_true] at z
    exact z.resolve_left (fun e => h4 (by simpa using e))
theorem all_mk {l : PySem.W.OpenLaw} {w : World} {fa : Addr} (X : K.In h) (G : h.Ns mainGlobals mg) (hfa : mg "law" = some (.ref fa)) {C0 C1 C2 C3 C4 C5 C6 C7 C8 C9 C10 C11 C12 C13 C14 C15 C16 C17 C18 C19 C20 C21 C22 C23 C24 C25 C26 C27 C28 C29 C30 CP fI fF fC fB fL : Addr} {odI anI : Option Addr} {slI : Array (Option Value)} {ocI kVI dcI pmI cdI ctI : Value} {odF anF : Option Addr} {slF : Array (Option Value)} {ocF kVF dcF pmF cdF ctF : Value} {odC anC : Option Addr} {slC : Array (Option Value)} {ocC kVC dcC pmC cdC ctC : Value} {odB anB : Option Addr} {slB : Array (Option Value)} {ocB kVB dcB pmB cdB ctB : Value} {odL anL : Option Addr} {slL : Array (Option Value)} {ocL kVL dcL pmL cdL ctL : Value} (a0 : PySem.W.nsIn K mainGlobals "BadWeb" = some (some (.ref C0))) (a1 : PySem.W.nsIn K mainGlobals "BadPlace" = some (some (.ref C1))) (a2 : PySem.W.nsIn K mainGlobals "BadRoad" = some (some (.ref C2))) (a3 : PySem.W.nsIn K mainGlobals "BadPieces" = some (some (.ref C3))) (a4 : PySem.W.nsIn K mainGlobals "BadRows" = some (some (.ref C4))) (a5 : PySem.W.nsIn K mainGlobals "BadRota" = some (some (.ref C5))) (a6 : PySem.W.nsIn K mainGlobals "BadRanks" = some (some (.ref C6))) (a7 : PySem.W.nsIn K mainGlobals "BadCount" = some (some (.ref C7))) (a8 : PySem.W.nsIn K mainGlobals "BadWeek" = some (some (.ref C8))) (a9 : PySem.W.nsIn K mainGlobals "BadMoment" = some (some (.ref C9))) (a10 : PySem.W.nsIn K mainGlobals "BadTrail" = some (some (.ref C10))) (a11 : PySem.W.nsIn K mainGlobals "BadWay" = some (some (.ref C11))) (a12 : PySem.W.nsIn K mainGlobals "BadOrders" = some (some (.ref C12))) (a13 : PySem.W.nsIn K mainGlobals "BadIndex" = some (some (.ref C13))) (a14 : PySem.W.nsIn K mainGlobals "BadTree" = some (some (.ref C14))) (a15 : PySem.W.nsIn K mainGlobals "BadTable" = some (some (.ref C15))) (a16 : PySem.W.nsIn K mainGlobals "BadSnow" = some (some (.ref C16))) (a17 : PySem.W.nsIn K mainGlobals "BadRing" = some (some (.ref C17))) (a18 : PySem.W.nsIn K mainGlobals "BadChain" = some (some (.ref C18))) (a19 : PySem.W.nsIn K mainGlobals "BadDay" = some (some (.ref C19))) (a20 : PySem.W.nsIn K mainGlobals "BadReports" = some (some (.ref C20))) (a21 : PySem.W.nsIn K mainGlobals "BadRotas" = some (some (.ref C21))) (a22 : PySem.W.nsIn K mainGlobals "BadScript" = some (some (.ref C22))) (a23 : PySem.W.nsIn K mainGlobals "BadName" = some (some (.ref C23))) (a24 : PySem.W.nsIn K mainGlobals "BadDemands" = some (some (.ref C24))) (a25 : PySem.W.nsIn K mainGlobals "BadJoin" = some (some (.ref C25))) (a26 : PySem.W.nsIn K mainGlobals "BadTurns" = some (some (.ref C26))) (a27 : PySem.W.nsIn K mainGlobals "NothingToUndo" = some (some (.ref C27))) (a28 : PySem.W.nsIn K mainGlobals "Full" = some (some (.ref C28))) (a29 : PySem.W.nsIn K mainGlobals "BadCommand" = some (some (.ref C29))) (a30 : PySem.W.nsIn K mainGlobals "TooMany" = some (some (.ref C30))) (aP : PySem.W.nsIn K mainGlobals "PostError" = some (some (.ref CP)))
    (ck : chkA K [C0, C1, C2, C3, C4, C5, C6, C7, C8, C9, C10, C11, C12, C13, C14, C15, C16, C17, C18, C19, C20, C21, C22, C23, C24, C25, C26, C27, C28, C29, C30] CP = true) {nm q : Str} {N : Addr} {bs : List Value} {sn : List Str} {sub : List Value} {ab : Bool} {col : Option Bool} {dd : Option Addr} {m0 m1 m2 m3 m5 : Option Value}
    (xL : K.lookup C4 = some (excClassObj nm q C4 N bs (.ref CP :: veT) true sn sub ab col dd m0 m1 m2 m3 m5 "ValueError.__new__")) (sa : PySem.W.findIn K (.ref C4) "__setattr__" = some (some (.builtin "object.__setattr__")))
    (iC : PySem.W.findIn K (.ref C4) "__init__" = some (some (.ref fI))) (tI : PySem.W.typeIn K (.ref fI) = some (.type "function")) (nR : PySem.W.findIn K (.ref C4) "row" = some none) (nW : PySem.W.findIn K (.ref C4) "word" = some none)
    (b1 : PySem.W.specialIn K (.ref CP) "__getattribute__" = some (some (.builtin "type.__getattribute__"))) (b2 : PySem.W.readsIn K CP (.type "type") = true) (b3 : PySem.W.findCls K (.ref CP) (.type "type") "__init__" = some (.val (.builtin "ValueError.__init__")))
    (z1 : PySem.W.nsIn K mainGlobals "isinstance" = some none) (z2 : PySem.W.nsIn K mainGlobals "ValueError" = some none) (z3 : PySem.W.nsIn K mainGlobals "sum" = some none) (z4 : PySem.W.nsIn K mainGlobals "str" = some none) (z5 : PySem.W.nsIn K mainGlobals "int" = some none)
    (z6 : PySem.W.nsIn K mainGlobals "enumerate" = some none) (z7 : PySem.W.nsIn K mainGlobals "len" = some none) (z8 : PySem.W.nsIn K mainGlobals "range" = some none) (lI : K.lookup fI = some ⟨ocI, odI, .func (PySem.W.fnOf "__init__" "BadRows.__init__" (defArgs sInit) (defBody sInit) (defScope sInit) .none kVI dcI pmI anI cdI ctI), slI⟩) (cI : PySem.W.codeIn K cdI "BadRows.__init__" = true) (kI : PySem.W.keepIn K (.ref fI) = true) (aF : PySem.W.nsIn K mainGlobals "_law_flags" = some (some (.ref fF))) (lF : K.lookup fF = some ⟨ocF, odF, .func (PySem.W.fnOf "_law_flags" "_law_flags" (defArgs sFlags) (defBody sFlags) (defScope sFlags) .none kVF dcF pmF anF cdF ctF), slF⟩) (cF : PySem.W.codeIn K cdF "_law_flags" = true) (kF : PySem.W.keepIn K (.ref fF) = true) (aC : PySem.W.nsIn K mainGlobals "_law_is_caught" = some (some (.ref fC))) (lC : K.lookup fC = some ⟨ocC, odC, .func (PySem.W.fnOf "_law_is_caught" "_law_is_caught" (defArgs sCaught) (defBody sCaught) (defScope sCaught) .none kVC dcC pmC anC cdC ctC), slC⟩) (cC : PySem.W.codeIn K cdC "_law_is_caught" = true) (kC : PySem.W.keepIn K (.ref fC) = true) (aB : PySem.W.nsIn K mainGlobals "_law_is_base_caught" = some (some (.ref fB))) (lB : K.lookup fB = some ⟨ocB, odB, .func (PySem.W.fnOf "_law_is_base_caught" "_law_is_base_caught" (defArgs sBase) (defBody sBase) (defScope sBase) .none kVB dcB pmB anB cdB ctB), slB⟩) (cB : PySem.W.codeIn K cdB "_law_is_base_caught" = true) (kB : PySem.W.keepIn K (.ref fB) = true) (aL : PySem.W.nsIn K mainGlobals "law" = some (some (.ref fL))) (lL : K.lookup fL = some ⟨ocL, odL, .func (PySem.W.fnOf "law" "law" (defArgs sLaw) (defBody sLaw) (defScope sLaw) .none kVL dcL pmL anL cdL ctL), slL⟩) (cL : PySem.W.codeIn K cdL "law" = true) (kL : PySem.W.keepIn K (.ref fL) = true) :
    ∃ fd : FuncData, (∀ (s : Shared) (v : Value), BindsTo s fd ⟨[v], []⟩ [("_law_script", v)]) ∧ ∀ base : Heap, K.In base → base.Ns mainGlobals mg → FnOk l.prog w K mg base CX0 5 fa fd ["_law_script"] (spLaw K) := by
  have e := hfa.symm.trans (PySem.W.mg_of X G aL)
  cases e
  have T := txt_mk X G a0 a1 a2 a3 a4 a5 a6 a7 a8 a9 a10 a11 a12 a13 a14 a15 a16 a17 a18 a19 a20 a21 a22 a23 a24 a25 a26 a27 a28 a29 a30 aP ck xL sa iC tI nR nW b1 b2 b3 z1 z2 z3 z4 z5 z6 z7 z8
  have FI := fun_mk (st := sInit) lI cI kI
  have FF := fun_mk (st := sFlags) lF cF kF
  have FC := fun_mk (st := sCaught) lC cC kC
  have FB := fun_mk (st := sBase) lB cB kB
  have FL := fun_mk (st := sLaw) lL cL kL
  have bI := FI.binds (ps := ["self", "row", "word"]) fun _ _ _ _ _ _ us hl => match us, hl with | [_, _, _], _ => rfl
  have bF := FF.binds (ps := ["_law_e"]) fun _ _ _ _ _ _ us hl => match us, hl with | [_], _ => rfl
  have bC := FC.binds (ps := ["_law_number", "_law_text"]) fun _ _ _ _ _ _ us hl => match us, hl with | [_, _], _ => rfl
  have bB := FB.binds (ps := ["_law_row", "_law_word"]) fun _ _ _ _ _ _ us hl => match us, hl with | [_, _], _ => rfl
  exact ⟨_, fun s v => .of_eq rfl, fun base _ _ => ok_law T FL FI bI FF bF (PySem.W.mg_of X G aF) FC bC (PySem.W.mg_of X G aC) FB bB (PySem.W.mg_of X G aB)⟩
end
end K00

open PySem PySem.W PyProof.Rows
set_option maxRecDepth 100000 in
set_option maxHeartbeats 0 in
theorem PySem.Challenge.cw_roundpost_k00_error_classes_holds : PySem.Challenge.rw_roundpost_k00_error_classes.Holds := by
  w_on; o_law; k_head; (case hw => w_witness2)
  k_fill
  refine L2.walk_of (l := PySem.Challenge.rw_roundpost_k00_error_classes) (n := 63) (k := 5) (x := "_law_script") (CX := fun _ => L2.CX0) (sp := fun w => K00.spLaw _) rfl (by decide) rfl ⟨rfl, by decide, by decide⟩ (fun w h Y => PySem.W.kIn_of Y) ?F (fun _ _ a ns hl _ hS => ⟨a, ns, rfl, hS, hl, fun _ => rfl⟩) (fun _ _ _ _ _ h => h)
  case F =>
    intro w mg fa h KX G hmg
    refine' K00.all_mk KX G hmg ?a0 ?a1 ?a2 ?a3 ?a4 ?a5 ?a6 ?a7 ?a8 ?a9 ?a10 ?a11 ?a12 ?a13 ?a14 ?a15 ?a16 ?a17 ?a18 ?a19 ?a20 ?a21 ?a22 ?a23 ?a24 ?a25 ?a26 ?a27 ?a28 ?a29 ?a30 ?aP ?ck ?xL ?sa ?iC ?tI ?nR ?nW ?b1 ?b2 ?b3 ?z1 ?z2 ?z3 ?z4 ?z5 ?z6 ?z7 ?z8 ?lI ?cI ?kI ?aF ?lF ?cF ?kF ?aC ?lC ?cC ?kC ?aB ?lB ?cB ?kB ?aL ?lL ?cL ?kL
    (case a0 => k_is)
    (case a1 => k_is)
    (case a2 => k_is)
    (case a3 => k_is)
    (case a4 => k_is)
    (case a5 => k_is)
    (case a6 => k_is)
    (case a7 => k_is)
    (case a8 => k_is)
    (case a9 => k_is)
    (case a10 => k_is)
    (case a11 => k_is)
    (case a12 => k_is)
    (case a13 => k_is)
    (case a14 => k_is)
    (case a15 => k_is)
    (case a16 => k_is)
    (case a17 => k_is)
    (case a18 => k_is)
    (case a19 => k_is)
    (case a20 => k_is)
    (case a21 => k_is)
    (case a22 => k_is)
    (case a23 => k_is)
    (case a24 => k_is)
    (case a25 => k_is)
    (case a26 => k_is)
    (case a27 => k_is)
    (case a28 => k_is)
    (case a29 => k_is)
    (case a30 => k_is)
    (case aP => k_is)
    (case xL => k_is)
    (case sa => k_is)
    (case iC => k_is)
    (case tI => k_is)
    (case nR => k_is)
    (case nW => k_is)
    (case b1 => k_is)
    (case b2 => k_is)
    (case b3 => k_is)
    (case z1 => k_is)
    (case z2 => k_is)
    (case z3 => k_is)
    (case z4 => k_is)
    (case z5 => k_is)
    (case z6 => k_is)
    (case z7 => k_is)
    (case z8 => k_is)
    (case lI => k_is)
    (case cI => k_is)
    (case kI => k_is)
    (case aF => k_is)
    (case lF => k_is)
    (case cF => k_is)
    (case kF => k_is)
    (case aC => k_is)
    (case lC => k_is)
    (case cC => k_is)
    (case kC => k_is)
    (case aB => k_is)
    (case lB => k_is)
    (case cB => k_is)
    (case kB => k_is)
    (case aL => k_is)
    (case lL => k_is)
    (case cL => k_is)
    (case kL => k_is)
    (case ck => kernel_rfl)
