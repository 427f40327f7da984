import PyProof.Rows.All
import Wide.All
import OpenK.AllK
import Wide.FinOn
import KE.KExcIs
import HandS.ForMost
import HandS.Exc
import HandS.ExcOwn
import HandS.ExcInit
import HandS.Defaults
import HandS.IsInst
import HandS.ClsMeth
import HandS.HeadWalk
import HandS.ExcValue
import HandS.HeadHook2
import HandS.HeadEnd
import HandS.Head0
import HandS.Head1
import HandS.Head2
import HandS.Comp
import HandS.Iter
import HandS.WideBits
import PySem.Challenge.RW_bandsplits_k05_whole_errors_keep_what_th
set_option Elab.async false
set_option linter.all false
set_option maxRecDepth 100000
set_option maxHeartbeats 0
/-! exceptions that are held as values -/
namespace PySem
namespace VkX
section
variable {M : Model} {A : Around} {E : Value → Shared → Prop} {h : Heap} {g : Array GenState} {d : Drawn} {t : Nat} {os : OsState}
variable {nm q : Str} {C N : Addr} {bs bm bmB : List Value} {hdct : Bool} {sn : List Str} {sub : List Value} {ab : Bool} {col : Option Bool} {dd : Option Addr} {k0 k1 k2 k3 k5 : Option Value} {B newId initId : String}
theorem chk_new (F : ExcBaseFacts B newId initId bmB) (hT : ∀ Y : String, bm.contains (.type Y) = bmB.contains (.type Y)) {us : List Value} {kw : List (Str × Value)} {Q : Unit → Shared → Prop}
    (hC : h.get? C = some (excClassObj nm q C N bs bm hdct sn sub ab col dd k0 k1 k2 k3 k5 newId)) (hq : Q () ⟨h, g, d, t, os⟩) :
    wpAny M A (checkBuiltinCall newId ⟨.ref C :: us, kw⟩) Q E ⟨h, g, d, t, os⟩ := by
  have c1 : (Value.ref C :: bm).contains (.type B) = true := by
    rw [List.contains_cons, hT, F.hasB]
    exact Bool.or_true _
  have c2 := F.noStar
  simp only [checkBuiltinCall, F.newKind, F.newSplit, F.newRow]
  repeat (first
    | refine wpAny_loadPart_at hC ?_
    | (refine wpAny_isSubtype_exc hC ?_
       rw [c1])
    | refine wpAny_staticBase_exc hC ?_
    | refine wpAny_madeBy_exc hC ?_
    | simp only [bne_self_eq_false, Bool.false_eq_true, if_false]
    | wp_step)
  exact hq
end
section
variable {prog : Program} {w : World} {A : Around} {E : Value → Shared → Prop} {R : Result → Shared → Prop} {h : Heap} {g : Array GenState} {d : Drawn} {t : Nat} {os : OsState}
variable {nm q : Str} {C N : Addr} {bs bm bmB : List Value} {hdct : Bool} {sn : List Str} {sub : List Value} {ab : Bool} {col : Option Bool} {dd : Option Addr} {k0 k1 k2 k3 k5 : Option Value} {B newId initId : String}
theorem mk_new (F : ExcBaseFacts B newId initId bmB) (hT : ∀ Y : String, bm.contains (.type Y) = bmB.contains (.type Y)) {us : List Value} {kw : List (Str × Value)}
    (hC : h.get? C = some (excClassObj nm q C N bs bm hdct sn sub ab col dd k0 k1 k2 k3 k5 newId)) (hz : us.length ≤ sizeLine)
    (hq : R (.ok (.ret (.ref (h.objs.size + 1)))) ⟨(h.push (PySem.W.kdv_tup us)).push (PySem.HandSPX.excO C h.objs.size), g, d, t, os⟩) :
    codeAny (model prog w) A (.builtin newId ⟨.ref C :: us, kw⟩) R ⟨h, g, d, t, os⟩ := by
  have e1 := F.ends
  have e2 : (Value.ref C :: bm).contains (.type B) = true := by
    rw [List.contains_cons, hT, F.hasB]
    exact Bool.or_true _
  have e3 : (Value.ref C :: bm).contains (.type "AttributeError") = false := by
    rw [List.contains_cons, hT, F.noAttr]
    rfl
  have e4 : (Value.ref C :: bm).contains (.type "NameError") = false := by
    rw [List.contains_cons, hT, F.noName]
    rfl
  refine codeAny_builtinAt F.entry ?_
  unfold Builtin.«BaseException.__new__»
  refine wpAt_bind ?_
  show wpAt _ _ _ (stack >>= _) _ _ _
  refine wpAt_bind (wpAt_stack fun p below => wpAt_of_wpAny ?_)
  wp_walk
  refine wpAt_of_wpAny ?_
  rw [F.owner]
  repeat (first
    | with_reducible refine wpAny_madeHere_exc F.canon hC ?_
    | with_reducible refine wpAny_loadPart_at hC ?_
    | (with_reducible refine wpAny_isSubtype_exc hC ?_
       first
       | rw [e2]
       | rw [e3]
       | rw [e4])
    | wp_step)
  show R _ _
  rw [Heap.size_push]
  exact hq
theorem tc_new (F : ExcBaseFacts B newId initId bmB) (hT : ∀ Y : String, bm.contains (.type Y) = bmB.contains (.type Y)) {us : List Value} {kw : List (Str × Value)} {fI : Addr} {Q : Fin → Shared → Prop}
    (hC : h.get? C = some (excClassObj nm q C N bs bm hdct sn sub ab col dd k0 k1 k2 k3 k5 newId)) (hz : us.length ≤ sizeLine)
    (hi : W.Looks (model prog w) h (typeLookup (.ref C) "__init__") (some (.ref fI))) (hb : ∀ self, W.Looks (model prog w) h (bindSpecial (.ref fI) self) (.ref fI, [self]))
    (hq : codeAny (model prog w) A (.call (.ref fI) ⟨.ref (h.objs.size + 1) :: us, kw⟩)
      (fun r s' => match r with | .ok (.ret v) => v = .none ∧ Q (.done (.ret (.ref (h.objs.size + 1)))) s' | .ok _ => False | .error e => E e s')
      ⟨(h.push (W.kdv_tup us)).push (HandSPX.excO C h.objs.size), g, d, t, os⟩) :
    wpAny (model prog w) A (Builtin.«type.__call__» ⟨.ref C :: us, kw⟩) Q E ⟨h, g, d, t, os⟩ := by
  repeat (first
    | with_reducible refine wpAny_loadPart_at hC ?_
    | with_reducible refine wpAny_madeBy_exc hC ?_
    | wp_step)
  refine codeAny_call_builtin_code (Code.quiet_builtin _ F.quiet) (chk_new F hT hC ?_)
  refine mk_new F hT hC hz ?_
  show wpAny _ _ _ _ _ _
  have kk : ∀ b o, h.get? b = some o → ((h.push (W.kdv_tup us)).push (HandSPX.excO C h.objs.size)).get? b = some o := fun b o z => Heap.get?_push_of_some _ (Heap.get?_push_of_some _ z)
  have c1 := kk _ _ hC
  have c2 : ((h.push (W.kdv_tup us)).push (HandSPX.excO C h.objs.size)).get? (h.objs.size + 1) = some (HandSPX.excO C h.objs.size) := by heap_get
  have c3 : (Value.ref C :: bm).contains (.ref C) = true := by simp
  have c4 := hi.keeps kk
  have c5 := (hb (.ref (h.objs.size + 1))).keeps kk
  unfold isInstance
  repeat (first
    | with_reducible refine wpAny_loadPart_at c2 ?_
    | (with_reducible refine wpAny_isSubtype_exc c1 ?_
       rw [c3])
    | wp_step)
  show wpAny _ _ (typeLookup (.ref C) _) _ _ _
  refine c4.at ?_
  refine wpAny_holding (wpAny_bind (c5.at ?_))
  refine wpAny_bind (wpAny_call (codeAny_mono hq fun r s' z => ?_))
  cases r with
  | error e => exact z
  | ok fl =>
    cases fl with
    | ret v =>
      obtain ⟨rfl, z⟩ := z
      first
      | exact wpAny_pure (wpAny_pure z)
      | (wp_walk
         exact z)
    | next => exact z.elim
    | brk => exact z.elim
    | cont => exact z.elim
theorem call_new (F : ExcBaseFacts B newId initId bmB) (hT : ∀ Y : String, bm.contains (.type Y) = bmB.contains (.type Y)) {us : List Value} {kw : List (Str × Value)} {fI : Addr}
    (hC : h.get? C = some (excClassObj nm q C N bs bm hdct sn sub ab col dd k0 k1 k2 k3 k5 newId)) (hz : us.length ≤ sizeLine)
    (hi : W.Looks (model prog w) h (typeLookup (.ref C) "__init__") (some (.ref fI))) (hb : ∀ self, W.Looks (model prog w) h (bindSpecial (.ref fI) self) (.ref fI, [self]))
    (hq : codeAny (model prog w) (A.under (.builtin "type.__call__" ⟨.ref C :: us, kw⟩)) (.call (.ref fI) ⟨.ref (h.objs.size + 1) :: us, kw⟩) (W.InitBack (h.objs.size + 1) R)
      ⟨(h.push (W.kdv_tup us)).push (HandSPX.excO C h.objs.size), g, d, t, os⟩) :
    codeAny (model prog w) A (.call (.ref C) ⟨us, kw⟩) R ⟨h, g, d, t, os⟩ := by
  have f1 := tc_lookup
  have f2 := tc_bind (.ref C)
  have ty : (⟨h, g, d, t, os⟩ : Shared).TypeIs (.ref C) "type" := ⟨_, hC, rfl⟩
  refine codeAny_of_tree ?_
  show wpAny _ _ (callAny (.ref C) _) _ _ _
  repeat (any_goals (first
    | assumption
    | with_reducible refine wpAny_loadPart_at hC ?_
    | wp_step))
  refine ⟨rfl, ?_⟩
  refine codeAny_call_builtin_at (Code.quiet_builtin _ (by decide +kernel)) entry_typeCall (wpAny_check_type_call_sub hC (tc_new F hT hC hz hi hb ?_))
  refine codeAny_mono hq fun r s' z => ?_
  cases r with
  | error e => exact z
  | ok fl =>
    cases fl with
    | ret v => exact z
    | next => exact z
    | brk => exact z
    | cont => exact z
end
end VkX
end PySem
namespace Vk
open PySem PySem.Spec PyProof.Rows L2
/-! ### an exception that is held: at a, of the class at C; with its own dict or without one -/
def Held (H : Hp) (a C : Addr) : Prop := H a = some (exo a C none) ∨ ∃ (d : Addr) (fs : List (Str × V)), H a = some (exo a C (some d)) ∧ H d = some (exd d fs)
/-- .. with the field f, worth v -/
def HeldF (H : Hp) (a C : Addr) (f : Str) (v : V) : Prop := ∃ d : Addr, H a = some (exo a C (some d)) ∧ H d = some (exd d [(f, v)])
theorem HeldF.held {H : Hp} {a C : Addr} {f : Str} {v : V} (x : HeldF H a C f v) : Held H a C := let ⟨d, h1, h2⟩ := x; .inr ⟨d, _, h1, h2⟩
theorem Held.same {H H' : Hp} {a C : Addr} (s : Same H H') (x : Held H a C) : Held H' a C := by
  rcases x with x | ⟨d, fs, x, y⟩
  · exact .inl (s _ _ x)
  · exact .inr ⟨d, fs, s _ _ x, s _ _ y⟩
theorem HeldF.same {H H' : Hp} {a C : Addr} {f : Str} {v : V} (s : Same H H') (x : HeldF H a C f v) : HeldF H' a C f v := let ⟨d, h1, h2⟩ := x; ⟨d, s _ _ h1, s _ _ h2⟩
/-- what the written part tells of the class, so that its instances are asked and read rightly -/
structure ExK (K : PySem.W.Frag) (C : Addr) : Prop where
  ic : (PySem.W.clsIn K C).isSome = true
  ga : PySem.W.findIn K (.ref C) "__getattribute__" = some (some (.builtin "BaseException.__getattribute__"))
  gg : PySem.W.findIn K (.ref C) "__getattr__" = some none
  be : PySem.W.subIn K (.ref C) (.type "BaseException") = some true
  hd : PySem.W.hasDictIn K C = true
  ca : PySem.W.findIn K (.ref C) "__class__" = some (some (.builtin "object.__class__"))
  cg : PySem.W.specialIn K (.builtin "object.__class__") "__get__" = some (some (.builtin "getset_descriptor.__get__"))
  ct : PySem.W.takesIn K (.builtin "object.__class__") = some true
  mo : PySem.W.mroIn K C (.type "object") = some true
section
variable {X : Cx} {pins : List (Addr × Obj)} {σ : L2.St} {H : Hp} {s : Shared} {a C : Addr}
theorem held_at (I : Inv X pins σ H s) (x : Held H a C) : ∃ ox od, PySem.W.InstAt s.heap a ox C od := by
  rcases x with x | ⟨d, fs, x, y⟩
  · obtain ⟨t1, ho⟩ := exo_at I.hok x
    exact ⟨_, none, ⟨ho, rfl, rfl, trivial⟩⟩
  · obtain ⟨t1, ho⟩ := exo_at I.hok x
    obtain ⟨mA, hn, _⟩ := exd_at I.hok y
    obtain ⟨o, _, _, e, _⟩ := hn
    exact ⟨_, some o, ⟨ho, rfl, rfl, e⟩⟩
/-- isinstance(e, c) of such an exception, c one class -/
def rHas (K : PySem.W.Frag) : List V → Hp → VK → Prop := fun xs H Q => ∃ (a C : Addr) (c : V) (u : Value) (b : Bool), xs = [.ref a, c] ∧ Held H a C ∧ ExK K C ∧ ClsV c u ∧ PySem.W.kitOne K (.ref C) u = some b ∧ Q (.bl b) H
theorem call_has : CallR X (.builtin "isinstance") (rHas X.K) := by
  intro pins s σ H xs us Q I r h
  obtain ⟨a, C, c, u, b, rfl, hh, T, k, e, q⟩ := h
  obtain ⟨u1, u2, rfl, r1, r2⟩ := vals2 r
  have e2 := k.eq r2
  subst e2
  obtain rfl : u1 = Value.ref a := r1
  obtain ⟨ox, od, J⟩ := held_at I hh
  exact PySem.W.kia_one (PySem.W.kitx_exc T.ic T.ga T.gg T.be T.ca T.cg T.ct T.mo) I.kIn J e (fun z => nomatch z) fun tk => ⟨.bl b, H, I.tok tk, rfl, q⟩
/-- .. a tuple of classes, just laid -/
def rHasT (K : PySem.W.Frag) : List V → Hp → VK → Prop := fun xs H Q => ∃ (a C tp : Addr) (cs : List V) (us : List Value) (b : Bool), xs = [.ref a, .ref tp] ∧ Held H a C ∧ ExK K C ∧ H tp = some (.tup cs) ∧ Paired ClsV cs us ∧ PySem.W.kitAny K (.ref C) us = some b ∧ Q (.bl b) H
theorem call_hasT : CallR X (.builtin "isinstance") (rHasT X.K) := by
  intro pins s σ H xs us Q I r h
  obtain ⟨a, C, tp, cs, ws, b, rfl, hh, T, hT, k, e, q⟩ := h
  obtain ⟨u1, u2, rfl, r1, r2⟩ := vals2 r
  obtain rfl : u2 = Value.ref tp := r2
  obtain rfl : u1 = Value.ref a := r1
  obtain ⟨ox, od, J⟩ := held_at I hh
  obtain ⟨_, its, rv, o, h1, h2, n, h3⟩ := (show ObjOk X.prog X.w H s.heap tp (.tup cs) from I.hok tp _ hT)
  have e3 := ClsV.all k rv
  subst e3
  obtain ⟨oc, oe, dt, sl⟩ := o
  simp only at h2 h3
  subst h2 h3
  exact PySem.W.kia_tup (PySem.W.kitx_exc T.ic T.ga T.gg T.be T.ca T.cg T.ct T.mo) I.kIn J h1 e (fun z => nomatch z) fun tk => ⟨.bl b, H, I.tok tk, rfl, q⟩
/-- e.f of such an exception -/
def tHeldF (K : PySem.W.Frag) (f : Str) (te : TE) : TE := fun σ H Q => te σ H fun x H1 => ∃ (a C : Addr) (v : V), x = .ref a ∧ HeldF H1 a C f v ∧ ExK K C ∧ PySem.W.findIn K (.ref C) f = some none ∧ Q v H1
theorem pe_heldF {e : Expr} {te : TE} {pos : Pos} {f : Str} (he : PE X e te) (hb : attributeBase e f X.env (eval e X.env) = eval e X.env := by rfl) : PE X (.Attribute e f pos) (tHeldF X.K f te) := by
  refine ⟨fun pins s σ H Q I h => ?_⟩
  refine attr_of hb (thn (he.run pins s σ H _ I h) fun u s1 hh => ?_)
  obtain ⟨x, H1, I1, rx, a, C, v, ex, ⟨d, x1, x2⟩, T, hno, q⟩ := hh
  subst ex
  obtain rfl : u = Value.ref a := rx
  obtain ⟨t1, ho⟩ := exo_at I1.hok x1
  obtain ⟨mA, hns, hr⟩ := exd_at I1.hok x2
  obtain ⟨od, hod, hl⟩ := lookIn_ns hns
  have l : List.lookup f [(f, v)] = some v := by simp [List.lookup]
  obtain ⟨u, hu, ru⟩ := RelO.some_of (v := v) (o := mA f) (by rw [← l]; exact hr f)
  exact PySem.HandSPX.exc_get I1.kIn (od := some od) ⟨ho, rfl, rfl, hod⟩ T.ga T.gg T.be (PySem.W.findObj_own T.hd hno rfl (by rw [hl, hu])) (handed_of ru) ⟨v, H1, I1.tok _, ru, q⟩
end
end Vk
namespace Vk
open PySem PySem.Spec PyProof.Rows L2
/-! ### __init__ of such a class: the base's by its name, then one field -/
def iA (n : Str) (p1 p2 : Pos) : Arguments := { posonlyargs := [], args := [{ arg := "self", annotation := none, pos := p1 }, { arg := n, annotation := none, pos := p2 }], vararg := none, kwonlyargs := [], kw_defaults := [], kwarg := none, defaults := [] }
def iB (n tx : Str) (q1 q2 q3 q4 q5 q6 q7 q8 q9 q10 : Pos) : List Stmt :=
  [.Expr (.Call (.Attribute (.Name "BandError" q1) "__init__" q2) [.Name "self" q3, .Constant (.str tx) 0 q4] [] q5) q6, .Assign [.Attribute (.Name "self" q7) n q8] (.Name n q9) q10]
def iS (n : Str) : Scope := { kind := .function, names := [(PySem.Str.ofString "self", .local), (n, .local), (PySem.Str.ofString "BandError", .globalImplicit)], isGenerator := false, isCoroutine := false, more := [] }
/-- the base's __init__ is ValueError's, read off the class BandError at B -/
structure BaseI (K : PySem.W.Frag) (mg : Str → Option Value) (B : Addr) (mc : Value) : Prop where
  g : mg "BandError" = some (.ref B)
  rd : PySem.W.readsIn K B mc = true
  ga : PySem.W.specialIn K (.ref B) "__getattribute__" = some (some (.builtin "type.__getattribute__"))
  at_ : PySem.W.findCls K (.ref B) mc "__init__" = some (.val (.builtin "ValueError.__init__"))
theorem eval_line {x : Str} {p0 : Pos} {m : Str} {apos pos : Pos} {env : Env} {es : List Expr} (hf : methodCallForm (es.length + 0) (backTo pos (starEach es env)) (backToKw pos (keywordEach [] env)) = true) (hl : (apos.endLine == pos.line) = true) :
    eval (.Call (.Attribute (.Name x p0) m apos) es [] pos) env = (do
      let ov ← eval (.Name x p0) env
      standAt apos.atName
      let (f, first) ← holding [ov] (getMethod ov m (plainOf (.Name x p0) env))
      callWith pos f first (backTo pos (starEach es env)) (backToKw pos (keywordEach [] env))) := by
  show (do
      let ov ← eval (.Name x p0) env
      standAt apos.atName
      methodCall (.Name x p0) m apos pos env ov (es.length + 0) (backTo pos (starEach es env)) (backToKw pos (keywordEach [] env))) = _
  congr 1
  funext ov
  congr 1
  funext _
  exact mcall_line hf hl
section
variable {X : Cx} {e : Expr} {es : List Expr} {ta : TA} {p1 p2 pos : Pos}
theorem pe_baseI {pl : Sem Bool} {B : Addr} {mc : Value} (T : BaseI X.K X.mg B mc) (hg : Gl X "BandError") (ha : PA X (e :: es) ta)
    (hc : eval (.Call (.Attribute (.Name "BandError" p1) "__init__" p2) (e :: es) [] pos) X.env = (do
      let ov ← eval (.Name "BandError" p1) X.env
      standAt p2.atName
      let (f, first) ← holding [ov] (getMethod ov "__init__" pl)
      callWith pos f first (backTo pos (starEach (e :: es) X.env)) (backToKw pos (keywordEach [] X.env))) := by rfl)
    (he : starEach (e :: es) X.env = (false, eval e X.env) :: starEach es X.env := by rfl) (hpl : (backTo pos (starEach es X.env)).any (·.1) = false := by rfl) :
    PE X (.Call (.Attribute (.Name "BandError" p1) "__init__" p2) (e :: es) [] pos) (tVeI X.K ta) := by
  refine ⟨fun pins s σ H Q I h => ?_⟩
  refine PySem.W.methodCall_KW (ld_glob I hg T.g ?_) hc
  refine PySem.W.method_cls I.kIn T.ga (PySem.W.cls_value I.kIn T.rd T.at_ rfl ?_)
  show wpAny _ _ (callWith pos (Value.builtin "ValueError.__init__") [] (backTo pos (starEach (e :: es) X.env)) []) _ _ _
  refine PyProof.Rows.callWith_method1 (thn (ha.run pos pins _ σ H _ (I.tok _) h) fun us s1 hh => ?_) he hpl
  obtain ⟨vs, H1, I1, r1, a, C, ws, ev, hl, T1, ea, q⟩ := hh
  subst ev
  cases r1 with
  | @cons _ u0 _ ur ra rw' =>
    obtain rfl : u0 = Value.ref a := ra
    have hlen : ur.length ≤ sizeLine := by
      have e1 := Paired.length rw'
      rw [sizeLine_eq]
      omega
    exact oinit_ok T1 I1 ea hlen fun s' J => ⟨.non, H1, J, rfl, q⟩
end
/-- __init__'s promise: the field is stored, the exception is the same one -/
def spI (K : PySem.W.Frag) (n : Str) : Sp := fun vs H Q _ => ∃ (a C : Addr) (v : V), vs = [.ref a, v] ∧ H a = some (exo a C none) ∧ OexC K C ∧ PySem.W.findIn K (.ref C) n = some none ∧
  ∀ d, H d = none → d ≠ a → Q .non (upd (upd H d (exd d [(n, v)])) a (exo a C (some d)))
section
variable {P : Program} {w : World} {K : PySem.W.Frag} {mg : Str → Option Value} {base : Heap} {f B : Addr} {fd : FuncData} {mc : Value}
theorem ok_init {n tx q : Str} {p1 p2 q1 q2 q3 q4 q5 q6 q7 q8 q9 q10 : Pos} (hl : (q2.endLine == q5.line) = true) (hn : n = "given" ∨ n = "index") (F : FunD K "__init__" q (iA n p1 p2) (iB n tx q1 q2 q3 q4 q5 q6 q7 q8 q9 q10) (iS n) [] [] f fd) (T : BaseI K mg B mc) :
    FnOk P w K mg base CX0 1 f fd [("self" : Str), n] (spI K n) := by
  rcases hn with rfl | rfl
  all_goals
    refine F.ok (N := ["self", _]) ⟨rfl, rfl, rfl, by decide +kernel, rfl, by decide +kernel, by decide +kernel⟩ (fun vs H Q E h => ?_) (fun cdv A outer s H vs Q E hr h => ⟨_, PSs.nox (pss_cons (ps_expr (pe_baseI T rfl (pa_cons (pv 0) (pa_cons pe_str pa_nil)) (eval_line rfl hl))) (pss_one (ps_ost (pv 0) (pv 1)))), ?_⟩)
    · obtain ⟨a, C, v, rfl, _⟩ := h
      rfl
    · obtain ⟨a, C, v, rfl, ha, T1, hno, k⟩ := h
      refine ⟨_, rfl, a, C, _, rfl, (show 1 ≤ 1000 by decide), T1, ha, ?_⟩
      exact ⟨_, rfl, _, rfl, a, C, rfl, T1, hno, .inl ⟨ha, k⟩⟩
theorem binds_init {n tx q : Str} {p1 p2 q1 q2 q3 q4 q5 q6 q7 q8 q9 q10 : Pos} (hn : n = "given" ∨ n = "index") (F : FunD K "__init__" q (iA n p1 p2) (iB n tx q1 q2 q3 q4 q5 q6 q7 q8 q9 q10) (iS n) [] [] f fd) (s : Shared) (u v : Value) :
    BindsTo s fd ⟨[u, v], []⟩ ([("self" : Str), n].zip [u, v]) ∧ BindsTo s fd ⟨[u], [(n, v)]⟩ ([("self" : Str), n].zip [u, v]) := by
  obtain ⟨oc, od, dV, kV, doc, pm, an, cdv, ct, osl, rfl, lk, hcd, hD, hK⟩ := F.ex
  rcases hD with ⟨_, rfl⟩ | ⟨e, _⟩
  · rcases hn with rfl | rfl
    · exact ⟨.of_eq rfl, .of_eq rfl⟩
    · exact ⟨.of_eq rfl, .of_eq rfl⟩
  · exact absurd rfl e
end
/-- a class whose __init__ keeps such a promise -/
structure ExI (P : Program) (w : World) (K : PySem.W.Frag) (mg : Str → Option Value) (base : Heap) (x n : Str) (C : Addr) : Prop where
  g : mg x = some (.ref C)
  o : OexC K C
  no : PySem.W.findIn K (.ref C) n = some none
  ex : ∃ (fI : Addr) (fd : FuncData), PySem.W.findIn K (.ref C) "__init__" = some (some (.ref fI)) ∧ PySem.W.typeIn K (.ref fI) = some (.type "function") ∧ FnOk P w K mg base CX0 1 fI fd [("self" : Str), n] (spI K n) ∧
    ∀ (s : Shared) (u v : Value), BindsTo s fd ⟨[u, v], []⟩ ([("self" : Str), n].zip [u, v]) ∧ BindsTo s fd ⟨[u], [(n, v)]⟩ ([("self" : Str), n].zip [u, v])
section
variable {X : Cx} {pins : List (Addr × Obj)} {σ : L2.St} {H : Hp} {s : Shared} {x n : Str} {C : Addr}
/-- C(v), C(n = v): a new exception that holds v -/
theorem run_held {us : List Value} {kw : List (Str × Value)} {v : V} {u : Value} {Q : VK} (T : ExI X.prog X.w X.K X.mg X.base x n C) (hr : Room 2 X.A) (hs : (us = [u] ∧ kw = []) ∨ (us = [] ∧ kw = [(n, u)])) (I : Inv X pins σ H s) (r : RelV v u)
    (h : ∀ a d, H a = none → H d = none → d ≠ a → Q (.ref a) (upd (upd H d (exd d [(n, v)])) a (exo a C (some d)))) : wpAny (model X.prog X.w) X.A (call (.ref C) us kw) (EP X pins σ Q) X.xe s := by
  obtain ⟨fI, fd, i1, i2, G, hb⟩ := T.ex
  obtain ⟨nm, q, N, bs, bm, sn, sub, ab, col, dd, k0, k1, k2, k3, k5, hC, hbm⟩ := T.o.cls
  have hus : us.length ≤ sizeLine := by
    rw [sizeLine_eq]
    rcases hs with ⟨rfl, _⟩ | ⟨rfl, _⟩
    · exact (by decide : 1 ≤ 16777216)
    · exact (by decide : 0 ≤ 16777216)
  obtain ⟨hp, g, dr, tk, os⟩ := s
  have hsz : hp.objs.size ≤ hp.objs.size + 1 := Nat.le_succ _
  have na : H (hp.objs.size + 1) = none := I.hok.fresh hsz
  have kk : ∀ b o, hp.get? b = some o → ((hp.push (PySem.W.kdv_tup us)).push (PySem.HandSPX.excO C hp.objs.size)).get? b = some o := fun b o e => Heap.get?_push_of_some _ (Heap.get?_push_of_some _ e)
  have hget : ((hp.push (PySem.W.kdv_tup us)).push (PySem.HandSPX.excO C hp.objs.size)).get? (hp.objs.size + 1) = some (PySem.HandSPX.excO C hp.objs.size) := by heap_get
  have I2 : Inv X pins σ (upd H (hp.objs.size + 1) (exo (hp.objs.size + 1) C none)) ⟨(hp.push (PySem.W.kdv_tup us)).push (PySem.HandSPX.excO C hp.objs.size), g, dr, tk, os⟩ :=
    I.laid (t' := tk) (a := hp.objs.size + 1) (o := exo (hp.objs.size + 1) C none) (h' := (hp.push (PySem.W.kdv_tup us)).push (PySem.HandSPX.excO C hp.objs.size)) kk hsz (exo_ok hget)
  have hq : spI X.K n [.ref (hp.objs.size + 1), v] (upd H (hp.objs.size + 1) (exo (hp.objs.size + 1) C none)) (fun z H2 => z = .non ∧ Q (.ref (hp.objs.size + 1)) H2) (fun _ _ _ => False) := by
    refine ⟨hp.objs.size + 1, C, v, rfl, upd_same, T.o, T.no, fun d hd hne => ⟨rfl, ?_⟩⟩
    have hd0 : H d = none := by
      rw [upd_ne hne] at hd
      exact hd
    have e : upd (upd (upd H (hp.objs.size + 1) (exo (hp.objs.size + 1) C none)) d (exd d [(n, v)])) (hp.objs.size + 1) (exo (hp.objs.size + 1) C (some d)) = upd (upd H d (exd d [(n, v)])) (hp.objs.size + 1) (exo (hp.objs.size + 1) C (some d)) := by
      funext b
      by_cases h1 : b = hp.objs.size + 1
      · rw [h1, upd_same, upd_same]
      · rw [upd_ne h1, upd_ne h1]
        by_cases h2 : b = d
        · rw [h2, upd_same, upd_same]
        · rw [upd_ne h2, upd_ne h2, upd_ne h1]
    rw [e]
    exact h _ d na hd0 hne
  have hbind : BindsTo ⟨(hp.push (PySem.W.kdv_tup us)).push (PySem.HandSPX.excO C hp.objs.size), g, dr, tk, os⟩ fd ⟨Value.ref (hp.objs.size + 1) :: us, kw⟩ ([("self" : Str), n].zip [Value.ref (hp.objs.size + 1), u]) := by
    rcases hs with ⟨rfl, rfl⟩ | ⟨rfl, rfl⟩
    · exact (hb _ _ u).1
    · exact (hb _ _ u).2
  refine wpAny_call (PySem.VkX.call_new F.excBase_ValueError (fun Y => PySem.HandSPX.refsVE_contains Y bm hbm) (I.kIn _ _ hC) hus (PySem.W.looks_findIn I.kIn i1) (fun self => PySem.W.bind_fn I.kIn self i2)
    (codeAny_mono (G.run _ X.stack _ _ ⟨Value.ref (hp.objs.size + 1) :: us, kw⟩ [Value.ref (hp.objs.size + 1), u] [V.ref (hp.objs.size + 1), v] _ (fun _ _ _ => False) ((hr.make C us kw).mono (by decide)) (I2.env0.make C us kw) hbind (.cons rfl (.cons r .nil)) hq) fun rr s' hq' => ?_))
  cases rr with
  | error er => exact hq'.elim
  | ok fl =>
    cases fl with
    | ret y =>
      obtain ⟨z, H2, I3, rz, ez, q3⟩ := I2.after hq'
      subst ez
      exact ⟨rz, ⟨V.ref (hp.objs.size + 1), H2, I3, rfl, q3⟩⟩
    | next => exact False.elim hq'
    | brk => exact False.elim hq'
    | cont => exact False.elim hq'
def tHold (C : Addr) (n : Str) (te : TE) : TE := fun σ H Q => te σ H fun v H1 => ∀ a d, H1 a = none → H1 d = none → d ≠ a → Q (.ref a) (upd (upd H1 d (exd d [(n, v)])) a (exo a C (some d)))
theorem pe_hold {e : Expr} {te : TE} {p pos : Pos} (T : ExI X.prog X.w X.K X.mg X.base x n C) (hr : Room 2 X.A) (he : PE X e te) (hg : Gl X x := by rfl) (hdb : (x == ("__debug__" : Str)) = false := by decide)
    (hs : starEach (e :: []) X.env = (false, eval e X.env) :: starEach [] X.env := by rfl) (hpl : (backTo pos (starEach [] X.env)).any (·.1) = false := by rfl) :
    PE X (.Call (.Name x p) [e] [] pos) (tHold C n te) := by
  refine ⟨fun pins s σ H Q I h => ?_⟩
  refine wpAny_Call_Name_kw (ld_glob I hg T.g ?_ hdb)
  refine PySem.W.callWith_K (h₀ := X.base) I.ok.mod.kin T.o.kC ?_ hs hpl
  rw [hs]
  refine PySem.Calls.spliced_cons (thn (he.run pins s σ H _ I h) fun u s1 hh => ?_)
  obtain ⟨v, H1, I1, r1, q1⟩ := hh
  exact PySem.Calls.spliced_nil ⟨I1.kIn, run_held T hr (.inl ⟨rfl, rfl⟩) I1 r1 q1⟩
theorem pe_holdK {e : Expr} {te : TE} {p kpos pos : Pos} (T : ExI X.prog X.w X.K X.mg X.base x n C) (hr : Room 2 X.A) (he : PE X e te) (hg : Gl X x := by rfl) (hdb : (x == ("__debug__" : Str)) = false := by decide)
    (hall : (backToKw pos (keywordEach [⟨some n, e, kpos⟩] X.env)).all (·.1.isSome) = true := by rfl) (hks : (backToKw pos (keywordEach [⟨some n, e, kpos⟩] X.env)).filterMap (·.1) = [n] := by rfl)
    (hpl : ((backTo pos (starEach [] X.env)).any (·.1) || (backToKw pos (keywordEach [⟨some n, e, kpos⟩] X.env)).any (·.1.isNone)) = false := by rfl) :
    PE X (.Call (.Name x p) [] [⟨some n, e, kpos⟩] pos) (tHold C n te) := by
  refine ⟨fun pins s σ H Q I h => ?_⟩
  refine wpAny_Call_Name_kw (ld_glob I hg T.g ?_ hdb)
  refine PySem.W.callWith_KW0 (h₀ := X.base) I.ok.mod.kin T.o.kC hall ?_ hpl
  refine thn ((pk_cons he pk_nil).run pos pins s σ H (fun zs H2 => match zs with | [v] => ∀ a d, H2 a = none → H2 d = none → d ≠ a → Q (.ref a) (upd (upd H2 d (exd d [(n, v)])) a (exo a C (some d))) | _ => False) I ?_) fun ws s2 hh => ?_
  · exact h
  · obtain ⟨zs, H2, I2, rz, q2⟩ := hh
    refine ⟨I2.kIn, ?_⟩
    rw [hks]
    cases rz with
    | nil => exact q2.elim
    | cons r0 rn =>
      cases rn with
      | nil => exact run_held T hr (.inr ⟨rfl, rfl⟩) I2 r0 q2
      | cons _ _ => exact q2.elim
end
end Vk
namespace Vk
open PySem PySem.Spec PyProof.Rows L2
/-! ### an own class without __init__ of its own, called without arguments -/
section
variable {X : Cx}
theorem pe_bare {C : Addr} {x : Str} {p pos : Pos} (q : PySem.W.excIn X.K C He.veBase "ValueError.__new__" = true) (gC : X.mg x = some (.ref C)) (kC : PySem.W.keepIn X.K (.ref C) = true) (hg : Gl X x := by rfl) (hdb : (x == ("__debug__" : Str)) = false := by decide) :
    PE X (.Call (.Name x p) [] [] pos) (fun _ H Q => ∀ a, H a = none → Q (.ref a) (upd H a (exo a C none))) := by
  refine ⟨fun pins s σ H Q I h => ?_⟩
  refine wpAny_Call_Name_kw (ld_glob I hg gC ?_ hdb)
  refine PySem.W.callWith_K0 I.kIn kC ?_
  obtain ⟨bm, N, nm, qn, bs, hdct, sn, sub, ab, col, dd, k0, k1, k2, k3, k5, mN, hC, hN, hni, T⟩ := exc_obj I.kIn q
  refine wpAny_call_exc_subT F.excBase_ValueError T hC hN hni (fun h' a hm => ?_) (by show 0 ≤ sizeLine; exact Nat.zero_le _)
  have hn : H a = none := I.hok.gone hm.new
  obtain ⟨t, ht, _, _⟩ := hm.there
  exact ⟨.ref a, upd H a (exo a C none), I.laidN hm.keeps hm.new hn (exo_ok ht), rfl, h a hn⟩
end
/-! ### data in the heap, dicts too, and repr of it -/
def keyD : Key → PyData
  | .inl i => .int i
  | .inr x => .str x
mutual
inductive Dq (H : Hp) : V → PyData → Prop
  | non : Dq H .non .none
  | bl (b : Bool) : Dq H (.bl b) (.bool b)
  | int (i : Int) : Dq H (.int i) (.int i)
  | str (x : Str) : Dq H (.str x) (.str x)
  | lst {a : Addr} {xs : List V} {ds : List PyData} : H a = some (.lst xs) → DqAll H xs ds → Dq H (.ref a) (.list ds)
  | tup {a : Addr} {xs : List V} {ds : List PyData} : H a = some (.tup xs) → DqAll H xs ds → Dq H (.ref a) (.tuple ds)
  | dic {a : Addr} {kvs : List (Key × V)} {ps : List (PyData × PyData)} : H a = some (.dK kvs) → ps.map (·.1) = kvs.map (fun p => keyD p.1) → DqAll H (kvs.map (·.2)) (ps.map (·.2)) → Dq H (.ref a) (.dict ps)
inductive DqAll (H : Hp) : List V → List PyData → Prop
  | nil : DqAll H [] []
  | cons {v : V} {vs : List V} {d : PyData} {ds : List PyData} : Dq H v d → DqAll H vs ds → DqAll H (v :: vs) (d :: ds)
end
mutual
theorem Dq.same {H H' : Hp} (S : Same H H') : ∀ {v : V} {d : PyData}, Dq H v d → Dq H' v d
  | _, _, .non => .non
  | _, _, .bl b => .bl b
  | _, _, .int i => .int i
  | _, _, .str x => .str x
  | _, _, .lst h k => .lst (S _ _ h) (DqAll.same S k)
  | _, _, .tup h k => .tup (S _ _ h) (DqAll.same S k)
  | _, _, .dic h e k => .dic (S _ _ h) e (DqAll.same S k)
theorem DqAll.same {H H' : Hp} (S : Same H H') : ∀ {vs : List V} {ds : List PyData}, DqAll H vs ds → DqAll H' vs ds
  | _, _, .nil => .nil
  | _, _, .cons h k => .cons (Dq.same S h) (DqAll.same S k)
end
section
variable {X : Cx} {pins : List (Addr × Obj)} {σ : L2.St} {H : Hp} {s : Shared}
theorem keys_read {P : Program} {w : World} : ∀ {es : List DictEntry} {vs : List (Key × Value)} {kvs : List (Key × V)}, Pairs (mixKind P w) es vs → KV kvs vs → ∃ as, ReadsAll s.heap (es.map (·.key)) (kvs.map fun p => keyD p.1) as ∧ as = []
  | _, _, _, .nil, .nil => ⟨_, .nil, rfl⟩
  | _, _, _, .cons h1 h2 h3, .cons r1 r2 => by
    obtain ⟨as, q, e⟩ := keys_read h3 r2
    subst e
    obtain ⟨e1, e2⟩ := r1
    rcases keyIs_shape h1 with ⟨i, t, k1, k2⟩ | ⟨x, t, k1, k2⟩
    · refine ⟨_, .cons (as := []) (bs := []) ?_ q, rfl⟩
      dsimp only
      rw [e1, k1, k2]
      exact .int i t
    · refine ⟨_, .cons (as := []) (bs := []) ?_ q, rfl⟩
      dsimp only
      rw [e1, k1, k2]
      exact .str x t
theorem vals_of_pairs {P : Program} {w : World} : ∀ {es : List DictEntry} {vs : List (Key × Value)} {kvs : List (Key × V)}, Pairs (mixKind P w) es vs → KV kvs vs → Vals (kvs.map (·.2)) (es.map (·.val))
  | _, _, _, .nil, .nil => .nil
  | _, _, _, .cons h1 h2 h3, .cons r1 r2 => .cons (by dsimp only; rw [h2]; exact r1.2) (vals_of_pairs h3 r2)
mutual
theorem Dq.reads (I : Inv X pins σ H s) (h1 : ∀ b u, H b = some u → b ≠ sysModules) : ∀ {v : V} {d : PyData}, Dq H v d → ∀ u, RelV v u → ∃ as, Reads s.heap u d as ∧ sysModules ∉ as
  | _, _, .non, _, r => by
    cases r
    exact ⟨_, .none, fun z => nomatch z⟩
  | _, _, .bl b, _, r => by
    cases r
    exact ⟨_, .bool b, fun z => nomatch z⟩
  | _, _, .int i, _, r => by
    obtain ⟨t, rfl⟩ := r
    exact ⟨_, .int i t, fun z => nomatch z⟩
  | _, _, .str x, _, r => by
    obtain ⟨t, rfl⟩ := r
    exact ⟨_, .str x t, fun z => nomatch z⟩
  | _, _, .lst (a := a) (xs := xs) hs ha, _, r => by
    cases r
    obtain ⟨_, its, n, rv, ho⟩ := (show ObjOk X.prog X.w H s.heap a (.lst xs) from I.hok a _ hs)
    obtain ⟨as, hr, hn⟩ := DqAll.reads I h1 ha its rv
    refine ⟨_, .list ho rfl rfl (by simpa using hr), fun z => ?_⟩
    rcases List.mem_cons.mp z with z | z
    · exact h1 a _ hs z.symm
    · exact hn z
  | _, _, .tup (a := a) (xs := xs) hs ha, _, r => by
    cases r
    obtain ⟨_, its, rv, o, ho, hc, n, hd⟩ := (show ObjOk X.prog X.w H s.heap a (.tup xs) from I.hok a _ hs)
    obtain ⟨as, hr, hn⟩ := DqAll.reads I h1 ha its rv
    exact ⟨_, .tuple ho hc hd (by simpa using hr), hn⟩
  | _, _, .dic (a := a) (kvs := kvs) hs he ha, _, r => by
    cases r
    obtain ⟨_, _, vs, rv, o, es, ep, ho, hx, hd, hk, hp, _⟩ := (show ObjOk X.prog X.w H s.heap a (.dK kvs) from I.hok a _ hs)
    obtain ⟨as, q1, e1⟩ := keys_read (s := s) hp rv
    subst e1
    obtain ⟨bs, q2, hn⟩ := DqAll.reads I h1 ha _ (vals_of_pairs hp rv)
    refine ⟨_, .dict ho hx.1 hd (by rw [he]; exact q1) q2, fun z => ?_⟩
    rcases List.mem_cons.mp z with z | z
    · exact h1 a _ hs z.symm
    · exact hn (by simpa using z)
theorem DqAll.reads (I : Inv X pins σ H s) (h1 : ∀ b u, H b = some u → b ≠ sysModules) : ∀ {vs : List V} {ds : List PyData}, DqAll H vs ds → ∀ us, Vals vs us → ∃ as, ReadsAll s.heap us ds as ∧ sysModules ∉ as
  | _, _, .nil, _, r => by
    cases r
    exact ⟨_, .nil, fun z => nomatch z⟩
  | _, _, .cons h2 h3, _, r => by
    cases r with
    | cons r1 r2 =>
      obtain ⟨as, q1, n1⟩ := Dq.reads I h1 h2 _ r1
      obtain ⟨bs, q2, n2⟩ := DqAll.reads I h1 h3 _ r2
      refine ⟨_, .cons q1 q2, fun z => ?_⟩
      rcases List.mem_append.mp z with z | z
      · exact n1 z
      · exact n2 z
end
/-- repr(v), v data at an address -/
def rRepr : List V → Hp → VK → Prop := fun xs H Q => ∃ (a : Addr) (d : PyData), xs = [.ref a] ∧ Dq H (.ref a) d ∧ d.showable = true ∧ d.depth ≤ 40 ∧ d.shown.length ≤ sizeLine ∧ Q (.str d.shown) H
theorem call_repr {k : Nat} (hg : X.A.guards = some []) (hr : Room k X.A) (hm : ∃ o, X.K.lookup sysModules = some o) : CallR X (.builtin "repr") rRepr := by
  intro pins s σ H xs us Q I r h
  obtain ⟨a, d, rfl, hd, hs, hdp, hz, q⟩ := h
  obtain ⟨u, rfl, r1⟩ := vals1 r
  obtain rfl : u = Value.ref a := r1
  obtain ⟨o1, ho1⟩ := hm
  have h1 : ∀ b v, H b = some v → b ≠ sysModules := fun b v e z => by
    have e2 := (I.bs _ _ (I.ok.mod.kin _ _ ho1)).2
    rw [← z, e] at e2
    cases e2
  obtain ⟨as, rd, nm⟩ := Dq.reads I h1 hd _ rfl
  have hu := hr.un
  exact repr_of_reads' rd hs (fun _ => nm) hg (by omega) (fun _ _ e => e) (fun h' t tk kk => ⟨.str d.shown, H, I.kept (h' := h') (t' := tk) kk, ⟨t, rfl⟩, q⟩) hz
end
/-! ### defs that know that no repr runs around them -/
structure FnG (P : Program) (w : World) (K : PySem.W.Frag) (mg : Str → Option Value) (base : Heap) (k : Nat) (f : Addr) (fd : FuncData) (ps : List Str) (sp : Sp) : Prop where
  len : ∀ vs H Q E, sp vs H Q E → vs.length = ps.length
  run : ∀ (A : Around) (outer : List Env) (s : Shared) (H : Hp) (args : Args) (us : List Value) (vs : List V) (Q : VK) (E : XK), A.guards = some [] → Room k A → Env0 P w K mg base A outer s H → BindsTo s fd args (ps.zip us) → Vals vs us → sp vs H Q E →
    codeAny (model P w) A (.call (.ref f) args) (CR CX0 outer P w H s Q E) s
section
variable {P : Program} {w : World} {K : PySem.W.Frag} {mg : Str → Option Value} {base : Heap} {k : Nat} {f : Addr} {fd : FuncData} {ps N : List Str} {sp : Sp} {x qual : Str} {params : Arguments} {body : List Stmt} {scope : Scope}
theorem FnG.mono {j : Nat} (F : FnG P w K mg base j f fd ps sp) (h : j ≤ k) : FnG P w K mg base k f fd ps sp := ⟨F.len, fun A outer s H args us vs Q E hg hr => F.run A outer s H args us vs Q E hg (hr.mono h)⟩
theorem fnG (F : FunD K x qual params body scope [] [] f fd) (S : FnScope N ps scope) (len : ∀ vs H Q E, sp vs H Q E → vs.length = ps.length)
    (hb : ∀ (cdv : Value) (A : Around) (outer : List Env) (s : Shared) (H : Hp) (vs : List V) (Q : VK) (E : XK), A.guards = some [] → Room k (A.deeper (envOfC qual scope s.heap.objs.size f cdv)) → sp vs H Q E →
      ∃ t, PSs (cxOf CX0 P w K mg base N qual scope f cdv A outer s H E).nox body t ∧ t { nx := fun _ H' => Q .non H', rt := Q } (start N vs) H) : FnG P w K mg base (k + 1) f fd ps sp := by
  obtain ⟨oc, od, dV, kV, doc, pm, an, cdv, ct, osl, rfl, lk, hcd, _, _⟩ := F.ex
  refine ⟨len, fun A outer s H args us vs Q E hg hr e0 hbd rv hsp => ?_⟩
  have l0 := len _ _ _ _ hsp
  have kin : K.In s.heap := e0.mod.kin.keeps fun b o e => (e0.bs b o e).1
  have nol : s.heap.NoLimit := e0.mod.nolimit.keeps fun b o e => (e0.bs b o e).1
  refine codeAny_call_function hr.depth (kin _ _ lk) rfl S.co S.gen rfl (PySem.W.codeRec_of kin hcd) (hbd _ _ _ _ ?_)
  refine wpAny_newFunctionEnv_cells S.kind ?_ fun env he s1 y => ?_
  · rintro ⟨n, v⟩ hy
    rcases S.par n (List.of_mem_zip hy).1 with q | q
    · exact .inl q
    · exact .inr ⟨q, PySem.W.cellsFrom_some _ _ _ (.inl q)⟩
  · subst he
    refine ⟨nol.keeps y.toInCall.keep, codeAny_func ?_⟩
    obtain ⟨t, ht, hq⟩ := hb cdv A outer s H vs Q E hg (hr.deeper _) hsp
    refine wpAny_mono (ht.nox.run [] s1 (start N vs) H _ (inv_start S hr.hd e0 l0 rv y) hq) (fun fl s' z => ?_) fun e s' z => z
    cases fl with
    | ret u =>
      obtain ⟨v, σ', H', J, r1, q⟩ := z
      exact ⟨v, H', J.os, J.bare, J.base, J.hok, r1, q⟩
    | next =>
      obtain ⟨σ', H', J, q⟩ := z
      exact ⟨V.non, H', J.os, J.bare, J.base, J.hok, rfl, q⟩
    | brk =>
      obtain ⟨_, _, _, q⟩ := z
      exact q.elim
    | cont =>
      obtain ⟨_, _, _, q⟩ := z
      exact q.elim
end
section
variable {X : Cx} {k : Nat} {f : Addr} {fd : FuncData} {ps : List Str} {sp : Sp} {x : Str} {p pos : Pos} {e : Expr} {es : List Expr} {t : TA}
theorem pe_callG (F : FnG X.prog X.w X.K X.mg X.base k f fd ps sp) (hA : X.A.guards = some []) (hr : Room k X.A) (hm : X.mg x = some (.ref f)) (hk : PySem.W.keepIn X.K (.ref f) = true) (hb : Binds X.K fd ps []) (ha : PA X (e :: es) t) (hg : Gl X x := by rfl)
    (hdb : (x == ("__debug__" : Str)) = false := by decide) (he : starEach (e :: es) X.env = (false, eval e X.env) :: starEach es X.env := by rfl) (hpl : (backTo pos (starEach es X.env)).any (·.1) = false := by rfl) :
    PE X (.Call (.Name x p) (e :: es) [] pos) (fun σ H Q => t σ H fun vs H1 => sp vs H1 Q E0) := by
  refine ⟨fun pins s σ H Q I h => ?_⟩
  refine wpAny_Call_Name_kw (ld_glob I hg hm ?_ hdb)
  refine PySem.W.callWith_K (h₀ := X.base) I.ok.mod.kin hk (thn (ha.run pos pins s σ H _ I h) fun us s1 hh => ?_) he hpl
  obtain ⟨vs, H1, I1, r, q⟩ := hh
  refine ⟨I1.kIn, ?_⟩
  have hl : (us ++ []).length = ps.length := by
    rw [List.append_nil, ← r.length]
    exact F.len _ _ _ _ q
  have hbd := hb s1 us I1.kIn hl
  rw [List.append_nil] at hbd
  refine wpAny_call (codeAny_mono (F.run X.A X.stack s1 H1 ⟨us, []⟩ us vs Q E0 hA hr I1.env0 hbd r q) fun rr s' hq => ?_)
  cases rr with
  | error er => exact hq.elim
  | ok fl =>
    cases fl with
    | ret u => exact I1.after hq
    | next => exact False.elim hq
    | brk => exact False.elim hq
    | cont => exact False.elim hq
end
end Vk
namespace Vk
open PySem PySem.Spec PyProof.Rows L2
/-! ### what the head tells: the facts by names, and one Bool over the part of the heap that the module's names reach, sys.modules with it -/
def part (n : Nat) (g : Addr → Option Obj) : PySem.W.Frag := He.frG g (sysModules :: cStatics :: He.asD g n)
def lookV (n : Nat) (fa : List He.Fa) (fn : List He.DefD) (ex : PySem.W.Frag → Bool) (g : Addr → Option Obj) : He.AlD × Bool := (He.obsD fa fn (part n g), ex (part n g))
def hookV (n : Nat) (fa : List He.Fa) (fn : List He.DefD) (ex : PySem.W.Frag → Bool) : PySem.W.Hook where
  α := He.AlD × Bool
  obs := fun s => lookV n fa fn ex s.heap.get?
  val := fun _ => (He.valD fn, true)
  says := fun _ h => ∃ K : PySem.W.Frag, K.In h ∧ He.SaysD fa fn K ∧ ex K = true
  of := fun _ _ e => ⟨_, He.frG_in, congrArg Prod.fst e, congrArg Prod.snd e⟩
  keeps := fun _ _ _ ⟨K, i, c, x⟩ k => ⟨K, i.keeps k, c, x⟩
theorem lookV_eq {n : Nat} {fa : List He.Fa} {fn : List He.DefD} {ex : PySem.W.Frag → Bool} {g : Addr → Option Obj} {s : Shared} (h : ∀ a, g a = s.heap.get? a) : lookV n fa fn ex g = (hookV n fa fn ex).obs s := by
  obtain rfl : g = s.heap.get? := funext h
  rfl
/-! ### the end of a law whose def knows that no repr runs -/
section
variable {P : Program} {w : World} {K : PySem.W.Frag} {mg mb : Str → Option Value} {k : Nat} {fa a : Addr} {fd : FuncData} {x : Str} {sp : Sp} {s : Shared} {vs : List Value} {ns : List Int}
/-- the heap as the law finds it: the script is held as it is, unless the written part has it -/
def H0 (K : PySem.W.Frag) (a : Addr) (ob : Obj) (ns : List Int) : Hp := fun b => if b = a ∧ K.lookup a = none then some (.frz ob (.lst (ns.map V.int))) else none
theorem H0_some {ob : Obj} {b : Addr} {u : HO} (h : H0 K a ob ns b = some u) : b = a ∧ K.lookup a = none ∧ u = .frz ob (.lst (ns.map V.int)) := by
  unfold H0 at h
  split at h
  · rename_i c
    exact ⟨c.1, c.2, (Option.some.inj h).symm⟩
  · cases h
theorem run_law (KX : K.In s.heap) (n1 : s.heap.Ns mainGlobals mg) (n2 : s.heap.Ns builtinsNs mb) (n3 : ∀ y : Str, y ≠ "__name__" → mb y = bootBuiltins y) (n4 : s.heap.NoLimit) (hgen : s.gens = #[])
    (ha : s.heap.get? a = some { cls := .type "list", data := .seq vs.toArray }) (hi : IntsAre vs ns) (hl : ns.length ≤ sizeLine) (hr : Room k callerA) (F : ∀ base : Heap, K.In base → base.Ns mainGlobals mg → FnG P w K mg base k fa fd [x] sp)
    (hb : ∀ (s : Shared) (u : Value), BindsTo s fd ⟨[u], []⟩ [(x, u)]) (hsp : ∀ H : Hp, Only H → SqL K H a (ns.map V.int) → sp [.ref a] H (fun v _ => v = .bl true) E0) :
    codeAny (model P w) callerA (.call (.ref fa) ⟨[.ref a], []⟩) (fun r s' => r = .ok (.ret (.bool true)) ∧ OldK s.heap s'.heap ∧ s'.os = s.os ∧ AllBare s'.gens) s := by
  let ob : Obj := { cls := .type "list", data := .seq vs.toArray }
  let H : Hp := H0 K a ob ns
  have rv := vals_ints hi
  have only : Only H := fun b => by
    cases e : H b with
    | none => exact .inl rfl
    | some u => exact .inr ⟨_, _, congrArg some (H0_some e).2.2⟩
  have seq : SqL K H a (ns.map V.int) := by
    cases e : K.lookup a with
    | none => exact .inl (.inr ⟨ob, if_pos ⟨rfl, e⟩⟩)
    | some o =>
      have e2 := KX a o e
      rw [ha] at e2
      cases e2
      exact .inr ⟨_, vs.toArray, _, e, rfl, rfl, rfl, by rw [List.size_toArray, hi.length]; exact hl, by simpa using rv⟩
  have hok : HOk P w H s.heap := fun b u e => by
    obtain ⟨rfl, _, rfl⟩ := H0_some e
    exact ⟨ha, by rw [List.length_map]; exact hl, vs, _, rv, ha⟩
  have see : ∀ {b : Addr} {o : Obj}, s.heap.get? b = some o → H b = none → (hidT s.heap H).get? b = some o := fun q z => hidT_get q z
  have ns_of : ∀ {b : Addr} {m : Str → Option Value}, s.heap.Ns b m → (hidT s.heap H).Ns b m := fun {b m} z => by
    obtain ⟨o, es, ep, q, dt, r⟩ := z
    refine ⟨o, es, ep, see q ?_, dt, r⟩
    cases e : H b with
    | none => rfl
    | some u =>
      obtain ⟨rfl, _, _⟩ := H0_some e
      rw [ha] at q
      cases q
      cases dt
  have kin : K.In (hidT s.heap H) := fun b o q => see (KX b o q) (by
    cases e : H b with
    | none => rfl
    | some u =>
      obtain ⟨rfl, z, _⟩ := H0_some e
      rw [z] at q
      cases q)
  have e0 : Env0 P w K mg (hidT s.heap H) callerA [] s H :=
    ⟨rfl, ⟨kin, ns_of n1, ⟨mb, ns_of n2, n3⟩, (let ⟨mc, z1, z2⟩ := n4; ⟨mc, ns_of z1, z2⟩)⟩, fun b o z => of_hidT z, Nat.le_of_eq (hidT_size _ _), trivial, (fun b z => nomatch z), hok, .of_eq hgen⟩
  refine codeAny_mono ((F _ kin (ns_of n1)).run callerA [] s H ⟨[.ref a], []⟩ [.ref a] [.ref a] _ _ rfl hr e0 (hb s (.ref a)) (.cons rfl .nil) (hsp H only seq)) fun r s' h => ?_
  cases r with
  | error e => exact h.elim
  | ok fl =>
    cases fl with
    | next => exact False.elim h
    | brk => exact False.elim h
    | cont => exact False.elim h
    | ret u =>
      obtain ⟨v, H', os, bare, un, ok2, rv2, q⟩ := h
      obtain rfl : v = .bl true := q
      obtain rfl : u = Value.bool true := rv2
      refine ⟨rfl, OldK.of_keep fun b o e => ?_, os, bare⟩
      cases hb2 : H b with
      | none => exact un.keep b o e hb2 (fun z => nomatch z) (fun z => nomatch z)
      | some u =>
        obtain ⟨rfl, _, rfl⟩ := H0_some hb2
        rw [ha] at e
        cases e
        exact (ok2 b _ (un.frzs b _ _ hb2)).1
end
theorem walkG {l : PySem.W.OpenLaw} {n k : Nat} {q : Program} {loose : List Str} {XP : (Str → Option Value) → Heap → Prop} {YP : World → Heap → Prop} {d : DefRec} {x : Str} (hn : l.most = some n) (hn2 : n ≤ sizeLine) (hdf : d.params.defaults = []) (hr : Room k callerA)
    (F : ∀ (w : World) (mg : Str → Option Value) (fa : Addr) (h : Heap), YP w h → h.Ns mainGlobals mg → mg d.name = some (.ref fa) →
      ∃ (K : PySem.W.Frag) (fd : FuncData) (sp : Sp), K.In h ∧ (∀ (s : Shared) (u : Value), BindsTo s fd ⟨[u], []⟩ [(x, u)]) ∧
        (∀ (H : Hp) (a : Addr) (ns : List Int), ns.length ≤ n → Only H → SqL K H a (ns.map V.int) → sp [.ref a] H (fun v _ => v = .bl true) E0) ∧
        ∀ base : Heap, K.In base → base.Ns mainGlobals mg → FnG l.prog w K mg base k fa fd [x] sp) :
    PySem.W.WalkO q loose XP YP l.row.toRowW d [] (fun f vs => PySem.call f vs) :=
  Att.attach_call hn hdf fun w s₀ s₁ mg mb fa o pm cd doc a vs ns G Y ho hd hcd hmg hobj hints hlen hg =>
    let ⟨K, fd, sp, KX, hb, hsp, hF⟩ := F w mg fa _ Y G.T.g hmg
    run_law KX G.T.g G.T.b G.T.builtins G.T.nolimit hg hobj hints (Nat.le_trans hlen hn2) hr hF hb fun H hO hS => hsp H a ns hlen hO hS
end Vk
namespace K5
open PySem PySem.Spec PyProof.Rows L2 Vk
def top (i : Nat) : Stmt := PySem.Challenge.pw_bandsplits_k05_whole_errors_keep_what_th.main.body.getD i (.Pass ⟨0, 0, 0, 0⟩)
abbrev sSpring : Stmt := top 29
abbrev sDip : Stmt := top 30
abbrev sOne : Stmt := top 31
abbrev FnP (K : PySem.W.Frag) (x : Str) (st : Stmt) (f : Addr) (fd : FuncData) : Prop := FunD K x x (defArgs st) (defBody st) (defScope st) [] [] f fd
theorem same_upd {H : Hp} {p : Addr} {o : HO} (h : H p = none) : Same H (upd H p o) := fun b u e => by
  rw [upd_ne (ne_of_none e h)]
  exact e
theorem le_line {n : Nat} (h : n ≤ 1000000) : n ≤ sizeLine := by
  rw [sizeLine_eq]
  omega
/-- one step of a reading whose answer is plain -/
local macro_rules | `(tactic| walk_at "rd1") => `(tactic| first
  | refine ⟨_, _, rfl, rfl, ?_⟩ | refine ⟨_, rfl, ?_⟩ | refine Or.inl ⟨_, rfl, ?_⟩
  | refine ⟨(by decide : (0 : Int) < _), ?_⟩ | refine ⟨(Or.inl (by decide) : CMul _ _), ?_⟩ | refine ⟨(Or.inr (by decide) : CMul _ _), ?_⟩ | refine ⟨(⟨by decide, by decide, by decide⟩ : CPow _ _), ?_⟩ | refine ⟨(⟨by decide, by decide⟩ : CDiv _ _), ?_⟩)
local macro_rules | `(tactic| walk_at "rd") => `(tactic| repeat walk_at "rd1")
/-! ### the spring: three ints -/
def Spr (H : Hp) (p : Addr) : Prop := ∃ a b c : Int, H p = some (.lst [.int a, .int b, .int c])
def spSpring (K : PySem.W.Frag) : Sp := fun vs H Q _ => ∃ (s : Addr) (ns : List Int) (t : Nat), vs = [.ref s, .int t] ∧ SqL K H s (ns.map V.int) ∧ ns.length ≤ 1000 ∧ t ≤ 1000 ∧
  ∀ H' p, Same H H' → H p = none → Spr H' p → Q (.ref p) H'
def spDip : Sp := fun vs H Q _ => ∃ (p : Addr) (j : Int), vs = [.ref p, .int j] ∧ Spr H p ∧ 0 < j ∧ j < 1073741824 ∧
  ∀ H' r, (∀ b o, b ≠ p → H b = some o → H' b = some o) → Spr H' p → 0 ≤ r → r < j → Q (.int r) H'
theorem cut_ints {ns : List Int} {lo hi : Option Int} {i : Nat} {y : V} (h : (cutV (ns.map V.int) lo hi)[i]? = some y) : ∃ n, y = .int n := by
  have m := List.mem_of_getElem? h
  have m2 := List.mem_of_mem_drop (List.mem_of_mem_take m)
  obtain ⟨n, _, e⟩ := List.mem_map.mp m2
  exact ⟨n, e.symm⟩
section
variable {P : Program} {w : World} {K : PySem.W.Frag} {mg : Str → Option Value} {base : Heap} {f fT : Addr} {fd fdT : FuncData}
abbrev nSp : List Str := ["_law_script", "_law_turn", "_law_mixed", "_law_cell", "_law_own"]
theorem scSp : FnScope nSp ["_law_script", "_law_turn"] (defScope sSpring) := ⟨rfl, rfl, rfl, by decide +kernel, rfl, by decide +kernel, by decide +kernel⟩
theorem ok_spring (F : FnP K "_law_spring" sSpring f fd) (g_int : mg "int" = none) (g_abs : mg "abs" = none) (g_len : mg "len" = none) : FnOk P w K mg base CX0 1 f fd ["_law_script", "_law_turn"] (spSpring K) := by
  refine F.ok scSp (fun vs H Q E h => ?_) ?_
  · obtain ⟨s, ns, t, rfl, _⟩ := h
    rfl
  intro cdv A outer s H vs Q E hr h
  refine' ⟨_, PSs.nox ?b, ?r⟩
  case b => exact (pss_cons (ps_set (i := 2) scSp.nd rfl (.inl rfl) (pe_op op_add pe_int (pe_op op_mul pe_int (pv 1))))
      (pss_cons (ps_for PassesOwn.never rfl (pi_list (pe_slice sl_list (pv 0) po_none (po_some pe_int))) (pg_name (i := 3) scSp.nd rfl (.inl rfl)) (pss_one (ps_set (i := 2) scSp.nd rfl (.inl rfl) (pe_op op_mod (pe_callTy call_int1 (by rfl) g_int (by decide +kernel) (pa_cons (pe_op op_add (pe_op op_add (pe_op op_mul (pv 2) pe_int) (pe_op op_mod (pe_callTy call_int1 (by rfl) g_int (by decide +kernel) (pa_cons (pv 3) pa_nil)) pe_int)) pe_int) pa_nil)) pe_int))))
      (pss_cons (ps_set (i := 4) scSp.nd rfl (.inl rfl) (pe_ifExp (pt_cmpR op_lt (pv 1) (pe_callB call_len_seq (by rfl) g_len (by decide +kernel) (pa_cons (pv 0) pa_nil)) (nomark _)) (pe_callB call_abs (by rfl) g_abs (by decide +kernel) (pa_cons (pe_callTy call_int1 (by rfl) g_int (by decide +kernel) (pa_cons (pe_ix ix_list (pv 0) (pv 1) (fun _ _ => rfl)) pa_nil)) pa_nil)) pe_int))
      (pss_one (ps_ret (pe_lst (pa_cons (pe_ifExp (pt_cmpR op_ge (pv 4) (pe_op op_pow pe_int pe_int) (nomark _)) (pv 4) pe_int) (pa_cons (pe_op op_mod (pe_callTy call_int1 (by rfl) g_int (by decide +kernel) (pa_cons (pe_op op_add (pe_op op_add (pe_op op_mul (pv 2) pe_int) (pe_op op_mul (pe_op op_mod (pe_callTy call_int1 (by rfl) g_int (by decide +kernel) (pa_cons (pv 4) pa_nil)) pe_int) pe_int)) (pv 1)) pa_nil)) pe_int) (pa_cons pe_int pa_nil)))))))))
  case r =>
    obtain ⟨s, ns, t, rfl, hS, hn, ht, k⟩ := h
    walk_at "rd"
    refine ⟨s, _, rfl, hS, fun p hp => ?_⟩
    refine ⟨p, rfl, ⟨_, .inl (.inl upd_same)⟩, for_list (K := K) (a := p) (xs := cutV (ns.map V.int) none (some 9)) (fun i σ H' => ∃ (m : Int) (c : Option V), σ = [some (.ref s), some (.int t), some (.int m), c, none] ∧ H' = upd H p (.lst (cutV (ns.map V.int) none (some 9)))) ⟨_, none, rfl, rfl⟩ ?_ ?_ ?_⟩
    · rintro i σ H' _ ⟨m, c, rfl, rfl⟩
      exact .inl (.inl upd_same)
    · rintro i y σ H' hi ⟨m, c, rfl, rfl⟩
      obtain ⟨n, rfl⟩ := cut_ints hi
      walk_at "rd"
      exact ⟨_, _, rfl, rfl⟩
    · rintro σ H' ⟨m, c, rfl, rfl⟩
      have hS2 := (same_upd (o := .lst (cutV (ns.map V.int) none (some 9))) hp).seq hS
      walk_at "rd"
      refine ⟨s, _, rfl, .inl hS2, ?_⟩
      walk_at "rd"
      refine ite2 (fun c1 => ?_) (fun c1 => ?_)
      · have lt : t < ns.length := by
          have := of_decide_eq_true c1
          rw [List.length_map] at this
          omega
        have e : (ns.map V.int)[t]? = some (.int ns[t]) := by
          rw [List.getElem?_map, List.getElem?_eq_getElem lt]
          rfl
        walk_at "rd"
        refine ⟨s, _, t, _, rfl, rfl, hS2, atI_nat e, ?_⟩
        walk_at "rd"
        refine ite2 (fun c2 => ?_) (fun c2 => ?_)
        · walk_at "rd"
          exact ⟨le_line (by decide : 3 ≤ 1000000), fun q hq => k _ q ((same_upd hp).trans (same_upd hq)) ((same_upd hp).free hq) ⟨_, _, _, upd_same⟩⟩
        · walk_at "rd"
          exact ⟨le_line (by decide : 3 ≤ 1000000), fun q hq => k _ q ((same_upd hp).trans (same_upd hq)) ((same_upd hp).free hq) ⟨_, _, _, upd_same⟩⟩
      · walk_at "rd"
        exact ⟨le_line (by decide : 3 ≤ 1000000), fun q hq => k _ q ((same_upd hp).trans (same_upd hq)) ((same_upd hp).free hq) ⟨_, _, _, upd_same⟩⟩
abbrev nDp : List Str := ["_law_spring_here", "_law_many", "_law_figure", "_law_seed"]
theorem scDp : FnScope nDp ["_law_spring_here", "_law_many"] (defScope sDip) := ⟨rfl, rfl, rfl, by decide +kernel, rfl, by decide +kernel, by decide +kernel⟩
theorem ok_dip (F : FnP K "_law_dip" sDip f fd) (g_int : mg "int" = none) (g_divmod : mg "divmod" = none) : FnOk P w K mg base CX0 1 f fd ["_law_spring_here", "_law_many"] spDip := by
  refine F.ok scDp (fun vs H Q E h => ?_) ?_
  · obtain ⟨p, j, rfl, _⟩ := h
    rfl
  intro cdv A outer s H vs Q E hr h
  refine' ⟨_, PSs.nox ?b, ?r⟩
  case b => exact (pss_cons (ps_if (pt_cmpR op_gt (pe_ix ix_list (pv 0) pe_int (fun _ _ => rfl)) pe_int (nomark _)) (pss_cons (ps_asg (pe_callB call_divmod (by rfl) g_divmod (by decide +kernel) (pa_cons (pe_ix ix_list (pv 0) pe_int (fun _ _ => rfl)) (pa_cons (pv 1) pa_nil))) (pg_tup (by rfl) (pgs_cons (pg_sub (pv 0) pe_int set_list) (pgs_cons (pg_name (i := 2) scDp.nd rfl (.inl rfl)) pgs_nil))))
      (pss_one (ps_ret (pv 2)))) pss_nil)
      (pss_cons (ps_asg (pe_op op_add (pe_ix ix_list (pv 0) pe_int (fun _ _ => rfl)) pe_int) (pg_sub (pv 0) pe_int set_list))
      (pss_cons (ps_set (i := 3) scDp.nd rfl (.inl rfl) (pe_op op_mod (pe_callTy call_int1 (by rfl) g_int (by decide +kernel) (pa_cons (pe_op op_add (pe_ix ix_list (pv 0) pe_int (fun _ _ => rfl)) (pe_op op_mul pe_int (pe_ix ix_list (pv 0) pe_int (fun _ _ => rfl)))) pa_nil)) pe_int))
      (pss_cons (ps_asg (pe_op op_mod (pe_callTy call_int1 (by rfl) g_int (by decide +kernel) (pa_cons (pe_op op_add (pe_op op_mul (pv 3) (pe_op op_add (pe_op op_mod (pe_callTy call_int1 (by rfl) g_int (by decide +kernel) (pa_cons (pv 3) pa_nil)) pe_int) pe_int)) (pe_op op_mul pe_int (pe_ix ix_list (pv 0) pe_int (fun _ _ => rfl)))) pa_nil)) pe_int) (pg_sub (pv 0) pe_int set_list))
      (pss_one (ps_ret (pe_op op_mod (pe_callTy call_int1 (by rfl) g_int (by decide +kernel) (pa_cons (pe_op op_fdiv (pe_ix ix_list (pv 0) pe_int (fun _ _ => rfl)) pe_int) pa_nil)) (pv 1))))))))
  case r =>
    obtain ⟨p, j, rfl, ⟨a, b, c, hp⟩, j0, j1, k⟩ := h
    have ix : ∀ {H' : Hp} {x y z : Int}, H' p = some (.lst [.int x, .int y, .int z]) → SqL K H' p [.int x, .int y, .int z] := fun q => .inl (.inl q)
    have nep : ∀ (o : HO) (b : Addr) (u : HO), b ≠ p → H b = some u → upd H p o b = some u := fun o b u n e => (upd_ne n).trans e
    walk_at "rd"
    refine ⟨p, _, 0, _, rfl, rfl, ix hp, atI_nat (j := 0) rfl, ?_⟩
    walk_at "rd"
    refine ite2 (fun c1 => ?_) (fun c1 => ?_)
    · walk_at "rd"
      refine ⟨p, _, 0, _, rfl, rfl, ix hp, atI_nat (j := 0) rfl, ?_⟩
      walk_at "rd"
      refine ⟨a, j, rfl, ⟨j0, j1⟩, fun t ht => ?_⟩
      have hpt : p ≠ t := ne_of_none hp ht
      have h2 : upd H t (.tup [.int (a / j), .int (a % j)]) p = some (.lst [.int a, .int b, .int c]) := (upd_ne hpt).trans hp
      refine ⟨t, _, rfl, .inl (.inl upd_same), rfl, _, _, rfl, _, rfl, p, _, 0, 0, rfl, rfl, h2, rfl, _, _, rfl, rfl, _, rfl, ?_⟩
      refine k _ _ (fun b o n e => ?_) ⟨_, _, _, upd_same⟩ (Int.emod_nonneg _ (by omega)) (Int.emod_lt_of_pos _ j0)
      rw [upd_ne n]
      exact same_upd ht _ _ e
    · refine ⟨_, rfl, p, _, 2, _, rfl, rfl, ix hp, atI_nat (j := 2) rfl, _, _, rfl, rfl, _, rfl, p, _, 2, 2, rfl, rfl, hp, rfl, ?_⟩
      have q1 : upd H p (.lst [.int a, .int b, .int (c + 1)]) p = some (.lst [.int a, .int b, .int (c + 1)]) := upd_same
      refine ⟨_, rfl, p, _, 1, _, rfl, rfl, ix q1, atI_nat (j := 1) rfl, _, rfl, p, _, 2, _, rfl, rfl, ix q1, atI_nat (j := 2) rfl, ?_⟩
      walk_at "rd"
      refine ⟨(.inl ⟨by omega, by omega⟩ : CMul _ _), ?_⟩
      walk_at "rd"
      refine ⟨p, _, 2, _, rfl, rfl, ix q1, atI_nat (j := 2) rfl, ?_⟩
      walk_at "rd"
      refine ⟨p, _, 1, 1, rfl, rfl, q1, rfl, ?_⟩
      refine ⟨_, rfl, p, _, 1, _, rfl, rfl, ix upd_same, atI_nat (j := 1) rfl, ?_⟩
      walk_at "rd"
      refine ⟨j0, ?_⟩
      refine k _ _ (fun b o n e => ?_) ⟨_, _, _, upd_same⟩ (Int.emod_nonneg _ (by omega)) (Int.emod_lt_of_pos _ j0)
      rw [upd_ne n, upd_ne n]
      exact e
end
end K5
namespace K5
open PySem PySem.Spec PyProof.Rows L2 Vk
local macro_rules | `(tactic| walk_at "rd1") => `(tactic| first
  | refine ⟨_, _, rfl, rfl, ?_⟩ | refine ⟨_, rfl, ?_⟩ | refine Or.inl ⟨_, rfl, ?_⟩
  | refine ⟨(by decide : (0 : Int) < _), ?_⟩ | refine ⟨(Or.inl (by decide) : CMul _ _), ?_⟩ | refine ⟨(Or.inr (by decide) : CMul _ _), ?_⟩ | refine ⟨(⟨by decide, by decide, by decide⟩ : CPow _ _), ?_⟩ | refine ⟨(⟨by decide, by decide⟩ : CDiv _ _), ?_⟩)
local macro_rules | `(tactic| walk_at "rd") => `(tactic| repeat walk_at "rd1")
abbrev sThing : Stmt := top 40
/-- all but p stands as it stood -/
def But (p : Addr) (H H' : Hp) : Prop := ∀ b o, b ≠ p → H b = some o → H' b = some o
theorem But.trans {p : Addr} {H H1 H2 : Hp} (a : But p H H1) (b : But p H1 H2) : But p H H2 := fun c o n e => b c o n (a c o n e)
theorem But.of {p : Addr} {H H' : Hp} (s : Same H H') : But p H H' := fun b o _ e => s b o e
/-- the heap without p -/
def hide (p : Addr) (H : Hp) : Hp := fun b => if b = p then none else H b
theorem hide_ne {p b : Addr} {H : Hp} (h : b ≠ p) : hide p H b = H b := if_neg h
theorem hide_some {p b : Addr} {H : Hp} {o : HO} (h : hide p H b = some o) : b ≠ p ∧ H b = some o := by
  unfold hide at h
  split at h
  · cases h
  · rename_i n
    exact ⟨n, h⟩
theorem hide_same {p : Addr} {H : Hp} : Same (hide p H) H := fun b o e => (hide_some e).2
theorem But.hide {p : Addr} {H H' : Hp} (s : But p H H') : Same (hide p H) (hide p H') := fun b o e => by
  obtain ⟨n, q⟩ := hide_some e
  rw [hide_ne n]
  exact s b o n q
theorem But.seq {K : PySem.W.Frag} {p l : Addr} {H H' : Hp} {xs : List V} (s : But p H H') (n : l ≠ p) (h : SqL K H l xs) : SqL K H' l xs := by
  rcases h with (h | ⟨o, h⟩) | h
  · exact .inl (.inl (s _ _ n h))
  · exact .inl (.inr ⟨o, s _ _ n h⟩)
  · exact .inr h
theorem same_set {p : Addr} {o : HO} {H H' : Hp} (s : Same H H') (n : H p = none) : Same H (upd H' p o) := fun b u e => by
  rw [upd_ne (ne_of_none e n)]
  exact s b u e
def spOne (K : PySem.W.Frag) : Sp := fun vs H Q _ => ∃ (p l : Addr) (xs : List V), vs = [.ref p, .ref l] ∧ Spr H p ∧ l ≠ p ∧ SqL K H l xs ∧ 0 < xs.length ∧ xs.length ≤ 1000 ∧
  ∀ H' v, But p H H' → Spr H' p → v ∈ xs → Q v H'
/-- data that is not great -/
structure Good (k : Nat) (d : PyData) : Prop where
  sh : d.showable = true
  dp : d.depth ≤ k + 2
  ln : d.shown.length ≤ 100 + 20 * k
section
open PyData
theorem Good.lst {k : Nat} {d : PyData} (g : Good k d) : Good (k + 1) (.list [d]) := by
  refine ⟨?_, ?_, ?_⟩
  · simp [showable, showableAll, g.sh]
  · have := g.dp
    simp only [depth, depthAll]
    omega
  · have := g.ln
    simp only [PyData.shown, PyData.shownAll, listText, textFrom, strLen_append]
    have z1 : (PySem.Str.ofString "[").length = 1 := rfl
    have z2 : (PySem.Str.ofString "]").length = 1 := rfl
    have z3 : (PySem.Str.ofString (if 0 > 0 then ", " else "")).length = 0 := rfl
    omega
theorem tup2 (a b : Str) : (tupleText [a, b]).length = a.length + b.length + 4 := by
  have j := join_length_add [a, b] (by simp)
  rw [piled_cons, piled_cons, piled_nil] at j
  show (PySem.Str.ofString "(" ++ PySem.Str.join (PySem.Str.ofString ", ") [a, b] ++ PySem.Str.ofString ")").length = _
  rw [strLen_append, strLen_append]
  have z1 : (PySem.Str.ofString "(").length = 1 := rfl
  have z2 : (PySem.Str.ofString ")").length = 1 := rfl
  omega
theorem Good.tup7 {k : Nat} {d : PyData} (g : Good k d) : Good (k + 1) (.tuple [d, .int 7]) := by
  refine ⟨?_, ?_, ?_⟩
  · simp [showable, showableAll, g.sh]
    decide
  · have := g.dp
    simp only [depth, depthAll]
    omega
  · have := g.ln
    rw [show PyData.shown (.tuple [d, .int 7]) = tupleText [d.shown, PySem.Str.ofString (toString (7 : Int))] by simp only [PyData.shown, PyData.shownAll], tup2]
    have z3 : (PySem.Str.ofString (toString (7 : Int))).length = 1 := by decide +kernel
    omega
theorem Good.low {k : Nat} {d : PyData} (g : Good k d) : Good (k + 1) (.tuple [.str "low", d]) := by
  refine ⟨?_, ?_, ?_⟩
  · simp [showable, showableAll, g.sh]
  · have := g.dp
    simp only [depth, depthAll]
    omega
  · have := g.ln
    rw [show PyData.shown (.tuple [.str "low", d]) = tupleText [reprText (PySem.Str.ofString "low"), d.shown] by simp only [PyData.shown, PyData.shownAll], tup2]
    have z3 : (reprText (PySem.Str.ofString "low")).length = 5 := by decide +kernel
    omega
theorem Good.dic {k : Nat} {d : PyData} (g : Good k d) : Good (k + 1) (.dict [(.str "k", d)]) := by
  refine ⟨?_, ?_, ?_⟩
  · simp [showable, showableKv, g.sh]
  · have := g.dp
    simp only [depth, depthKv]
    omega
  · have := g.ln
    simp only [PyData.shown, PyData.shownKv, dictText, strLen_append]
    have j := join_length_add [reprText (PySem.Str.ofString "k") ++ PySem.Str.ofString ": " ++ d.shown] (by simp)
    rw [piled_cons, piled_nil, strLen_append, strLen_append] at j
    have z1 : (PySem.Str.ofString "{").length = 1 := rfl
    have z2 : (PySem.Str.ofString "}").length = 1 := rfl
    have z3 : (reprText (PySem.Str.ofString "k")).length = 3 := by decide +kernel
    have z4 : (PySem.Str.ofString ": ").length = 2 := rfl
    omega
end
def spThing : Sp := fun vs H Q _ => ∃ p : Addr, vs = [.ref p] ∧ Spr H p ∧ ∀ H' v d, But p H H' → Spr H' p → Dq (hide p H') v d → Good 3 d → Q v H'
section
variable {P : Program} {w : World} {K : PySem.W.Frag} {mg : Str → Option Value} {base : Heap} {f fD fO : Addr} {fd fdD fdO : FuncData}
abbrev nOn : List Str := ["_law_spring_here", "_law_some"]
theorem scOn : FnScope nOn nOn (defScope sOne) := ⟨rfl, rfl, rfl, by decide +kernel, rfl, by decide +kernel, by decide +kernel⟩
theorem ok_one (F : FnP K "_law_one_of" sOne f fd) (GD : FnOk P w K mg base CX0 1 fD fdD ["_law_spring_here", "_law_many"] spDip) (gD : mg "_law_dip" = some (.ref fD)) (kD : PySem.W.keepIn K (.ref fD) = true) (bD : Binds K fdD ["_law_spring_here", "_law_many"] [])
    (g_len : mg "len" = none) : FnOk P w K mg base CX0 2 f fd nOn (spOne K) := by
  refine F.ok scOn (fun vs H Q E h => ?_) ?_
  · obtain ⟨p, l, xs, rfl, _⟩ := h
    rfl
  intro cdv A outer s H vs Q E hr h
  refine' ⟨_, PSs.nox ?b, ?r⟩
  case b => exact (pss_one (ps_ret (pe_ix ix_list (pv 1) (pe_call GD hr rfl gD kD bD .nil pass0 (pa_cons (pv 0) (pa_cons (pe_callB call_len_seq (by rfl) g_len (by decide +kernel) (pa_cons (pv 1) pa_nil)) pa_nil))) (fun _ _ => rfl))))
  case r =>
    obtain ⟨p, l, xs, rfl, hp, n, hl, h0, h1, k⟩ := h
    walk_at "rd"
    refine ⟨l, _, rfl, .inl hl, p, _, rfl, hp, by omega, by omega, fun H' r kp sp r0 r1 => ?_⟩
    obtain ⟨m, rfl⟩ := Int.eq_ofNat_of_zero_le r0
    have lt : m < xs.length := by omega
    exact ⟨l, _, _, _, rfl, rfl, But.seq kp n hl, atI_nat (List.getElem?_eq_getElem lt), k H' _ kp sp (List.getElem_mem lt)⟩
abbrev nTh : List Str := ["_law_spring_here", "_law_some", "_law_found", "_law_turn"]
theorem scTh : FnScope nTh ["_law_spring_here"] (defScope sThing) := ⟨rfl, rfl, rfl, by decide +kernel, rfl, by decide +kernel, by decide +kernel⟩
theorem ok_thing (F : FnP K "_law_thing" sThing f fd) (GD : FnOk P w K mg base CX0 1 fD fdD ["_law_spring_here", "_law_many"] spDip) (gD : mg "_law_dip" = some (.ref fD)) (kD : PySem.W.keepIn K (.ref fD) = true) (bD : Binds K fdD ["_law_spring_here", "_law_many"] [])
    (GO : FnOk P w K mg base CX0 2 fO fdO nOn (spOne K)) (gO : mg "_law_one_of" = some (.ref fO)) (kO : PySem.W.keepIn K (.ref fO) = true) (bO : Binds K fdO nOn [])
    (g_range : mg "range" = none) : FnOk P w K mg base CX0 3 f fd ["_law_spring_here"] spThing := by
  refine F.ok scTh (fun vs H Q E h => ?_) ?_
  · obtain ⟨p, rfl, _⟩ := h
    rfl
  intro cdv A outer s H vs Q E hr h
  refine' ⟨_, PSs.nox ?b, ?r⟩
  case b => exact (pss_cons (ps_set (i := 1) scTh.nd rfl (.inl rfl) (pe_lst (pa_cons pe_non (pa_cons pe_bl (pa_cons pe_bl (pa_cons pe_int (pa_cons (pe_un un_neg pe_int) (pa_cons (pe_op op_pow pe_int pe_int) (pa_cons pe_str (pa_cons pe_str (pa_cons pe_str (pa_cons (pe_tup pa_nil) (pa_cons (pe_tup (pa_cons pe_int (pa_cons pe_int pa_nil))) (pa_cons (pe_tup (pa_cons pe_int (pa_cons (pe_tup pa_nil) pa_nil))) (pa_cons (pe_lst pa_nil) (pa_cons (pe_lst (pa_cons pe_int (pa_cons (pe_lst (pa_cons pe_int pa_nil)) pa_nil))) (pa_cons (pe_dnewK) (pa_cons (pe_disp (pps_cons pe_str (pe_tup (pa_cons pe_int (pa_cons pe_int pa_nil))) pps_nil) (by rfl) (by rfl) (fun z => by cases z) (by decide)) pa_nil))))))))))))))))))
      (pss_cons (ps_set (i := 2) scTh.nd rfl (.inl rfl) (pe_call GO hr rfl gO kO bO .nil pass0 (pa_cons (pv 0) (pa_cons (pv 1) pa_nil))))
      (pss_cons (ps_for PassesOwn.never rfl (pi_range1 rfl g_range (pa_cons (pe_call GD (hr.mono (by decide)) rfl gD kD bD .nil pass0 (pa_cons (pv 0) (pa_cons pe_int pa_nil))) pa_nil)) (pg_name (i := 3) scTh.nd rfl (.inl rfl)) (pss_one (ps_set (i := 2) scTh.nd rfl (.inl rfl) (pe_call GO hr rfl gO kO bO .nil pass0 (pa_cons (pv 0) (pa_cons (pe_lst (pa_cons (pe_lst (pa_cons (pv 2) pa_nil)) (pa_cons (pe_tup (pa_cons (pv 2) (pa_cons pe_int pa_nil))) (pa_cons (pe_tup (pa_cons pe_str (pa_cons (pv 2) pa_nil))) (pa_cons (pe_disp (pps_cons pe_str (pv 2) pps_nil) (by rfl) (by rfl) (fun z => by cases z) (by decide)) pa_nil))))) pa_nil))))))
      (pss_one (ps_ret (pv 2))))))
  case r =>
    obtain ⟨p, rfl, hp, k⟩ := h
    obtain ⟨z1, z2, z3, hp0⟩ := id hp
    have z : (1 : Nat) ≤ 1000000 := by decide
    walk_at "rd"
    refine ⟨le_line (by decide : 0 ≤ 1000000), fun a1 n1 => ?_⟩
    have s1 := same_upd (o := .tup []) n1
    have f1 : upd H a1 (.tup []) a1 = some (.tup []) := upd_same
    have e1 := ne_of_none hp0 n1
    generalize upd H a1 (.tup []) = H1 at *
    refine ⟨le_line (by decide : 2 ≤ 1000000), fun a2 n2 => ?_⟩
    have s2 := same_upd (o := .tup [.int 1, .int 2]) n2
    have f2 : upd H1 a2 (.tup [.int 1, .int 2]) a2 = some (.tup [.int 1, .int 2]) := upd_same
    have e2 := ne_of_none (s1 _ _ hp0) n2
    generalize upd H1 a2 (.tup [.int 1, .int 2]) = H2 at *
    have s02 := s2
    replace s2 := s1.trans s2
    refine ⟨le_line (by decide : 0 ≤ 1000000), fun a3 n3 => ?_⟩
    have s3 := same_upd (o := .tup []) n3
    have f3 : upd H2 a3 (.tup []) a3 = some (.tup []) := upd_same
    have e3 := ne_of_none (s2 _ _ hp0) n3
    generalize upd H2 a3 (.tup []) = H3 at *
    refine ⟨le_line (by decide : 2 ≤ 1000000), fun a4 n4 => ?_⟩
    have s4 := same_upd (o := .tup [.int 0, .ref a3]) n4
    have f4 : upd H3 a4 (.tup [.int 0, .ref a3]) a4 = some (.tup [.int 0, .ref a3]) := upd_same
    have e4 := ne_of_none (s3 _ _ (s2 _ _ hp0)) n4
    generalize upd H3 a4 (.tup [.int 0, .ref a3]) = H4 at *
    refine ⟨le_line (by decide : 0 ≤ 1000000), fun a5 n5 => ?_⟩
    have s5 := same_upd (o := .lst []) n5
    have f5 : upd H4 a5 (.lst []) a5 = some (.lst []) := upd_same
    have e5 := ne_of_none (s4 _ _ (s3 _ _ (s2 _ _ hp0))) n5
    generalize upd H4 a5 (.lst []) = H5 at *
    have t5 := s2.trans (s3.trans (s4.trans s5))
    refine ⟨le_line (by decide : 1 ≤ 1000000), fun a6 n6 => ?_⟩
    have s6 := same_upd (o := .lst [.int 2]) n6
    have f6 : upd H5 a6 (.lst [.int 2]) a6 = some (.lst [.int 2]) := upd_same
    have e6 := ne_of_none (t5 _ _ hp0) n6
    generalize upd H5 a6 (.lst [.int 2]) = H6 at *
    refine ⟨le_line (by decide : 2 ≤ 1000000), fun a7 n7 => ?_⟩
    have s7 := same_upd (o := .lst [.int 1, .ref a6]) n7
    have f7 : upd H6 a7 (.lst [.int 1, .ref a6]) a7 = some (.lst [.int 1, .ref a6]) := upd_same
    have e7 := ne_of_none (s6 _ _ (t5 _ _ hp0)) n7
    generalize upd H6 a7 (.lst [.int 1, .ref a6]) = H7 at *
    intro a8 n8
    have s8 := same_upd (o := .dK []) n8
    have f8 : upd H7 a8 (.dK []) a8 = some (.dK []) := upd_same
    have e8 := ne_of_none (s7 _ _ (s6 _ _ (t5 _ _ hp0))) n8
    generalize upd H7 a8 (.dK []) = H8 at *
    have t8 := t5.trans (s6.trans (s7.trans s8))
    intro a9 n9
    have s9 := same_upd (o := .dK []) n9
    have f9 : upd H8 a9 (.dK []) a9 = some (.dK []) := upd_same
    have e9 := ne_of_none (t8 _ _ hp0) n9
    generalize upd H8 a9 (.dK []) = H9 at *
    refine ⟨le_line (by decide : 2 ≤ 1000000), fun a10 n10 => ?_⟩
    have s10 := same_upd (o := .tup [.int 1, .int 1]) n10
    have f10 : upd H9 a10 (.tup [.int 1, .int 1]) a10 = some (.tup [.int 1, .int 1]) := upd_same
    have e10 := ne_of_none (s9 _ _ (t8 _ _ hp0)) n10
    have e910 := ne_of_none f9 n10
    generalize upd H9 a10 (.tup [.int 1, .int 1]) = H10 at *
    refine ⟨s10 _ _ f9, [(Sum.inr "a", .ref a10)], rfl, (by decide : 1 ≤ 15), ?_⟩
    have s11 := same_set (o := .dK [(Sum.inr "a", .ref a10)]) (s9.trans s10) n9
    have f11 : upd H10 a9 (.dK [(Sum.inr "a", .ref a10)]) a9 = some (.dK [(Sum.inr "a", .ref a10)]) := upd_same
    have f12 : upd H10 a9 (.dK [(Sum.inr "a", .ref a10)]) a10 = some (.tup [.int 1, .int 1]) := (upd_ne (Ne.symm e910)).trans f10
    have em : mergeK [] [((Sum.inr "a" : Key), V.ref a10)] = [((Sum.inr "a" : Key), V.ref a10)] := rfl
    rw [em]
    generalize upd H10 a9 (.dK [(Sum.inr "a", .ref a10)]) = H11 at *
    refine ⟨le_line (by show 16 ≤ 1000000; decide), fun a12 n12 => ?_⟩
    have t11 := t8.trans s11
    have s12 : ∀ o, Same H11 (upd H11 a12 o) := fun o => same_upd n12
    have e12 := ne_of_none (t11 _ _ hp0) n12
    refine ⟨_, rfl, _, rfl, p, a12, _, rfl, ⟨z1, z2, z3, s12 _ _ _ (t11 _ _ hp0)⟩, Ne.symm e12, .inl (.inl upd_same), by show 0 < 16; decide, by show 16 ≤ 1000; decide, fun H' v kp sp hv => ?_⟩
    have kh : ∀ {b : Addr} {o : HO}, p ≠ b → H11 b = some o → hide p H' b = some o := fun n q => (hide_ne (Ne.symm n)).trans (kp _ _ (Ne.symm n) (s12 _ _ _ q))
    have k0 : But p H H' := (But.of (t11.trans (s12 _))).trans kp
    have r8 := s8.trans s11
    have r7 := s7.trans r8
    have r6 := s6.trans r7
    have r5 := s5.trans r6
    have r4 := s4.trans r5
    have r3 := s3.trans r4
    have r2 := s02.trans r3
    have start : ∃ d, Dq (hide p H') v d ∧ Good 0 d := by
      simp only [List.mem_cons, List.not_mem_nil, or_false] at hv
      rcases hv with rfl | rfl | rfl | rfl | rfl | rfl | rfl | rfl | rfl | rfl | rfl | rfl | rfl | rfl | rfl | rfl
      · exact ⟨_, .non, by decide +kernel, by decide +kernel, by decide +kernel⟩
      · exact ⟨_, .bl _, by decide +kernel, by decide +kernel, by decide +kernel⟩
      · exact ⟨_, .bl _, by decide +kernel, by decide +kernel, by decide +kernel⟩
      · exact ⟨_, .int _, by decide +kernel, by decide +kernel, by decide +kernel⟩
      · exact ⟨_, .int _, by decide +kernel, by decide +kernel, by decide +kernel⟩
      · exact ⟨_, .int _, by decide +kernel, by decide +kernel, by decide +kernel⟩
      · exact ⟨_, .str _, by decide +kernel, by decide +kernel, by decide +kernel⟩
      · exact ⟨_, .str _, by decide +kernel, by decide +kernel, by decide +kernel⟩
      · exact ⟨_, .str _, by decide +kernel, by decide +kernel, by decide +kernel⟩
      · exact ⟨_, .tup (kh e1 (r2 _ _ f1)) .nil, by decide +kernel, by decide +kernel, by decide +kernel⟩
      · exact ⟨_, .tup (kh e2 (r3 _ _ f2)) (.cons (.int _) (.cons (.int _) .nil)), by decide +kernel, by decide +kernel, by decide +kernel⟩
      · exact ⟨_, .tup (kh e4 (r5 _ _ f4)) (.cons (.int _) (.cons (.tup (kh e3 (r4 _ _ f3)) .nil) .nil)), by decide +kernel, by decide +kernel, by decide +kernel⟩
      · exact ⟨_, .lst (kh e5 (r6 _ _ f5)) .nil, by decide +kernel, by decide +kernel, by decide +kernel⟩
      · exact ⟨_, .lst (kh e7 (r8 _ _ f7)) (.cons (.int _) (.cons (.lst (kh e6 (r7 _ _ f6)) (.cons (.int _) .nil)) .nil)), by decide +kernel, by decide +kernel, by decide +kernel⟩
      · exact ⟨.dict [], .dic (kh e8 (s11 _ _ f8)) rfl .nil, by decide +kernel, by decide +kernel, by decide +kernel⟩
      · exact ⟨.dict [(.str "a", .tuple [.int 1, .int 1])], .dic (kh e9 f11) rfl (.cons (.tup (kh e10 f12) (.cons (.int _) (.cons (.int _) .nil))) .nil), by decide +kernel, by decide +kernel, by decide +kernel⟩
    obtain ⟨d0, hd0, g0⟩ := start
    refine ⟨_, rfl, p, 4, rfl, sp, by decide, by decide, fun H2' r kp2 sp2 r0 r1 => ?_⟩
    refine ⟨r, rfl, by omega, by omega, for_range (lo := 0) (n := r.toNat) (fun i σ G => ∃ (u : V) (d : PyData) (y : Option V), σ = [some (.ref p), some (.ref a12), some u, y] ∧ But p H G ∧ Spr G p ∧ Dq (hide p G) u d ∧ Good i d)
      ⟨v, d0, none, rfl, k0.trans kp2, sp2, hd0.same (But.hide kp2), g0⟩ ?_ ?_⟩
    · rintro i σ G hi ⟨u, d, y, rfl, kG, spG, hd, gd⟩
      obtain ⟨y1, y2, y3, pG⟩ := id spG
      refine ⟨_, rfl, _, rfl, le_line (by decide : 1 ≤ 1000000), fun b1 m1 => ?_⟩
      have w1 := same_upd (o := .lst [u]) m1
      have g1 : upd G b1 (.lst [u]) b1 = some (.lst [u]) := upd_same
      have q1 := ne_of_none pG m1
      generalize upd G b1 (.lst [u]) = G1 at *
      refine ⟨_, rfl, le_line (by decide : 2 ≤ 1000000), fun b2 m2 => ?_⟩
      have w2 := same_upd (o := .tup [u, .int 7]) m2
      have g2 : upd G1 b2 (.tup [u, .int 7]) b2 = some (.tup [u, .int 7]) := upd_same
      have q2 := ne_of_none (w1 _ _ pG) m2
      generalize upd G1 b2 (.tup [u, .int 7]) = G2 at *
      refine ⟨_, rfl, le_line (by decide : 2 ≤ 1000000), fun b3 m3 => ?_⟩
      have w3 := same_upd (o := .tup [.str "low", u]) m3
      have g3 : upd G2 b3 (.tup [.str "low", u]) b3 = some (.tup [.str "low", u]) := upd_same
      have q3 := ne_of_none (w2 _ _ (w1 _ _ pG)) m3
      generalize upd G2 b3 (.tup [.str "low", u]) = G3 at *
      have w123 := w1.trans (w2.trans w3)
      intro b4 m4
      have w4 := same_upd (o := .dK []) m4
      have g4 : upd G3 b4 (.dK []) b4 = some (.dK []) := upd_same
      have q4 := ne_of_none (w123 _ _ pG) m4
      generalize upd G3 b4 (.dK []) = G4 at *
      refine ⟨_, rfl, g4, [(Sum.inr "k", u)], rfl, (by decide : 1 ≤ 15), ?_⟩
      have w5 := same_set (o := .dK [(Sum.inr "k", u)]) w4 m4
      have g5 : upd G4 b4 (.dK [(Sum.inr "k", u)]) b4 = some (.dK [(Sum.inr "k", u)]) := upd_same
      have em2 : mergeK [] [((Sum.inr "k" : Key), u)] = [((Sum.inr "k" : Key), u)] := rfl
      rw [em2]
      generalize upd G4 b4 (.dK [(Sum.inr "k", u)]) = G5 at *
      refine ⟨le_line (by show 4 ≤ 1000000; decide), fun b6 m6 => ?_⟩
      have wG := w123.trans w5
      have w6 : ∀ o, Same G5 (upd G5 b6 o) := fun o => same_upd m6
      have q6 := ne_of_none (wG _ _ pG) m6
      refine ⟨p, b6, _, rfl, ⟨y1, y2, y3, w6 _ _ _ (wG _ _ pG)⟩, Ne.symm q6, .inl (.inl upd_same), by show 0 < 4; decide, by show 4 ≤ 1000; decide, fun G' x kp3 sp3 hx => ?_⟩
      have kG' : But p G G' := (But.of (wG.trans (w6 _))).trans kp3
      have hd' := hd.same (But.hide kG')
      have kg : ∀ {b : Addr} {o : HO}, p ≠ b → G5 b = some o → hide p G' b = some o := fun n q => (hide_ne (Ne.symm n)).trans (kp3 _ _ (Ne.symm n) (w6 _ _ _ q))
      have nxt : ∃ e, Dq (hide p G') x e ∧ Good (i + 1) e := by
        simp only [List.mem_cons, List.not_mem_nil, or_false] at hx
        rcases hx with rfl | rfl | rfl | rfl
        · exact ⟨_, .lst (kg q1 (w5 _ _ (w3 _ _ (w2 _ _ g1)))) (.cons hd' .nil), gd.lst⟩
        · exact ⟨_, .tup (kg q2 (w5 _ _ (w3 _ _ g2))) (.cons hd' (.cons (.int _) .nil)), gd.tup7⟩
        · exact ⟨_, .tup (kg q3 (w5 _ _ g3)) (.cons (.str _) (.cons hd' .nil)), gd.low⟩
        · exact ⟨.dict [(.str "k", d)], .dic (kg q4 g5) rfl (.cons hd' .nil), gd.dic⟩
      obtain ⟨e, he, ge⟩ := nxt
      exact ⟨x, e, _, rfl, kG.trans kG', sp3, he, ge⟩
    · rintro σ G ⟨u, d, y, rfl, kG, spG, hd, gd⟩
      have hr3 : r.toNat ≤ 3 := by omega
      exact ⟨_, rfl, k G u d kG spG hd ⟨gd.sh, Nat.le_trans gd.dp (by omega), Nat.le_trans gd.ln (by omega)⟩⟩
end
end K5
namespace K5
open PySem PySem.Spec PyProof.Rows L2 Vk
abbrev sGiven : Stmt := top 32
abbrev sGivenN : Stmt := top 33
abbrev sIndex : Stmt := top 34
abbrev sIndexN : Stmt := top 35
abbrev sBare : Stmt := top 36
abbrev sKinds : Stmt := top 37
abbrev sUnder : Stmt := top 38
def nG : List Str := ["InvalidFraction", "InvalidNumber", "InvalidRow", "InvalidSplitter", "InvalidJoiner", "InvalidTable", "InvalidEndless", "InvalidTurns", "InvalidLadder", "InvalidMask", "InvalidTree", "NotAPartner", "InvalidIndex", "InvalidName", "InvalidWish", "InvalidPhrase", "NotAWorkshop", "UnknownName", "HighBelowLow"]
def nI : List Str := ["InvalidNumbers", "InvalidChannels", "InUse", "Broken"]
def nB : List Str := ["NoCurve", "NotSteep", "NothingToUndo"]
def nAll : List Str := nG ++ (nI ++ nB)
/-- what the top leaves of the classes -/
structure Fx (P : Program) (w : World) (K : PySem.W.Frag) (mg : Str → Option Value) (base : Heap) : Prop where
  hG : ∀ x ∈ nG, ExI P w K mg base x "given" (He.ga K x)
  hI : ∀ x ∈ nI, ExI P w K mg base x "index" (He.ga K x)
  g : ∀ x ∈ nAll, mg x = some (.ref (He.ga K x))
  gB : mg "BandError" = some (.ref (He.ga K "BandError"))
  gb : ∀ x ∈ (("BandError" : Str) :: nB), mg x = some (.ref (He.ga K x))
  e : ∀ x ∈ (("BandError" : Str) :: nAll), ExK K (He.ga K x)
  b : ∀ x ∈ (("BandError" : Str) :: nB), PySem.W.excIn K (He.ga K x) He.veBase "ValueError.__new__" = true ∧ PySem.W.keepIn K (.ref (He.ga K x)) = true
  kk : ∀ (i j : Nat) (x y : Str), nAll[i]? = some x → nAll[j]? = some y → PySem.W.kitOne K (.ref (He.ga K x)) (.ref (He.ga K y)) = some (decide (i = j))
  kB : ∀ y ∈ nAll, PySem.W.kitOne K (.ref (He.ga K "BandError")) (.ref (He.ga K y)) = some false
  ku : ∀ x ∈ (("BandError" : Str) :: nAll), PySem.W.kitOne K (.ref (He.ga K x)) (.ref (He.ga K "BandError")) = some true ∧ PySem.W.kitOne K (.ref (He.ga K x)) (.type "ValueError") = some true ∧ PySem.W.kitOne K (.ref (He.ga K x)) (.type "LookupError") = some false ∧
    PySem.W.kitAny K (.ref (He.ga K x)) [.type "TypeError", .type "ArithmeticError", .type "RuntimeError"] = some false
/-! ### lists of errors -/
def tHolds (n : Str) : List Addr → TA
  | [] => tNil
  | C :: r => tCons (tHold C n (tVar 0)) (tHolds n r)
abbrev Holds (H : Hp) (n : Str) (v : V) (as Cs : List Addr) : Prop := Paired (fun a C => HeldF H a C n v) as Cs
theorem Holds.same {H H' : Hp} {n : Str} {v : V} (s : Same H H') : ∀ {as Cs : List Addr}, Holds H n v as Cs → Holds H' n v as Cs
  | _, _, .nil => .nil
  | _, _, .cons h t => .cons (h.same s) (Holds.same s t)
theorem same_hold {H : Hp} {a d : Addr} {o u : HO} (ha : H a = none) (hd : H d = none) (n : d ≠ a) : Same H (upd (upd H d o) a u) := fun b x e => by
  rw [upd_ne (ne_of_none e ha), upd_ne (ne_of_none e hd)]
  exact e
theorem read_holds {n : Str} {v : V} {σ : L2.St} (hv : σ[0]? = some (some v)) : ∀ (Cs : List Addr) (H : Hp) (Q : List V → Hp → Prop), (∀ H' as, Same H H' → Holds H' n v as Cs → Q (as.map V.ref) H') → tHolds n Cs σ H Q
  | [], H, Q, k => k H [] (Same.refl H) .nil
  | C :: r, H, Q, k => ⟨v, hv, fun a d ha hd ne => read_holds hv r _ _ fun H' as s p =>
      k H' (a :: as) ((same_hold ha hd ne).trans s) (.cons ⟨d, s _ _ upd_same, s _ _ ((upd_ne ne).trans upd_same)⟩ p)⟩
def spHolds (n : Str) (Cs : List Addr) : Sp := fun vs H Q _ => ∃ v : V, vs = [v] ∧ ∀ H' p as, Same H H' → H' p = some (.lst (as.map V.ref)) → Holds H' n v as Cs → Q (.ref p) H'
section
variable {P : Program} {w : World} {K : PySem.W.Frag} {mg : Str → Option Value} {base : Heap} {f : Addr} {fd : FuncData}
abbrev nW : List Str := ["_law_thing_here"]
theorem scG : FnScope nW nW (defScope sGiven) := ⟨rfl, rfl, rfl, by decide +kernel, rfl, by decide +kernel, by decide +kernel⟩
theorem scGn : FnScope nW nW (defScope sGivenN) := ⟨rfl, rfl, rfl, by decide +kernel, rfl, by decide +kernel, by decide +kernel⟩
theorem scI : FnScope nW nW (defScope sIndex) := ⟨rfl, rfl, rfl, by decide +kernel, rfl, by decide +kernel, by decide +kernel⟩
theorem scIn : FnScope nW nW (defScope sIndexN) := ⟨rfl, rfl, rfl, by decide +kernel, rfl, by decide +kernel, by decide +kernel⟩
theorem holds_len {H : Hp} {n : Str} {v : V} {as Cs : List Addr} (p : Holds H n v as Cs) (h : Cs.length ≤ 1000) : (as.map V.ref).length ≤ sizeLine := by
  rw [List.length_map]
  have e := Paired.length p
  exact le_line (by omega)
theorem read_list {n : Str} {v : V} {σ : L2.St} {D : Ends} {Cs : List Addr} {H : Hp} (hv : σ[0]? = some (some v)) (hc : Cs.length ≤ 1000) (k : ∀ H' p as, Same H H' → H' p = some (.lst (as.map V.ref)) → Holds H' n v as Cs → D.rt (.ref p) H') : tRet (tLst (tHolds n Cs)) D σ H :=
  read_holds hv Cs H _ fun H' as s p => ⟨holds_len p hc, fun q hq => k _ q as (s.trans (same_upd hq)) upd_same (p.same (same_upd hq))⟩
theorem ok_given (F : FnP K "_law_with_given" sGiven f fd) (FX : Fx P w K mg base) : FnOk P w K mg base CX0 3 f fd nW (spHolds "given" (nG.map (He.ga K))) := by
  refine F.ok scG (fun vs H Q E h => ?_) ?_
  · obtain ⟨v, rfl, _⟩ := h
    rfl
  intro cdv A outer s H vs Q E hr h
  refine' ⟨_, PSs.nox ?b, ?r⟩
  case b => exact (pss_one (ps_ret (pe_lst (pa_cons (pe_hold (FX.hG "InvalidFraction" (by simp [nG])) hr (pv 0)) (pa_cons (pe_hold (FX.hG "InvalidNumber" (by simp [nG])) hr (pv 0)) (pa_cons (pe_hold (FX.hG "InvalidRow" (by simp [nG])) hr (pv 0)) (pa_cons (pe_hold (FX.hG "InvalidSplitter" (by simp [nG])) hr (pv 0)) (pa_cons (pe_hold (FX.hG "InvalidJoiner" (by simp [nG])) hr (pv 0)) (pa_cons (pe_hold (FX.hG "InvalidTable" (by simp [nG])) hr (pv 0)) (pa_cons (pe_hold (FX.hG "InvalidEndless" (by simp [nG])) hr (pv 0)) (pa_cons (pe_hold (FX.hG "InvalidTurns" (by simp [nG])) hr (pv 0)) (pa_cons (pe_hold (FX.hG "InvalidLadder" (by simp [nG])) hr (pv 0)) (pa_cons (pe_hold (FX.hG "InvalidMask" (by simp [nG])) hr (pv 0)) (pa_cons (pe_hold (FX.hG "InvalidTree" (by simp [nG])) hr (pv 0)) (pa_cons (pe_hold (FX.hG "NotAPartner" (by simp [nG])) hr (pv 0)) (pa_cons (pe_hold (FX.hG "InvalidIndex" (by simp [nG])) hr (pv 0)) (pa_cons (pe_hold (FX.hG "InvalidName" (by simp [nG])) hr (pv 0)) (pa_cons (pe_hold (FX.hG "InvalidWish" (by simp [nG])) hr (pv 0)) (pa_cons (pe_hold (FX.hG "InvalidPhrase" (by simp [nG])) hr (pv 0)) (pa_cons (pe_hold (FX.hG "NotAWorkshop" (by simp [nG])) hr (pv 0)) (pa_cons (pe_hold (FX.hG "UnknownName" (by simp [nG])) hr (pv 0)) (pa_cons (pe_hold (FX.hG "HighBelowLow" (by simp [nG])) hr (pv 0)) pa_nil))))))))))))))))))))))
  case r =>
    obtain ⟨v, rfl, k⟩ := h
    exact read_list (n := "given") (Cs := nG.map (He.ga K)) rfl (by rw [List.length_map]; decide) k
theorem ok_givenN (F : FnP K "_law_with_given_named" sGivenN f fd) (FX : Fx P w K mg base) : FnOk P w K mg base CX0 3 f fd nW (spHolds "given" (nG.map (He.ga K))) := by
  refine F.ok scGn (fun vs H Q E h => ?_) ?_
  · obtain ⟨v, rfl, _⟩ := h
    rfl
  intro cdv A outer s H vs Q E hr h
  refine' ⟨_, PSs.nox ?b, ?r⟩
  case b => exact (pss_one (ps_ret (pe_lst (pa_cons (pe_holdK (FX.hG "InvalidFraction" (by simp [nG])) hr (pv 0)) (pa_cons (pe_holdK (FX.hG "InvalidNumber" (by simp [nG])) hr (pv 0)) (pa_cons (pe_holdK (FX.hG "InvalidRow" (by simp [nG])) hr (pv 0)) (pa_cons (pe_holdK (FX.hG "InvalidSplitter" (by simp [nG])) hr (pv 0)) (pa_cons (pe_holdK (FX.hG "InvalidJoiner" (by simp [nG])) hr (pv 0)) (pa_cons (pe_holdK (FX.hG "InvalidTable" (by simp [nG])) hr (pv 0)) (pa_cons (pe_holdK (FX.hG "InvalidEndless" (by simp [nG])) hr (pv 0)) (pa_cons (pe_holdK (FX.hG "InvalidTurns" (by simp [nG])) hr (pv 0)) (pa_cons (pe_holdK (FX.hG "InvalidLadder" (by simp [nG])) hr (pv 0)) (pa_cons (pe_holdK (FX.hG "InvalidMask" (by simp [nG])) hr (pv 0)) (pa_cons (pe_holdK (FX.hG "InvalidTree" (by simp [nG])) hr (pv 0)) (pa_cons (pe_holdK (FX.hG "NotAPartner" (by simp [nG])) hr (pv 0)) (pa_cons (pe_holdK (FX.hG "InvalidIndex" (by simp [nG])) hr (pv 0)) (pa_cons (pe_holdK (FX.hG "InvalidName" (by simp [nG])) hr (pv 0)) (pa_cons (pe_holdK (FX.hG "InvalidWish" (by simp [nG])) hr (pv 0)) (pa_cons (pe_holdK (FX.hG "InvalidPhrase" (by simp [nG])) hr (pv 0)) (pa_cons (pe_holdK (FX.hG "NotAWorkshop" (by simp [nG])) hr (pv 0)) (pa_cons (pe_holdK (FX.hG "UnknownName" (by simp [nG])) hr (pv 0)) (pa_cons (pe_holdK (FX.hG "HighBelowLow" (by simp [nG])) hr (pv 0)) pa_nil))))))))))))))))))))))
  case r =>
    obtain ⟨v, rfl, k⟩ := h
    exact read_list (n := "given") (Cs := nG.map (He.ga K)) rfl (by rw [List.length_map]; decide) k
theorem ok_index (F : FnP K "_law_with_index" sIndex f fd) (FX : Fx P w K mg base) : FnOk P w K mg base CX0 3 f fd nW (spHolds "index" (nI.map (He.ga K))) := by
  refine F.ok scI (fun vs H Q E h => ?_) ?_
  · obtain ⟨v, rfl, _⟩ := h
    rfl
  intro cdv A outer s H vs Q E hr h
  refine' ⟨_, PSs.nox ?b, ?r⟩
  case b => exact (pss_one (ps_ret (pe_lst (pa_cons (pe_hold (FX.hI "InvalidNumbers" (by simp [nI])) hr (pv 0)) (pa_cons (pe_hold (FX.hI "InvalidChannels" (by simp [nI])) hr (pv 0)) (pa_cons (pe_hold (FX.hI "InUse" (by simp [nI])) hr (pv 0)) (pa_cons (pe_hold (FX.hI "Broken" (by simp [nI])) hr (pv 0)) pa_nil)))))))
  case r =>
    obtain ⟨v, rfl, k⟩ := h
    exact read_list (n := "index") (Cs := nI.map (He.ga K)) rfl (by rw [List.length_map]; decide) k
theorem ok_indexN (F : FnP K "_law_with_index_named" sIndexN f fd) (FX : Fx P w K mg base) : FnOk P w K mg base CX0 3 f fd nW (spHolds "index" (nI.map (He.ga K))) := by
  refine F.ok scIn (fun vs H Q E h => ?_) ?_
  · obtain ⟨v, rfl, _⟩ := h
    rfl
  intro cdv A outer s H vs Q E hr h
  refine' ⟨_, PSs.nox ?b, ?r⟩
  case b => exact (pss_one (ps_ret (pe_lst (pa_cons (pe_holdK (FX.hI "InvalidNumbers" (by simp [nI])) hr (pv 0)) (pa_cons (pe_holdK (FX.hI "InvalidChannels" (by simp [nI])) hr (pv 0)) (pa_cons (pe_holdK (FX.hI "InUse" (by simp [nI])) hr (pv 0)) (pa_cons (pe_holdK (FX.hI "Broken" (by simp [nI])) hr (pv 0)) pa_nil)))))))
  case r =>
    obtain ⟨v, rfl, k⟩ := h
    exact read_list (n := "index") (Cs := nI.map (He.ga K)) rfl (by rw [List.length_map]; decide) k
/-! ### kinds, is_under, bare -/
/-- isinstance(e, D) of each D in turn -/
def tKinds (K : PySem.W.Frag) : List Addr → TA
  | [] => tNil
  | C :: r => tCons (tCB (rHas K) (tCons (tVar 0) (tCons (tC (.ref C)) tNil))) (tKinds K r)
theorem read_kinds {a C : Addr} {σ : L2.St} {H : Hp} (hv : σ[0]? = some (some (.ref a))) (hh : Held H a C) (T : ExK K C) : ∀ (Ds : List Addr) (bs : List Bool) (Q : List V → Hp → Prop), Paired (fun D b => PySem.W.kitOne K (.ref C) (.ref D) = some b) Ds bs → Q (bs.map V.bl) H → tKinds K Ds σ H Q
  | _, _, Q, .nil, k => k
  | _, _, Q, .cons (a := D) (b := b) h r, k => ⟨_, hv, a, C, .ref D, .ref D, b, rfl, hh, T, .own _, h, read_kinds hv hh T _ _ (fun xs H' => Q (.bl b :: xs) H') r k⟩
def spKinds (K : PySem.W.Frag) : Sp := fun vs H Q _ => ∃ (a C : Addr) (bs : List Bool), vs = [.ref a] ∧ Held H a C ∧ ExK K C ∧ Paired (fun D b => PySem.W.kitOne K (.ref C) (.ref D) = some b) (nAll.map (He.ga K)) bs ∧
  ∀ H' p, Same H H' → H' p = some (.lst (bs.map V.bl)) → Q (.ref p) H'
def spUnder (K : PySem.W.Frag) : Sp := fun vs H Q _ => ∃ (a C : Addr), vs = [.ref a] ∧ Held H a C ∧ ExK K C ∧ (PySem.W.kitOne K (.ref C) (.ref (He.ga K "BandError")) = some true ∧ PySem.W.kitOne K (.ref C) (.type "ValueError") = some true ∧ PySem.W.kitOne K (.ref C) (.type "LookupError") = some false ∧
    PySem.W.kitAny K (.ref C) [.type "TypeError", .type "ArithmeticError", .type "RuntimeError"] = some false) ∧ ∀ H', Same H H' → Q (.bl true) H'
/-- errors that are held, without a word of what they hold -/
abbrev Helds (H : Hp) (as Cs : List Addr) : Prop := Paired (fun a C => Held H a C) as Cs
theorem Helds.same {H H' : Hp} (s : Same H H') : ∀ {as Cs : List Addr}, Helds H as Cs → Helds H' as Cs
  | _, _, .nil => .nil
  | _, _, .cons h t => .cons (h.same s) (Helds.same s t)
theorem Holds.helds {H : Hp} {n : Str} {v : V} : ∀ {as Cs : List Addr}, Holds H n v as Cs → Helds H as Cs
  | _, _, .nil => .nil
  | _, _, .cons h t => .cons h.held (Holds.helds t)
def spBare (Cs : List Addr) : Sp := fun vs H Q _ => vs = [] ∧ ∀ H' p as, Same H H' → H' p = some (.lst (as.map V.ref)) → Helds H' as Cs → Q (.ref p) H'
abbrev nK : List Str := ["_law_e"]
theorem scK : FnScope nK nK (defScope sKinds) := ⟨rfl, rfl, rfl, by decide +kernel, rfl, by decide +kernel, by decide +kernel⟩
theorem scU : FnScope nK nK (defScope sUnder) := ⟨rfl, rfl, rfl, by decide +kernel, rfl, by decide +kernel, by decide +kernel⟩
theorem scBa : FnScope [] [] (defScope sBare) := ⟨rfl, rfl, rfl, by decide +kernel, rfl, by decide +kernel, by decide +kernel⟩
theorem ok_kinds (F : FnP K "_law_kinds" sKinds f fd) (FX : Fx P w K mg base) (g_isinstance : mg "isinstance" = none) : FnOk P w K mg base CX0 1 f fd nK (spKinds K) := by
  refine F.ok scK (fun vs H Q E h => ?_) ?_
  · obtain ⟨a, C, bs, rfl, _⟩ := h
    rfl
  intro cdv A outer s H vs Q E hr h
  refine' ⟨_, PSs.nox ?b, ?r⟩
  case b => exact (pss_one (ps_ret (pe_lst (pa_cons (pe_callB call_has (by rfl) g_isinstance (by decide +kernel) (pa_cons (pv 0) (pa_cons (pe_glob (v := .ref (He.ga K "InvalidFraction")) (by rfl) (FX.g "InvalidFraction" (by simp [nAll, nG, nI, nB])) rfl) pa_nil))) (pa_cons (pe_callB call_has (by rfl) g_isinstance (by decide +kernel) (pa_cons (pv 0) (pa_cons (pe_glob (v := .ref (He.ga K "InvalidNumber")) (by rfl) (FX.g "InvalidNumber" (by simp [nAll, nG, nI, nB])) rfl) pa_nil))) (pa_cons (pe_callB call_has (by rfl) g_isinstance (by decide +kernel) (pa_cons (pv 0) (pa_cons (pe_glob (v := .ref (He.ga K "InvalidRow")) (by rfl) (FX.g "InvalidRow" (by simp [nAll, nG, nI, nB])) rfl) pa_nil))) (pa_cons (pe_callB call_has (by rfl) g_isinstance (by decide +kernel) (pa_cons (pv 0) (pa_cons (pe_glob (v := .ref (He.ga K "InvalidSplitter")) (by rfl) (FX.g "InvalidSplitter" (by simp [nAll, nG, nI, nB])) rfl) pa_nil))) (pa_cons (pe_callB call_has (by rfl) g_isinstance (by decide +kernel) (pa_cons (pv 0) (pa_cons (pe_glob (v := .ref (He.ga K "InvalidJoiner")) (by rfl) (FX.g "InvalidJoiner" (by simp [nAll, nG, nI, nB])) rfl) pa_nil))) (pa_cons (pe_callB call_has (by rfl) g_isinstance (by decide +kernel) (pa_cons (pv 0) (pa_cons (pe_glob (v := .ref (He.ga K "InvalidTable")) (by rfl) (FX.g "InvalidTable" (by simp [nAll, nG, nI, nB])) rfl) pa_nil))) (pa_cons (pe_callB call_has (by rfl) g_isinstance (by decide +kernel) (pa_cons (pv 0) (pa_cons (pe_glob (v := .ref (He.ga K "InvalidEndless")) (by rfl) (FX.g "InvalidEndless" (by simp [nAll, nG, nI, nB])) rfl) pa_nil))) (pa_cons (pe_callB call_has (by rfl) g_isinstance (by decide +kernel) (pa_cons (pv 0) (pa_cons (pe_glob (v := .ref (He.ga K "InvalidTurns")) (by rfl) (FX.g "InvalidTurns" (by simp [nAll, nG, nI, nB])) rfl) pa_nil))) (pa_cons (pe_callB call_has (by rfl) g_isinstance (by decide +kernel) (pa_cons (pv 0) (pa_cons (pe_glob (v := .ref (He.ga K "InvalidLadder")) (by rfl) (FX.g "InvalidLadder" (by simp [nAll, nG, nI, nB])) rfl) pa_nil))) (pa_cons (pe_callB call_has (by rfl) g_isinstance (by decide +kernel) (pa_cons (pv 0) (pa_cons (pe_glob (v := .ref (He.ga K "InvalidMask")) (by rfl) (FX.g "InvalidMask" (by simp [nAll, nG, nI, nB])) rfl) pa_nil))) (pa_cons (pe_callB call_has (by rfl) g_isinstance (by decide +kernel) (pa_cons (pv 0) (pa_cons (pe_glob (v := .ref (He.ga K "InvalidTree")) (by rfl) (FX.g "InvalidTree" (by simp [nAll, nG, nI, nB])) rfl) pa_nil))) (pa_cons (pe_callB call_has (by rfl) g_isinstance (by decide +kernel) (pa_cons (pv 0) (pa_cons (pe_glob (v := .ref (He.ga K "NotAPartner")) (by rfl) (FX.g "NotAPartner" (by simp [nAll, nG, nI, nB])) rfl) pa_nil))) (pa_cons (pe_callB call_has (by rfl) g_isinstance (by decide +kernel) (pa_cons (pv 0) (pa_cons (pe_glob (v := .ref (He.ga K "InvalidIndex")) (by rfl) (FX.g "InvalidIndex" (by simp [nAll, nG, nI, nB])) rfl) pa_nil))) (pa_cons (pe_callB call_has (by rfl) g_isinstance (by decide +kernel) (pa_cons (pv 0) (pa_cons (pe_glob (v := .ref (He.ga K "InvalidName")) (by rfl) (FX.g "InvalidName" (by simp [nAll, nG, nI, nB])) rfl) pa_nil))) (pa_cons (pe_callB call_has (by rfl) g_isinstance (by decide +kernel) (pa_cons (pv 0) (pa_cons (pe_glob (v := .ref (He.ga K "InvalidWish")) (by rfl) (FX.g "InvalidWish" (by simp [nAll, nG, nI, nB])) rfl) pa_nil))) (pa_cons (pe_callB call_has (by rfl) g_isinstance (by decide +kernel) (pa_cons (pv 0) (pa_cons (pe_glob (v := .ref (He.ga K "InvalidPhrase")) (by rfl) (FX.g "InvalidPhrase" (by simp [nAll, nG, nI, nB])) rfl) pa_nil))) (pa_cons (pe_callB call_has (by rfl) g_isinstance (by decide +kernel) (pa_cons (pv 0) (pa_cons (pe_glob (v := .ref (He.ga K "NotAWorkshop")) (by rfl) (FX.g "NotAWorkshop" (by simp [nAll, nG, nI, nB])) rfl) pa_nil))) (pa_cons (pe_callB call_has (by rfl) g_isinstance (by decide +kernel) (pa_cons (pv 0) (pa_cons (pe_glob (v := .ref (He.ga K "UnknownName")) (by rfl) (FX.g "UnknownName" (by simp [nAll, nG, nI, nB])) rfl) pa_nil))) (pa_cons (pe_callB call_has (by rfl) g_isinstance (by decide +kernel) (pa_cons (pv 0) (pa_cons (pe_glob (v := .ref (He.ga K "HighBelowLow")) (by rfl) (FX.g "HighBelowLow" (by simp [nAll, nG, nI, nB])) rfl) pa_nil))) (pa_cons (pe_callB call_has (by rfl) g_isinstance (by decide +kernel) (pa_cons (pv 0) (pa_cons (pe_glob (v := .ref (He.ga K "InvalidNumbers")) (by rfl) (FX.g "InvalidNumbers" (by simp [nAll, nG, nI, nB])) rfl) pa_nil))) (pa_cons (pe_callB call_has (by rfl) g_isinstance (by decide +kernel) (pa_cons (pv 0) (pa_cons (pe_glob (v := .ref (He.ga K "InvalidChannels")) (by rfl) (FX.g "InvalidChannels" (by simp [nAll, nG, nI, nB])) rfl) pa_nil))) (pa_cons (pe_callB call_has (by rfl) g_isinstance (by decide +kernel) (pa_cons (pv 0) (pa_cons (pe_glob (v := .ref (He.ga K "InUse")) (by rfl) (FX.g "InUse" (by simp [nAll, nG, nI, nB])) rfl) pa_nil))) (pa_cons (pe_callB call_has (by rfl) g_isinstance (by decide +kernel) (pa_cons (pv 0) (pa_cons (pe_glob (v := .ref (He.ga K "Broken")) (by rfl) (FX.g "Broken" (by simp [nAll, nG, nI, nB])) rfl) pa_nil))) (pa_cons (pe_callB call_has (by rfl) g_isinstance (by decide +kernel) (pa_cons (pv 0) (pa_cons (pe_glob (v := .ref (He.ga K "NoCurve")) (by rfl) (FX.g "NoCurve" (by simp [nAll, nG, nI, nB])) rfl) pa_nil))) (pa_cons (pe_callB call_has (by rfl) g_isinstance (by decide +kernel) (pa_cons (pv 0) (pa_cons (pe_glob (v := .ref (He.ga K "NotSteep")) (by rfl) (FX.g "NotSteep" (by simp [nAll, nG, nI, nB])) rfl) pa_nil))) (pa_cons (pe_callB call_has (by rfl) g_isinstance (by decide +kernel) (pa_cons (pv 0) (pa_cons (pe_glob (v := .ref (He.ga K "NothingToUndo")) (by rfl) (FX.g "NothingToUndo" (by simp [nAll, nG, nI, nB])) rfl) pa_nil))) pa_nil)))))))))))))))))))))))))))))
  case r =>
    obtain ⟨a, C, bs, rfl, hh, T, hb, k⟩ := h
    have hl : (bs.map V.bl).length ≤ sizeLine := by
      have e := Paired.length hb
      rw [List.length_map] at e
      rw [List.length_map, ← e]
      exact le_line (by decide)
    exact read_kinds (K := K) (σ := L2.start nK [.ref a]) rfl hh T (nAll.map (He.ga K)) bs (fun xs H1 => xs.length ≤ sizeLine ∧ ∀ p, H1 p = none → Q (.ref p) (upd H1 p (.lst xs))) hb ⟨hl, fun p hp => k _ p (same_upd hp) upd_same⟩
theorem ok_under (F : FnP K "_law_is_under" sUnder f fd) (FX : Fx P w K mg base) (g_isinstance : mg "isinstance" = none) (g_ValueError : mg "ValueError" = none) (g_LookupError : mg "LookupError" = none) (g_TypeError : mg "TypeError" = none) (g_ArithmeticError : mg "ArithmeticError" = none) (g_RuntimeError : mg "RuntimeError" = none) :
    FnOk P w K mg base CX0 1 f fd nK (spUnder K) := by
  refine F.ok scU (fun vs H Q E h => ?_) ?_
  · obtain ⟨a, C, rfl, _⟩ := h
    rfl
  intro cdv A outer s H vs Q E hr h
  refine' ⟨_, PSs.nox ?b, ?r⟩
  case b => exact (pss_cons (ps_if (PW.pt (pw_or (pt_not (pt_val (pe_callB call_has (by rfl) g_isinstance (by decide +kernel) (pa_cons (pv 0) (pa_cons (pe_glob (v := .ref (He.ga K "BandError")) (by rfl) FX.gB rfl) pa_nil))))) (pw_or1 (pt_not (pt_val (pe_callB call_has (by rfl) g_isinstance (by decide +kernel) (pa_cons (pv 0) (pa_cons (pe_bltn (v := .ty "ValueError") (by rfl) g_ValueError (by decide +kernel) rfl) pa_nil)))))))) (pss_one (ps_ret pe_bl)) pss_nil)
      (pss_one (ps_ret (pe_and (pe_not (pe_callB call_has (by rfl) g_isinstance (by decide +kernel) (pa_cons (pv 0) (pa_cons (pe_bltn (v := .ty "LookupError") (by rfl) g_LookupError (by decide +kernel) rfl) pa_nil)))) (pe_one (pe_not (pe_callB call_hasT (by rfl) g_isinstance (by decide +kernel) (pa_cons (pv 0) (pa_cons (pe_tup (pa_cons (pe_bltn (v := .ty "TypeError") (by rfl) g_TypeError (by decide +kernel) rfl) (pa_cons (pe_bltn (v := .ty "ArithmeticError") (by rfl) g_ArithmeticError (by decide +kernel) rfl) (pa_cons (pe_bltn (v := .ty "RuntimeError") (by rfl) g_RuntimeError (by decide +kernel) rfl) pa_nil)))) pa_nil)))))))))
  case r =>
    obtain ⟨a, C, rfl, hh, T, ⟨k1, k2, k3, k4⟩, k⟩ := h
    refine ⟨_, rfl, a, C, _, _, true, rfl, hh, T, .own _, k1, true, rfl, ?_⟩
    refine iteF ⟨_, rfl, a, C, _, _, true, rfl, hh, T, .ty _, k2, true, rfl, ?_⟩
    refine iteF ⟨_, rfl, a, C, _, _, false, rfl, hh, T, .ty _, k3, false, rfl, true, rfl, ?_⟩
    refine iteT ⟨_, rfl, le_line (by decide : 3 ≤ 1000000), fun p hp => ?_⟩
    exact ⟨a, C, p, _, _, false, rfl, hh.same (same_upd hp), T, upd_same, .cons (.ty _) (.cons (.ty _) (.cons (.ty _) .nil)), k4, false, rfl, k _ (same_upd hp)⟩
theorem ok_bare (F : FnP K "_law_bare" sBare f fd) (FX : Fx P w K mg base) : FnOk P w K mg base CX0 1 f fd [] (spBare (nB.map (He.ga K))) := by
  refine F.ok scBa (fun vs H Q E h => ?_) ?_
  · obtain ⟨rfl, _⟩ := h
    rfl
  intro cdv A outer s H vs Q E hr h
  refine' ⟨_, PSs.nox ?b, ?r⟩
  case b => exact (pss_one (ps_ret (pe_lst (pa_cons (pe_bare (FX.b "NoCurve" (by simp [nB])).1 (FX.gb "NoCurve" (by simp [nB])) (FX.b "NoCurve" (by simp [nB])).2) (pa_cons (pe_bare (FX.b "NotSteep" (by simp [nB])).1 (FX.gb "NotSteep" (by simp [nB])) (FX.b "NotSteep" (by simp [nB])).2) (pa_cons (pe_bare (FX.b "NothingToUndo" (by simp [nB])).1 (FX.gb "NothingToUndo" (by simp [nB])) (FX.b "NothingToUndo" (by simp [nB])).2) pa_nil))))))
  case r =>
    obtain ⟨rfl, k⟩ := h
    intro a1 n1 a2 n2 a3 n3
    refine ⟨le_line (by decide : 3 ≤ 1000000), fun p hp => ?_⟩
    have s1 := same_upd (o := exo a1 (He.ga K "NoCurve") none) n1
    have s2 := same_upd (o := exo a2 (He.ga K "NotSteep") none) n2
    have s3 := same_upd (o := exo a3 (He.ga K "NothingToUndo") none) n3
    have s4 : ∀ o, Same _ (upd _ p o) := fun o => same_upd hp
    exact k _ p [a1, a2, a3] (s1.trans (s2.trans (s3.trans (s4 _)))) upd_same (.cons (.inl (s4 _ _ _ (s3 _ _ (s2 _ _ upd_same)))) (.cons (.inl (s4 _ _ _ (s3 _ _ upd_same))) (.cons (.inl (s4 _ _ _ upd_same)) .nil)))
end
end K5
namespace K5
open PySem PySem.Spec PyProof.Rows L2 Vk
abbrev sStand : Stmt := top 39
abbrev sRight : Stmt := top 41
abbrev sLaw : Stmt := top 42
/-! ### stand: each error is of just its own class -/
abbrev nS : List Str := ["_law_errors", "_law_start", "_law_k", "_law_due", "_law_number"]
theorem scS : FnScope nS ["_law_errors", "_law_start"] (defScope sStand) := ⟨rfl, rfl, rfl, by decide +kernel, rfl, by decide +kernel, by decide +kernel⟩
/-- the classes from the st-th on -/
def At (K : PySem.W.Frag) (st : Nat) (Cs : List Addr) : Prop := ∀ (i : Nat) (C : Addr), Cs[i]? = some C → (nAll.map (He.ga K))[st + i]? = some C
def spStand (K : PySem.W.Frag) : Sp := fun vs H Q _ => ∃ (l : Addr) (st : Nat) (as Cs : List Addr), vs = [.ref l, .int st] ∧ H l = some (.lst (as.map V.ref)) ∧ as.length ≤ 1000 ∧ Helds H as Cs ∧ At K st Cs ∧ ∀ H', Same H H' → Q (.bl true) H'
theorem paired_of {α β : Type} {F : α → β → Prop} : ∀ {xs : List α} {ys : List β}, xs.length = ys.length → (∀ (i : Nat) (x : α) (y : β), xs[i]? = some x → ys[i]? = some y → F x y) → Paired F xs ys
  | [], [], _, _ => .nil
  | [], _ :: _, h, _ => by cases h
  | _ :: _, [], h, _ => by cases h
  | _ :: _, _ :: _, h, k => .cons (k 0 _ _ rfl rfl) (paired_of (Nat.succ.inj h) fun i x y a b => k (i + 1) x y a b)
theorem paired_get {α β : Type} {F : α → β → Prop} : ∀ {xs : List α} {ys : List β}, Paired F xs ys → ∀ {i : Nat} {x : α} {y : β}, xs[i]? = some x → ys[i]? = some y → F x y
  | _, _, .nil, _, _, _, a, _ => by cases a
  | _, _, .cons h _, 0, _, _, a, b => by
    cases a
    cases b
    exact h
  | _, _, .cons _ t, i + 1, _, _, a, b => paired_get t (i := i) a b
theorem dq_bools {H : Hp} : ∀ bs : List Bool, DqAll H (bs.map V.bl) (bs.map PyData.bool)
  | [] => .nil
  | b :: r => .cons (.bl b) (dq_bools r)
def due (n : Nat) : List Bool := (List.range 26).map fun j => decide (j = n)
theorem due_data (n : Nat) (h : n < 26) : (PyData.list ((due n).map PyData.bool)).showable = true ∧ (PyData.list ((due n).map PyData.bool)).depth ≤ 40 ∧ (PyData.list ((due n).map PyData.bool)).shown.length ≤ sizeLine := by
  have z : ∀ n : Fin 26, (PyData.list ((due n).map PyData.bool)).showable = true ∧ (PyData.list ((due n).map PyData.bool)).depth ≤ 40 ∧ (PyData.list ((due n).map PyData.bool)).shown.length ≤ 1000 := by decide +kernel
  obtain ⟨a, b, c⟩ := z ⟨n, h⟩
  exact ⟨a, b, Nat.le_trans c (le_line (by decide))⟩
section
variable {P : Program} {w : World} {K : PySem.W.Frag} {mg : Str → Option Value} {base : Heap} {f fK fU : Addr} {fd fdK fdU : FuncData}
theorem ok_stand (F : FnP K "_law_stand" sStand f fd) (FX : Fx P w K mg base) (hm : ∃ o, K.lookup sysModules = some o) (GK : FnOk P w K mg base CX0 1 fK fdK nK (spKinds K)) (gK : mg "_law_kinds" = some (.ref fK)) (kK : PySem.W.keepIn K (.ref fK) = true) (bK : Binds K fdK nK [])
    (GU : FnOk P w K mg base CX0 1 fU fdU nK (spUnder K)) (gU : mg "_law_is_under" = some (.ref fU)) (kU : PySem.W.keepIn K (.ref fU) = true) (bU : Binds K fdU nK []) (g_range : mg "range" = none) (g_len : mg "len" = none) (g_repr : mg "repr" = none) :
    FnG P w K mg base 3 f fd ["_law_errors", "_law_start"] (spStand K) := by
  refine fnG F scS (fun vs H Q E h => ?_) ?_
  · obtain ⟨l, st, as, Cs, rfl, _⟩ := h
    rfl
  intro cdv A outer s H vs Q E hA hr h
  refine' ⟨_, PSs.nox ?b, ?r⟩
  case b => exact (pss_cons (ps_for PassesOwn.never rfl (pi_range1 rfl g_range (pa_cons (pe_callB call_len_seq (by rfl) g_len (by decide +kernel) (pa_cons (pv 0) pa_nil)) pa_nil)) (pg_name (i := 2) scS.nd rfl (.inr rfl)) (pss_cons (ps_setLc (i := 3) (own := [("_law_number", 4)]) (g := gName 4) (tt := tYes) rfl scS.nd rfl rfl (sw_true rfl rfl rfl (by decide +kernel)) (pi_range1 rfl g_range (pa_cons pe_int pa_nil)) (blkOk_by (N := nS) (sc := defScope sStand) (by decide +kernel)) (fun _ _ _ _ _ => pg_name (i := 4) scS.nd rfl (Or.inl rfl)) (fun _ _ _ _ _ => pts_nil) (fun _ _ _ _ _ => (pe_cmpR op_eq (pv 4) (pe_op op_add (pv 1) (pv 2)) (nomark _))))
      (pss_one (ps_if (PW.pt (pw_or (pt_cmpR op_ne (pe_callB (call_repr hA hr hm) (by rfl) g_repr (by decide +kernel) (pa_cons (pe_call GK (hr.mono (by decide)) rfl gK kK bK .nil pass0 (pa_cons (pe_ix ix_list (pv 0) (pv 2) (fun _ _ => rfl)) pa_nil)) pa_nil)) (pe_callB (call_repr hA hr hm) (by rfl) g_repr (by decide +kernel) (pa_cons (pv 3) pa_nil)) (nomark _)) (pw_or1 (pt_not (pt_val (pe_call GU (hr.mono (by decide)) rfl gU kU bU .nil pass0 (pa_cons (pe_ix ix_list (pv 0) (pv 2) (fun _ _ => rfl)) pa_nil))))))) (pss_one (ps_ret pe_bl)) pss_nil))))
      (pss_one (ps_ret pe_bl)))
  case r =>
    obtain ⟨l, st, as, Cs, rfl, hl, hn, hh, hat, k⟩ := h
    refine ⟨_, rfl, l, _, rfl, .inl (.inl (.inl hl)), _, rfl, by omega, by rw [List.length_map]; omega, for_range (lo := 0) (n := (as.map V.ref).length) (fun _ σ H' => ∃ x y z : Option V, σ = [some (.ref l), some (.int st), x, y, z] ∧ Same H H') ⟨none, none, none, rfl, Same.refl H⟩ ?_ ?_⟩
    · rintro i σ H' hi ⟨x, y, z, rfl, sH⟩
      rw [show (0 : Int) + (i : Int) = i from Int.zero_add _]
      have hi2 : i < as.length := by rwa [List.length_map] at hi
      have hC : i < Cs.length := by
        have := Paired.length hh
        omega
      have cat := hat i _ (List.getElem?_eq_getElem hC)
      rw [List.getElem?_map] at cat
      obtain ⟨nm, en, ec⟩ := Option.map_eq_some_iff.mp cat
      have memN : nm ∈ nAll := List.mem_of_getElem? en
      have l26 : st + i < 26 := (List.getElem?_eq_some_iff.mp en).1
      have held : Held H as[i] (He.ga K nm) := by
        have := paired_get hh (List.getElem?_eq_getElem hi2) (List.getElem?_eq_getElem hC)
        rwa [← ec] at this
      have kit : Paired (fun D b => PySem.W.kitOne K (.ref (He.ga K nm)) (.ref D) = some b) (nAll.map (He.ga K)) (due (st + i)) := paired_of (by rw [List.length_map, due, List.length_map, List.length_range]; rfl) fun j D b h1 h2 => by
        rw [List.getElem?_map] at h1
        obtain ⟨y, ey, rfl⟩ := Option.map_eq_some_iff.mp h1
        rw [FX.kk _ _ _ _ en ey]
        unfold due at h2
        rw [List.getElem?_map] at h2
        obtain ⟨m, em, rfl⟩ := Option.map_eq_some_iff.mp h2
        obtain ⟨lm, em2⟩ := List.getElem?_eq_some_iff.mp em
        rw [List.getElem_range] at em2
        subst em2
        rw [show decide (st + i = j) = decide (j = st + i) from decide_eq_decide.mpr ⟨Eq.symm, Eq.symm⟩]
      have ex := FX.e nm (List.mem_cons_of_mem _ memN)
      have ku := FX.ku nm (List.mem_cons_of_mem _ memN)
      refine ⟨26, rfl, by decide, by decide, fun D hD => lc_range (lo := 0) (n := 26) (fun j G => G = upd H' D (.lst ((List.range j).map fun m => V.bl (decide (m = st + i))))) rfl ?_ ?_⟩
      · rintro j G hj rfl
        rw [show (0 : Int) + (j : Int) = j from Int.zero_add _]
        refine ⟨rfl, _, rfl, _, rfl, _, rfl, _, _, rfl, rfl, rfl, _, upd_same, ?_, ?_⟩
        · rw [List.length_map, List.length_range]
          exact Nat.lt_of_lt_of_le (by omega : j < 1000000) (le_line (Nat.le_refl _))
        · rw [upd_upd, List.range_succ, List.map_append]
          have e1 : decide (V.int (j : Int) = V.int ((st : Int) + (i : Int))) = decide (j = st + i) := decide_eq_decide.mpr ⟨fun q => by
            have := V.int.inj q
            omega, fun q => by rw [q]; rfl⟩
          rw [e1]
          rfl
      · rintro G rfl
        have sD := same_upd (o := .lst ((List.range 26).map fun m => V.bl (decide (m = st + i)))) hD
        have fD : upd H' D (.lst ((List.range 26).map fun m => V.bl (decide (m = st + i)))) D = some (.lst ((due (st + i)).map V.bl)) := by
          rw [upd_same, due, List.map_map]
          rfl
        generalize upd H' D (.lst ((List.range 26).map fun m => V.bl (decide (m = st + i)))) = G at *
        have sG := sH.trans sD
        have at_i : atI (as.map V.ref) (i : Int) = some (.ref as[i]) := atI_nat (by rw [List.getElem?_map, List.getElem?_eq_getElem hi2]; rfl)
        refine ⟨_, rfl, _, rfl, l, _, i, _, rfl, rfl, .inl (.inl (sG _ _ hl)), at_i, as[i], He.ga K nm, due (st + i), rfl, held.same sG, ex, kit, fun G2 q s2 hq => ?_⟩
        obtain ⟨d1, d2, d3⟩ := due_data (st + i) l26
        refine ⟨q, _, rfl, .lst hq (dq_bools _), d1, d2, d3, _, rfl, D, _, rfl, .lst (s2 _ _ fD) (dq_bools _), d1, d2, d3, rfl, _, rfl, iteNS rfl ?_⟩
        refine ⟨_, rfl, _, rfl, l, _, i, _, rfl, rfl, .inl (.inl (s2 _ _ (sG _ _ hl))), at_i, as[i], He.ga K nm, rfl, held.same (sG.trans s2), ex, ku, fun G3 s3 => ?_⟩
        exact ⟨true, rfl, iteF ⟨_, _, _, rfl, sG.trans (s2.trans s3)⟩⟩
    · rintro σ H' ⟨x, y, z, rfl, sH⟩
      exact k H' sH
end
end K5
namespace K5
open PySem PySem.Spec PyProof.Rows L2 Vk
/-! ### the text of equal things -/
theorem text_le : ∀ (ts : List Str) (k : Nat) (acc : Str), (textFrom k acc ts).length ≤ acc.length + piled ts
  | [], _, acc => Nat.le_add_right _ _
  | t :: r, k, acc => by
    have ih := text_le r (k + 1) (acc ++ (if k > 0 then ", " else "" : String) ++ t)
    have e : (acc ++ (if k > 0 then ", " else "" : String) ++ t).length ≤ acc.length + 2 + t.length := by
      rw [strLen_append, strLen_append]
      have z : (PySem.Str.ofString (if k > 0 then ", " else "")).length ≤ 2 := by
        split
        · exact Nat.le_refl 2
        · exact Nat.zero_le 2
      omega
    show (textFrom (k + 1) _ r).length ≤ _
    rw [piled_cons]
    omega
theorem piled_rep (t : Str) : ∀ n : Nat, piled (List.replicate n t) = n * (t.length + 2)
  | 0 => by simp [piled_nil]
  | n + 1 => by
    rw [List.replicate_succ, piled_cons, piled_rep t n, Nat.succ_mul]
    omega
theorem shown_rep (d : PyData) : ∀ n : Nat, PyData.shownAll (List.replicate n d) = List.replicate n d.shown
  | 0 => by simp [PyData.shownAll]
  | n + 1 => by simp only [List.replicate_succ, PyData.shownAll, shown_rep d n]
theorem depth_rep (d : PyData) : ∀ n : Nat, PyData.depthAll (List.replicate n d) ≤ d.depth
  | 0 => by simp [PyData.depthAll]
  | n + 1 => by
    have ih := depth_rep d n
    simp only [List.replicate_succ, PyData.depthAll]
    omega
theorem showable_rep {d : PyData} (h : d.showable = true) : ∀ n : Nat, PyData.showableAll (List.replicate n d) = true
  | 0 => by simp [PyData.showableAll]
  | n + 1 => by simp only [List.replicate_succ, PyData.showableAll, h, showable_rep h n, Bool.and_self]
theorem rep_data {d : PyData} (g : Good 3 d) {n : Nat} (hn : n ≤ 100) : (PyData.list (List.replicate n d)).showable = true ∧ (PyData.list (List.replicate n d)).depth ≤ 40 ∧ (PyData.list (List.replicate n d)).shown.length ≤ sizeLine := by
  refine ⟨?_, ?_, ?_⟩
  · simp only [PyData.showable]
    exact showable_rep g.sh n
  · have a := depth_rep d n
    have b := g.dp
    simp only [PyData.depth]
    omega
  · have e : PyData.shown (.list (List.replicate n d)) = listText (List.replicate n d.shown) := by simp only [PyData.shown, shown_rep]
    rw [e]
    refine le_line ?_
    unfold listText
    rw [strLen_append]
    have a := text_le (List.replicate n d.shown) 0 (PySem.Str.ofString "[")
    rw [piled_rep] at a
    have z1 : (PySem.Str.ofString "[").length = 1 := rfl
    have z2 : (PySem.Str.ofString "]").length = 1 := rfl
    have b := g.ln
    have c : n * (d.shown.length + 2) ≤ 100 * (d.shown.length + 2) := Nat.mul_le_mul_right _ hn
    omega
theorem dq_rep {H : Hp} {v : V} {d : PyData} (h : Dq H v d) : ∀ n : Nat, DqAll H (List.replicate n v) (List.replicate n d)
  | 0 => .nil
  | n + 1 => .cons h (dq_rep h n)
theorem flat_rep (v : V) : ∀ n : Nat, (List.replicate n [v]).flatten = List.replicate n v
  | 0 => rfl
  | n + 1 => by
    rw [List.replicate_succ, List.flatten_cons, flat_rep v n, List.replicate_succ]
    rfl
/-- repr([e.f for e in L]) != repr([v] * n), each e of L holding v: False -/
theorem read_same {K : PySem.W.Frag} {σ : L2.St} {H : Hp} {Q : Bool → Hp → Prop} {f : Str} {iL iv : Nat} {q : Addr} {as Cs : List Addr} {v : V} {d : PyData} {n : Nat} (hL : σ[iL]? = some (some (.ref q))) (hv : σ[iv]? = some (some v))
    (hw : ∀ y, ((wipe σ [8]).set 8 (some y))[8]? = some (some y)) (hw2 : ∀ y, wipe ((wipe σ [8]).set 8 (some y)) [8] = wipe σ [8]) (hq : H q = some (.lst (as.map V.ref))) (hh : Holds H f v as Cs) (hn : Cs.length = n) (hn1 : n ≤ 100)
    (hc : ∀ C ∈ Cs, ExK K C ∧ PySem.W.findIn K (.ref C) f = some none) (hd : Dq H v d) (g : Good 3 d) (k : ∀ H', Same H H' → Q false H') :
    tTest (tOp rNe (tCB rRepr (tCons (tLc (iList K (tVar iL)) (gName 8) tYes (tHeldF K f (tVar 8)) [8]) tNil)) (tCB rRepr (tCons (tOp rRep (tLst (tCons (tVar iv) tNil)) (tC (.int n))) tNil))) σ H Q := by
  have la : as.length = n := (Paired.length hh).trans hn
  obtain ⟨d1, d2, d3⟩ := rep_data g hn1
  refine ⟨_, hL, q, rfl, ⟨_, .inl (.inl hq)⟩, fun D hD => lc_list (K := K) (a := q) (xs := as.map V.ref) (fun j G => G = upd H D (.lst (List.replicate j v))) rfl ?_ ?_ ?_⟩
  · rintro j G _ rfl
    exact .inl (.inl (same_upd hD _ _ hq))
  · rintro j y G hy rfl
    rw [List.getElem?_map] at hy
    obtain ⟨a, ea, rfl⟩ := Option.map_eq_some_iff.mp hy
    have hj := (List.getElem?_eq_some_iff.mp ea).1
    have lc : j < Cs.length := by omega
    have h1 := paired_get hh ea (List.getElem?_eq_getElem lc)
    obtain ⟨c1, c2⟩ := hc _ (List.getElem_mem lc)
    refine ⟨hw2 _, _, hw _, a, Cs[j], v, rfl, h1.same (same_upd hD), c1, c2, _, upd_same, ?_, ?_⟩
    · rw [List.length_replicate]
      exact Nat.lt_of_lt_of_le (by omega : j < 1000000) (le_line (Nat.le_refl _))
    · rw [upd_upd, List.replicate_succ']
  · rintro G rfl
    rw [List.length_map, la]
    have s1 := same_upd (o := .lst (List.replicate n v)) hD
    have f1 : upd H D (.lst (List.replicate n v)) D = some (.lst (List.replicate n v)) := upd_same
    generalize upd H D (.lst (List.replicate n v)) = G at *
    refine ⟨D, .list (List.replicate n d), rfl, .lst f1 (dq_rep (hd.same s1) n), d1, d2, d3, _, hv, le_line (by show 1 ≤ 1000000; decide), fun b hb => ?_⟩
    have s2 := same_upd (o := .lst [v]) hb
    have f2 : upd G b (.lst [v]) b = some (.lst [v]) := upd_same
    generalize upd G b (.lst [v]) = G2 at *
    refine ⟨b, n, [v], rfl, rfl, f2, by omega, by omega, le_line (by show 1 * n ≤ 1000000; omega), fun c hc2 => ?_⟩
    have e : (List.replicate ((n : Int).toNat) [v]).flatten = List.replicate n v := flat_rep v n
    rw [e]
    have s3 := same_upd (o := .lst (List.replicate n v)) hc2
    refine ⟨c, .list (List.replicate n d), rfl, .lst upd_same (dq_rep (hd.same (s1.trans (s2.trans s3))) n), d1, d2, d3, rfl, false, ?_, k _ (s1.trans (s2.trans s3))⟩
    rw [decide_eq_true rfl]
    rfl
theorem at_part {K : PySem.W.Frag} {A B C : List Str} (h : nAll = A ++ (B ++ C)) : At K A.length (B.map (He.ga K)) := fun i D e => by
  have li := (List.getElem?_eq_some_iff.mp e).1
  rw [h, List.map_append, List.map_append, List.getElem?_append_right (by rw [List.length_map]; omega), List.length_map, show A.length + i - A.length = i by omega, List.getElem?_append_left li]
  exact e
theorem pe_heldK {X : Cx} {K : PySem.W.Frag} (hK : X.K = K) {e : Expr} {te : TE} {pos : Pos} {f : Str} (he : PE X e te) (hb : attributeBase e f X.env (eval e X.env) = eval e X.env := by rfl) : PE X (.Attribute e f pos) (tHeldF K f te) := by
  subst hK
  exact pe_heldF he hb
abbrev nR : List Str := ["_law_spring_here", "_law_thing_here", "_law_other", "_law_first", "_law_second", "_law_third", "_law_fourth", "_law_base", "_law_e"]
theorem scR : FnScope nR ["_law_spring_here"] (defScope sRight) := ⟨rfl, rfl, rfl, by decide +kernel, rfl, by decide +kernel, by decide +kernel⟩
def spRight : Sp := fun vs H Q _ => ∃ p : Addr, vs = [.ref p] ∧ Spr H p ∧ ∀ H', But p H H' → Q (.bl true) H'
/-- a def of the text, by name: where it stands, its promise, its binding -/
structure Df (P : Program) (w : World) (K : PySem.W.Frag) (mg : Str → Option Value) (base : Heap) (k : Nat) (x : Str) (ps : List Str) (sp : Sp) (f : Addr) (fd : FuncData) : Prop where
  ok : FnOk P w K mg base CX0 k f fd ps sp
  g : mg x = some (.ref f)
  kp : PySem.W.keepIn K (.ref f) = true
  b : Binds K fd ps []
section
variable {P : Program} {w : World} {K : PySem.W.Frag} {mg : Str → Option Value} {base : Heap} {f fT f1 f2 f3 f4 f5 fS fK fU : Addr} {fd fdT fd1 fd2 fd3 fd4 fd5 fdS fdK fdU : FuncData}
theorem ok_right (F : FnP K "_law_right" sRight f fd) (FX : Fx P w K mg base) (hm : ∃ o, K.lookup sysModules = some o)
    (T : Df P w K mg base 3 "_law_thing" ["_law_spring_here"] spThing fT fdT) (W1 : Df P w K mg base 3 "_law_with_given" nW (spHolds "given" (nG.map (He.ga K))) f1 fd1) (W2 : Df P w K mg base 3 "_law_with_given_named" nW (spHolds "given" (nG.map (He.ga K))) f2 fd2)
    (W3 : Df P w K mg base 3 "_law_with_index" nW (spHolds "index" (nI.map (He.ga K))) f3 fd3) (W4 : Df P w K mg base 3 "_law_with_index_named" nW (spHolds "index" (nI.map (He.ga K))) f4 fd4) (W5 : Df P w K mg base 1 "_law_bare" [] (spBare (nB.map (He.ga K))) f5 fd5)
    (WK : Df P w K mg base 1 "_law_kinds" nK (spKinds K) fK fdK) (WU : Df P w K mg base 1 "_law_is_under" nK (spUnder K) fU fdU)
    (GS : FnG P w K mg base 3 fS fdS ["_law_errors", "_law_start"] (spStand K)) (gS : mg "_law_stand" = some (.ref fS)) (kS : PySem.W.keepIn K (.ref fS) = true) (bS : Binds K fdS ["_law_errors", "_law_start"] []) (g_repr : mg "repr" = none) :
    FnG P w K mg base 4 f fd ["_law_spring_here"] spRight := by
  obtain ⟨GT, gT, kT, bT⟩ := T
  obtain ⟨G1, g1, k1, b1⟩ := W1
  obtain ⟨G2, g2, k2, b2⟩ := W2
  obtain ⟨G3, g3, k3, b3⟩ := W3
  obtain ⟨G4, g4, k4, b4⟩ := W4
  obtain ⟨G5, g5, k5, b5⟩ := W5
  obtain ⟨GK, gK, kK, bK⟩ := WK
  obtain ⟨GU, gU, kU, bU⟩ := WU
  refine fnG F scR (fun vs H Q E h => ?_) ?_
  · obtain ⟨p, rfl, _⟩ := h
    rfl
  intro cdv A outer s H vs Q E hA hr h
  refine' ⟨_, PSs.nox ?b, ?r⟩
  case b => exact (pss_cons (ps_par (i := 1) (j := 2) (by rfl) scR.nd rfl rfl (by decide) rfl rfl (pa_cons (pe_call GT (hr.mono (by decide)) rfl gT kT bT .nil pass0 (pa_cons (pv 0) pa_nil)) (pa_cons (pe_call GT (hr.mono (by decide)) rfl gT kT bT .nil pass0 (pa_cons (pv 0) pa_nil)) pa_nil)) (by rfl))
      (pss_cons (ps_par (i := 3) (j := 4) (by rfl) scR.nd rfl rfl (by decide) rfl rfl (pa_cons (pe_call G1 (hr.mono (by decide)) rfl g1 k1 b1 .nil pass0 (pa_cons (pv 1) pa_nil)) (pa_cons (pe_call G2 (hr.mono (by decide)) rfl g2 k2 b2 .nil pass0 (pa_cons (pv 2) pa_nil)) pa_nil)) (by rfl))
      (pss_cons (ps_par (i := 5) (j := 6) (by rfl) scR.nd rfl rfl (by decide) rfl rfl (pa_cons (pe_call G3 (hr.mono (by decide)) rfl g3 k3 b3 .nil pass0 (pa_cons (pv 2) pa_nil)) (pa_cons (pe_call G4 (hr.mono (by decide)) rfl g4 k4 b4 .nil pass0 (pa_cons (pv 1) pa_nil)) pa_nil)) (by rfl))
      (pss_cons (ps_if (PW.pt (pw_or (pt_cmpR op_ne (pe_callB (call_repr hA hr hm) (by rfl) g_repr (by decide +kernel) (pa_cons (pe_lc (own := [("_law_e", 8)]) (g := gName 8) (tt := tYes) rfl scR.nd (pi_list (pv 3)) (blkOk_by (N := nR) (sc := defScope sRight) (by decide +kernel)) (fun _ _ _ _ _ => pg_name (i := 8) scR.nd rfl (Or.inl rfl)) (fun _ _ _ _ _ => pts_nil) (fun _ _ _ _ _ => (pe_heldK (K := K) rfl (pv 8)))) pa_nil)) (pe_callB (call_repr hA hr hm) (by rfl) g_repr (by decide +kernel) (pa_cons (pe_op op_rep (pe_lst (pa_cons (pv 1) pa_nil)) pe_int) pa_nil)) (nomark _)) (pw_or1 (pt_cmpR op_ne (pe_callB (call_repr hA hr hm) (by rfl) g_repr (by decide +kernel) (pa_cons (pe_lc (own := [("_law_e", 8)]) (g := gName 8) (tt := tYes) rfl scR.nd (pi_list (pv 4)) (blkOk_by (N := nR) (sc := defScope sRight) (by decide +kernel)) (fun _ _ _ _ _ => pg_name (i := 8) scR.nd rfl (Or.inl rfl)) (fun _ _ _ _ _ => pts_nil) (fun _ _ _ _ _ => (pe_heldK (K := K) rfl (pv 8)))) pa_nil)) (pe_callB (call_repr hA hr hm) (by rfl) g_repr (by decide +kernel) (pa_cons (pe_op op_rep (pe_lst (pa_cons (pv 2) pa_nil)) pe_int) pa_nil)) (nomark _))))) (pss_one (ps_ret pe_bl)) pss_nil)
      (pss_cons (ps_if (PW.pt (pw_or (pt_cmpR op_ne (pe_callB (call_repr hA hr hm) (by rfl) g_repr (by decide +kernel) (pa_cons (pe_lc (own := [("_law_e", 8)]) (g := gName 8) (tt := tYes) rfl scR.nd (pi_list (pv 5)) (blkOk_by (N := nR) (sc := defScope sRight) (by decide +kernel)) (fun _ _ _ _ _ => pg_name (i := 8) scR.nd rfl (Or.inl rfl)) (fun _ _ _ _ _ => pts_nil) (fun _ _ _ _ _ => (pe_heldK (K := K) rfl (pv 8)))) pa_nil)) (pe_callB (call_repr hA hr hm) (by rfl) g_repr (by decide +kernel) (pa_cons (pe_op op_rep (pe_lst (pa_cons (pv 2) pa_nil)) pe_int) pa_nil)) (nomark _)) (pw_or1 (pt_cmpR op_ne (pe_callB (call_repr hA hr hm) (by rfl) g_repr (by decide +kernel) (pa_cons (pe_lc (own := [("_law_e", 8)]) (g := gName 8) (tt := tYes) rfl scR.nd (pi_list (pv 6)) (blkOk_by (N := nR) (sc := defScope sRight) (by decide +kernel)) (fun _ _ _ _ _ => pg_name (i := 8) scR.nd rfl (Or.inl rfl)) (fun _ _ _ _ _ => pts_nil) (fun _ _ _ _ _ => (pe_heldK (K := K) rfl (pv 8)))) pa_nil)) (pe_callB (call_repr hA hr hm) (by rfl) g_repr (by decide +kernel) (pa_cons (pe_op op_rep (pe_lst (pa_cons (pv 1) pa_nil)) pe_int) pa_nil)) (nomark _))))) (pss_one (ps_ret pe_bl)) pss_nil)
      (pss_cons (ps_if (PW.pt (pw_or (pt_not (pt_val (pe_callG GS hA (hr.mono (by decide)) gS kS bS (pa_cons (pv 3) (pa_cons pe_int pa_nil))))) (pw_or1 (pt_not (pt_val (pe_callG GS hA (hr.mono (by decide)) gS kS bS (pa_cons (pv 4) (pa_cons pe_int pa_nil)))))))) (pss_one (ps_ret pe_bl)) pss_nil)
      (pss_cons (ps_if (PW.pt (pw_or (pt_not (pt_val (pe_callG GS hA (hr.mono (by decide)) gS kS bS (pa_cons (pv 5) (pa_cons pe_int pa_nil))))) (pw_or (pt_not (pt_val (pe_callG GS hA (hr.mono (by decide)) gS kS bS (pa_cons (pv 6) (pa_cons pe_int pa_nil))))) (pw_or1 (pt_not (pt_val (pe_callG GS hA (hr.mono (by decide)) gS kS bS (pa_cons (pe_call0 G5 (hr.mono (by decide)) rfl g5 k5 b5 .nil pass0) (pa_cons pe_int pa_nil))))))))) (pss_one (ps_ret pe_bl)) pss_nil)
      (pss_cons (ps_set (i := 7) scR.nd rfl (.inl rfl) (pe_bare (FX.b "BandError" (by simp [nB])).1 (FX.gb "BandError" (by simp [nB])) (FX.b "BandError" (by simp [nB])).2))
      (pss_one (ps_ret (pe_and (pe_cmpR op_notIn_seq pe_bl (pe_call GK (hr.mono (by decide)) rfl gK kK bK .nil pass0 (pa_cons (pv 7) pa_nil)) (by rfl)) (pe_one (pe_call GU (hr.mono (by decide)) rfl gU kU bU .nil pass0 (pa_cons (pv 7) pa_nil))))))))))))))
  case r =>
    obtain ⟨p, rfl, hp, k⟩ := h
    refine ⟨_, rfl, p, rfl, hp, fun H1 v1 d1 b1 s1 q1 g1 => ⟨_, rfl, p, rfl, s1, fun H2 v2 d2 b2 s2 q2 g2 => ⟨_, _, rfl, ?_⟩⟩⟩
    have b12 := b1.trans b2
    have Q1 : Dq H2 v1 d1 := (q1.same (But.hide b2)).same hide_same
    have Q2 : Dq H2 v2 d2 := q2.same hide_same
    refine ⟨_, rfl, v1, rfl, fun H3 l1 as1 t3 e1 h1 => ⟨_, rfl, v2, rfl, fun H4 l2 as2 t4 e2 h2 => ⟨_, _, rfl, ?_⟩⟩⟩
    refine ⟨_, rfl, v2, rfl, fun H5 l3 as3 t5 e3 h3 => ⟨_, rfl, v1, rfl, fun H6 l4 as4 t6 e4 h4 => ⟨_, _, rfl, ?_⟩⟩⟩
    have t36 := t4.trans (t5.trans t6)
    have t46 := t5.trans t6
    have t26 := t3.trans t36
    replace Q1 := Q1.same t26
    replace Q2 := Q2.same t26
    replace e1 := t36 _ _ e1
    replace e2 := t46 _ _ e2
    replace e3 := t6 _ _ e3
    replace h1 := Holds.same t36 h1
    replace h2 := Holds.same t46 h2
    replace h3 := Holds.same t6 h3
    replace b12 := b12.trans (But.of t26)
    have hcG : ∀ C ∈ nG.map (He.ga K), ExK K C ∧ PySem.W.findIn K (.ref C) "given" = some none := fun C hC => by
      obtain ⟨x, hx, rfl⟩ := List.mem_map.mp hC
      exact ⟨FX.e x (List.mem_cons_of_mem _ (List.mem_append_left _ hx)), (FX.hG x hx).no⟩
    have hcI : ∀ C ∈ nI.map (He.ga K), ExK K C ∧ PySem.W.findIn K (.ref C) "index" = some none := fun C hC => by
      obtain ⟨x, hx, rfl⟩ := List.mem_map.mp hC
      exact ⟨FX.e x (List.mem_cons_of_mem _ (List.mem_append_right _ (List.mem_append_left _ hx))), (FX.hI x hx).no⟩
    have len1 : as1.length = 19 := (Paired.length h1).trans (by rw [List.length_map]; rfl)
    have len2 : as2.length = 19 := (Paired.length h2).trans (by rw [List.length_map]; rfl)
    have len3 : as3.length = 4 := (Paired.length h3).trans (by rw [List.length_map]; rfl)
    have len4 : as4.length = 4 := (Paired.length h4).trans (by rw [List.length_map]; rfl)
    refine read_same (K := K) (iL := 3) (iv := 1) (q := l1) (as := as1) (v := v1) (d := d1) (n := 19) rfl rfl (fun _ => rfl) (fun _ => rfl) e1 h1 (by rw [List.length_map]; rfl) (by decide) hcG Q1 g1 fun H7 s7 => iteF ?_
    refine read_same (K := K) (iL := 4) (iv := 2) (q := l2) (as := as2) (v := v2) (d := d2) (n := 19) rfl rfl (fun _ => rfl) (fun _ => rfl) (s7 _ _ e2) (Holds.same s7 h2) (by rw [List.length_map]; rfl) (by decide) hcG (Q2.same s7) g2 fun H8 s8 => iteF ?_
    have s68 := s7.trans s8
    refine read_same (K := K) (iL := 5) (iv := 2) (q := l3) (as := as3) (v := v2) (d := d2) (n := 4) rfl rfl (fun _ => rfl) (fun _ => rfl) (s68 _ _ e3) (Holds.same s68 h3) (by rw [List.length_map]; rfl) (by decide) hcI (Q2.same s68) g2 fun H9 s9 => iteF ?_
    have s69 := s68.trans s9
    refine read_same (K := K) (iL := 6) (iv := 1) (q := l4) (as := as4) (v := v1) (d := d1) (n := 4) rfl rfl (fun _ => rfl) (fun _ => rfl) (s69 _ _ e4) (Holds.same s69 h4) (by rw [List.length_map]; rfl) (by decide) hcI (Q1.same s69) g1 fun HA sA => iteF ?_
    have s6A := s69.trans sA
    refine ⟨_, rfl, l1, 0, as1, nG.map (He.ga K), rfl, s6A _ _ e1, by omega, Helds.same s6A (Holds.helds h1), at_part (A := []) (C := nI ++ nB) rfl, fun HB sB => ⟨true, rfl, iteF ?_⟩⟩
    have s6B := s6A.trans sB
    refine ⟨_, rfl, l2, 0, as2, nG.map (He.ga K), rfl, s6B _ _ e2, by omega, Helds.same s6B (Holds.helds h2), at_part (A := []) (C := nI ++ nB) rfl, fun HC sC => ⟨true, rfl, iteF ?_⟩⟩
    have s6C := s6B.trans sC
    refine ⟨_, rfl, l3, 19, as3, nI.map (He.ga K), rfl, s6C _ _ e3, by omega, Helds.same s6C (Holds.helds h3), at_part (A := nG) (C := nB) rfl, fun HD sD => ⟨true, rfl, iteF ?_⟩⟩
    have s6D := s6C.trans sD
    refine ⟨_, rfl, l4, 19, as4, nI.map (He.ga K), rfl, s6D _ _ e4, by omega, Helds.same s6D (Holds.helds h4), at_part (A := nG) (C := nB) rfl, fun HE sE => ⟨true, rfl, iteF ?_⟩⟩
    have s6E := s6D.trans sE
    refine ⟨rfl, fun HF l5 as5 sF e5 h5 => ?_⟩
    have len5 : as5.length = 3 := (Paired.length h5).trans (by rw [List.length_map]; rfl)
    refine ⟨l5, 23, as5, nB.map (He.ga K), rfl, e5, by omega, h5, at_part (A := nG ++ nI) (C := []) rfl, fun HG sG => ⟨true, rfl, iteF ?_⟩⟩
    intro a na
    have sH := same_upd (o := exo a (He.ga K "BandError") none) na
    have fa : Held (upd HG a (exo a (He.ga K "BandError") none)) a (He.ga K "BandError") := .inl upd_same
    have all := b12.trans (But.of (s6E.trans (sF.trans (sG.trans sH))))
    generalize upd HG a (exo a (He.ga K "BandError") none) = HH at *
    have eB := FX.e "BandError" List.mem_cons_self
    have kit : Paired (fun D b => PySem.W.kitOne K (.ref (He.ga K "BandError")) (.ref D) = some b) (nAll.map (He.ga K)) (List.replicate 26 false) := paired_of (by rw [List.length_map, List.length_replicate]; rfl) fun j D b c1 c2 => by
      obtain ⟨y, hy, rfl⟩ := List.mem_map.mp (List.mem_of_getElem? c1)
      rw [List.eq_of_mem_replicate (List.mem_of_getElem? c2)]
      exact FX.kB y hy
    refine ⟨_, rfl, a, _, List.replicate 26 false, rfl, fa, eB, kit, fun HI q sI eI => ⟨q, _, rfl, .inl (.inl (.inl eI)), rfl, rfl, true, rfl, ?_⟩⟩
    refine ⟨_, rfl, a, _, rfl, fa.same sI, eB, FX.ku "BandError" List.mem_cons_self, fun HJ sJ => ?_⟩
    exact k _ (all.trans (But.of (sI.trans sJ)))
end
end K5
namespace K5
open PySem PySem.Spec PyProof.Rows L2 Vk
abbrev nL : List Str := ["_law_script", "_law_turn"]
theorem scL : FnScope nL ["_law_script"] (defScope sLaw) := ⟨rfl, rfl, rfl, by decide +kernel, rfl, by decide +kernel, by decide +kernel⟩
def tCallG (sp : Sp) (t : TA) : TE := fun σ H Q => t σ H fun vs H1 => sp vs H1 Q E0
theorem pe_callG2 {X : Cx} {k : Nat} {f : Addr} {fd : FuncData} {ps : List Str} {sp : Sp} {x : Str} {p pos : Pos} {e : Expr} {es : List Expr} {t : TA} (F : FnG X.prog X.w X.K X.mg X.base k f fd ps sp) (hA : X.A.guards = some []) (hr : Room k X.A) (hm : X.mg x = some (.ref f)) (hk : PySem.W.keepIn X.K (.ref f) = true)
    (hb : Binds X.K fd ps []) (ha : PA X (e :: es) t) (hg : Gl X x := by rfl) (hdb : (x == ("__debug__" : Str)) = false := by decide) (he : starEach (e :: es) X.env = (false, eval e X.env) :: starEach es X.env := by rfl) (hpl : (backTo pos (starEach es X.env)).any (·.1) = false := by rfl) :
    PE X (.Call (.Name x p) (e :: es) [] pos) (tCallG sp t) := pe_callG F hA hr hm hk hb ha hg hdb he hpl
def spLaw (K : PySem.W.Frag) : Sp := fun vs H Q _ => ∃ (a : Addr) (ns : List Int), vs = [.ref a] ∧ SqL K H a (ns.map V.int) ∧ ns.length ≤ 1000 ∧ ∀ H', Q (.bl true) H'
theorem all_true : ∀ n : Nat, (List.replicate n true).all id = true
  | 0 => rfl
  | n + 1 => by
    rw [List.replicate_succ, List.all_cons, all_true n]
    rfl
section
variable {P : Program} {w : World} {K : PySem.W.Frag} {mg : Str → Option Value} {base : Heap} {f fR fSp : Addr} {fd fdR fdSp : FuncData}
theorem ok_law (F : FnP K "law" sLaw f fd) (S : Df P w K mg base 1 "_law_spring" ["_law_script", "_law_turn"] (spSpring K) fSp fdSp) (GR : FnG P w K mg base 4 fR fdR ["_law_spring_here"] spRight) (gR : mg "_law_right" = some (.ref fR)) (kR : PySem.W.keepIn K (.ref fR) = true) (bR : Binds K fdR ["_law_spring_here"] [])
    (g_range : mg "range" = none) (g_max : mg "max" = none) (g_min : mg "min" = none) (g_len : mg "len" = none) (g_all : mg "all" = none) : FnG P w K mg base 5 f fd ["_law_script"] (spLaw K) := by
  obtain ⟨GSp, gSp, kSp, bSp⟩ := S
  refine fnG F scL (fun vs H Q E h => ?_) ?_
  · obtain ⟨a, ns, rfl, _⟩ := h
    rfl
  intro cdv A outer s H vs Q E hA hr h
  refine' ⟨_, PSs.nox ?b, ?r⟩
  case b => exact (pss_one (ps_ret (pe_callB (cr_all rfl) (by rfl) g_all (by decide +kernel) (pa_cons (pe_lc (own := [("_law_turn", 1)]) (g := gName 1) (tt := tYes) rfl scL.nd (pi_range1 rfl g_range (pa_cons (pe_callB (call_max2 rfl) (by rfl) g_max (by decide +kernel) (pa_cons pe_int (pa_cons (pe_callB (call_min2 rfl) (by rfl) g_min (by decide +kernel) (pa_cons (pe_callB call_len_seq (by rfl) g_len (by decide +kernel) (pa_cons (pv 0) pa_nil)) (pa_cons pe_int pa_nil))) pa_nil))) pa_nil)) (blkOk_by (N := nL) (sc := defScope sLaw) (by decide +kernel)) (fun _ _ _ _ _ => pg_name (i := 1) scL.nd rfl (Or.inl rfl)) (fun _ _ _ _ _ => pts_nil) (fun _ _ _ _ _ => (pe_callG2 GR hA (hr.mono (by decide)) gR kR bR (pa_cons (pe_call GSp (hr.mono (by decide)) rfl gSp kSp bSp .nil pass0 (pa_cons (pv 0) (pa_cons (pv 1) pa_nil))) pa_nil)))) pa_nil))))
  case r =>
    obtain ⟨a, ns, rfl, hS, hn, k⟩ := h
    refine ⟨_, rfl, a, _, rfl, .inl hS, _, _, rfl, _, _, rfl, ?_⟩
    rw [List.length_map]
    generalize ej : (if (if (3 : Int) < (ns.length : Int) then (3 : Int) else (ns.length : Int)) > 1 then (if (3 : Int) < (ns.length : Int) then (3 : Int) else (ns.length : Int)) else 1) = j
    have j0 : 0 ≤ j ∧ j ≤ 3 := by
      rw [← ej]
      split <;> split <;> omega
    refine ⟨j, rfl, by omega, by omega, fun D hD => ?_⟩
    have keep : ∃ S : Hp → Prop, S (upd H D (.lst [])) ∧ (∀ G, S G → SqL K G a (ns.map V.int)) ∧ (∀ G G' p, S G → (∀ b o, b ≠ p → b ≠ D → G b = some o → G' b = some o) → G p = none → S G') := by
      rcases hS with (hS | ⟨o, hS⟩) | hS
      · have ne := ne_of_none hS hD
        exact ⟨fun G => G a = some (.lst (ns.map V.int)), (upd_ne ne).trans hS, fun G q => .inl (.inl q), fun G G' p q t n => t a _ (ne_of_none q n) ne q⟩
      · have ne := ne_of_none hS hD
        exact ⟨fun G => G a = some (.frz o (.lst (ns.map V.int))), (upd_ne ne).trans hS, fun G q => .inl (.inr ⟨o, q⟩), fun G G' p q t n => t a _ (ne_of_none q n) ne q⟩
      · exact ⟨fun _ => True, trivial, fun G _ => .inr hS, fun _ _ _ _ _ _ => trivial⟩
    obtain ⟨S, S0, S1, S2⟩ := keep
    refine lc_range (lo := 0) (n := j.toNat) (fun i G => G D = some (.lst (List.replicate i (.bl true))) ∧ S G) ⟨upd_same, S0⟩ ?_ ?_
    · rintro i G hi ⟨gD, sG⟩
      rw [show (0 : Int) + (i : Int) = i from Int.zero_add _]
      refine ⟨rfl, _, rfl, _, rfl, a, ns, i, rfl, S1 G sG, hn, by omega, fun G1 p s1 np sp => ?_⟩
      refine ⟨p, rfl, sp, fun G2 bt => ⟨_, bt _ _ (ne_of_none gD np) (s1 _ _ gD), ?_, ?_, ?_⟩⟩
      · rw [List.length_replicate]
        exact Nat.lt_of_lt_of_le (by omega : i < 1000000) (le_line (Nat.le_refl _))
      · rw [upd_same, List.replicate_succ']
      · refine S2 G _ p sG (fun b o n1 n2 e => ?_) np
        rw [upd_ne n2]
        exact bt _ _ n1 (s1 _ _ e)
    · rintro G ⟨gD, _⟩
      refine ⟨D, List.replicate j.toNat true, rfl, .inl (.inl ?_), ?_⟩
      · rw [gD, List.map_replicate]
      · rw [all_true]
        exact k G
end
end K5
namespace K5
open PySem PySem.Spec PyProof.Rows L2 Vk
/-! ### what the head tells -/
def di0 : He.DefD := ⟨("InvalidFraction", some "__init__"), "__init__", "InvalidFraction.__init__", defArgs (inClass (top 2) 0), defBody (inClass (top 2) 0), defScope (inClass (top 2) 0), [], []⟩
def di1 : He.DefD := ⟨("InvalidNumber", some "__init__"), "__init__", "InvalidNumber.__init__", defArgs (inClass (top 3) 0), defBody (inClass (top 3) 0), defScope (inClass (top 3) 0), [], []⟩
def di2 : He.DefD := ⟨("InvalidRow", some "__init__"), "__init__", "InvalidRow.__init__", defArgs (inClass (top 4) 0), defBody (inClass (top 4) 0), defScope (inClass (top 4) 0), [], []⟩
def di3 : He.DefD := ⟨("InvalidSplitter", some "__init__"), "__init__", "InvalidSplitter.__init__", defArgs (inClass (top 5) 0), defBody (inClass (top 5) 0), defScope (inClass (top 5) 0), [], []⟩
def di4 : He.DefD := ⟨("InvalidJoiner", some "__init__"), "__init__", "InvalidJoiner.__init__", defArgs (inClass (top 6) 0), defBody (inClass (top 6) 0), defScope (inClass (top 6) 0), [], []⟩
def di5 : He.DefD := ⟨("InvalidTable", some "__init__"), "__init__", "InvalidTable.__init__", defArgs (inClass (top 7) 0), defBody (inClass (top 7) 0), defScope (inClass (top 7) 0), [], []⟩
def di6 : He.DefD := ⟨("InvalidEndless", some "__init__"), "__init__", "InvalidEndless.__init__", defArgs (inClass (top 8) 0), defBody (inClass (top 8) 0), defScope (inClass (top 8) 0), [], []⟩
def di7 : He.DefD := ⟨("InvalidTurns", some "__init__"), "__init__", "InvalidTurns.__init__", defArgs (inClass (top 9) 0), defBody (inClass (top 9) 0), defScope (inClass (top 9) 0), [], []⟩
def di8 : He.DefD := ⟨("InvalidLadder", some "__init__"), "__init__", "InvalidLadder.__init__", defArgs (inClass (top 10) 0), defBody (inClass (top 10) 0), defScope (inClass (top 10) 0), [], []⟩
def di9 : He.DefD := ⟨("InvalidMask", some "__init__"), "__init__", "InvalidMask.__init__", defArgs (inClass (top 11) 0), defBody (inClass (top 11) 0), defScope (inClass (top 11) 0), [], []⟩
def di10 : He.DefD := ⟨("InvalidTree", some "__init__"), "__init__", "InvalidTree.__init__", defArgs (inClass (top 12) 0), defBody (inClass (top 12) 0), defScope (inClass (top 12) 0), [], []⟩
def di11 : He.DefD := ⟨("NotAPartner", some "__init__"), "__init__", "NotAPartner.__init__", defArgs (inClass (top 13) 0), defBody (inClass (top 13) 0), defScope (inClass (top 13) 0), [], []⟩
def di12 : He.DefD := ⟨("InvalidIndex", some "__init__"), "__init__", "InvalidIndex.__init__", defArgs (inClass (top 14) 0), defBody (inClass (top 14) 0), defScope (inClass (top 14) 0), [], []⟩
def di13 : He.DefD := ⟨("InvalidName", some "__init__"), "__init__", "InvalidName.__init__", defArgs (inClass (top 15) 0), defBody (inClass (top 15) 0), defScope (inClass (top 15) 0), [], []⟩
def di14 : He.DefD := ⟨("InvalidWish", some "__init__"), "__init__", "InvalidWish.__init__", defArgs (inClass (top 16) 0), defBody (inClass (top 16) 0), defScope (inClass (top 16) 0), [], []⟩
def di15 : He.DefD := ⟨("InvalidPhrase", some "__init__"), "__init__", "InvalidPhrase.__init__", defArgs (inClass (top 17) 0), defBody (inClass (top 17) 0), defScope (inClass (top 17) 0), [], []⟩
def di16 : He.DefD := ⟨("NotAWorkshop", some "__init__"), "__init__", "NotAWorkshop.__init__", defArgs (inClass (top 18) 0), defBody (inClass (top 18) 0), defScope (inClass (top 18) 0), [], []⟩
def di17 : He.DefD := ⟨("UnknownName", some "__init__"), "__init__", "UnknownName.__init__", defArgs (inClass (top 19) 0), defBody (inClass (top 19) 0), defScope (inClass (top 19) 0), [], []⟩
def di18 : He.DefD := ⟨("HighBelowLow", some "__init__"), "__init__", "HighBelowLow.__init__", defArgs (inClass (top 20) 0), defBody (inClass (top 20) 0), defScope (inClass (top 20) 0), [], []⟩
def di19 : He.DefD := ⟨("InvalidNumbers", some "__init__"), "__init__", "InvalidNumbers.__init__", defArgs (inClass (top 21) 0), defBody (inClass (top 21) 0), defScope (inClass (top 21) 0), [], []⟩
def di20 : He.DefD := ⟨("InvalidChannels", some "__init__"), "__init__", "InvalidChannels.__init__", defArgs (inClass (top 22) 0), defBody (inClass (top 22) 0), defScope (inClass (top 22) 0), [], []⟩
def di21 : He.DefD := ⟨("InUse", some "__init__"), "__init__", "InUse.__init__", defArgs (inClass (top 23) 0), defBody (inClass (top 23) 0), defScope (inClass (top 23) 0), [], []⟩
def di22 : He.DefD := ⟨("Broken", some "__init__"), "__init__", "Broken.__init__", defArgs (inClass (top 24) 0), defBody (inClass (top 24) 0), defScope (inClass (top 24) 0), [], []⟩
def dd0 : He.DefD := ⟨("_law_spring", none), "_law_spring", "_law_spring", defArgs (top 29), defBody (top 29), defScope (top 29), [], []⟩
def dd1 : He.DefD := ⟨("_law_dip", none), "_law_dip", "_law_dip", defArgs (top 30), defBody (top 30), defScope (top 30), [], []⟩
def dd2 : He.DefD := ⟨("_law_one_of", none), "_law_one_of", "_law_one_of", defArgs (top 31), defBody (top 31), defScope (top 31), [], []⟩
def dd3 : He.DefD := ⟨("_law_with_given", none), "_law_with_given", "_law_with_given", defArgs (top 32), defBody (top 32), defScope (top 32), [], []⟩
def dd4 : He.DefD := ⟨("_law_with_given_named", none), "_law_with_given_named", "_law_with_given_named", defArgs (top 33), defBody (top 33), defScope (top 33), [], []⟩
def dd5 : He.DefD := ⟨("_law_with_index", none), "_law_with_index", "_law_with_index", defArgs (top 34), defBody (top 34), defScope (top 34), [], []⟩
def dd6 : He.DefD := ⟨("_law_with_index_named", none), "_law_with_index_named", "_law_with_index_named", defArgs (top 35), defBody (top 35), defScope (top 35), [], []⟩
def dd7 : He.DefD := ⟨("_law_bare", none), "_law_bare", "_law_bare", defArgs (top 36), defBody (top 36), defScope (top 36), [], []⟩
def dd8 : He.DefD := ⟨("_law_kinds", none), "_law_kinds", "_law_kinds", defArgs (top 37), defBody (top 37), defScope (top 37), [], []⟩
def dd9 : He.DefD := ⟨("_law_is_under", none), "_law_is_under", "_law_is_under", defArgs (top 38), defBody (top 38), defScope (top 38), [], []⟩
def dd10 : He.DefD := ⟨("_law_stand", none), "_law_stand", "_law_stand", defArgs (top 39), defBody (top 39), defScope (top 39), [], []⟩
def dd11 : He.DefD := ⟨("_law_thing", none), "_law_thing", "_law_thing", defArgs (top 40), defBody (top 40), defScope (top 40), [], []⟩
def dd12 : He.DefD := ⟨("_law_right", none), "_law_right", "_law_right", defArgs (top 41), defBody (top 41), defScope (top 41), [], []⟩
def dd13 : He.DefD := ⟨("law", none), "law", "law", defArgs (top 42), defBody (top 42), defScope (top 42), [], []⟩
def fn : List He.DefD := [di0, di1, di2, di3, di4, di5, di6, di7, di8, di9, di10, di11, di12, di13, di14, di15, di16, di17, di18, di19, di20, di21, di22, dd0, dd1, dd2, dd3, dd4, dd5, dd6, dd7, dd8, dd9, dd10, dd11, dd12, dd13]
def gloF : List He.Fa := (("BandError" : Str) :: (nAll ++ (["_law_spring", "_law_dip", "_law_one_of", "_law_with_given", "_law_with_given_named", "_law_with_index", "_law_with_index_named", "_law_bare", "_law_kinds", "_law_is_under", "_law_stand", "_law_thing", "_law_right", "law"] : List Str))).map He.Fa.glo
def metF : List He.Fa := (nG ++ nI).map fun x => He.Fa.meth x "__init__"
def fa : List He.Fa := gloF ++ (metF ++ [.free "int", .free "abs", .free "len", .free "divmod", .free "range", .free "max", .free "min", .free "all", .free "repr", .free "isinstance", .free "ValueError", .free "LookupError", .free "TypeError", .free "ArithmeticError", .free "RuntimeError"])
abbrev ga := He.ga
/-- what is asked of a class of errors -/
def exB (K : PySem.W.Frag) (C : Addr) : Bool := decide ((PySem.W.clsIn K C).isSome = true ∧ PySem.W.findIn K (.ref C) "__getattribute__" = some (some (.builtin "BaseException.__getattribute__")) ∧ PySem.W.findIn K (.ref C) "__getattr__" = some none ∧
  PySem.W.subIn K (.ref C) (.type "BaseException") = some true ∧ PySem.W.hasDictIn K C = true ∧ PySem.W.findIn K (.ref C) "__class__" = some (some (.builtin "object.__class__")) ∧
  PySem.W.specialIn K (.builtin "object.__class__") "__get__" = some (some (.builtin "getset_descriptor.__get__")) ∧ PySem.W.takesIn K (.builtin "object.__class__") = some true ∧ PySem.W.mroIn K C (.type "object") = some true)
theorem exB_ok {K : PySem.W.Frag} {C : Addr} (h : exB K C = true) : ExK K C :=
  let ⟨a, b, c, d, e, f, g, i, j⟩ := of_decide_eq_true h
  ⟨a, b, c, d, e, f, g, i, j⟩
/-- its object, over ValueError -/
def oeB (K : PySem.W.Frag) (C : Addr) : Bool := match K.lookup C with
  | some ⟨.type t, _, .cls cd, sl⟩ => (match cd.mro, sl.toList with
    | .ref D :: bm, [_, _, _, _, some (.builtin n), _] => decide (t = "type" ∧ D = C ∧ n = "ValueError.__new__" ∧ cd.hasDel = false ∧ cd.hasDict = true ∧ PySem.HandSPX.refsVE bm = true ∧ PySem.W.findIn K (.ref C) "__setattr__" = some (some (.builtin "object.__setattr__")) ∧
      PySem.W.subIn K (.ref C) (.type "BaseException") = some true ∧ PySem.W.typeIn K (.ref C) = some (.type "type") ∧ PySem.W.keepIn K (.ref C) = true)
    | _, _ => false)
  | _ => false
theorem oeB_ok {K : PySem.W.Frag} {C : Addr} (h : oeB K C = true) : OexC K C := by
  unfold oeB at h
  split at h
  · rename_i t dd cd sl hl
    split at h
    · rename_i D bm k0 k1 k2 k3 n k5 hm hs
      obtain ⟨rfl, rfl, rfl, z1, z2, z3, z4, z5, z6, z7⟩ := of_decide_eq_true h
      obtain ⟨nm, bs, mro, ns, qn, hd, sn, sub, ab, col, del⟩ := cd
      dsimp only at hm z1 z2
      subst hm z1 z2
      have e : sl = #[k0, k1, k2, k3, some (.builtin "ValueError.__new__"), k5] := by
        obtain ⟨l⟩ := sl
        dsimp only at hs
        rw [hs]
      subst e
      exact ⟨⟨nm, qn, ns, bs, bm, sn, sub, ab, col, dd, k0, k1, k2, k3, k5, hl, z3⟩, z4, z5, z6, z7⟩
    · cases h
  · cases h
def kuB (K : PySem.W.Frag) (C : Addr) : Bool := decide (PySem.W.kitOne K (.ref C) (.ref (ga K "BandError")) = some true ∧ PySem.W.kitOne K (.ref C) (.type "ValueError") = some true ∧ PySem.W.kitOne K (.ref C) (.type "LookupError") = some false ∧
    PySem.W.kitAny K (.ref C) [.type "TypeError", .type "ArithmeticError", .type "RuntimeError"] = some false)
def kkB (K : PySem.W.Frag) (as : List Addr) : Bool := (List.range as.length).all fun i => (List.range as.length).all fun j => match as[i]?, as[j]? with
  | some a, some b => decide (PySem.W.kitOne K (.ref a) (.ref b) = some (decide (i = j)))
  | _, _ => false
def baB (K : PySem.W.Frag) : Bool := PySem.W.readsIn K (ga K "BandError") (.type "type") && decide (PySem.W.specialIn K (.ref (ga K "BandError")) "__getattribute__" = some (some (.builtin "type.__getattribute__"))) && (match PySem.W.findCls K (.ref (ga K "BandError")) (.type "type") "__init__" with
  | some (.val (.builtin n)) => decide (n = "ValueError.__init__")
  | _ => false)
def ex (K : PySem.W.Frag) : Bool := (K.lookup sysModules).isSome && (baB K && (((("BandError" : Str) :: nAll).all fun x => exB K (ga K x) && kuB K (ga K x)) && ((nG.all fun x => oeB K (ga K x) && decide (PySem.W.findIn K (.ref (ga K x)) "given" = some none)) && ((nI.all fun x => oeB K (ga K x) && decide (PySem.W.findIn K (.ref (ga K x)) "index" = some none)) &&
  (((("BandError" : Str) :: nB).all fun x => PySem.W.excIn K (ga K x) He.veBase "ValueError.__new__" && PySem.W.keepIn K (.ref (ga K x))) && ((nAll.all fun y => decide (PySem.W.kitOne K (.ref (ga K "BandError")) (.ref (ga K y)) = some false)) && kkB K (nAll.map (ga K))))))))
theorem fact_mem {fa : List He.Fa} {fn : List He.DefD} {K : PySem.W.Frag} (c : He.SaysD fa fn K) {f : He.Fa} (h : f ∈ fa) : f.ok K = true := by
  obtain ⟨i, hi, e⟩ := List.mem_iff_getElem.mp h
  exact c.fact i (by rw [List.getElem?_eq_getElem hi, e])
/-- all that the head tells, over a base -/
structure All (P : Program) (w : World) (K : PySem.W.Frag) (mg : Str → Option Value) (base : Heap) : Prop where
  c : He.SaysD fa fn K
  x : ex K = true
  g : ∀ x, He.Fa.glo x ∈ gloF → mg x = some (.ref (ga K x))
  fr : ∀ x, He.Fa.free x ∈ fa → mg x = none
theorem All.cut {P : Program} {w : World} {K : PySem.W.Frag} {mg : Str → Option Value} {base : Heap} (A : All P w K mg base) : (K.lookup sysModules).isSome = true ∧ baB K = true ∧ (∀ x ∈ (("BandError" : Str) :: nAll), exB K (ga K x) = true ∧ kuB K (ga K x) = true) ∧
    (∀ x ∈ nG, oeB K (ga K x) = true ∧ PySem.W.findIn K (.ref (ga K x)) "given" = some none) ∧ (∀ x ∈ nI, oeB K (ga K x) = true ∧ PySem.W.findIn K (.ref (ga K x)) "index" = some none) ∧
    (∀ x ∈ (("BandError" : Str) :: nB), PySem.W.excIn K (ga K x) He.veBase "ValueError.__new__" = true ∧ PySem.W.keepIn K (.ref (ga K x)) = true) ∧ (∀ y ∈ nAll, PySem.W.kitOne K (.ref (ga K "BandError")) (.ref (ga K y)) = some false) ∧ kkB K (nAll.map (ga K)) = true := by
  have x := A.x
  unfold ex at x
  obtain ⟨x1, x⟩ := He.ba x
  obtain ⟨x2, x⟩ := He.ba x
  obtain ⟨x3, x⟩ := He.ba x
  obtain ⟨x4, x⟩ := He.ba x
  obtain ⟨x5, x⟩ := He.ba x
  obtain ⟨x6, x⟩ := He.ba x
  obtain ⟨x7, x8⟩ := He.ba x
  refine ⟨x1, x2, fun y hy => He.ba (List.all_eq_true.mp x3 y hy), fun y hy => ?_, fun y hy => ?_, fun y hy => He.ba (List.all_eq_true.mp x6 y hy), fun y hy => of_decide_eq_true (List.all_eq_true.mp x7 y hy), x8⟩
  · obtain ⟨a, b⟩ := He.ba (List.all_eq_true.mp x4 y hy)
    exact ⟨a, of_decide_eq_true b⟩
  · obtain ⟨a, b⟩ := He.ba (List.all_eq_true.mp x5 y hy)
    exact ⟨a, of_decide_eq_true b⟩
theorem All.b {P : Program} {w : World} {K : PySem.W.Frag} {mg : Str → Option Value} {base : Heap} (A : All P w K mg base) : BaseI K mg (ga K "BandError") (.type "type") := by
  obtain ⟨_, q, _⟩ := A.cut
  unfold baB at q
  obtain ⟨q, q3⟩ := He.ba q
  obtain ⟨q1, q2⟩ := He.ba q
  refine ⟨A.g _ (by simp [gloF]), q1, of_decide_eq_true q2, ?_⟩
  split at q3
  · rename_i n e
    rw [e, of_decide_eq_true q3]
  · cases q3
theorem All.made {P : Program} {w : World} {K : PySem.W.Frag} {mg : Str → Option Value} {base : Heap} (A : All P w K mg base) {x n : Str} {fd : FuncData} (hx : x ∈ nG ++ nI) (hn : (x ∈ nG ∧ n = "given") ∨ (x ∈ nI ∧ n = "index"))
    (G : FnOk P w K mg base CX0 1 (He.fAd K (x, some "__init__")) fd [("self" : Str), n] (spI K n))
    (b : ∀ (s : Shared) (u v : Value), BindsTo s fd ⟨[u, v], []⟩ ([("self" : Str), n].zip [u, v]) ∧ BindsTo s fd ⟨[u], [(n, v)]⟩ ([("self" : Str), n].zip [u, v])) : ExI P w K mg base x n (ga K x) := by
  obtain ⟨_, _, _, q4, q5, _⟩ := A.cut
  have m : (He.Fa.meth x "__init__").ok K = true := fact_mem A.c (List.mem_append_right _ (List.mem_append_left _ (List.mem_map.mpr ⟨x, hx, rfl⟩)))
  have M := He.meth_ok m
  have gx : mg x = some (.ref (ga K x)) := A.g x (List.mem_map.mpr ⟨x, List.mem_cons_of_mem _ (List.mem_append_left _ (by
    rcases List.mem_append.mp hx with h | h
    · exact List.mem_append_left _ h
    · exact List.mem_append_right _ (List.mem_append_left _ h))), rfl⟩)
  obtain ⟨m1, m2⟩ := He.ba m
  have ty : PySem.W.typeIn K (.ref (He.ma K (ga K x) "__init__")) = some (.type "function") := beq_iff_eq.mp (He.ba m2).1
  rcases hn with ⟨h, rfl⟩ | ⟨h, rfl⟩
  · exact ⟨gx, oeB_ok (q4 x h).1, (q4 x h).2, _, fd, He.eqO_ok m1, ty, G, b⟩
  · exact ⟨gx, oeB_ok (q5 x h).1, (q5 x h).2, _, fd, He.eqO_ok m1, ty, G, b⟩
theorem exI0 (K : PySem.W.Frag) (mg : Str → Option Value) (base : Heap) (P : Program) (w : World) (A : All P w K mg base) : ExI P w K mg base "InvalidFraction" "given" (He.ga K "InvalidFraction") := by
  obtain ⟨fd, F⟩ := A.c.def_ 0 (d := di0) rfl
  exact A.made (by simp [nG, nI]) (by simp [nG, nI]) (ok_init (by decide) (.inl rfl) F A.b) (binds_init (.inl rfl) F)
theorem exI1 (K : PySem.W.Frag) (mg : Str → Option Value) (base : Heap) (P : Program) (w : World) (A : All P w K mg base) : ExI P w K mg base "InvalidNumber" "given" (He.ga K "InvalidNumber") := by
  obtain ⟨fd, F⟩ := A.c.def_ 1 (d := di1) rfl
  exact A.made (by simp [nG, nI]) (by simp [nG, nI]) (ok_init (by decide) (.inl rfl) F A.b) (binds_init (.inl rfl) F)
theorem exI2 (K : PySem.W.Frag) (mg : Str → Option Value) (base : Heap) (P : Program) (w : World) (A : All P w K mg base) : ExI P w K mg base "InvalidRow" "given" (He.ga K "InvalidRow") := by
  obtain ⟨fd, F⟩ := A.c.def_ 2 (d := di2) rfl
  exact A.made (by simp [nG, nI]) (by simp [nG, nI]) (ok_init (by decide) (.inl rfl) F A.b) (binds_init (.inl rfl) F)
theorem exI3 (K : PySem.W.Frag) (mg : Str → Option Value) (base : Heap) (P : Program) (w : World) (A : All P w K mg base) : ExI P w K mg base "InvalidSplitter" "given" (He.ga K "InvalidSplitter") := by
  obtain ⟨fd, F⟩ := A.c.def_ 3 (d := di3) rfl
  exact A.made (by simp [nG, nI]) (by simp [nG, nI]) (ok_init (by decide) (.inl rfl) F A.b) (binds_init (.inl rfl) F)
theorem exI4 (K : PySem.W.Frag) (mg : Str → Option Value) (base : Heap) (P : Program) (w : World) (A : All P w K mg base) : ExI P w K mg base "InvalidJoiner" "given" (He.ga K "InvalidJoiner") := by
  obtain ⟨fd, F⟩ := A.c.def_ 4 (d := di4) rfl
  exact A.made (by simp [nG, nI]) (by simp [nG, nI]) (ok_init (by decide) (.inl rfl) F A.b) (binds_init (.inl rfl) F)
theorem exI5 (K : PySem.W.Frag) (mg : Str → Option Value) (base : Heap) (P : Program) (w : World) (A : All P w K mg base) : ExI P w K mg base "InvalidTable" "given" (He.ga K "InvalidTable") := by
  obtain ⟨fd, F⟩ := A.c.def_ 5 (d := di5) rfl
  exact A.made (by simp [nG, nI]) (by simp [nG, nI]) (ok_init (by decide) (.inl rfl) F A.b) (binds_init (.inl rfl) F)
theorem exI6 (K : PySem.W.Frag) (mg : Str → Option Value) (base : Heap) (P : Program) (w : World) (A : All P w K mg base) : ExI P w K mg base "InvalidEndless" "given" (He.ga K "InvalidEndless") := by
  obtain ⟨fd, F⟩ := A.c.def_ 6 (d := di6) rfl
  exact A.made (by simp [nG, nI]) (by simp [nG, nI]) (ok_init (by decide) (.inl rfl) F A.b) (binds_init (.inl rfl) F)
theorem exI7 (K : PySem.W.Frag) (mg : Str → Option Value) (base : Heap) (P : Program) (w : World) (A : All P w K mg base) : ExI P w K mg base "InvalidTurns" "given" (He.ga K "InvalidTurns") := by
  obtain ⟨fd, F⟩ := A.c.def_ 7 (d := di7) rfl
  exact A.made (by simp [nG, nI]) (by simp [nG, nI]) (ok_init (by decide) (.inl rfl) F A.b) (binds_init (.inl rfl) F)
theorem exI8 (K : PySem.W.Frag) (mg : Str → Option Value) (base : Heap) (P : Program) (w : World) (A : All P w K mg base) : ExI P w K mg base "InvalidLadder" "given" (He.ga K "InvalidLadder") := by
  obtain ⟨fd, F⟩ := A.c.def_ 8 (d := di8) rfl
  exact A.made (by simp [nG, nI]) (by simp [nG, nI]) (ok_init (by decide) (.inl rfl) F A.b) (binds_init (.inl rfl) F)
theorem exI9 (K : PySem.W.Frag) (mg : Str → Option Value) (base : Heap) (P : Program) (w : World) (A : All P w K mg base) : ExI P w K mg base "InvalidMask" "given" (He.ga K "InvalidMask") := by
  obtain ⟨fd, F⟩ := A.c.def_ 9 (d := di9) rfl
  exact A.made (by simp [nG, nI]) (by simp [nG, nI]) (ok_init (by decide) (.inl rfl) F A.b) (binds_init (.inl rfl) F)
theorem exI10 (K : PySem.W.Frag) (mg : Str → Option Value) (base : Heap) (P : Program) (w : World) (A : All P w K mg base) : ExI P w K mg base "InvalidTree" "given" (He.ga K "InvalidTree") := by
  obtain ⟨fd, F⟩ := A.c.def_ 10 (d := di10) rfl
  exact A.made (by simp [nG, nI]) (by simp [nG, nI]) (ok_init (by decide) (.inl rfl) F A.b) (binds_init (.inl rfl) F)
theorem exI11 (K : PySem.W.Frag) (mg : Str → Option Value) (base : Heap) (P : Program) (w : World) (A : All P w K mg base) : ExI P w K mg base "NotAPartner" "given" (He.ga K "NotAPartner") := by
  obtain ⟨fd, F⟩ := A.c.def_ 11 (d := di11) rfl
  exact A.made (by simp [nG, nI]) (by simp [nG, nI]) (ok_init (by decide) (.inl rfl) F A.b) (binds_init (.inl rfl) F)
theorem exI12 (K : PySem.W.Frag) (mg : Str → Option Value) (base : Heap) (P : Program) (w : World) (A : All P w K mg base) : ExI P w K mg base "InvalidIndex" "given" (He.ga K "InvalidIndex") := by
  obtain ⟨fd, F⟩ := A.c.def_ 12 (d := di12) rfl
  exact A.made (by simp [nG, nI]) (by simp [nG, nI]) (ok_init (by decide) (.inl rfl) F A.b) (binds_init (.inl rfl) F)
theorem exI13 (K : PySem.W.Frag) (mg : Str → Option Value) (base : Heap) (P : Program) (w : World) (A : All P w K mg base) : ExI P w K mg base "InvalidName" "given" (He.ga K "InvalidName") := by
  obtain ⟨fd, F⟩ := A.c.def_ 13 (d := di13) rfl
  exact A.made (by simp [nG, nI]) (by simp [nG, nI]) (ok_init (by decide) (.inl rfl) F A.b) (binds_init (.inl rfl) F)
theorem exI14 (K : PySem.W.Frag) (mg : Str → Option Value) (base : Heap) (P : Program) (w : World) (A : All P w K mg base) : ExI P w K mg base "InvalidWish" "given" (He.ga K "InvalidWish") := by
  obtain ⟨fd, F⟩ := A.c.def_ 14 (d := di14) rfl
  exact A.made (by simp [nG, nI]) (by simp [nG, nI]) (ok_init (by decide) (.inl rfl) F A.b) (binds_init (.inl rfl) F)
theorem exI15 (K : PySem.W.Frag) (mg : Str → Option Value) (base : Heap) (P : Program) (w : World) (A : All P w K mg base) : ExI P w K mg base "InvalidPhrase" "given" (He.ga K "InvalidPhrase") := by
  obtain ⟨fd, F⟩ := A.c.def_ 15 (d := di15) rfl
  exact A.made (by simp [nG, nI]) (by simp [nG, nI]) (ok_init (by decide) (.inl rfl) F A.b) (binds_init (.inl rfl) F)
theorem exI16 (K : PySem.W.Frag) (mg : Str → Option Value) (base : Heap) (P : Program) (w : World) (A : All P w K mg base) : ExI P w K mg base "NotAWorkshop" "given" (He.ga K "NotAWorkshop") := by
  obtain ⟨fd, F⟩ := A.c.def_ 16 (d := di16) rfl
  exact A.made (by simp [nG, nI]) (by simp [nG, nI]) (ok_init (by decide) (.inl rfl) F A.b) (binds_init (.inl rfl) F)
theorem exI17 (K : PySem.W.Frag) (mg : Str → Option Value) (base : Heap) (P : Program) (w : World) (A : All P w K mg base) : ExI P w K mg base "UnknownName" "given" (He.ga K "UnknownName") := by
  obtain ⟨fd, F⟩ := A.c.def_ 17 (d := di17) rfl
  exact A.made (by simp [nG, nI]) (by simp [nG, nI]) (ok_init (by decide) (.inl rfl) F A.b) (binds_init (.inl rfl) F)
theorem exI18 (K : PySem.W.Frag) (mg : Str → Option Value) (base : Heap) (P : Program) (w : World) (A : All P w K mg base) : ExI P w K mg base "HighBelowLow" "given" (He.ga K "HighBelowLow") := by
  obtain ⟨fd, F⟩ := A.c.def_ 18 (d := di18) rfl
  exact A.made (by simp [nG, nI]) (by simp [nG, nI]) (ok_init (by decide) (.inl rfl) F A.b) (binds_init (.inl rfl) F)
theorem exI19 (K : PySem.W.Frag) (mg : Str → Option Value) (base : Heap) (P : Program) (w : World) (A : All P w K mg base) : ExI P w K mg base "InvalidNumbers" "index" (He.ga K "InvalidNumbers") := by
  obtain ⟨fd, F⟩ := A.c.def_ 19 (d := di19) rfl
  exact A.made (by simp [nG, nI]) (by simp [nG, nI]) (ok_init (by decide) (.inr rfl) F A.b) (binds_init (.inr rfl) F)
theorem exI20 (K : PySem.W.Frag) (mg : Str → Option Value) (base : Heap) (P : Program) (w : World) (A : All P w K mg base) : ExI P w K mg base "InvalidChannels" "index" (He.ga K "InvalidChannels") := by
  obtain ⟨fd, F⟩ := A.c.def_ 20 (d := di20) rfl
  exact A.made (by simp [nG, nI]) (by simp [nG, nI]) (ok_init (by decide) (.inr rfl) F A.b) (binds_init (.inr rfl) F)
theorem exI21 (K : PySem.W.Frag) (mg : Str → Option Value) (base : Heap) (P : Program) (w : World) (A : All P w K mg base) : ExI P w K mg base "InUse" "index" (He.ga K "InUse") := by
  obtain ⟨fd, F⟩ := A.c.def_ 21 (d := di21) rfl
  exact A.made (by simp [nG, nI]) (by simp [nG, nI]) (ok_init (by decide) (.inr rfl) F A.b) (binds_init (.inr rfl) F)
theorem exI22 (K : PySem.W.Frag) (mg : Str → Option Value) (base : Heap) (P : Program) (w : World) (A : All P w K mg base) : ExI P w K mg base "Broken" "index" (He.ga K "Broken") := by
  obtain ⟨fd, F⟩ := A.c.def_ 22 (d := di22) rfl
  exact A.made (by simp [nG, nI]) (by simp [nG, nI]) (ok_init (by decide) (.inr rfl) F A.b) (binds_init (.inr rfl) F)
theorem All.fx {P : Program} {w : World} {K : PySem.W.Frag} {mg : Str → Option Value} {base : Heap} (A : All P w K mg base) : Fx P w K mg base := by
  obtain ⟨_, _, q3, q4, q5, q6, q7, q8⟩ := A.cut
  refine ⟨fun x hx => ?_, fun x hx => ?_, fun x hx => A.g x (List.mem_map.mpr ⟨x, List.mem_cons_of_mem _ (List.mem_append_left _ hx), rfl⟩), A.g _ (by simp [gloF]), fun x hx => ?_, fun x hx => exB_ok (q3 x hx).1, q6, fun i j x y hi hj => ?_, q7, fun x hx => of_decide_eq_true (q3 x hx).2⟩
  · simp only [nG, List.mem_cons, List.not_mem_nil, or_false] at hx
    rcases hx with rfl | rfl | rfl | rfl | rfl | rfl | rfl | rfl | rfl | rfl | rfl | rfl | rfl | rfl | rfl | rfl | rfl | rfl | rfl
    · exact exI0 K mg base P w A
    · exact exI1 K mg base P w A
    · exact exI2 K mg base P w A
    · exact exI3 K mg base P w A
    · exact exI4 K mg base P w A
    · exact exI5 K mg base P w A
    · exact exI6 K mg base P w A
    · exact exI7 K mg base P w A
    · exact exI8 K mg base P w A
    · exact exI9 K mg base P w A
    · exact exI10 K mg base P w A
    · exact exI11 K mg base P w A
    · exact exI12 K mg base P w A
    · exact exI13 K mg base P w A
    · exact exI14 K mg base P w A
    · exact exI15 K mg base P w A
    · exact exI16 K mg base P w A
    · exact exI17 K mg base P w A
    · exact exI18 K mg base P w A
  · simp only [nI, List.mem_cons, List.not_mem_nil, or_false] at hx
    rcases hx with rfl | rfl | rfl | rfl
    · exact exI19 K mg base P w A
    · exact exI20 K mg base P w A
    · exact exI21 K mg base P w A
    · exact exI22 K mg base P w A
  · rcases List.mem_cons.mp hx with rfl | h
    · exact A.g _ (by simp [gloF])
    · exact A.g x (List.mem_map.mpr ⟨x, List.mem_cons_of_mem _ (List.mem_append_left _ (List.mem_append_right _ (List.mem_append_right _ h))), rfl⟩)
  · have li := (List.getElem?_eq_some_iff.mp hi).1
    have lj := (List.getElem?_eq_some_iff.mp hj).1
    unfold kkB at q8
    have z := List.all_eq_true.mp (List.all_eq_true.mp q8 i (List.mem_range.mpr (by rw [List.length_map]; exact li))) j (List.mem_range.mpr (by rw [List.length_map]; exact lj))
    rw [List.getElem?_map, List.getElem?_map, hi, hj] at z
    exact of_decide_eq_true z
end K5
namespace K5
open PySem PySem.Spec PyProof.Rows L2 Vk
abbrev Rw : PySem.W.OpenRow := PySem.W.OpenLaw.row PySem.Challenge.rw_bandsplits_k05_whole_errors_keep_what_th
abbrev hk : PySem.W.Hook := hookV 5 fa fn ex
def ob (s : PySem.W.SharedT) : He.AlD × Bool := lookV 5 fa fn ex (HandSHeadRun.getT s)
theorem ob_eq (s : PySem.W.SharedT) : ob s = hk.obs s.abs := lookV_eq (HandSHeadRun.getT_eq s)
def loose : List Str := ("BandError" : Str) :: (nAll ++ (["_law_spring", "_law_dip", "_law_one_of", "_law_with_given", "_law_with_given_named", "_law_with_index", "_law_with_index_named", "_law_bare", "_law_kinds", "_law_is_under", "_law_stand", "_law_thing", "_law_right"] : List Str))
theorem run (w : World) : HandSHeadRun.RunEq Rw (PySem.W.view Rw.prog [42]) hk ob 8000 loose w := by
  intro os
  kernel_rfl
end K5
namespace K5
open PySem PySem.Spec PyProof.Rows L2 Vk
theorem law_of {P : Program} {w : World} {K : PySem.W.Frag} {mg : Str → Option Value} (h0 : Heap) (A : ∀ base, All P w K mg base) : ∃ fd : FuncData, (∀ (s : Shared) (v : Value), BindsTo s fd ⟨[v], []⟩ [("_law_script", v)]) ∧ ∀ base : Heap, FnG P w K mg base 5 (ga K "law") fd ["_law_script"] (spLaw K) := by
  obtain ⟨d0, F0⟩ := (A h0).c.def_ 23 (d := dd0) rfl
  obtain ⟨d1, F1⟩ := (A h0).c.def_ 24 (d := dd1) rfl
  obtain ⟨d2, F2⟩ := (A h0).c.def_ 25 (d := dd2) rfl
  obtain ⟨d3, F3⟩ := (A h0).c.def_ 26 (d := dd3) rfl
  obtain ⟨d4, F4⟩ := (A h0).c.def_ 27 (d := dd4) rfl
  obtain ⟨d5, F5⟩ := (A h0).c.def_ 28 (d := dd5) rfl
  obtain ⟨d6, F6⟩ := (A h0).c.def_ 29 (d := dd6) rfl
  obtain ⟨d7, F7⟩ := (A h0).c.def_ 30 (d := dd7) rfl
  obtain ⟨d8, F8⟩ := (A h0).c.def_ 31 (d := dd8) rfl
  obtain ⟨d9, F9⟩ := (A h0).c.def_ 32 (d := dd9) rfl
  obtain ⟨d10, F10⟩ := (A h0).c.def_ 33 (d := dd10) rfl
  obtain ⟨d11, F11⟩ := (A h0).c.def_ 34 (d := dd11) rfl
  obtain ⟨d12, F12⟩ := (A h0).c.def_ 35 (d := dd12) rfl
  obtain ⟨d13, F13⟩ := (A h0).c.def_ 36 (d := dd13) rfl
  have B := A h0
  have f_int := B.fr "int" (by simp [fa])
  have f_abs := B.fr "abs" (by simp [fa])
  have f_len := B.fr "len" (by simp [fa])
  have f_divmod := B.fr "divmod" (by simp [fa])
  have f_range := B.fr "range" (by simp [fa])
  have f_max := B.fr "max" (by simp [fa])
  have f_min := B.fr "min" (by simp [fa])
  have f_all := B.fr "all" (by simp [fa])
  have f_repr := B.fr "repr" (by simp [fa])
  have f_isinstance := B.fr "isinstance" (by simp [fa])
  have f_ValueError := B.fr "ValueError" (by simp [fa])
  have f_LookupError := B.fr "LookupError" (by simp [fa])
  have f_TypeError := B.fr "TypeError" (by simp [fa])
  have f_ArithmeticError := B.fr "ArithmeticError" (by simp [fa])
  have f_RuntimeError := B.fr "RuntimeError" (by simp [fa])
  have g0 := B.g "_law_spring" (by simp [gloF])
  have g1 := B.g "_law_dip" (by simp [gloF])
  have g2 := B.g "_law_one_of" (by simp [gloF])
  have g3 := B.g "_law_with_given" (by simp [gloF])
  have g4 := B.g "_law_with_given_named" (by simp [gloF])
  have g5 := B.g "_law_with_index" (by simp [gloF])
  have g6 := B.g "_law_with_index_named" (by simp [gloF])
  have g7 := B.g "_law_bare" (by simp [gloF])
  have g8 := B.g "_law_kinds" (by simp [gloF])
  have g9 := B.g "_law_is_under" (by simp [gloF])
  have g10 := B.g "_law_stand" (by simp [gloF])
  have g11 := B.g "_law_thing" (by simp [gloF])
  have g12 := B.g "_law_right" (by simp [gloF])
  have g13 := B.g "law" (by simp [gloF])
  refine ⟨d13, fun s v => FunD.bindsA (ps := ["_law_script"]) F13 (fun _ _ _ _ _ _ us hl => match us, hl with | [_], _ => rfl) s [v] rfl, fun base => ?_⟩
  have FX := (A base).fx
  have hm : ∃ o, K.lookup sysModules = some o := Option.isSome_iff_exists.mp (A base).cut.1
  have S : Df P w K mg base 1 "_law_spring" ["_law_script", "_law_turn"] (spSpring K) _ d0 := ⟨ok_spring F0 f_int f_abs f_len, g0, F0.kp, FunD.bindsN (ps := ["_law_script", "_law_turn"]) F0 fun _ _ _ _ _ _ us hl => match us, hl with | [_, _], _ => rfl⟩
  have GD := ok_dip (P := P) (w := w) (mg := mg) (base := base) F1 f_int f_divmod
  have bD : Binds K d1 ["_law_spring_here", "_law_many"] [] := FunD.bindsN (ps := ["_law_spring_here", "_law_many"]) F1 fun _ _ _ _ _ _ us hl => match us, hl with | [_, _], _ => rfl
  have GO := ok_one (P := P) (w := w) (mg := mg) (base := base) F2 GD g1 F1.kp bD f_len
  have bO : Binds K d2 nOn [] := FunD.bindsN (ps := nOn) F2 fun _ _ _ _ _ _ us hl => match us, hl with | [_, _], _ => rfl
  have T : Df P w K mg base 3 "_law_thing" ["_law_spring_here"] spThing _ d11 := ⟨ok_thing F11 GD g1 F1.kp bD GO g2 F2.kp bO f_range, g11, F11.kp, FunD.bindsN (ps := ["_law_spring_here"]) F11 fun _ _ _ _ _ _ us hl => match us, hl with | [_], _ => rfl⟩
  have W1 : Df P w K mg base 3 "_law_with_given" nW (spHolds "given" (nG.map (He.ga K))) _ d3 := ⟨ok_given F3 FX, g3, F3.kp, FunD.bindsN (ps := nW) F3 fun _ _ _ _ _ _ us hl => match us, hl with | [_], _ => rfl⟩
  have W2 : Df P w K mg base 3 "_law_with_given_named" nW (spHolds "given" (nG.map (He.ga K))) _ d4 := ⟨ok_givenN F4 FX, g4, F4.kp, FunD.bindsN (ps := nW) F4 fun _ _ _ _ _ _ us hl => match us, hl with | [_], _ => rfl⟩
  have W3 : Df P w K mg base 3 "_law_with_index" nW (spHolds "index" (nI.map (He.ga K))) _ d5 := ⟨ok_index F5 FX, g5, F5.kp, FunD.bindsN (ps := nW) F5 fun _ _ _ _ _ _ us hl => match us, hl with | [_], _ => rfl⟩
  have W4 : Df P w K mg base 3 "_law_with_index_named" nW (spHolds "index" (nI.map (He.ga K))) _ d6 := ⟨ok_indexN F6 FX, g6, F6.kp, FunD.bindsN (ps := nW) F6 fun _ _ _ _ _ _ us hl => match us, hl with | [_], _ => rfl⟩
  have W5 : Df P w K mg base 1 "_law_bare" [] (spBare (nB.map (He.ga K))) _ d7 := ⟨ok_bare F7 FX, g7, F7.kp, FunD.bindsN (ps := []) F7 fun _ _ _ _ _ _ us hl => match us, hl with | [], _ => rfl⟩
  have WK : Df P w K mg base 1 "_law_kinds" nK (spKinds K) _ d8 := ⟨ok_kinds F8 FX f_isinstance, g8, F8.kp, FunD.bindsN (ps := nK) F8 fun _ _ _ _ _ _ us hl => match us, hl with | [_], _ => rfl⟩
  have WU : Df P w K mg base 1 "_law_is_under" nK (spUnder K) _ d9 := ⟨ok_under F9 FX f_isinstance f_ValueError f_LookupError f_TypeError f_ArithmeticError f_RuntimeError, g9, F9.kp, FunD.bindsN (ps := nK) F9 fun _ _ _ _ _ _ us hl => match us, hl with | [_], _ => rfl⟩
  have GS := ok_stand (P := P) (w := w) (mg := mg) (base := base) F10 FX hm WK.ok WK.g WK.kp WK.b WU.ok WU.g WU.kp WU.b f_range f_len f_repr
  have bS : Binds K d10 ["_law_errors", "_law_start"] [] := FunD.bindsN (ps := ["_law_errors", "_law_start"]) F10 fun _ _ _ _ _ _ us hl => match us, hl with | [_, _], _ => rfl
  have GR := ok_right (P := P) (w := w) (mg := mg) (base := base) F12 FX hm T W1 W2 W3 W4 W5 WK WU GS g10 F10.kp bS f_repr
  have bR : Binds K d12 ["_law_spring_here"] [] := FunD.bindsN (ps := ["_law_spring_here"]) F12 fun _ _ _ _ _ _ us hl => match us, hl with | [_], _ => rfl
  exact ok_law F13 S GR g12 F12.kp bR f_range f_max f_min f_len f_all
end K5
open PySem PySem.W PySem.Calls PyProof.Rows
theorem PySem.Challenge.cw_bandsplits_k05_whole_errors_keep_what_th_holds : PySem.Challenge.rw_bandsplits_k05_whole_errors_keep_what_th.Holds := by
  w_on; o_law
  refine HandSHeadRun.head_any (r := K5.Rw) (q := view K5.Rw.prog [42]) (H := K5.hk) (ob := K5.ob) (M := 8000) (loose := K5.loose) (d := HandSHeadRun.topDef K5.Rw.prog 42) (kwd := []) K5.ob_eq
    (by kernel_rfl) (fun s => by kernel_rfl) K5.run (by kernel_rfl) (by kernel_rfl) (by kernel_rfl) (by rfl) (by first | assumption | decide +kernel) (by decide +kernel) ⟨rfl, rfl, rfl, rfl, rfl, by decide +kernel⟩ ?hw ?hc
  case hw => w_witness2
  case hc =>
    refine Vk.walkG (l := PySem.Challenge.rw_bandsplits_k05_whole_errors_keep_what_th) (n := 63) (k := 5) (x := "_law_script") rfl (by decide) (by kernel_rfl) ⟨rfl, by decide, by decide⟩ ?F
    intro w mg fa h Y G hmg0
    obtain ⟨K, KX, c, x⟩ := Y
    have hmg : mg ("law" : PySem.Str) = some (.ref fa) := by
      have e : (HandSHeadRun.topDef K5.Rw.prog 42).name = ("law" : PySem.Str) := by kernel_rfl
      rw [← e]
      exact hmg0
    have A : ∀ base, K5.All (PySem.Challenge.rw_bandsplits_k05_whole_errors_keep_what_th).prog w K mg base := fun base =>
      ⟨c, x, fun y hy => He.glo_ok KX G (K5.fact_mem c (List.mem_append_left _ hy)), fun y hy => He.free_ok KX G (K5.fact_mem c hy)⟩
    obtain ⟨fd, hb, hF⟩ := K5.law_of h A
    have ea : fa = K5.ga K "law" := by
      have e := hmg.symm.trans ((A h).g "law" (by simp [K5.gloF]))
      cases e
      rfl
    subst ea
    exact ⟨K, fd, K5.spLaw K, KX, hb, fun H a ns hl _ hS => ⟨a, ns, rfl, hS, by omega, fun _ => rfl⟩, fun base _ _ => hF base⟩
#print axioms PySem.Challenge.cw_bandsplits_k05_whole_errors_keep_what_th_holds
