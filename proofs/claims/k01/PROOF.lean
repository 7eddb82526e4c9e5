import PyProof.Rows.All
import Wide.All
import OpenK.AllK
import Wide.FinOn
import HandS.ForMost
import HandS.ForExc
import HandS.ExcInit
import HandS.ExcSuper
import KE.KExcSuper
import HandS.Lambda
import HandS.EndTab
import HandS.CallSlots
import HandS.Iter
import HandS.Codes
import HandS.StrMore
import KE.KEqSeq
import PySem.Challenge.RW_hoststack_k01_texts_as_numbers
set_option Elab.async false
set_option linter.all false
set_option maxRecDepth 100000
set_option maxHeartbeats 8000000
/-! FileError(word): an own exception over an own exception over ValueError, whose __init__ says super().__init__(word); self.word = word -/
namespace HK
open PySem PySem.Spec PyProof.Rows L2
abbrev feBody (p0 p1 p2 p3 p4 p5 p6 p7 p8 p9 : Pos) : List Stmt :=
  [.Expr (.Call (.Attribute (.Call (.Name "super" p0) [] [] p1) "__init__" p2) [.Name "word" p3] [] p4) p5,
   .Assign [.Attribute (.Name "self" p6) "word" p7] (.Name "word" p8) p9]
/-- what the written part says of the class at C and its __init__ at fI -/
structure FeTxt (P : Program) (K : PySem.W.Frag) (qual : Str) (C fI : Addr) : Prop where
  ox : OexC K C
  iC : PySem.W.findIn K (.ref C) "__init__" = some (some (.ref fI))
  tI : PySem.W.typeIn K (.ref fI) = some (.type "function")
  nW : PySem.W.findIn K (.ref C) "word" = some none
  su : PySem.W.ks_superIn K C C "__init__" = some (some (.builtin "ValueError.__init__"))
  opq : PySem.W.nsIn K cStatics "thirdparty.any" = some none
  nsu : PySem.W.nsIn K mainGlobals "super" = some none
  sVE : PySem.W.subIn K (.ref C) (.type "ValueError") = some true
  sC : PySem.W.mroIn K C (.ref C) = some true
  fn : ∃ (oc kV doc pm ct : Value) (od an : Option Addr) (osl : Array (Option Value)) (cda cc : Addr) (params : Arguments) (scope : Scope) (p0 p1 p2 p3 p4 p5 p6 p7 p8 p9 : Pos),
    K.lookup fI = some ⟨oc, od, .func (PySem.W.fnX "__init__" qual params (feBody p0 p1 p2 p3 p4 p5 p6 p7 p8 p9) scope [("__class__", cc)] .none kV doc pm an (.ref cda) ct), osl⟩ ∧
    PySem.W.codeIn K (.ref cda) qual = true ∧
    (∃ ccl cdd vs ccs file tf, K.lookup cda = some ⟨ccl, cdd, .fields vs, ccs⟩ ∧ vs[2]? = some (.str file tf) ∧ ((P.main.file : Str) == file) = true) ∧
    (∃ cl cld csl, K.lookup cc = some ⟨cl, cld, .cell (some (.ref C)), csl⟩) ∧
    (∃ ar, (params.posonlyargs ++ params.args).head? = some ar ∧ ar.arg = "self") ∧
    (∀ us : List Value, us.length = 2 → bindArgs (PySem.W.fnX "__init__" qual params (feBody p0 p1 p2 p3 p4 p5 p6 p7 p8 p9) scope [("__class__", cc)] .none kV doc pm an (.ref cda) ct) ⟨us, []⟩ = pure ((["self", "word"] : List Str).zip us)) ∧
    scope.kind = .function ∧ scope.isCoroutine = false ∧ scope.isGenerator = false ∧
    scope.names.lookup ("self" : Str) = some .local ∧ scope.names.lookup ("word" : Str) = some .local ∧ scope.names.lookup ("super" : Str) = some .globalImplicit ∧ scope.names.lookup ("__class__" : Str) = some .free ∧
    (∀ x ∈ scope.names, x.2 ≠ .cell) ∧ (p2.endLine == p4.line) = true
  top : (P.main.scope.names.lookup ("super" : Str)).isSome = false
abbrev mwO (x : Addr) : Obj := PySem.W.kxs_mw "ValueError.__init__" x
section
open PySem.W
variable {prog : Program} {w : World} {A : Around} {E : Value → Shared → Prop} {h : Heap} {g : Array GenState} {d : Drawn} {t : Nat} {os : OsState}
variable {nm q : Str} {C N : Addr} {bs bm : List Value} {hdct : Bool} {sn : List Str} {sub : List Value} {ab : Bool} {col : Option Bool} {dd : Option Addr} {k0 k1 k2 k3 k5 : Option Value}
/-- super().__init__, bound, called -/
theorem call_mw {u e t0 : Addr} {rest : List Value} {Q : Value → Shared → Prop} (hT : HandSPX.refsVE bm = true)
    (hC : h.get? C = some (excClassObj nm q C N bs bm hdct sn sub ab col dd k0 k1 k2 k3 k5 "ValueError.__new__")) (he : h.get? e = some (HandSPX.excO C t0)) (hu : h.get? u = some (mwO e)) (hrest : rest.length ≤ sizeLine)
    (hq : ∀ h' t1, (∀ b o, b ≠ e → h.get? b = some o → h'.get? b = some o) → h'.get? e = some (HandSPX.excO C t1) → Q .none ⟨h', g, d, t, os⟩) :
    wpAny (model prog w) A (call (.ref u) rest) Q E ⟨h, g, d, t, os⟩ := by
  refine wpAny_call (codeAny_of_tree ?_)
  show wpAny _ A.in1 (callAny (.ref u) ⟨rest, []⟩) _ _ _
  simp only [callAny]
  refine wpAny_bind (wpAny_load hu ?_)
  simp only [mwO, kxs_mw, show (Value.type "method-wrapper" == Value.type "method" || Value.type "method-wrapper" == Value.type "builtin_function_or_method" || Value.type "method-wrapper" == Value.type "method-wrapper") = true by decide, if_true]
  refine W.KFB.if_so (by decide) ?_
  refine wpAny_bind (ESX.check_bound F.excBase_ValueError hC he rfl ?_)
  refine wpAny_bind (wpAny_pure (wpAny_pure ?_))
  refine ⟨Code.quiet_builtin _ (by decide +kernel), codeAny_builtin F.excBase_ValueError.initEntry ?_⟩
  rw [Around.under_plainId F.excBase_ValueError.init.plain _]
  wp_walk
  refine hq _ h.objs.size (fun b o hb ho => ?_) ?_
  · rw [Heap.get?_update_other _ _ (Ne.symm hb)]
    exact Heap.get?_push_of_some _ ho
  · rw [Heap.get?_update_self _ (Heap.get?_push_of_some _ he) rfl]
    rfl
end
section
open PySem.W
variable {P : Program} {w : World} {A : Around} {K : Frag} {qual : Str} {C fI : Addr} {h : Heap} {g : Array GenState} {d : Drawn} {t : Nat} {os : OsState} {R : Result → Shared → Prop}
theorem fe_init (T : FeTxt P K qual C fI) (X : K.In h) {mg mb : Str → Option Value} (hg : h.Ns mainGlobals mg) (hb : h.Ns builtinsNs mb) (hbb : ∀ x : Str, x ≠ "__name__" → mb x = bootBuiltins x) (hlim : h.NoLimit) (hroom : A.depth < recursionLimit)
    {e t0 : Addr} {v : Value} (heK : K.lookup e = none) (he : h.get? e = some (HandSPX.excO C t0))
    (hq : ∀ h' tk dx t1, (∀ b o, b ≠ e → h.get? b = some o → h'.get? b = some o) → h.objs.size ≤ dx → dx ≠ e → h'.get? e = some { cls := .ref C, dict := some dx, data := .fields #[.ref t1, .none, .none, .none, .bool false, .none] } →
      h'.Ns1 dx (fun y => if y = ("word" : Str) then some v else none) → R (.ok (.ret .none)) ⟨h', g, d, tk, os⟩) :
    codeAny (model P w) A (.call (.ref fI) ⟨[.ref e, v], []⟩) R ⟨h, g, d, t, os⟩ := by
  obtain ⟨nm, q, N, bs, bm, sn, sub, ab, col, dd, k0, k1, k2, k3, k5, hC, hbm⟩ := T.ox.cls
  obtain ⟨oc, kV, doc, pm, ct, od, an, osl, cda, cc, params, scope, p0, p1, p2, p3, p4, p5, p6, p7, p8, p9, lk, hcd, ⟨ccl, cdd, vs, ccs, file, tf, hcode, hvs, hfile⟩, ⟨cl, cld, csl, hcell⟩, ⟨ar, hp, har⟩, hbind, hk, hco, hgen, ns, nw, nsup, ncls, nocell, hp24⟩ := T.fn
  have hcl : clsIn K C = some { name := nm, bases := bs, mro := .ref C :: bm, ns := N, qualname := q, hasDict := true, slotNames := sn, subclasses := sub, abstract := ab, collection := col, hasDel := false } := by unfold clsIn; rw [hC] <;> rfl
  refine ks_codeAny_call_defAt hroom (X _ _ lk) rfl hlim (codeRec_of X hcd) rfl (.of_eq (hbind _ rfl)) nocell (fun x hx => ?_) (fun h0 hns k0' => ?_) hco hgen hk
  · have hx : x ∈ [(("self" : Str), Value.ref e), (("word" : Str), v)] := hx
    rcases List.mem_cons.mp hx with rfl | hx
    · exact ns
    · rcases List.mem_cons.mp hx with rfl | hx
      · exact nw
      · cases hx
  generalize hL : h.objs.size = L at hns k0' ⊢
  have X0 : K.In h0 := X.keeps k0'
  have he0 := k0' _ _ he
  have hCo := X0 _ _ hC
  have hself : (fun x => List.lookup x ([(("self" : Str), Value.ref e), (("word" : Str), v)] : List (Str × Value)).reverse) ("self" : Str) = some (.ref e) := by
    show List.lookup ("self" : Str) [(("word" : Str), v), (("self" : Str), Value.ref e)] = _
    simp [List.lookup_cons, show ((("self" : Str) == ("word" : Str)) = false) by decide +kernel]
  have hword : (fun x => List.lookup x ([(("self" : Str), Value.ref e), (("word" : Str), v)] : List (Str × Value)).reverse) ("word" : Str) = some v := by
    show List.lookup ("word" : Str) [(("word" : Str), v), (("self" : Str), Value.ref e)] = _
    simp [List.lookup_cons]
  have hns' : h0.Ns L (fun x => List.lookup x ([(("self" : Str), Value.ref e), (("word" : Str), v)] : List (Str × Value)).reverse) := hns
  have heL : e ≠ L := by rw [← hL]; exact Nat.ne_of_lt (Heap.lt_size he)
  have eX : C ≠ e := fun z => by
    rw [z] at hCo
    rw [he0] at hCo
    cases hCo
  obtain ⟨sk, snm, sgen, sco, smore⟩ := scope
  dsimp only at hk hco hgen ns nw nsup ncls nocell
  subst hk
  generalize hfd : fnX "__init__" qual params (feBody p0 p1 p2 p3 p4 p5 p6 p7 p8 p9) { kind := .function, names := snm, isGenerator := sgen, isCoroutine := sco, more := smore } [(("__class__" : Str), cc)] .none kV doc pm an (.ref cda) ct = fd at *
  have hkind : (callEnv fd L fI).scope.kind = .function := by rw [← hfd]; rfl
  have hkn : ∀ x, (callEnv fd L fI).kindOf x = snm.lookup x := fun x => by rw [← hfd]; rfl
  have hlo : (callEnv fd L fI).locals = L := by rw [← hfd]; rfl
  have hfun : (callEnv fd L fI).func = some fI := by rw [← hfd]; rfl
  have hcod : (callEnv fd L fI).code = .ref cda := by rw [← hfd]; rfl
  have hcel : (callEnv fd L fI).cells = [(("__class__" : Str), cc)] := by rw [← hfd]; rfl
  have hglo : (callEnv fd L fI).globals = mainGlobals := by rw [← hfd]; rfl
  have hblt : (callEnv fd L fI).builtins = builtinsNs := by rw [← hfd]; rfl
  have hpar : fd.params = params := by rw [← hfd]
  generalize callEnv fd L fI = env at *
  have hint : interactive env = false := by unfold interactive; rw [hkind]; rfl
  have hcall : eval (.Call (.Attribute (.Call (.Name "super" p0) [] [] p1) "__init__" p2) [.Name "word" p3] [] p4) env = (do
      let ov ← attributeBase (.Call (.Name "super" p0) [] [] p1) "__init__" env (eval (.Call (.Name "super" p0) [] [] p1) env)
      standAt p2.atName
      let (f, first) ← holding [ov] (getMethod ov "__init__" (do return (← importBound (.Call (.Name "super" p0) [] [] p1) env).getD true))
      callWith p4 f first (backTo p4 (starEach [.Name "word" p3] env)) []) := by
    show (do
      let ov ← attributeBase (.Call (.Name "super" p0) [] [] p1) "__init__" env (eval (.Call (.Name "super" p0) [] [] p1) env)
      standAt p2.atName
      methodCall (.Call (.Name "super" p0) [] [] p1) "__init__" p2 p4 env ov 1 (backTo p4 (starEach [.Name "word" p3] env)) (backToKw p4 (keywordEach [] env))) = _
    unfold methodCall methodCallPos
    simp only [hp24, Bool.or_true, if_true]
    rfl
  refine ks_wpAt_execs_cons (ks_wpAt_Expr_any (hi := hint) (ks_wpAt_MethodCall ?_ hcall))
  refine ks_wpAt_super_base (by rw [hkn]; exact nsup) (by rw [hkn]; exact ncls) (by decide) hfun (X0 _ _ lk) rfl (by rw [hpar]; exact hp) hcod (X0 _ _ hcode) rfl hvs hfile T.top ?_
  have hg0 : h0.Ns env.globals mg := by rw [hglo]; exact hg.keeps k0'
  have hb0 : h0.Ns env.builtins mb := by rw [hblt]; exact hb.keeps k0'
  refine ks_loadName_global hkind (by rw [hkn]; exact nsup) (Calls.loadGlobal_builtin hg0 (mg_none_of X hg T.nsu) hb0 ((hbb _ (by decide +kernel)).trans (PyProof.Rows.Boot.«super»)) ⟨rfl, ?_⟩)
  refine wpAny_loadName_free hkind (by rw [hkn]; exact ncls) (by rw [hcel]; rfl) ⟨_, X0 _ _ hcell, rfl⟩ ?_
  rw [har]
  have hnsE : h0.Ns env.locals (fun x => List.lookup x ([(("self" : Str), Value.ref e), (("word" : Str), v)] : List (Str × Value)).reverse) := by rw [hlo]; exact hns'
  refine wpAny_loadName_local hkind (by rw [hkn]; exact ns) hnsE hself ?_
  refine ks_wpAny_isType_cls hCo rfl ⟨rfl, ?_⟩
  refine ks_wpAny_call_super hCo rfl he0 rfl (fun c z => by cases z) (looks_mroIn X0 T.sC) fun h1 e1 k1' => ?_
  have X1 : K.In h1 := X0.keeps k1'
  generalize h0.objs.size = so at e1 ⊢
  have he1 := k1' _ _ he0
  have I1 : Looks (model P w) h1 (isInstance (.ref e) (.type "ValueError")) true := by
    have L0 : Looks (model P w) h1 (typeOf (.ref e)) (.ref C) := fun A Q E s k q => wpAny_typeOf_ref (k _ _ he1) q
    exact L0.andThen (looks_subIn X1 T.sVE)
  have hsu : alongIn K "__init__" bm = some (some (.builtin "ValueError.__init__")) := by
    have z := T.su
    unfold ks_superIn at z
    rw [hcl] at z
    have z2 : alongIn K "__init__" (((Value.ref C :: bm).dropWhile (· != .ref C)).drop 1) = some (some (.builtin "ValueError.__init__")) := z
    rw [ESX.drop_own] at z2
    exact z2
  refine kxs_getMethod kxs_ValueError e1 (looks_opaque X1 T.opq) (l₀ := .ref C :: bm) (fun A Q E s k q => wpAny_bind ((looks_clsIn X1 hcl) A _ E s k (wpAny_pure q))) (ESX.drop_own C bm) X1 hsu I1 (Ne.symm eX) (by decide) ?_
  have e2 : (h1.push (kxs_mw "ValueError.__init__" e)).get? h1.objs.size = some (mwO e) := Heap.get?_push_at rfl rfl
  have k2 : ∀ b o, h1.get? b = some o → (h1.push (kxs_mw "ValueError.__init__" e)).get? b = some o := fun b o z => Heap.get?_push_of_some _ z
  generalize h1.push (kxs_mw "ValueError.__init__" e) = h2 at e2 k2 ⊢
  generalize h1.objs.size = u at e2 ⊢
  have kk : ∀ b o, h0.get? b = some o → h2.get? b = some o := fun b o z => k2 _ _ (k1' _ _ z)
  have hns2 : h2.Ns env.locals (fun x => List.lookup x ([(("self" : Str), Value.ref e), (("word" : Str), v)] : List (Str × Value)).reverse) := hnsE.keeps kk
  have word_ok : ∀ {M : Model} {A : Around} {E : Value → Shared → Prop} {s : Shared} {pos : Pos} {Q : Value → Shared → Prop} {m : Str → Option Value}, s.heap.Ns env.locals m → m ("word" : Str) = some v → Q v s → wpAny M A (eval (.Name "word" pos) env) Q E s :=
    fun {M A E s pos Q m} hn hm q => wpAny_Name (wpAny_loadName_local hkind (by rw [hkn]; exact nw) hn hm q) (by decide)
  have self_ok : ∀ {M : Model} {A : Around} {E : Value → Shared → Prop} {s : Shared} {pos : Pos} {Q : Value → Shared → Prop} {m : Str → Option Value}, s.heap.Ns env.locals m → m ("self" : Str) = some (.ref e) → Q (.ref e) s → wpAny M A (eval (.Name "self" pos) env) Q E s :=
    fun {M A E s pos Q m} hn hm q => wpAny_Name (wpAny_loadName_local hkind (by rw [hkn]; exact ns) hn hm q) (by decide)
  refine kxs_callWith (i := "ValueError.__init__") (x := e) (by rfl) ?_
  show wpAny _ _ (evalArgs (.ref u) true ((false, eval (.Name "word" p3) env) :: backTo p4 (starEach [] env)) []) _ _ _
  refine Calls.evalArgs_plain ?_
  refine Calls.spliced_cons (word_ok (s := ⟨h2, g, d, _, os⟩) hns2 hword ?_)
  refine Calls.spliced_nil ⟨e2, ?_⟩
  show wpAny _ _ (call (.ref u) [v]) _ _ _
  refine call_mw hbm ((X1.keeps k2) _ _ hC) (k2 _ _ he1) e2 (by rw [sizeLine_eq]; show 1 ≤ _; omega) fun h3 t1 k3 e3 => ?_
  show _root_.PySem.wpAt _ _ _ (execs [.Assign [.Attribute (.Name "self" p6) "word" p7] (.Name "word" p8) p9] env) _ _ _
  have hns3 : h3.Ns env.locals (fun x => List.lookup x ([(("self" : Str), Value.ref e), (("word" : Str), v)] : List (Str × Value)).reverse) := by
    obtain ⟨o, es, ep, ho, r⟩ := hns2
    exact ⟨o, es, ep, k3 _ _ (by rw [hlo]; exact Ne.symm heL) ho, r⟩
  have X3 : K.In h3 := fun b o z => k3 b o (fun y => by
    rw [y, heK] at z
    cases z) ((X1.keeps k2) b o z)
  refine ks_wpAt_execs_cons (ks_wpAt_Assign_Attr (_root_.PySem.wpAt_of_wpAny (word_ok (s := ⟨h3, g, d, _, os⟩) hns3 hword ?_)))
  refine self_ok (s := ⟨h3, g, d, _, os⟩) hns3 hself ?_
  refine set_plain (s := ⟨h3, g, d, _, os⟩) X3 (ox := { cls := .ref C, dict := none, data := .fields #[.ref t1, .none, .none, .none, .bool false, .none] }) (od := none) ⟨e3, rfl, rfl, trivial⟩ T.ox.sa ?_
  refine HandSPX.exc_osa X3 e3 hcl (show HandSPX.refsVE (.ref C :: bm) = true from hbm) rfl T.nW (fun h4 tk' dx k4 dn dne hx hn => ?_)
  show _root_.PySem.wpAt _ _ _ (execs [] env) _ _ _
  refine _root_.PySem.wpAt_of_wpAny (wpAny_execs_nil ?_)
  have sz3 : h.objs.size ≤ h3.objs.size := by
    have z := hns3.lt
    rw [hlo] at z
    rw [hL]
    exact Nat.le_of_lt z
  exact hq h4 tk' dx t1 (fun b o hb z => k4 b o hb (k3 b o hb (kk b o (k0' b o z)))) (Nat.le_trans sz3 dn) dne hx hn
end
/-! ### raise FileError('..') -/
def tMkF (C : Addr) (te : TE) : L2.St → Hp → XK → Prop := fun σ H Q => te σ H fun y H1 => ∀ d, H1 d = none → Q (.ref C) (some d) (upd H1 d (.xd [("word", y)]))
section
variable {X : Cx} {e : Expr} {te : TE} {x : Str} {C fI : Addr} {qual : Str} {p pos : Pos}
theorem pmk_fe (T : FeTxt X.prog X.K qual C fI) (hr : Room 1 X.A) (hg : Gl X x) (hm : X.mg x = some (.ref C)) (ha : PA X [e] (tCons te tNil))
    (hdb : (x == ("__debug__" : Str)) = false := by decide) (he : starEach [e] X.env = (false, eval e X.env) :: starEach [] X.env := by rfl) :
    PMk X (.Call (.Name x p) [e] [] pos) (tMkF C te) := by
  intro pins s σ H Q I h
  obtain ⟨nm, q, N, bs, bm, sn, sub, ab, col, dd, k0, k1, k2, k3, k5, hC, hbm⟩ := T.ox.cls
  refine wpAny_Call_Name_kw (ld_glob I hg hm ?_ hdb)
  refine PySem.W.callWith_K (h₀ := X.base) I.ok.mod.kin T.ox.kC (thn (ha.run pos pins s σ H _ I (show tCons te tNil σ H (fun vs H1 => match vs with | [y] => ∀ d, H1 d = none → Q (.ref C) (some d) (upd H1 d (.xd [("word", y)])) | _ => False) from h)) fun us s1 ⟨vs, H1, I1, r1, q1⟩ => ⟨I1.kIn, ?_⟩) he (by rfl)
  obtain ⟨y, ev⟩ : ∃ y, vs = [y] := by
    match vs, q1 with
    | [y], _ => exact ⟨y, rfl⟩
  · subst ev
    cases r1 with
    | @cons _ u _ ur ra rw' =>
      cases rw'
      show wpAny _ _ (call (.ref C) [u]) _ _ _
      obtain ⟨hp, g, dr, tk, os⟩ := s1
      have hsz : hp.objs.size ≤ hp.objs.size + 1 := Nat.le_succ _
      have kk : ∀ b o, hp.get? b = some o → ((hp.push (PySem.W.kdv_tup [u])).push (PySem.HandSPX.excO C hp.objs.size)).get? b = some o := fun b o e => Heap.get?_push_of_some _ (Heap.get?_push_of_some _ e)
      have hget : ((hp.push (PySem.W.kdv_tup [u])).push (PySem.HandSPX.excO C hp.objs.size)).get? (hp.objs.size + 1) = some (PySem.HandSPX.excO C hp.objs.size) := by heap_get
      have hK : X.K.lookup (hp.objs.size + 1) = none := by
        cases z : X.K.lookup (hp.objs.size + 1) with
        | none => rfl
        | some o => exact absurd (Heap.lt_size (I1.kIn _ _ z)) (by show ¬ hp.objs.size + 1 < hp.objs.size; omega)
      obtain ⟨mb, hb1, hb2⟩ := I1.mod.blt
      refine wpAny_call (PySem.HandSPX.call_own F.excBase_ValueError (fun Y => PySem.HandSPX.refsVE_contains Y bm hbm) (I1.kIn _ _ hC) (PySem.W.looks_findIn I1.kIn T.iC) (fun self => PySem.W.bind_fn I1.kIn self T.tI) (by rw [sizeLine_eq]; show 1 ≤ _; omega)
        (fe_init T (I1.kIn.keeps kk) ((I1.mod.glob.keeps I1.bk).keeps kk) ((hb1.keeps I1.bk).keeps kk) hb2 (I1.nolimit.keeps kk) (hr.make C [u] []).depth hK hget fun h' tk' dx t1 kp hdx hne hx hn => ?_))
      refine ⟨rfl, ?_⟩
      have hdx' : hp.objs.size ≤ dx := Nat.le_trans (by rw [Heap.size_push, Heap.size_push]; exact Nat.le_trans (Nat.le_succ _) (Nat.le_succ _)) hdx
      have nd : H1 dx = none := I1.hok.fresh hdx'
      have na : H1 (hp.objs.size + 1) = none := I1.hok.fresh hsz
      have q2 := q1 dx nd
      obtain ⟨G, g1', g2'⟩ := restrict h' fun b => decide (b ≠ hp.objs.size + 1)
      have gk : ∀ b, b ≠ hp.objs.size + 1 → G.get? b = h'.get? b := fun b hb => g1' b (decide_eq_true hb)
      have ge : G.get? (hp.objs.size + 1) = none := g2' (hp.objs.size + 1) (by simp)
      have J : Inv X pins σ (upd H1 dx (.xd [("word", y)])) ⟨G, g, dr, tk', os⟩ := by
        refine I1.laid (t' := tk') (a := dx) (o := .xd [("word", y)]) (h' := G) (fun b o z => ?_) hdx' ⟨_, hn.at fun o z => (gk dx hne).trans z, fun f => ?_⟩
        · have hb : b ≠ hp.objs.size + 1 := fun z2 => by
            have z3 := Heap.lt_size (show hp.get? b = some o from z)
            rw [z2] at z3
            exact Nat.lt_irrefl _ (Nat.lt_of_succ_lt z3)
          rw [gk b hb]
          exact kp b o hb (kk b o z)
        · have z := relO_put (f := "word") (fs := []) (mA := fun _ => none) ra (fun g => True.intro) f
          exact z
      refine ⟨hp.objs.size + 1, _, _, ⟨G, g, dr, tk', os⟩, _, .ref C, some dx, rfl, J, fun b o z => ?_, ge, hx, ⟨rfl, rfl⟩, rfl, rfl, ?_, rfl, I1.bare, raises_own T.ox.exC T.ox.tyC, q2⟩
      · by_cases hba : b = hp.objs.size + 1
        · have z' : G.get? b = some o := z
          rw [hba, ge] at z'
          cases z'
        · exact (gk b hba).symm.trans z
      · rw [upd_ne (Ne.symm hne)]
        exact na
end
end HK
/-! a list comprehension whose element may raise -/
namespace HK
open PySem PySem.Spec PyProof.Rows L2
/-- where a comprehension's block ends: at its value, or with an exception that goes on from its own env -/
def postF (M : Model) (A : Around) (E : Value → Shared → Prop) (use : Option (Value → Sem Unit)) (Q : Value → Shared → Prop) (acc : Value) (ce : Env) (r : Result) (s' : Shared) : Prop :=
  match r, use with
  | .ok _, none => ∃ m, s'.heap.Ns ce.locals m ∧ ∀ h', Heap.SameBut ce.locals s'.heap h' → Q acc { s' with heap := h' }
  | .ok _, some u => wpAny M A (u acc) (fun _ s2 => ∃ m, s2.heap.Ns ce.locals m ∧ ∀ h', Heap.SameBut ce.locals s2.heap h' → Q .none { s2 with heap := h' }) E s'
  | .error x, _ => ∃ m, s'.heap.Ns ce.locals m ∧ ∀ h', Heap.SameBut ce.locals s'.heap h' → wpAny M A (passOn "comprehension.variables-let-go" x ce : Sem Value) (fun _ _ => False) E { s' with heap := h' }
section
variable {M : Model} {A : Around} {E : Value → Shared → Prop} {s : Shared} {env : Env}
theorem comp_freeF {e : Expr} {scope : Scope} {pos : Pos} {newAcc first : Sem Value} {g : Comprehension} {gs : List Comprehension} {cl : List (Str × Addr)} {use : Option (Value → Sem Unit)} {Q : Value → Shared → Prop}
    (hcl : clausesOf e = g :: gs) (hs : ∀ x, foldedSetIterable g.iter env x = pure x) (hclos : closureFor scope env = pure cl) (hk : scope.kind = .function) (hn : ∀ x ∈ scope.names, x.2 = .local → scope.names.lookup x.1 = some .local)
    (h : wpAny M A first (fun x s1 => wpAny M A (pyIter x) (fun it s2 => wpAny M A newAcc (fun acc s3 => wpAny M A (newFunctionEnv scope env.globals cl [] env.qual none .none (some env))
      (fun ce s4 => codeAny M A (.compStart e 0 it acc { ce with scope := relabel scope env }) (postF M A E use Q acc { ce with scope := relabel scope env }) s4) E s3) E s2) E s1) E s) :
    wpAny M A (comprehension e scope env pos newAcc false first use) Q E s := by
  unfold comprehension
  rw [hclos, hcl]
  refine wpAny_bind (wpAny_mono h (fun x s1 h1 => wpAny_bind (wpAny_standAt (wpAny_bind (wpAny_of_eq (hs x) (wpAny_bind (wpAny_holding (wpAny_mono h1 (fun it s2 h2 =>
    wpAny_standIf (wpAny_bind (wpAny_mono h2 (fun acc s3 h3 => wpAny_bind (wpAny_pure (wpAny_bind (wpAny_mono h3 (fun ce s4 h4 => ?_) fun _ _ z => z)))) fun _ _ z => z))) fun _ _ z => z))))))) fun _ _ z => z)
  dsimp only
  have v1 : ∀ x ∈ (scope.names.filter fun x => (x.2 == .local || x.2 == .cell) && x.1 != (".0" : Str)).reverse, x.2 = .local → Env.kindOf { ce with scope := relabel scope env } x.1 = some .local :=
    fun x hx hl => lookup_relabel_local (hn x (List.mem_filter.mp (List.mem_reverse.mp hx)).1 hl)
  have v2 : ∀ x ∈ (scope.names.filter fun x => (x.2 == .local || x.2 == .cell) && x.1 != (".0" : Str)).reverse.drop 1 ++ (scope.names.filter fun x => (x.2 == .local || x.2 == .cell) && x.1 != (".0" : Str)).reverse.take 1,
      x.2 = .local → Env.kindOf { ce with scope := relabel scope env } x.1 = some .local := fun x hx hl => by
    rcases List.mem_append.mp hx with z | z
    · exact v1 x (List.mem_of_mem_drop z) hl
    · exact v1 x (List.mem_of_mem_take z) hl
  refine wpAny_holding (wpAny_bind (wpAny_attempt (wpAny_holding (wpAny_run (codeAny_mono h4 fun r s' hr => ?_)))))
  cases r with
  | ok f =>
    cases use with
    | none =>
      obtain ⟨m, hm, hr⟩ := hr
      exact wpAny_bind (wpAny_holding (wpAny_comp_letGo (cenv := { ce with scope := relabel scope env }) hk _ s' m v1 hm fun h' m' _ sb => wpAny_pure (hr h' sb)))
    | some u =>
      refine wpAny_bind (wpAny_rule (wpAny_bind (wpAny_holding (wpAny_mono hr (fun _ s2 hr2 => ?_) fun _ _ z => z))))
      obtain ⟨m, hm, hr2⟩ := hr2
      exact wpAny_bind (wpAny_comp_letGo (cenv := { ce with scope := relabel scope env }) hk _ s2 m v2 hm fun h' m' _ sb => wpAny_pure (hr2 h' sb))
  | error x =>
    have hr2 : ∃ m, s'.heap.Ns ce.locals m ∧ ∀ h', Heap.SameBut ce.locals s'.heap h' → wpAny M A (passOn "comprehension.variables-let-go" x { ce with scope := relabel scope env } : Sem Value) (fun _ _ => False) E { s' with heap := h' } := by cases use <;> exact hr
    obtain ⟨m, hm, hr2⟩ := hr2
    exact wpAny_bind (wpAny_holding (wpAny_comp_letGo (cenv := { ce with scope := relabel scope env }) hk _ s' m v1 hm fun h' m' _ sb => wpAny_mono (hr2 h' sb) (fun _ _ f => f.elim) fun _ _ y => y))
end
/-! ### the block's context, with a wish for what is raised in it -/
/-- the block's context with a wish for exceptions -/
abbrev blkX (X : Cx) (s : Shared) (H : Hp) (scope : Scope) (ce : Env) (fp : List Addr) (xe : Value → Shared → Prop) : Cx := { X.blk s H scope ce fp with xe := xe }
theorem ok_xe {X : Cx} {xe : Value → Shared → Prop} (ok : X.Ok) : ({ X with xe := xe } : Cx).Ok :=
  ⟨ok.mod, ok.kind, ok.glob, ok.blt, ok.above, ok.inj, ok.has, ok.cab, ok.hd, ok.frames, ok.stk, ok.exf, ok.bs, ok.bsz, ok.noex, ok.exfs, ok.funs, ok.frf⟩
theorem ok_xe' {X : Cx} {xe : Value → Shared → Prop} (ok : ({ X with xe := xe } : Cx).Ok) : X.Ok :=
  ⟨ok.mod, ok.kind, ok.glob, ok.blt, ok.above, ok.inj, ok.has, ok.cab, ok.hd, ok.frames, ok.stk, ok.exf, ok.bs, ok.bsz, ok.noex, ok.exfs, ok.funs, ok.frf⟩
theorem inv_xe {X : Cx} {xe : Value → Shared → Prop} {pins : List (Addr × Obj)} {σ : L2.St} {H : Hp} {s : Shared} (I : Inv X pins σ H s) : Inv { X with xe := xe } pins σ H s :=
  ⟨ok_xe I.ok, I.os, I.bare, I.base, I.loc, I.cell, I.free, I.freeC, I.pin, I.hok, I.len⟩
theorem inv_xe' {X : Cx} {xe : Value → Shared → Prop} {pins : List (Addr × Obj)} {σ : L2.St} {H : Hp} {s : Shared} (I : Inv { X with xe := xe } pins σ H s) : Inv X pins σ H s :=
  ⟨ok_xe' I.ok, I.os, I.bare, I.base, I.loc, I.cell, I.free, I.freeC, I.pin, I.hok, I.len⟩
/-- an exception in the air of a block, over the frame at L; Y the block's context -/
def XEb (Y : Cx) (L : Addr) (E : XK) (u : Value) (s' : Shared) : Prop :=
  ∃ (a : Addr) (B : Heap) (sI : Shared) (pins : List (Addr × Obj)) (σ : L2.St) (H : Hp) (cls : Value) (d : Option Addr),
    u = .ref a ∧ Inv Y pins σ H sI ∧ (∀ b o, sI.heap.get? b = some o → b ∉ frs Y.stack → B.get? b = some o) ∧ sI.heap.UpToSlots s'.heap ∧
      Sky B Y.stack a (Zc cls d) L s'.heap ∧ H a = none ∧ s'.os = sI.os ∧ AllBare s'.gens ∧ E cls d H
/-- a call's exception is in the block's air -/
theorem xeb_call {Y : Cx} {L : Addr} {E : XK} {pins : List (Addr × Obj)} {σ : L2.St} {H : Hp} {s s' : Shared} {u : Value} (I : Inv Y pins σ H s) (c : L2.CX Y.prog Y.w Y.stack H s E u s') : XEb Y L E u s' := by
  obtain ⟨a, B, H', cls, d, eu, fl, hok, ub, na, os, ag, hE⟩ := c
  have st : B.StaysIn s'.heap := fl.1
  obtain ⟨G, g1, g2⟩ := restrict s'.heap fun b => (B.get? b).isSome || decide (b ∈ frs Y.stack)
  have toG : ∀ b o, B.get? b = some o → G.get? b = some o := fun b o e => (g1 b (by simp [e])).trans (st b o e)
  have frG : ∀ b, b ∈ frs Y.stack → G.get? b = s'.heap.get? b := fun b hb => g1 b (by simp [hb])
  have ofG : ∀ b o, G.get? b = some o → s'.heap.get? b = some o ∧ ((∃ o', B.get? b = some o') ∨ b ∈ frs Y.stack) := fun b o e => by
    cases q : ((B.get? b).isSome || decide (b ∈ frs Y.stack)) with
    | false =>
      rw [g2 b q] at e
      cases e
    | true =>
      rw [g1 b q] at e
      rcases (by simpa [Bool.or_eq_true] using q : (B.get? b).isSome = true ∨ b ∈ frs Y.stack) with z | z
      · exact ⟨e, .inl (Option.isSome_iff_exists.mp z)⟩
      · exact ⟨e, .inr z⟩
  refine ⟨a, B, { s with heap := G, gens := s'.gens, drawn := s'.drawn, toks := s'.toks }, pins, σ, H', cls, d, eu, ?_, fun b o e nb => ?_, Heap.UpToSlots.of_keeps fun b o e => (ofG b o e).1, .inr (.inl fl), na, os, ag, hE⟩
  · refine I.call (ch := []) ⟨fun b o e n nb _ => toG b o (ub.keep b o e n nb), fun b o e n hb _ => ?_, fun b o e n _ => ub.free b o e n, fun b o e _ => ?_, ub.tups, ub.frzs, ub.tbls⟩ (hok.kept toG) ag fun _ z => nomatch z
    · obtain ⟨sl, q⟩ := ub.slot b o e hb
      exact ⟨sl, (frG b hb).trans q⟩
    · by_cases hb : b ∈ frs Y.stack
      · obtain ⟨sl, q⟩ := ub.slot b o e hb
        exact ⟨_, (frG b hb).trans q⟩
      · obtain ⟨o', q⟩ := ub.there b o e hb
        exact ⟨o', toG b o' q⟩
  · obtain ⟨e', h⟩ := ofG b o e
    rcases h with ⟨o', q⟩ | h
    · rw [st b o' q] at e'
      rw [q, Option.some.inj e']
    · exact absurd h nb
theorem pass_blk {X : Cx} {s : Shared} {H : Hp} {scope : Scope} {ce : Env} {fp : List Addr} {L : Addr} {E : XK} : Passes (L2.CX X.prog X.w) (blkX X s H scope ce fp (XEb (X.blk s H scope ce fp) L E)) E :=
  fun pins σ H1 s1 e s2 I c => xeb_call (inv_xe' (X := X.blk s H scope ce fp) I) c
section
variable {X : Cx} {W : WX} {E : XK} {pins : List (Addr × Obj)} {σ : L2.St} {H3 : Hp} {s3 s' : Shared} {scope : Scope} {ce : Env} {fp : List Addr} {u : Value}
/-- it leaves the block: the block's variables are let go, it goes on in the def -/
theorem blk_out (hs : X.stack = X.env :: X.outer) (hf : X.env.frame = some X.env.locals) (tk : Takes X W) (hW : ∀ cls d σ H, E cls d H → W cls d σ H) (I3 : Inv X pins σ H3 s3) (f3 : ∀ b ∈ fp, FpOk X pins H3 b)
    (cL : ce.locals = s3.heap.objs.size) (cF : ce.frame = X.env.frame) (x : XEb (X.blk s3 H3 scope ce fp) X.env.locals E u s') {E1 : Value → Shared → Prop} :
    wpAny (model X.prog X.w) X.A (noteFrame u ce) (fun _ s2 => ∃ m, s2.heap.Ns ce.locals m ∧ ∀ h', Heap.SameBut ce.locals s2.heap h' →
      wpAny (model X.prog X.w) X.A (passOn "comprehension.variables-let-go" u ce : Sem Value) (fun _ _ => False) X.xe { s2 with heap := h' }) E1 s' := by
  obtain ⟨a, B, sI, pinsb, σb, H', cls, d, rfl, Ib, nb, up, sky, na, os, ag, w⟩ := x
  have hfr : X.A.frames = some (X.env :: X.outer) := by rw [← hs]; exact I3.ok.frames
  have en : noteFrame (.ref a) ce = noteFrame (.ref a) X.env := by unfold noteFrame PySem.frameOf; rw [cF]
  rw [en]
  have sky' : Sky B (X.env :: X.outer) a (Zc cls d) X.env.locals s'.heap := by rw [← hs]; exact sky
  have I : Inv X pins σ H' sI := I3.call' (ch := fp) Ib.os Ib.base Ib.hok Ib.bare fun b hb => ⟨(f3 b hb).2.2.2.1, (f3 b hb).2.1, (f3 b hb).2.2.2.2.1, (f3 b hb).2.2.2.2.2⟩
  have nC : H' ce.locals = none := Ib.free
  have fC : FpOk X pins H' ce.locals := I3.fpOk (by rw [cL]; exact Nat.le_refl _) nC
  obtain ⟨m, hm0, _⟩ := Ib.loc
  have hm : sI.heap.Ns ce.locals m := hm0
  have fin : ∀ h1, HandSPX.HeldZ B (X.env :: X.outer) a (Zc cls d) X.env.locals h1 → s'.heap.UpToSlots h1 → ∃ m, h1.Ns ce.locals m ∧ ∀ h', Heap.SameBut ce.locals h1 h' →
      wpAny (model X.prog X.w) X.A (passOn "comprehension.variables-let-go" (.ref a) ce : Sem Value) (fun _ _ => False) X.xe { s' with heap := h' } := fun h1 hh up1 => by
    have hm1 : h1.Ns ce.locals m := (up.trans up1).ns hm
    refine ⟨m, hm1, fun h' sb => ?_⟩
    obtain ⟨oC, esC, epC, hoC, hdC, _⟩ := hm1
    obtain ⟨hB, hn, ff, oe, vs, T, oT, ts, he, hz, hd, hv1, hnT, hTe, hT, hdT, h3⟩ := hh
    have aC : a ≠ ce.locals := fun z => by rw [← z, he] at hoC; cases hoC; rw [hd] at hdC; cases hdC
    have TC : T ≠ ce.locals := fun z => by rw [← z, hT] at hoC; cases hoC; rw [hdT] at hdC; cases hdC
    obtain ⟨B', b1, b2⟩ := restrict B fun b => decide (b ≠ ce.locals)
    obtain ⟨G, g1, g2⟩ := restrict sI.heap fun b => decide (b ≠ ce.locals)
    have ofB : ∀ b o, B'.get? b = some o → b ≠ ce.locals ∧ B.get? b = some o := fun b o e => by
      by_cases hb : b = ce.locals
      · rw [b2 b (by simp [hb])] at e
        cases e
      · exact ⟨hb, (b1 b (by simp [hb])).symm.trans e⟩
    have ofG : ∀ b o, G.get? b = some o → b ≠ ce.locals ∧ sI.heap.get? b = some o := fun b o e => by
      by_cases hb : b = ce.locals
      · rw [g2 b (by simp [hb])] at e
        cases e
      · exact ⟨hb, (g1 b (by simp [hb])).symm.trans e⟩
    have noB : ∀ b, B.get? b = none → B'.get? b = none := fun b e => by
      cases q : B'.get? b with
      | none => rfl
      | some o =>
        rw [(ofB b o q).2] at e
        cases e
    have he' : h'.get? a = some oe := (sb.2 a aC).trans he
    have hT' : h'.get? T = some oT := (sb.2 T TC).trans hT
    have frC : ∀ L ∈ frs (X.env :: X.outer), L ≠ ce.locals := fun L hL z => by
      rw [← hs] at hL
      rcases List.mem_cons.mp (I3.stkSub L hL) with e | e
      · exact fC.2.1 (z.symm.trans e)
      · exact fC.2.2.1 (by rw [← z]; exact e)
    have ff' : ∀ l : List Env, (∀ L ∈ frs l, L ≠ ce.locals) → h1.FunFrames B l → h'.FunFrames B' l := by
      intro l
      induction l with
      | nil => intro _ _; trivial
      | cons env r ih =>
        intro hl hx
        obtain ⟨hk, ⟨L, o, hL, hnL, ho, hdo⟩, hr⟩ := hx
        have nL : L ≠ ce.locals := hl L (by unfold frs; rw [List.filterMap_cons, hL]; exact List.mem_cons_self)
        exact ⟨hk, ⟨L, o, hL, noB L hnL, (sb.2 L nL).trans ho, hdo⟩, ih (fun b hb => hl b (by
          unfold frs at hb ⊢
          rw [List.filterMap_cons]
          split
          · exact hb
          · exact List.mem_cons_of_mem _ hb)) hr⟩
    have hh' : HandSPX.HeldZ B' (X.env :: X.outer) a (Zc cls d) X.env.locals h' :=
      ⟨fun b o e => (sb.2 b (ofB b o e).1).trans (hB b o (ofB b o e).2), noB a hn, ff' _ frC ff, oe, vs, T, oT, ts, he', hz, hd, hv1, noB T hnT, hTe, hT', hdT, h3⟩
    obtain ⟨f0, f1, f2, f4, f5, f6⟩ := fC
    have J : Inv X pins σ H' { sI with heap := G, toks := sI.toks } := I.turned (t' := sI.toks) (it := ce.locals) (fun b o hb e => (g1 b (by simp [hb])).trans e) f0 f1 f4 f5 f6
    have go : wpAny (model X.prog X.w) X.A (setFlight (.ref a) ce.frame) (fun _ s4 => wpAny (model X.prog X.w) X.A (throw (.ref a) : Sem Value) (fun _ _ => False) X.xe s4) X.xe { s' with heap := h' } := by
      rw [cF, hf]
      refine HandSPX.setFlight_onZ hh' fun h4 hh4 up4 => wpAny_throw (tk _ _ ?_)
      refine ⟨a, B', { sI with heap := G, toks := sI.toks }, pins, σ, H', cls, d, rfl, J, fun b o e hb => ?_, fun b o e nf => ?_, .inr (.inr (by rw [hs]; exact hh4)), na, os, ag, hW _ _ _ _ w⟩
      · obtain ⟨n1, e1⟩ := ofG b o e
        exact (b1 b (by simp [n1])).trans (nb b o e1 hb)
      · obtain ⟨n1, e1⟩ := ofG b o e
        obtain ⟨sl, e2⟩ := (up.trans up1) b o e1 nf
        obtain ⟨sl2, e3⟩ := up4 b _ ((sb.2 b n1).trans e2) nf
        exact ⟨sl2, e3⟩
    unfold PySem.passOn
    refine wpAny_bind (wpAny_field he' hd hv1 ?_)
    rw [if_neg (show ¬ ((Value.ref T == Value.none) = true) from by simp)]
    first
      | exact wpAny_bind (wpAny_pure (wpAny_bind go))
      | exact wpAny_bind go
  rcases sky' with ⟨hB, hn, hl, oe, vs, he, hz, hd, h1⟩ | fl | hh
  · exact HandSPX.look_newZ Zc.steady hfr hl hf he hB hn hd h1 hz fin
  · exact HandSPX.looks_onZ Zc.steady hfr hf fl fin
  · exact HandSPX.againZ hf hh.2.2.2 (fin s'.heap hh (Heap.UpToSlots.refl _))
end
theorem postF_err {M : Model} {A : Around} {E : Value → Shared → Prop} {use : Option (Value → Sem Unit)} {Q : Value → Shared → Prop} {acc : Value} {ce : Env} {x : Value} {s' : Shared}
    (h : ∃ m, s'.heap.Ns ce.locals m ∧ ∀ h', Heap.SameBut ce.locals s'.heap h' → wpAny M A (passOn "comprehension.variables-let-go" x ce : Sem Value) (fun _ _ => False) E { s' with heap := h' }) : postF M A E use Q acc ce (.error x) s' := by
  cases use <;> exact h
section
variable {X : Cx}
abbrev ceOf (X : Cx) (scope : Scope) (C : Addr) (cl : List (Str × Addr)) : Env := compEnvC scope cl C X.env
/-- the block's context as the rules below hand it out -/
abbrev bX (X : Cx) (E : XK) (scope : Scope) (s : Shared) (H : Hp) (C : Addr) (cl : List (Str × Addr)) (fp : List Addr) : Cx :=
  blkX X s H scope (ceOf X scope C cl) fp (XEb (X.blk s H scope (ceOf X scope C cl) fp) X.env.locals E)
theorem lcX_core {pins : List (Addr × Obj)} {s : Shared} {σ : L2.St} {H : Hp} {Q : VK} {elt tg iter : Expr} {ifs : List Expr} {scope : Scope} {own : List (Str × Nat)} {pos pos' : Pos} {wi : TI} {g : TG} {tt : TT} {te : TE} {use : Option (Value → Sem Unit)} {Qf : Value → Shared → Prop}
    {W : WX} {E : XK} (hc : X.calm = true) (hst : X.stack = X.env :: X.outer) (hf : X.env.frame = some X.env.locals) (tk : Takes X W) (hW : ∀ cls d σ H, E cls d H → W cls d σ H) (hN : X.N.Nodup) (I : Inv X pins σ H s) (hi : PI X tg iter wi) (ok : BlkOk X.N X.env.scope scope own)
    (hg : ∀ s H C cl fp, PG (bX X E scope s H C cl fp) tg g) (ht : ∀ s H C cl fp, PTs (bX X E scope s H C cl fp) ifs tt) (he : ∀ s H C cl fp, PE (bX X E scope s H C cl fp) elt te) (hs : ∀ x, foldedSetIterable iter X.env x = pure x)
    (h : tLc wi g tt te (own.map (·.2)) σ H Q)
    (hRR : ∀ D (ce : Env) s' m H', Inv X pins σ H' s' → Q (.ref D) H' → s'.heap.Ns ce.locals m → FpOk X pins H' ce.locals → postF (model X.prog X.w) X.A X.xe use Qf (.ref D) ce (.ok .next) s') :
    wpAny (model X.prog X.w) X.A (comprehension (.ListComp elt [⟨tg, iter, ifs, 0⟩] scope pos) scope X.env pos' (newList []) false (eval iter X.env) use) Qf X.xe s := by
  have hfree : ∀ y ∈ scope.names, y.2 = .free → ∃ c, X.env.cells.lookup y.1 = some c := fun y hy e => (ok.free y hy e).elim (fun k => I.ok.has _ (.inl k)) fun k => I.ok.has _ (.inr k)
  refine comp_freeF (use := use) rfl hs (closure_ok hfree) ok.kind (fun y hy e => by rw [ok.uniq y hy, e]) (thn (hi.run pins s σ H _ I h) fun xv s1 hx => thn hx fun itv s2 h2 => ?_)
  obtain ⟨it, fp, tn, J, H2, rfl, I2, T, st2, f2, q⟩ := h2
  refine wpAny_newObj_type (newEnv_comp ?_) (by show 0 ≤ sizeLine; decide)
  generalize hD : s2.heap.objs.size = D
  obtain ⟨Wp, ⟨m0, w0⟩, turn⟩ := q D (I2.hok.fresh (Nat.le_of_eq hD))
  generalize hs3 : ({ s2 with heap := s2.heap.push { cls := .type "list", data := .seq ([] : List Value).toArray } } : Shared) = s3
  have h3 : s3.heap = s2.heap.push { cls := .type "list", data := .seq ([] : List Value).toArray } := by rw [← hs3]
  have I3 : Inv X pins σ (upd H2 D (.lst [])) s3 := by
    rw [← hs3]
    refine I2.laid (t' := s2.toks) (fun b o e => Heap.get?_push_of_some _ e) (Nat.le_of_eq hD) ⟨Nat.zero_le _, [], 0, .nil, ?_⟩
    rw [← hD]
    exact Heap.get?_push_size _ rfl
  have f3 : ∀ b ∈ fp, FpOk X pins (upd H2 D (.lst [])) b ∧ b < s3.heap.objs.size := fun b hb => by
    obtain ⟨o, e, _⟩ := T.obj _ _ st2 b hb
    have hlt := Heap.lt_size e
    refine ⟨⟨?_, (f2 b hb).2⟩, by rw [h3, Heap.size_push]; exact Nat.lt_succ_of_lt hlt⟩
    rw [upd_ne (by rw [← hD]; exact Nat.ne_of_lt hlt)]
    exact (f2 b hb).1
  have st3 : tn 0 s3.heap := T.keep _ _ _ st2 fun b _ o e => by rw [h3]; exact Heap.get?_push_of_some _ e
  have I4' := block_start I3 ok hN f3
  generalize hcl : cellsFrom (s3.heap.objs.size + 1) scope.names (cloFrom X.env.cells scope.names []) = cl at I4' ⊢
  have pg := hg s3 (upd H2 D (.lst [])) s3.heap.objs.size cl fp
  have pt := ht s3 (upd H2 D (.lst [])) s3.heap.objs.size cl fp
  have pe := he s3 (upd H2 D (.lst [])) s3.heap.objs.size cl fp
  have nfp : ∀ b ∈ fp, (upd H2 D (.lst [])) b = none := fun b hb => (f3 b hb).1.1
  have cL : (ceOf X scope s3.heap.objs.size cl).locals = s3.heap.objs.size := rfl
  have cF : (ceOf X scope s3.heap.objs.size cl).frame = X.env.frame := rfl
  have I4 : Inv (bX X E scope s3 (upd H2 D (.lst [])) s3.heap.objs.size cl fp) [] (wipe σ (own.map (·.2))) (upd H2 D (.lst [])) { s3 with heap := pushCells (s3.heap.push { cls := .type "dict", data := .dict #[] }) scope.names } := inv_xe I4'
  have noted : ∀ u s', XEb (X.blk s3 (upd H2 D (.lst [])) scope (ceOf X scope s3.heap.objs.size cl) fp) X.env.locals E u s' →
      notedBy (model X.prog X.w) X.A (ceOf X scope s3.heap.objs.size cl) (fun e s' => postF (model X.prog X.w) X.A X.xe use Qf (.ref D) (ceOf X scope s3.heap.objs.size cl) (.error e) s') u s' := fun u s' x =>
    wpAny_mono (blk_out hst hf tk hW I3 (fun b hb => (f3 b hb).1) cL cF x (E1 := fun e s' => postF (model X.prog X.w) X.A X.xe use Qf (.ref D) (ceOf X scope s3.heap.objs.size cl) (.error e) s')) (fun _ _ z => postF_err z) fun _ _ z => z
  show codeAny _ _ (.compStart _ 0 (.ref it) (.ref D) (ceOf X scope s3.heap.objs.size cl)) (postF _ _ X.xe use Qf (.ref D) (ceOf X scope s3.heap.objs.size cl)) _
  generalize hY : bX X E scope s3 (upd H2 D (.lst [])) s3.heap.objs.size cl fp = Y at I4 pg pt pe
  have hY : blkX X s3 (upd H2 D (.lst [])) scope (ceOf X scope s3.heap.objs.size cl) fp (XEb (X.blk s3 (upd H2 D (.lst [])) scope (ceOf X scope s3.heap.objs.size cl) fp) X.env.locals E) = Y := hY
  generalize hce : ceOf X scope s3.heap.objs.size cl = ce at hY noted cL ⊢
  generalize hH3 : upd H2 D (.lst []) = H3 at I3 I4 hY w0 nfp f3 noted
  generalize hs4 : ({ s3 with heap := pushCells (s3.heap.push { cls := .type "dict", data := .dict #[] }) scope.names } : Shared) = s4 at I4 ⊢
  have st4 : tn 0 s4.heap := T.keep _ _ _ st3 fun b _ o e => by rw [← hs4]; exact pushCells_keeps _ _ _ _ (Heap.get?_push_of_some _ e)
  have Yp : Y.prog = X.prog := by rw [← hY]
  have Yw : Y.w = X.w := by rw [← hY]
  have YK : Y.K = X.K := by rw [← hY]
  have YA : Y.A = X.A := by rw [← hY]
  have Yc : Y.calm = true := by rw [← hY]; exact hc
  have Yx : Y.xe = XEb (X.blk s3 H3 scope ce fp) X.env.locals E := by rw [← hY]
  have Ye : Y.env = ce := by rw [← hY]
  have back : ∀ {pn : List (Addr × Obj)} {σ' : L2.St} {H' : Hp} {s' : Shared}, Inv Y pn σ' H' s' → Inv (X.blk s3 H3 scope ce fp) pn σ' H' s' := fun {pn σ' H' s'} I' => by
    rw [← hY] at I'
    exact inv_xe' (X := X.blk s3 H3 scope ce fp) I'
  have stat : ∀ {σ' : L2.St} {H' : Hp} {s' : Shared}, Inv Y [] σ' H' s' → (∀ b ∈ fp, H' b = none) → ∀ b ∈ fp, FpOk Y [] H' b := fun {σ' H' s'} I' hn b hb => by
    have hex : b ∈ Y.ex := by rw [← hY]; exact hb
    exact ⟨hn b hb, (I'.ok.exf b hex).1, I'.ok.exfs b hex, .inl hex, fun x c e => (I'.ok.exf b hex).2 x c e, fun p hp => absurd (show p ∈ Y.pn ++ [] from hp) (by rw [← hY]; simp)⟩
  have conv : ∀ {α : Type} {t : Sem α} {Q1 Q2 : α → Shared → Prop} {s' : Shared}, wpAny (model Y.prog Y.w) Y.A t Q1 Y.xe s' → (∀ a s'', Q1 a s'' → Q2 a s'') →
      wpAny (model X.prog X.w) X.A t Q2 (notedBy (model X.prog X.w) X.A ce fun e s' => postF (model X.prog X.w) X.A X.xe use Qf (.ref D) ce (.error e) s') s' := fun {α t Q1 Q2 s'} z hq => by
    rw [Yp, Yw, YA, Yx] at z
    exact wpAny_mono z hq fun u s'' x => noted u s'' x
  have loop : codeAny (model X.prog X.w) X.A (.compLoop (.ListComp elt [⟨tg, iter, ifs, 0⟩] scope pos) 0 (.ref it) (.ref D) ce) (postF (model X.prog X.w) X.A X.xe use Qf (.ref D) ce) s4 := by
    refine compLoop_any (fun n s' => ∃ i H', Inv Y [] (wipe σ (own.map (·.2))) H' s' ∧ tn i s'.heap ∧ (∀ b ∈ fp, H' b = none) ∧ Wp i n H') ?_ m0 ⟨0, H3, I4, st4, nfp, w0⟩
    rintro n s5 ⟨i, H5, I5, st5, n5, w5⟩
    rcases turn i n H5 w5 with ⟨stop, qq⟩ | ⟨go, Nx, hNx, step⟩
    · have td := T.done Y Yp Yw YK Yc i [] s5 _ H5 (notedBy (model X.prog X.w) X.A ce fun e s' => postF (model X.prog X.w) X.A X.xe use Qf (.ref D) ce (.error e) s') I5 (stat I5 n5) st5 stop
      rw [YA] at td
      refine thn td fun r s6 ⟨hr, I6⟩ => ?_
      subst hr
      have Ib := back I6
      have I7 : Inv X pins σ H5 s6 := I3.call' (ch := fp) Ib.os Ib.base Ib.hok Ib.bare fun b hb => ⟨(f3 b hb).1.2.2.2.1, (f3 b hb).1.2.1, (f3 b hb).1.2.2.2.2.1, (f3 b hb).1.2.2.2.2.2⟩
      have nC : H5 ce.locals = none := Ib.free
      obtain ⟨m, hn, _⟩ := Ib.loc
      exact hRR D ce s6 m H5 I7 qq hn (I3.fpOk (by rw [cL]; exact Nat.le_refl _) nC)
    · have ti := T.item Y Yp Yw YK Yc i [] s5 _ H5 (notedBy (model X.prog X.w) X.A ce fun e s' => postF (model X.prog X.w) X.A X.xe use Qf (.ref D) ce (.error e) s') I5 (stat I5 n5) st5 go
      rw [YA] at ti
      refine thn ti fun r s6 ⟨u, hr, h6⟩ => ?_
      subst hr
      refine thn h6 fun _ s7 ⟨x, H7, I7, r7, y7, st7, n7⟩ => ?_
      have I7' := I7.pinned (stat I7 n7) (T.obj _ _ st7)
      have z8 := pg.run _ s7 _ H7 x u _ I7' r7 (step x H7 y7)
      rw [Ye] at z8
      refine conv z8 fun _ s8 ⟨σ8, H8, I8, hw8, q8⟩ => ?_
      have z9 := pt.run _ s8 σ8 H8 _ I8 q8
      rw [Ye] at z9
      refine conv z9 fun b s9 ⟨H9, I9, q9⟩ => ?_
      have fin : ∀ {s' : Shared} {H' : Hp}, Inv Y ([] ++ pinsAt fp s7.heap) σ8 H' s' → Nx H' → ∃ m, m < n ∧ ∃ i H', Inv Y [] (wipe σ (own.map (·.2))) H' s' ∧ tn i s'.heap ∧ (∀ b ∈ fp, H' b = none) ∧ Wp i m H' := fun {s' H'} I' nx => by
        obtain ⟨m', hm, w'⟩ := hNx H' nx
        have pin' : ∀ b ∈ fp, ∀ o, s7.heap.get? b = some o → s'.heap.get? b = some o ∧ H' b = none := fun b hb o e =>
          let z := I'.pin (b, o) (List.mem_append_right _ (List.mem_append_right _ (mem_pinsAt hb e)))
          ⟨z.1, z.2.1⟩
        refine ⟨m', hm, i + 1, H', (I'.unpinned (pins := [])).weak (by rw [← hw8, wipe_length]) (fun j v e => ?_), T.keep _ _ _ st7 fun b hb o e => (pin' b hb o e).1, fun b hb => ?_, w'⟩
        · rw [← hw8] at e
          exact (wipe_some e).1
        · obtain ⟨o, e, _⟩ := T.obj _ _ st7 b hb
          exact (pin' b hb o e).2
      cases b with
      | false =>
        simp only [Bool.false_eq_true, if_false] at q9 ⊢
        exact fin I9 q9
      | true =>
        simp only [if_true] at q9 ⊢
        have z10 := pe.run _ s9 σ8 H9 _ I9 q9
        rw [Ye] at z10
        refine conv z10 fun z s10 ⟨yv, H10, I10, r10, acc, hD10, hz10, nx⟩ => ?_
        have z11 := app_ok (X := Y) (E := notedBy (model X.prog X.w) X.A ce fun e s' => postF (model X.prog X.w) X.A X.xe use Qf (.ref D) ce (.error e) s') (Q := fun _ s11 => ∃ m, m < n ∧ ∃ i H', Inv Y [] (wipe σ (own.map (·.2))) H' s11 ∧ tn i s11.heap ∧ (∀ b ∈ fp, H' b = none) ∧ Wp i m H') I10 hD10 hz10 r10 fun s11 I11 => fin I11 nx
        rw [Yp, Yw, YA] at z11
        exact z11
  exact codeAny_compStart_list loop (T.self X.A 0 _ _ _ st4 loop)
/-- [elt for tg in iter if ..], what is raised in elt, tg or the tests being wished for -/
theorem pe_lcX {elt tg iter : Expr} {ifs : List Expr} {scope : Scope} {own : List (Str × Nat)} {pos : Pos} {wi : TI} {g : TG} {tt : TT} {te : TE} {W : WX} {E : XK} (hc : X.calm = true) (hst : X.stack = X.env :: X.outer) (hf : X.env.frame = some X.env.locals)
    (tk : Takes X W) (hW : ∀ cls d σ H, E cls d H → W cls d σ H) (hN : X.N.Nodup) (hi : PI X tg iter wi) (ok : BlkOk X.N X.env.scope scope own)
    (hg : ∀ s H C cl fp, PG (bX X E scope s H C cl fp) tg g) (ht : ∀ s H C cl fp, PTs (bX X E scope s H C cl fp) ifs tt) (he : ∀ s H C cl fp, PE (bX X E scope s H C cl fp) elt te) (hs : ∀ x, foldedSetIterable iter X.env x = pure x := by intro _; rfl) :
    PE X (.ListComp elt [⟨tg, iter, ifs, 0⟩] scope pos) (tLc wi g tt te (own.map (·.2))) := by
  refine ⟨fun pins s σ H Q I h => ?_⟩
  rw [eval_ListComp]
  refine lcX_core hc hst hf tk hW hN I hi ok hg ht he hs h fun D ce s' m H' I' q hn f => ⟨m, hn, fun h2 sb => ?_⟩
  obtain ⟨f0, f1, f2, f3, f4, f5⟩ := f
  exact ⟨.ref D, H', I'.turned (t' := s'.toks) (fun b o hb e => (sb.2 b hb).trans e) f0 f1 f3 f4 f5, rfl, q⟩
end
end HK
namespace HK
open PySem PySem.Spec PyProof.Rows L2 PySem.StrLaws TL
/-- the text of codes; of one code -/
def T (l : List Nat) : Str := ⟨l.toArray⟩
theorem T_len (l : List Nat) : (T l).length = l.length := rfl
theorem T_inj {a b : List Nat} (h : T a = T b) : a = b := by
  have z := congrArg (fun x : Str => x.cps.toList) h
  exact z
/-- the codes of the 95 letters -/
def ls : List Nat := 10 :: 32 :: 33 :: 34 :: 35 :: 36 :: (List.range 89).map (· + 38)
theorem ls_len : ls.length = 95 := by decide
theorem ls_nodup : ls.Nodup := by decide +kernel
theorem ls_text : Str.ofString "\n !\"#$&'()*+,-./0123456789:;<=>?@ABCDEFGHIJKLMNOPQRSTUVWXYZ[\\]^_`abcdefghijklmnopqrstuvwxyz{|}~" = T ls := by decide +kernel
/-- the first place of a code -/
def pos (l : List Nat) (c : Nat) : Option Nat := l.findIdx? (· == c)
theorem at_one (l : List Nat) (c i : Nat) : At (T l) (T [c]) (T l).length i ↔ l[i]? = some c := by
  have hc : (T [c]).length = 1 := rfl
  have hl : (T l).length = l.length := rfl
  unfold At
  rw [hc, hl]
  have key : Builtin.Str.subAt (T l) (T [c]) i = ((l.drop i).take 1 == [c]) := by
    have e : (T l).cps.extract i (i + 1) = ((l.drop i).take 1).toArray := by
      apply Array.ext'
      simp [T, List.extract_eq_drop_take]
    show ((T l).cps.extract i (i + 1) == [c].toArray) = _
    rw [e]
    simp
  rw [key]
  constructor
  · rintro ⟨h1, h2⟩
    have h3 : (l.drop i).take 1 = [c] := eq_of_beq h2
    have h4 : ((l.drop i).take 1)[0]? = some c := by rw [h3]; rfl
    simpa using h4
  · intro h
    obtain ⟨hi, e⟩ := List.getElem?_eq_some_iff.mp h
    refine ⟨by omega, ?_⟩
    rw [List.drop_eq_getElem_cons hi, e]
    simp
theorem occ_pos (l : List Nat) (c : Nat) : (pos l c = none ∧ Builtin.Str.occurrences (T l) (T [c]) 0 (T l).length 1 = []) ∨ ∃ k r, pos l c = some k ∧ Builtin.Str.occurrences (T l) (T [c]) 0 (T l).length 1 = k :: r := by
  rcases occ_head (T l) (T [c]) 1 (Nat.le_refl _) with ⟨e, hn⟩ | ⟨i, r, e, hi, hn⟩
  · refine .inl ⟨?_, e⟩
    unfold pos
    rw [List.findIdx?_eq_none_iff]
    intro x hx
    obtain ⟨j, hj⟩ := List.getElem?_of_mem hx
    cases q : (x == c) with
    | false => rfl
    | true =>
      have e2 : x = c := eq_of_beq q
      rw [e2] at hj
      exact absurd ((at_one l c j).mpr hj) (hn j)
  · refine .inr ⟨i, r, ?_, e⟩
    have h1 := (at_one l c i).mp hi
    obtain ⟨hl, e1⟩ := List.getElem?_eq_some_iff.mp h1
    unfold pos
    rw [List.findIdx?_eq_some_iff_getElem]
    refine ⟨hl, by simp [e1], fun j hj => ?_⟩
    have hjl : j < l.length := Nat.lt_trans hj hl
    intro q
    have e2 : l[j] = c := eq_of_beq q
    exact hn j hj ((at_one l c j).mpr (by rw [List.getElem?_eq_getElem hjl, e2]))
theorem index_one (l : List Nat) (c : Nat) : Txt.index0 (T l) (T [c]) = pos l c := by
  unfold Txt.index0
  rcases occ_pos l c with ⟨h, e⟩ | ⟨k, r, h, e⟩ <;> rw [e, h] <;> rfl
theorem find_one (l : List Nat) (c : Nat) : Txt.find (T l) (T [c]) = match pos l c with | some k => (k : Int) | none => -1 := by
  unfold Txt.find
  rcases occ_pos l c with ⟨h, e⟩ | ⟨k, r, h, e⟩ <;> rw [e, h]
theorem pos_some {l : List Nat} {c k : Nat} (h : pos l c = some k) : l[k]? = some c := by
  unfold pos at h
  rw [List.findIdx?_eq_some_iff_getElem] at h
  obtain ⟨hl, e, _⟩ := h
  rw [List.getElem?_eq_getElem hl, eq_of_beq e]
theorem pos_mem {l : List Nat} {c : Nat} (h : c ∈ l) : ∃ k, pos l c = some k := by
  cases q : pos l c with
  | some k => exact ⟨k, rfl⟩
  | none =>
    unfold pos at q
    rw [List.findIdx?_eq_none_iff] at q
    have := q c h
    simp at this
theorem pos_none {l : List Nat} {c : Nat} (h : c ∉ l) : pos l c = none := by
  cases q : pos l c with
  | none => rfl
  | some k => exact absurd (List.mem_of_getElem? (pos_some q)) h
theorem pos_at {l : List Nat} (nd : l.Nodup) {k c : Nat} (h : l[k]? = some c) : pos l c = some k := by
  obtain ⟨j, e⟩ := pos_mem (List.mem_of_getElem? h)
  have h2 := pos_some e
  rw [e, (nd_ix nd h2 h)]
/-- a comprehension over the signs of a text -/
theorem lc_str {l : List Nat} {g : TG} {tt : TT} {te : TE} {vs : List Nat} {σ : L2.St} {H1 : Hp} {D : Addr} {Qd : Hp → Prop} (Pv : Nat → Hp → Prop) (h0 : Pv 0 (upd H1 D (.lst [])))
    (hs : ∀ i c H, l[i]? = some c → Pv i H → g (.str (T [c])) (wipe σ vs) H fun σ2 H2 => wipe σ2 vs = wipe σ vs ∧ tt σ2 H2 fun b H3 =>
      if b = true then te σ2 H3 fun y H4 => ∃ acc, H4 D = some (.lst acc) ∧ acc.length < sizeLine ∧ Pv (i + 1) (upd H4 D (.lst (acc ++ [y]))) else Pv (i + 1) H3) (hd : ∀ H, Pv l.length H → Qd H) :
    ∃ W : Nat → Nat → Hp → Prop, (∃ m, W 0 m (upd H1 D (.lst []))) ∧ ∀ i m H, W i m H →
      ((Its (T l)).stop i H ∧ Qd H) ∨ ((Its (T l)).go i H ∧ ∃ Nx : Hp → Prop, (∀ H', Nx H' → ∃ m', m' < m ∧ W (i + 1) m' H') ∧ ∀ x H', (Its (T l)).yld i H x H' → g x (wipe σ vs) H' fun σ2 H2 => wipe σ2 vs = wipe σ vs ∧ tt σ2 H2 fun b H3 =>
        if b = true then te σ2 H3 fun y H4 => ∃ acc, H4 D = some (.lst acc) ∧ acc.length < sizeLine ∧ Nx (upd H4 D (.lst (acc ++ [y]))) else Nx H3) := by
  have sz : (T l).cps.size = l.length := rfl
  refine ⟨fun i m H => m = l.length - i ∧ i ≤ l.length ∧ Pv i H, ⟨l.length, by simp, Nat.zero_le _, h0⟩, ?_⟩
  rintro i m H ⟨rfl, hi, p⟩
  by_cases hlt : i < l.length
  · refine .inr ⟨hlt, Pv (i + 1), fun H' p' => ⟨l.length - (i + 1), by omega, rfl, hlt, p'⟩, fun x H' y => ?_⟩
    obtain ⟨e, c, hc, ev⟩ := y
    subst e
    subst ev
    exact hs i c _ (by simpa [T] using hc) p
  · have e : i = l.length := by omega
    subst e
    exact .inl ⟨Nat.le_of_eq sz, hd H p⟩
theorem take_map_succ {α β : Type} (f : α → β) {l : List α} {i : Nat} {c : α} (h : l[i]? = some c) : (l.take (i + 1)).map f = (l.take i).map f ++ [f c] := by
  rw [List.take_add_one, h, List.map_append]
  rfl
theorem mem_take_succ {α : Type} {l : List α} {i : Nat} {c : α} {p : α → Prop} (h : l[i]? = some c) (hp : ∀ x ∈ l.take i, p x) (hc : p c) : ∀ x ∈ l.take (i + 1), p x := by
  intro x hx
  rw [List.take_add_one, h] at hx
  rcases List.mem_append.mp hx with z | z
  · exact hp x z
  · have e : x = c := by simpa using z
    rw [e]
    exact hc
theorem sqT_same {K : PySem.W.Frag} {H H' : Hp} {a : Addr} {xs : List V} (e : Same H H') (h : SqT K H a xs) : SqT K H' a xs := by
  rcases h with (h | ⟨o, h⟩) | h
  · exact .inl (.inl (e _ _ h))
  · exact .inl (.inr ⟨o, e _ _ h⟩)
  · exact .inr h
theorem same_upd {H : Hp} {d : Addr} {o : HO} (h : H d = none) : Same H (upd H d o) := fun b u e => by
  rw [upd_ne (ne_of_none e h)]
  exact e
theorem join_len (l : List Nat) : ((l.map fun c => T [c]).map (·.length)).sum = l.length := by
  induction l with
  | nil => rfl
  | cons c r ih => simp only [List.map_cons, List.sum_cons, ih, T_len, List.length_cons, List.length_nil]; omega
theorem join_T (l : List Nat) : PySem.Txt.join (T []) (l.map fun c => T [c]) = T l := by
  rw [join_eq]
  refine ext_tl ?_
  rw [tl_join]
  show joinL [] ((l.map fun c => T [c]).map tl) = l
  rw [List.map_map]
  induction l with
  | nil => rfl
  | cons c r ih =>
    cases r with
    | nil => rfl
    | cons d q =>
      have e : joinL [] (((c :: d :: q).map (tl ∘ fun c => T [c]))) = [c] ++ ([] ++ joinL [] ((d :: q).map (tl ∘ fun c => T [c]))) := rfl
      rw [e, ih]
      rfl
end HK
namespace K01
open PySem L2 HK
def top (i : Nat) : Stmt := PySem.Challenge.pw_hoststack_k01_texts_as_numbers.main.body.getD i (.Pass ⟨0, 0, 0, 0⟩)
/-! ### the dice, as plain mathematics -/
structure Dice where
  a : Int
  b : Int
  c : Int
  deriving DecidableEq
def Dice.vs (d : Dice) : List V := [.int d.a, .int d.b, .int d.c]
def mkDice (n : Int) : Dice := if -10 < n ∧ n < 10 then ⟨if n < 0 then -n else n, 0, 2⟩ else ⟨n, 1 + n % 1009, if 10 ^ 18 ≤ n then 1 else 0⟩
def stepA (d : Dice) : Int := (d.a * 48271 + d.b * 69621 + 11) % 2147483647
/-- what a roll tells, and the dice behind it -/
def roll (d : Dice) (m : Int) : Int × Dice :=
  if d.c = 2 ∨ (d.c = 1 ∧ 0 < d.a) then (d.a % m, ⟨d.a / m, d.b, d.c⟩) else ((stepA d / 7) % m, ⟨stepA d, d.b + 1, 0⟩)
theorem roll_range (d : Dice) {m : Int} (h : 0 < m) : 0 ≤ (roll d m).1 ∧ (roll d m).1 < m := by
  unfold roll
  split
  · exact ⟨Int.emod_nonneg _ (by omega), Int.emod_lt_of_pos _ h⟩
  · exact ⟨Int.emod_nonneg _ (by omega), Int.emod_lt_of_pos _ h⟩
abbrev sDice : Stmt := top 15
abbrev sRoll : Stmt := top 16
abbrev sRounds : Stmt := top 17
/-! ### promises -/
def spDice : Sp := fun vs H Q _ => ∃ n : Int, vs = [.int n] ∧ ∀ p, H p = none → Q (.ref p) (upd H p (.lst (mkDice n).vs))
def spRoll : Sp := fun vs H Q _ => ∃ (D : Addr) (d : Dice) (m : Int), vs = [.ref D, .int m] ∧ H D = some (.lst d.vs) ∧ 0 < m ∧ m < 1000000 ∧ Q (.int (roll d m).1) (upd H D (.lst (roll d m).2.vs))
section
variable {P : Program} {w : World} {K : PySem.W.Frag} {mg : Str → Option Value} {base : Heap}
theorem scDice : FnScope ["cell"] ["cell"] (defScope sDice) := ⟨rfl, rfl, rfl, by decide +kernel, rfl, by decide +kernel, by decide +kernel⟩
theorem ok_dice {f : Addr} {fd : FuncData} (F : L2.Fun K "_law_dice" "_law_dice" sDice f fd) (mA : mg "abs" = none) (mI : mg "int" = none) : FnOk P w K mg base L2.CX0 1 f fd ["cell"] spDice := by
  refine F.ok scDice (fun vs H Q E h => ?_) (fun cdv A outer s H vs Q E hr h => ?_)
  · obtain ⟨n, rfl, _⟩ := h
    rfl
  · obtain ⟨n, rfl, k⟩ := h
    refine ⟨_, pss_cons (ps_if (pt_chain op_lt op_lt (pe_op op_sub pe_int pe_int) (pv 0) pe_int) (pss_one (ps_ret (pe_lst (pa_cons (pe_callB call_abs (by rfl) mA (by decide +kernel) (pa_cons (pv 0) pa_nil)) (pa_cons pe_int (pa_cons pe_int pa_nil)))))) pss_nil)
      (pss_one (ps_ret (pe_lst (pa_cons (pv 0) (pa_cons (pe_op op_add pe_int (pe_op op_mod (pe_callTy call_int1 (by rfl) mI PyProof.Rows.Boot.«int» (pa_cons (pv 0) pa_nil)) pe_int))
        (pa_cons (pe_callTy call_int1 (by rfl) mI PyProof.Rows.Boot.«int» (pa_cons (pe_cmpR op_ge (pv 0) (pe_op op_pow pe_int pe_int) (nomark _)) pa_nil)) pa_nil)))))), ?_⟩
    refine ⟨_, _, rfl, rfl, _, rfl, _, _, rfl, rfl, _, rfl, ?_⟩
    refine ite2 (fun c1 => ⟨_, _, rfl, rfl, _, rfl, ite2 (fun c2 => ?A) (fun c2 => ?B)⟩) (fun c1 => ⟨_, rfl, iteF ?C⟩)
    case A =>
      have hn : -10 < n ∧ n < 10 := ⟨by have z := of_decide_eq_true c1; omega, of_decide_eq_true c2⟩
      refine ⟨_, rfl, _, rfl, by show 3 ≤ sizeLine; decide, fun p hp => ?_⟩
      have e := k p hp
      unfold mkDice at e
      rw [if_pos hn] at e
      exact e
    all_goals
      have hn : ¬ (-10 < n ∧ n < 10) := by
        simp only [decide_eq_true_eq] at *
        omega
      refine ⟨_, rfl, _, rfl, .inl ⟨_, rfl, _, _, rfl, rfl, (by show (0 : Int) < 1009; decide), _, _, rfl, rfl, ?_⟩⟩
      refine ⟨_, rfl, _, _, rfl, rfl, (by refine ⟨by decide, by decide, by decide⟩), _, _, rfl, rfl, .inr ⟨_, rfl, by show 3 ≤ sizeLine; decide, fun p hp => ?_⟩⟩
      have e := k p hp
      unfold mkDice at e
      rw [if_neg hn] at e
      have e2 : (if decide ((10 : Int) ^ (18 : Int).toNat ≤ n) = true then (1 : Int) else 0) = (if 10 ^ 18 ≤ n then 1 else 0) := by
        simp only [decide_eq_true_eq]
        rfl
      rw [e2]
      exact e
theorem scRoll : FnScope ["dice", "many", "found"] ["dice", "many"] (defScope sRoll) := ⟨rfl, rfl, rfl, by decide +kernel, rfl, by decide +kernel, by decide +kernel⟩
theorem at0 (x y z : V) : atI [x, y, z] 0 = some x := rfl
theorem at1 (x y z : V) : atI [x, y, z] 1 = some y := rfl
theorem at2 (x y z : V) : atI [x, y, z] 2 = some z := rfl
theorem ix0 (x y z : V) : ixN [x, y, z].length 0 = some 0 := rfl
theorem ix1 (x y z : V) : ixN [x, y, z].length 1 = some 1 := rfl
theorem ix2 (x y z : V) : ixN [x, y, z].length 2 = some 2 := rfl
theorem ok_roll {f : Addr} {fd : FuncData} (F : L2.Fun K "_law_roll" "_law_roll" sRoll f fd) (mI : mg "int" = none) : FnOk P w K mg base L2.CX0 1 f fd ["dice", "many"] spRoll := by
  refine F.ok scRoll (fun vs H Q E h => ?_) (fun cdv A outer s H vs Q E hr h => ?_)
  · obtain ⟨D, d, m, rfl, _⟩ := h
    rfl
  · obtain ⟨D, ⟨a, b, c⟩, m, rfl, hD, m0, m1, k⟩ := h
    have hD : H D = some (.lst [.int a, .int b, .int c]) := hD
    refine ⟨_, pss_cons (ps_if (PW.pt (pw_or (pt_cmpR op_eq (pe_ix ix_list (pv 0) pe_int (fun _ _ => rfl)) pe_int (nomark _)) (pw_or1 (PW.pt (pw_and (pt_cmpR op_eq (pe_ix ix_list (pv 0) pe_int (fun _ _ => rfl)) pe_int (nomark _)) (pw_and1 (pt_cmpR op_gt (pe_ix ix_list (pv 0) pe_int (fun _ _ => rfl)) pe_int (nomark _))))))))
        (pss_cons (ps_set (i := 2) scRoll.nd rfl (Or.inl rfl) (pe_op op_mod (pe_callTy call_int1 (by rfl) mI PyProof.Rows.Boot.«int» (pa_cons (pe_ix ix_list (pv 0) pe_int (fun _ _ => rfl)) pa_nil)) (pv 1)))
        (pss_cons (ps_asg (pe_op op_fdiv (pe_ix ix_list (pv 0) pe_int (fun _ _ => rfl)) (pv 1)) (pg_sub (pv 0) pe_int set_list))
        (pss_one (ps_ret (pv 2))))) pss_nil)
      (pss_cons (ps_asg pe_int (pg_sub (pv 0) pe_int set_list))
      (pss_cons (ps_asg (pe_op op_mod (pe_callTy call_int1 (by rfl) mI PyProof.Rows.Boot.«int» (pa_cons (pe_op op_add (pe_op op_add (pe_op op_mul (pe_ix ix_list (pv 0) pe_int (fun _ _ => rfl)) pe_int) (pe_op op_mul (pe_ix ix_list (pv 0) pe_int (fun _ _ => rfl)) pe_int)) pe_int) pa_nil)) pe_int) (pg_sub (pv 0) pe_int set_list))
      (pss_cons (ps_asg (pe_op op_add (pe_ix ix_list (pv 0) pe_int (fun _ _ => rfl)) pe_int) (pg_sub (pv 0) pe_int set_list))
      (pss_one (ps_ret (pe_op op_mod (pe_callTy call_int1 (by rfl) mI PyProof.Rows.Boot.«int» (pa_cons (pe_op op_fdiv (pe_ix ix_list (pv 0) pe_int (fun _ _ => rfl)) pe_int) pa_nil)) (pv 1))))))), ?_⟩
    refine ⟨_, rfl, D, _, _, _, rfl, rfl, SqL.of hD, at2 _ _ _, rfl, _, rfl, ite2 (fun c1 => iteT ?T) (fun c1 => ⟨_, rfl, D, _, _, _, rfl, rfl, SqL.of hD, at2 _ _ _, rfl, _, rfl,
      ite2 (fun c2 => ⟨_, rfl, D, _, _, _, rfl, rfl, SqL.of hD, at0 _ _ _, _, _, rfl, rfl, _, rfl, ite2 (fun c3 => ?T2) (fun c3 => ?F)⟩) (fun c2 => iteF ?F2)⟩)⟩
    case T | T2 =>
      have hc : c = 2 ∨ (c = 1 ∧ 0 < a) := by
        simp only [decide_eq_true_eq, V.int.injEq] at *
        omega
      have e : roll ⟨a, b, c⟩ m = (a % m, ⟨a / m, b, c⟩) := by
        unfold roll
        rw [if_pos hc]
      rw [e] at k
      refine ⟨_, rfl, D, _, _, _, rfl, rfl, SqL.of hD, at0 _ _ _, .inl ⟨_, rfl, _, rfl, _, _, rfl, rfl, m0, ?_⟩⟩
      exact ⟨_, rfl, D, _, _, _, rfl, rfl, SqL.of hD, at0 _ _ _, _, rfl, _, _, rfl, rfl, ⟨m0, by omega⟩, _, rfl, D, _, _, _, rfl, rfl, hD, ix0 _ _ _, _, rfl, k⟩
    case F | F2 =>
      have hc : ¬ (c = 2 ∨ (c = 1 ∧ 0 < a)) := by
        simp only [decide_eq_true_eq, V.int.injEq] at *
        omega
      have e : roll ⟨a, b, c⟩ m = ((stepA ⟨a, b, c⟩ / 7) % m, ⟨stepA ⟨a, b, c⟩, b + 1, 0⟩) := by
        unfold roll
        rw [if_neg hc]
      rw [e] at k
      refine ⟨_, rfl, D, _, _, _, rfl, rfl, hD, ix2 _ _ _, ?_⟩
      refine ⟨_, rfl, D, _, _, _, rfl, rfl, SqL.of upd_same, at0 _ _ _, _, _, rfl, rfl, .inr ⟨by decide, by decide⟩, _, rfl, D, _, _, _, rfl, rfl, SqL.of upd_same, at1 _ _ _, _, _, rfl, rfl, .inr ⟨by decide, by decide⟩, _, _, rfl, rfl, _, _, rfl, rfl, .inl ⟨_, rfl, _, _, rfl, rfl, (by show (0 : Int) < 2147483647; decide), ?_⟩⟩
      refine ⟨_, rfl, D, _, _, _, rfl, rfl, upd_same, ix0 _ _ _, ?_⟩
      refine ⟨_, rfl, D, _, _, _, rfl, rfl, SqL.of upd_same, at1 _ _ _, _, _, rfl, rfl, _, rfl, D, _, _, _, rfl, rfl, upd_same, ix1 _ _ _, ?_⟩
      refine ⟨_, rfl, D, _, _, _, rfl, rfl, SqL.of upd_same, at0 _ _ _, _, _, rfl, rfl, ⟨by decide, by decide⟩, .inl ⟨_, rfl, _, rfl, _, _, rfl, rfl, m0, ?_⟩⟩
      rw [upd_upd, upd_upd]
      exact k
theorem scRounds : FnScope ["script", "most", "cells", "cell"] ["script", "most"] (defScope sRounds) := ⟨rfl, rfl, rfl, by decide +kernel, rfl, by decide +kernel, by decide +kernel⟩
def cell0 (ns : List Int) : Int := ns.headD 0
/-- the first cell's dice, alone in a list -/
def spRounds (K : PySem.W.Frag) : Sp := fun vs H Q _ => ∃ (a : Addr) (ns : List Int), vs = [.ref a, .int 1] ∧ SqL K H a (ns.map V.int) ∧
  ∀ H' R D, Same H H' → H R = none → H D = none → R ≠ D → H' R = some (.lst [.ref D]) → H' D = some (.lst (mkDice (cell0 ns)).vs) → Q (.ref R) H'
theorem cut1 (ns : List Int) : cutV (ns.map V.int) none (some 1) = (ns.take 1).map V.int := by
  unfold cutV
  show ((ns.map V.int).drop 0).take (HT.sIx (ns.map V.int).length (ns.map V.int).length (some ((1 : Nat) : Int)) - 0) = _
  rw [HT.sIx_nat]
  cases ns with
  | nil => rfl
  | cons n r => simp
theorem ok_rounds {f fD : Addr} {fd fdD : FuncData} (F : L2.Fun K "_law_rounds" "_law_rounds" sRounds f fd)
    (FD : FnOk P w K mg base L2.CX0 1 fD fdD ["cell"] spDice) (mD : mg "_law_dice" = some (.ref fD)) (kD : PySem.W.keepIn K (.ref fD) = true) (bD : Binds K fdD ["cell"] []) :
    FnOk P w K mg base L2.CX0 2 f fd ["script", "most"] (spRounds K) := by
  refine F.ok scRounds (fun vs H Q E h => ?_) (fun cdv A outer s H vs Q E hr h => ?_)
  · obtain ⟨a, ns, rfl, _⟩ := h
    rfl
  · obtain ⟨a, ns, rfl, ha, k⟩ := h
    refine ⟨_, pss_cons (ps_set (i := 2) scRounds.nd rfl (Or.inl rfl) (pe_slice sl_list (pv 0) po_none (po_some (pv 1))))
      (pss_cons (ps_if (pt_cmpR (op_eqD hr.units) (pv 2) (pe_lst pa_nil) (nomark _)) (pss_one (ps_set (i := 2) scRounds.nd rfl (Or.inl rfl) (pe_lst (pa_cons pe_int pa_nil)))) pss_nil)
      (pss_one (ps_ret (pe_lc (own := [("cell", 3)]) (g := gName 3) (by rfl) scRounds.nd (pi_list (pv 2)) (blkOk_by (N := ["script", "most", "cells", "cell"]) (sc := defScope sRounds) (by decide +kernel))
        (fun _ _ _ _ _ => pg_name (i := 3) scRounds.nd rfl (Or.inl rfl)) (fun _ _ _ _ _ => pts_nil) (fun _ _ _ _ _ => pe_call FD hr (by rfl) mD kD bD .nil pass0 (pa_cons (pv 3) pa_nil)))))), ?_⟩
    -- the list of cells
    have tail : ∀ (p : Addr) (n : Int) (H1 : Hp), Same H H1 → H p = none → H1 p = some (.lst [.int n]) → n = cell0 ns → tLc (iList K (tVar 2)) (gName 3) tYes (tCall spDice [] E0 (tCons (tVar 3) tNil)) [3] [some (.ref a), some (.int 1), some (.ref p), none] H1 Q := by
      intro p n H1 s1 np hp en
      refine ⟨_, rfl, p, rfl, ⟨_, SqL.of hp⟩, fun R nR => ?_⟩
      have npR : p ≠ R := ne_of_none hp nR
      refine lc_list (K := K) (a := p) (xs := [.int n]) (fun i H' => (i = 0 → H' = upd H1 R (.lst [])) ∧ (i = 1 → ∃ D, H1 D = none ∧ R ≠ D ∧ H' R = some (.lst [.ref D]) ∧ H' D = some (.lst (mkDice n).vs) ∧ Same H1 H')) ⟨fun _ => rfl, fun z => by cases z⟩ (fun i H' hi q => ?_) (fun i x H' hx q => ?_) (fun H' q => ?_)
      · have hi : i ≤ 1 := hi
        rcases (by omega : i = 0 ∨ i = 1) with rfl | rfl
        · rw [q.1 rfl]
          exact SqL.of (by rw [upd_ne npR]; exact hp)
        · obtain ⟨D, _, _, _, _, z⟩ := q.2 rfl
          exact SqL.of (z _ _ hp)
      · match i, hx with
        | 0, hx =>
          obtain rfl : V.int n = x := Option.some.inj hx
          obtain rfl := q.1 rfl
          refine ⟨rfl, _, rfl, n, rfl, fun D nD => ?_⟩
          have nRD : R ≠ D := ne_of_none upd_same nD
          have nD1 : H1 D = none := by rw [upd_ne (Ne.symm nRD)] at nD; exact nD
          refine ⟨[], by rw [upd_ne nRD, upd_same], by show 0 < sizeLine; decide, fun z => (by cases z), fun _ => ⟨D, nD1, nRD, upd_same, by rw [upd_ne (Ne.symm nRD), upd_same], fun b o e => ?_⟩⟩
          rw [upd_ne (ne_of_none e nR), upd_ne (ne_of_none e nD1), upd_ne (ne_of_none e nR)]
          exact e
      · obtain ⟨D, nD, nRD, h1, h2, s2⟩ := q.2 rfl
        rw [en] at h2
        exact k H' R D (s1.trans s2) (s1.free nR) (s1.free nD) nRD h1 h2
    refine ⟨_, rfl, _, rfl, _, rfl, a, _, rfl, ha, fun p np => ?_⟩
    rw [cut1]
    refine ⟨_, rfl, by show 0 ≤ sizeLine; decide, fun l nl => ?_⟩
    have npl : p ≠ l := ne_of_none upd_same nl
    have np' : (upd (upd H p (.lst ((ns.take 1).map V.int))) l (.lst [])) p = some (.lst ((ns.take 1).map V.int)) := by rw [upd_ne npl, upd_same]
    have nl' : H l = none := by rw [upd_ne (Ne.symm npl)] at nl; exact nl
    have sm : Same H (upd (upd H p (.lst ((ns.take 1).map V.int))) l (.lst [])) := fun b o e => by
      rw [upd_ne (ne_of_none e nl'), upd_ne (ne_of_none e np)]
      exact e
    cases ns with
    | nil =>
      refine ⟨.list [], .list [], Dp.lst (SqL.of np') .nil, Dp.lst (SqL.of upd_same) .nil, rfl, rfl, _, rfl, iteT ?_⟩
      refine ⟨by show 1 ≤ sizeLine; decide, fun c nc => ?_⟩
      refine tail c 0 _ (sm.trans fun b o e => ?_) (sm.free nc) upd_same rfl
      rw [upd_ne (ne_of_none e nc)]
      exact e
    | cons n r =>
      refine ⟨.list [.int n], .list [], Dp.lst (SqL.of np') (.cons (.int n) .nil), Dp.lst (SqL.of upd_same) .nil, ?_, rfl, _, rfl, iteF ?_⟩
      · rfl
      · exact tail p n _ sm np np' rfl
end
end K01
namespace K01
open PySem L2 HK
abbrev sNum : Stmt := top 6
abbrev sAt : Stmt := top 7
abbrev sNums : Stmt := top 8
abbrev sText : Stmt := top 9
abbrev sCheck : Stmt := top 10
abbrev sPair : Stmt := top 11
abbrev sOfPair : Stmt := top 12
abbrev sSum : Stmt := top 13
/-- what the program's letters ask of the module -/
structure Txt (P : Program) (K : PySem.W.Frag) (mg : Str → Option Value) (C fI : Addr) : Prop where
  fe : FeTxt P K "FileError.__init__" C fI
  mF : mg "FileError" = some (.ref C)
  mL : ∃ t, mg "LETTERS" = some (.str (T ls) t)
  mB : ∃ t, mg "SUM_BASE" = some (.int 65521 t)
  len : mg "len" = none
  tup : mg "tuple" = none
/-- a fault of the class at C may leave, whatever is new -/
def Bad (C : Addr) (H : Hp) (E : XK) : Prop := ∀ d H', Same H H' → E (.ref C) d H'
def spNum (C : Addr) : Sp := fun vs H Q E => ∃ z : Str, vs = [.str z] ∧ ((∃ c k, z = T [c] ∧ pos ls c = some k ∧ Q (.int (k : Nat)) H) ∨ ((z = T [] ∨ ∃ c, z = T [c] ∧ c ∉ ls) ∧ Bad C H E))
def spAt (C : Addr) : Sp := fun vs H Q E => ∃ n : Int, vs = [.int n] ∧ ((∃ (k c : Nat), n = (k : Int) ∧ ls[k]? = some c ∧ Q (.str (T [c])) H) ∨ (¬ (0 ≤ n ∧ n < 95) ∧ Bad C H E))
section
variable {P : Program} {w : World} {K : PySem.W.Frag} {mg : Str → Option Value} {base : Heap} {C fI : Addr}
theorem scNum : FnScope ["letter", "place"] ["letter"] (defScope sNum) := ⟨rfl, rfl, rfl, by decide +kernel, rfl, by decide +kernel, by decide +kernel⟩
theorem ok_num {f : Addr} {fd : FuncData} (F : L2.Fun K "letter_number" "letter_number" sNum f fd) (X : Txt P K mg C fI) : FnOk P w K mg base (L2.CX P w) 2 f fd ["letter"] (spNum C) := by
  obtain ⟨tl, mL⟩ := X.mL
  refine F.okX scNum (fun vs H Q E h => ?_) (fun cdv A outer s H vs Q E hr h => ?_)
  · obtain ⟨z, rfl, _⟩ := h
    rfl
  · obtain ⟨z, rfl, k⟩ := h
    refine ⟨_, pss_cons (ps_set (i := 1) scNum.nd rfl (Or.inl rfl) (pe_m1 PySem.F.slot_str_find PySem.F.type_str_find mt_find (pe_glob (v := .str (T ls)) rfl mL ⟨_, rfl⟩) (pv 0)))
      (pss_cons (ps_if (PW.pt (pw_or (pt_cmpR op_lt (pv 1) pe_int (nomark _)) (pw_or1 (pt_cmpR op_eq (pv 0) pe_str (nomark _)))))
        (pss_one (ps_raise rfl (takes_of rfl rfl rfl rfl) (pmk_fe X.fe hr rfl X.mF (pa_cons pe_str pa_nil)))) pss_nil)
      (pss_one (ps_ret (pv 1)))), ?_⟩
    refine ⟨⟨_, rfl⟩, _, rfl, _, _, rfl, rfl, _, rfl, _, _, rfl, rfl, _, rfl, ?_⟩
    rcases k with ⟨c, k, rfl, hk, q⟩ | ⟨hz, bad⟩
    · have e : PySem.Txt.find (T ls) (T [c]) = (k : Int) := by rw [find_one, hk]
      rw [e]
      have e1 : decide (((k : Nat) : Int) < 0) = false := by simp
      rw [e1]
      refine iteF ⟨_, rfl, rfl, _, rfl, ?_⟩
      have e2 : decide (V.str (T [c]) = V.str (Str.ofString "")) = false := by
        simp only [decide_eq_false_iff_not, V.str.injEq]
        exact fun z => by cases T_inj (z.trans (show Str.ofString "" = T [] by decide +kernel))
      rw [e2]
      exact iteF ⟨_, rfl, q⟩
    · have out : ∀ σ, tMkF C (tC (.str "bad text")) σ H fun cls d H' => E cls d H' := fun σ d hd => bad _ _ (same_upd hd)
      rcases hz with rfl | ⟨c, rfl, hc⟩
      · cases e : decide (PySem.Txt.find (T ls) (T []) < 0) with
        | true => exact iteT (iteT (out _))
        | false =>
          have e2 : decide (V.str (T []) = V.str (Str.ofString "")) = true := by decide +kernel
          refine iteF ⟨_, rfl, rfl, _, rfl, ?_⟩
          rw [e2]
          exact iteT (out _)
      · have e : PySem.Txt.find (T ls) (T [c]) = -1 := by rw [find_one, pos_none hc]
        rw [e]
        exact iteT (iteT (out _))
theorem scAt : FnScope ["number"] ["number"] (defScope sAt) := ⟨rfl, rfl, rfl, by decide +kernel, rfl, by decide +kernel, by decide +kernel⟩
theorem ok_at {f : Addr} {fd : FuncData} (F : L2.Fun K "letter_at" "letter_at" sAt f fd) (X : Txt P K mg C fI) : FnOk P w K mg base (L2.CX P w) 2 f fd ["number"] (spAt C) := by
  obtain ⟨tl, mL⟩ := X.mL
  refine F.okX scAt (fun vs H Q E h => ?_) (fun cdv A outer s H vs Q E hr h => ?_)
  · obtain ⟨z, rfl, _⟩ := h
    rfl
  · obtain ⟨n, rfl, k⟩ := h
    refine ⟨_, pss_cons (ps_if (pt_not (pt_chain op_le op_lt pe_int (pv 0) (pe_callB call_len_str (by rfl) X.len PySem.boot_len (pa_cons (pe_glob (v := .str (T ls)) rfl mL ⟨_, rfl⟩) pa_nil))))
        (pss_one (ps_raise rfl (takes_of rfl rfl rfl rfl) (pmk_fe X.fe hr rfl X.mF (pa_cons pe_str pa_nil)))) pss_nil)
      (pss_one (ps_ret (pe_ix ix_str (pe_glob (v := .str (T ls)) rfl mL ⟨_, rfl⟩) (pv 0) (fun _ _ => rfl)))), ?_⟩
    have out : ∀ σ, Bad C H E → tMkF C (tC (.str "bad text")) σ H fun cls d H' => E cls d H' := fun σ bad d hd => bad _ _ (same_upd hd)
    have hz : (T ls).length ≤ sizeLine := by rw [T_len, ls_len]; decide
    refine ⟨_, rfl, _, _, rfl, rfl, _, rfl, ite2 (fun c1 => ?_) (fun c1 => ⟨_, rfl, ?_⟩)⟩
    · refine ⟨_, rfl, hz, _, _, rfl, rfl, _, rfl, ?_⟩
      have e95 : (((T ls).length : Nat) : Int) = 95 := by rw [T_len, ls_len]; rfl
      rw [e95]
      rcases k with ⟨k, c, rfl, hk, q⟩ | ⟨hn, bad⟩
      · have hk2 := (List.getElem?_eq_some_iff.mp hk).1
        rw [ls_len] at hk2
        have e : decide ((k : Int) < 95) = true := decide_eq_true (by omega)
        rw [e]
        exact iteF ⟨_, rfl, _, _, c, rfl, rfl, hz, atI_nat hk, q⟩
      · have e : decide (n < 95) = false := by
          have z := of_decide_eq_true c1
          simp only [decide_eq_false_iff_not]
          omega
        rw [e]
        exact iteT (out _ bad)
    · rcases k with ⟨k, c, rfl, hk, q⟩ | ⟨hn, bad⟩
      · exfalso
        simp at c1
      · exact iteT (out _ bad)
/-! ### numbers_of, text_of, check_text -/
/-- the number of a letter -/
def num (c : Nat) : Nat := (pos ls c).getD 0
theorem num_ok {c : Nat} (h : c ∈ ls) : pos ls c = some (num c) ∧ ls[num c]? = some c := by
  obtain ⟨k, e⟩ := pos_mem h
  have e2 : num c = k := by unfold num; rw [e]; rfl
  rw [e2]
  exact ⟨e, pos_some e⟩
/-- a text of letters: a new tuple of their numbers; a text with another character: a fault -/
def spNums (C : Addr) : Sp := fun vs H Q E => ∃ l : List Nat, vs = [.str (T l)] ∧ l.length ≤ 1000 ∧
  (((∀ c ∈ l, c ∈ ls) ∧ ∀ t H', Same H H' → H t = none → H' t = some (.tup (l.map fun c => V.int (num c : Nat))) → Q (.ref t) H') ∨ ((∃ c ∈ l, c ∉ ls) ∧ Bad C H E))
theorem scNums : FnScope ["text", "letter"] ["text"] (defScope sNums) := ⟨rfl, rfl, rfl, by decide +kernel, rfl, by decide +kernel, by decide +kernel⟩
theorem ok_nums {f fN : Addr} {fd fdN : FuncData} (F : L2.Fun K "numbers_of" "numbers_of" sNums f fd) (X : Txt P K mg C fI)
    (FN : FnOk P w K mg base (L2.CX P w) 2 fN fdN ["letter"] (spNum C)) (mN : mg "letter_number" = some (.ref fN)) (kN : PySem.W.keepIn K (.ref fN) = true) (bN : Binds K fdN ["letter"] []) :
    FnOk P w K mg base (L2.CX P w) 3 f fd ["text"] (spNums C) := by
  refine F.okX scNums (fun vs H Q E h => ?_) (fun cdv A outer s H vs Q E hr h => ?_)
  · obtain ⟨z, rfl, _⟩ := h
    rfl
  · obtain ⟨l, rfl, hl, k⟩ := h
    refine ⟨_, pss_one (ps_ret (pe_callTy call_tuple_of (by rfl) X.tup PyProof.Rows.Boot.«tuple» (pa_cons (pe_lcX (own := [("letter", 1)]) (g := gName 1) (E := E) rfl rfl rfl (takes_of rfl rfl rfl rfl) (fun _ _ _ _ h => h) scNums.nd (pi_str (pv 0))
      (blkOk_by (N := ["text", "letter"]) (sc := defScope sNums) (by decide +kernel)) (fun _ _ _ _ _ => pg_name (i := 1) scNums.nd rfl (Or.inl rfl)) (fun _ _ _ _ _ => pts_nil)
      (fun _ _ _ _ _ => pe_call FN hr (by rfl) mN kN bN .nil pass_blk (pa_cons (pv 1) pa_nil))) pa_nil))), ?_⟩
    refine ⟨_, rfl, _, rfl, fun D nD => ?_⟩
    refine lc_str (fun i H' => H' = upd H D (.lst ((l.take i).map fun c => V.int (num c : Nat))) ∧ ∀ c ∈ l.take i, c ∈ ls) ⟨rfl, fun c hc => by simp at hc⟩ (fun i c H' hc q => ?_) (fun H' q => ?_)
    · obtain ⟨rfl, good⟩ := q
      have hil := (List.getElem?_eq_some_iff.mp hc).1
      refine ⟨rfl, _, rfl, _, rfl, ?_⟩
      by_cases hm : c ∈ ls
      · refine .inl ⟨c, num c, rfl, (num_ok hm).1, _, upd_same, ?_, ?_, mem_take_succ hc good hm⟩
        · rw [List.length_map, List.length_take]
          exact small1000 (by omega)
        · rw [upd_upd, take_map_succ _ hc]
      · rcases k with ⟨all, _⟩ | ⟨_, bad⟩
        · exact absurd (all c (List.mem_of_getElem? hc)) hm
        · exact .inr ⟨.inr ⟨c, rfl, hm⟩, fun d H2 sm => bad d H2 ((same_upd nD).trans sm)⟩
    · obtain ⟨rfl, good⟩ := q
      rw [List.take_length] at good ⊢
      rcases k with ⟨_, q⟩ | ⟨⟨c, hc, hm⟩, _⟩
      · refine ⟨_, _, rfl, .inl ⟨SqL.of upd_same, fun t nt => ?_⟩⟩
        have sm : Same H (upd H D (.lst (l.map fun c => V.int (num c : Nat)))) := same_upd nD
        exact q t _ (sm.trans (same_upd nt)) (sm.free nt) upd_same
      · exact absurd (good c hc) hm
end
end K01
namespace K01
open PySem L2 HK
/-- the numbers of letters, in a tuple: their text -/
def spTextOf (K : PySem.W.Frag) : Sp := fun vs H Q _ => ∃ (a : Addr) (l : List Nat), vs = [.ref a] ∧ SqT K H a (l.map fun c => V.int (num c : Nat)) ∧ (∀ c ∈ l, c ∈ ls) ∧ l.length ≤ 1000 ∧ ∀ H', Same H H' → Q (.str (T l)) H'
/-- a text: itself, or a fault -/
def spCheck (C : Addr) : Sp := fun vs H Q E => ∃ l : List Nat, vs = [.str (T l)] ∧ l.length ≤ 1000 ∧ (((∀ c ∈ l, c ∈ ls) ∧ ∀ H', Same H H' → Q (.str (T l)) H') ∨ ((∃ c ∈ l, c ∉ ls) ∧ Bad C H E))
def pairV (n : Int) : List V := [.int (n / 256 % 256), .int (n % 256)]
def spPair : Sp := fun vs H Q _ => ∃ n : Int, vs = [.int n] ∧ ∀ p, H p = none → Q (.ref p) (upd H p (.tup (pairV n)))
def spOfPair (K : PySem.W.Frag) : Sp := fun vs H Q _ => ∃ (a : Addr) (xs : List V) (k : Nat) (x y : Int), vs = [.ref a, .int (k : Nat)] ∧ SqT K H a xs ∧ xs[k]? = some (.int x) ∧ xs[k + 1]? = some (.int y) ∧ -(2 ^ 64) < x ∧ x < 2 ^ 64 ∧ Q (.int (x * 256 + y)) H
/-- the two sums -/
def sums (p : Int × Int) : List Int → Int × Int
  | [] => p
  | n :: r => sums ((p.1 + n) % 65521, (p.2 + (p.1 + n) % 65521) % 65521) r
theorem sums_snoc (l : List Int) (n : Int) : ∀ p, sums p (l ++ [n]) = (((sums p l).1 + n) % 65521, ((sums p l).2 + ((sums p l).1 + n) % 65521) % 65521) := by
  induction l with
  | nil => intro p; rfl
  | cons m r ih => intro p; exact ih _
theorem sums_range (l : List Int) : ∀ p : Int × Int, 0 ≤ p.1 → p.1 < 65521 → 0 ≤ p.2 → p.2 < 65521 → 0 ≤ (sums p l).1 ∧ (sums p l).1 < 65521 ∧ 0 ≤ (sums p l).2 ∧ (sums p l).2 < 65521 := by
  induction l with
  | nil => intro p a b c d; exact ⟨a, b, c, d⟩
  | cons n r ih =>
    intro p _ _ _ _
    exact ih _ (Int.emod_nonneg _ (by decide)) (Int.emod_lt_of_pos _ (by decide)) (Int.emod_nonneg _ (by decide)) (Int.emod_lt_of_pos _ (by decide))
def spSum (K : PySem.W.Frag) : Sp := fun vs H Q _ => ∃ (a : Addr) (l : List Int), vs = [.ref a] ∧ SqT K H a (l.map V.int) ∧ ∀ H' p, Same H H' → H p = none → H' p = some (.tup (pairV (sums (1, 0) l).2 ++ pairV (sums (1, 0) l).1)) → Q (.ref p) H'
section
variable {P : Program} {w : World} {K : PySem.W.Frag} {mg : Str → Option Value} {base : Heap} {C fI : Addr}
theorem scText : FnScope ["numbers", "number"] ["numbers"] (defScope sText) := ⟨rfl, rfl, rfl, by decide +kernel, rfl, by decide +kernel, by decide +kernel⟩
theorem ok_text {f fA : Addr} {fd fdA : FuncData} (F : L2.Fun K "text_of" "text_of" sText f fd)
    (FA : FnOk P w K mg base (L2.CX P w) 2 fA fdA ["number"] (spAt C)) (mA : mg "letter_at" = some (.ref fA)) (kA : PySem.W.keepIn K (.ref fA) = true) (bA : Binds K fdA ["number"] []) :
    FnOk P w K mg base (L2.CX P w) 3 f fd ["numbers"] (spTextOf K) := by
  refine F.okX scText (fun vs H Q E h => ?_) (fun cdv A outer s H vs Q E hr h => ?_)
  · obtain ⟨z, l, rfl, _⟩ := h
    rfl
  · obtain ⟨a, l, rfl, ha, good, hl, k⟩ := h
    refine ⟨_, pss_one (ps_ret (pe_join pe_str (pe_lcX (own := [("number", 1)]) (g := gName 1) (E := E) rfl rfl rfl (takes_of rfl rfl rfl rfl) (fun _ _ _ _ h => h) scText.nd (pi_tup (pv 0))
      (blkOk_by (N := ["numbers", "number"]) (sc := defScope sText) (by decide +kernel)) (fun _ _ _ _ _ => pg_name (i := 1) scText.nd rfl (Or.inl rfl)) (fun _ _ _ _ _ => pts_nil)
      (fun _ _ _ _ _ => pe_call FA hr (by rfl) mA kA bA .nil pass_blk (pa_cons (pv 1) pa_nil))))), ?_⟩
    refine ⟨⟨_, rfl⟩, _, rfl, a, rfl, ⟨_, ha⟩, fun D nD => ?_⟩
    refine lc_tup (K := K) (a := a) (xs := l.map fun c => V.int (num c : Nat)) (fun i H' => H' = upd H D (.lst ((l.take i).map fun c => V.str (T [c])))) rfl (fun i H' hi q => ?_) (fun i x H' hx q => ?_) (fun H' q => ?_)
    · subst q
      exact sqT_same (same_upd nD) ha
    · subst q
      rw [List.getElem?_map] at hx
      obtain ⟨c, hc, rfl⟩ := Option.map_eq_some_iff.mp hx
      have hm := good c (List.mem_of_getElem? hc)
      have hil := (List.getElem?_eq_some_iff.mp hc).1
      refine ⟨rfl, _, rfl, _, rfl, .inl ⟨num c, c, rfl, (num_ok hm).2, _, upd_same, ?_, ?_⟩⟩
      · rw [List.length_map, List.length_take]
        exact small1000 (by omega)
      · rw [upd_upd, take_map_succ _ hc]
    · subst q
      rw [List.length_map, List.take_length]
      refine ⟨_, D, l.map (fun c => T [c]), rfl, rfl, .inl (SqL.of ?_), ?_, ?_⟩
      · rw [upd_same, List.map_map]
        rfl
      · rw [join_len]
        show l.length + (l.map _).length * 0 ≤ _
        omega
      · have e : PySem.Txt.join (Str.ofString "") (l.map fun c => T [c]) = T l := by
          rw [show Str.ofString "" = T [] by decide +kernel, join_T]
        rw [e]
        exact k _ (same_upd nD)
theorem scCheck : FnScope ["text"] ["text"] (defScope sCheck) := ⟨rfl, rfl, rfl, by decide +kernel, rfl, by decide +kernel, by decide +kernel⟩
theorem ok_check {f fN : Addr} {fd fdN : FuncData} (F : L2.Fun K "check_text" "check_text" sCheck f fd)
    (FN : FnOk P w K mg base (L2.CX P w) 3 fN fdN ["text"] (spNums C)) (mN : mg "numbers_of" = some (.ref fN)) (kN : PySem.W.keepIn K (.ref fN) = true) (bN : Binds K fdN ["text"] []) :
    FnOk P w K mg base (L2.CX P w) 4 f fd ["text"] (spCheck C) := by
  refine F.okX scCheck (fun vs H Q E h => ?_) (fun cdv A outer s H vs Q E hr h => ?_)
  · obtain ⟨l, rfl, _⟩ := h
    rfl
  · obtain ⟨l, rfl, hl, k⟩ := h
    refine ⟨_, pss_cons (ps_expr (pe_call FN hr (by rfl) mN kN bN .nil (passes_call (takes_of rfl rfl rfl rfl) (fun _ _ _ _ h => h)) (pa_cons (pv 0) pa_nil))) (pss_one (ps_ret (pv 0))), ?_⟩
    refine ⟨_, rfl, l, rfl, hl, ?_⟩
    rcases k with ⟨good, q⟩ | ⟨hb, bad⟩
    · exact .inl ⟨good, fun t H' sm _ _ => ⟨_, rfl, q H' sm⟩⟩
    · exact .inr ⟨hb, bad⟩
theorem scPair : FnScope ["number"] ["number"] (defScope sPair) := ⟨rfl, rfl, rfl, by decide +kernel, rfl, by decide +kernel, by decide +kernel⟩
theorem ok_pair {f : Addr} {fd : FuncData} (F : L2.Fun K "pair" "pair" sPair f fd) : FnOk P w K mg base L2.CX0 1 f fd ["number"] spPair := by
  refine F.ok scPair (fun vs H Q E h => ?_) (fun cdv A outer s H vs Q E hr h => ?_)
  · obtain ⟨n, rfl, _⟩ := h
    rfl
  · obtain ⟨n, rfl, k⟩ := h
    refine ⟨_, pss_one (ps_ret (pe_tup (pa_cons (pe_op op_mod (pe_op op_fdiv (pv 0) pe_int) pe_int) (pa_cons (pe_op op_mod (pv 0) pe_int) pa_nil)))), ?_⟩
    exact ⟨_, rfl, _, _, rfl, rfl, ⟨by decide, by decide⟩, _, _, rfl, rfl, (by show (0 : Int) < 256; decide), _, rfl, _, _, rfl, rfl, (by show (0 : Int) < 256; decide), by show 2 ≤ sizeLine; decide, fun p hp => k p hp⟩
theorem scOfPair : FnScope ["data", "place"] ["data", "place"] (defScope sOfPair) := ⟨rfl, rfl, rfl, by decide +kernel, rfl, by decide +kernel, by decide +kernel⟩
theorem ok_ofpair {f : Addr} {fd : FuncData} (F : L2.Fun K "number_of_pair" "number_of_pair" sOfPair f fd) : FnOk P w K mg base L2.CX0 1 f fd ["data", "place"] (spOfPair K) := by
  refine F.ok scOfPair (fun vs H Q E h => ?_) (fun cdv A outer s H vs Q E hr h => ?_)
  · obtain ⟨a, xs, k, x, y, rfl, _⟩ := h
    rfl
  · obtain ⟨a, xs, k, x, y, rfl, ha, hx, hy, b1, b2, q⟩ := h
    refine ⟨_, pss_one (ps_ret (pe_op op_add (pe_op op_mul (pe_ix ix_tup (pv 0) (pv 1) (fun _ _ => rfl)) pe_int) (pe_ix ix_tup (pv 0) (pe_op op_add (pv 1) pe_int) (fun _ _ => rfl)))), ?_⟩
    have e : ((k : Nat) : Int) + 1 = ((k + 1 : Nat) : Int) := by omega
    refine ⟨_, rfl, _, rfl, a, _, _, _, rfl, rfl, ha, atI_nat hx, _, _, rfl, rfl, .inl ⟨b1, b2⟩, _, rfl, _, rfl, _, _, rfl, rfl, a, _, _, _, rfl, rfl, ha, at_of e hy, _, _, rfl, rfl, q⟩
theorem scSum : FnScope ["numbers", "first", "second", "number"] ["numbers"] (defScope sSum) := ⟨rfl, rfl, rfl, by decide +kernel, rfl, by decide +kernel, by decide +kernel⟩
theorem ok_sum {f fP : Addr} {fd fdP : FuncData} (F : L2.Fun K "word_sum" "word_sum" sSum f fd) (X : Txt P K mg C fI)
    (FP : FnOk P w K mg base L2.CX0 1 fP fdP ["number"] spPair) (mP : mg "pair" = some (.ref fP)) (kP : PySem.W.keepIn K (.ref fP) = true) (bP : Binds K fdP ["number"] []) :
    FnOk P w K mg base L2.CX0 2 f fd ["numbers"] (spSum K) := by
  obtain ⟨tb, mB⟩ := X.mB
  refine F.ok scSum (fun vs H Q E h => ?_) (fun cdv A outer s H vs Q E hr h => ?_)
  · obtain ⟨a, l, rfl, _⟩ := h
    rfl
  · obtain ⟨a, l, rfl, ha, k⟩ := h
    refine ⟨_, pss_cons (ps_set (i := 1) scSum.nd rfl (Or.inl rfl) pe_int) (pss_cons (ps_set (i := 2) scSum.nd rfl (Or.inl rfl) pe_int)
      (pss_cons (ps_for PassesOwn.never rfl (pi_tup (pv 0)) (pg_name (i := 3) scSum.nd rfl (Or.inl rfl))
        (pss_cons (ps_set (i := 1) scSum.nd rfl (Or.inl rfl) (pe_op op_mod (pe_op op_add (pv 1) (pv 3)) (pe_glob (v := .int 65521) rfl mB ⟨_, rfl⟩)))
        (pss_one (ps_set (i := 2) scSum.nd rfl (Or.inl rfl) (pe_op op_mod (pe_op op_add (pv 2) (pv 1)) (pe_glob (v := .int 65521) rfl mB ⟨_, rfl⟩))))))
      (pss_one (ps_ret (pe_op op_catT (pe_call FP hr (by rfl) mP kP bP .nil pass0 (pa_cons (pv 2) pa_nil)) (pe_call FP hr (by rfl) mP kP bP .nil pass0 (pa_cons (pv 1) pa_nil))))))), ?_⟩
    refine ⟨_, rfl, a, rfl, ⟨_, ha⟩, ?_⟩
    refine for_tup (K := K) (a := a) (xs := l.map V.int) (fun i σ H' => H' = H ∧ ∃ v, σ = [some (.ref a), some (.int (sums (1, 0) (l.take i)).1), some (.int (sums (1, 0) (l.take i)).2), v]) ⟨rfl, _, rfl⟩ (fun i σ H' hi q => ?_) (fun i x σ H' hx q => ?_) (fun σ H' q => ?_)
    · obtain ⟨rfl, _⟩ := q
      exact ha
    · obtain ⟨rfl, v, rfl⟩ := q
      rw [List.getElem?_map] at hx
      obtain ⟨n, hn, rfl⟩ := Option.map_eq_some_iff.mp hx
      refine ⟨_, rfl, _, rfl, _, _, rfl, rfl, _, _, rfl, rfl, (by show (0 : Int) < 65521; decide), _, rfl, _, rfl, _, _, rfl, rfl, _, _, rfl, rfl, (by show (0 : Int) < 65521; decide), rfl, some (.int n), ?_⟩
      have e : l.take (i + 1) = l.take i ++ [n] := by rw [List.take_add_one, hn]; rfl
      rw [e, sums_snoc]
      rfl
    · obtain ⟨rfl, v, rfl⟩ := q
      rw [List.length_map, List.take_length]
      refine ⟨_, rfl, _, rfl, fun p hp => ⟨_, rfl, _, rfl, fun p2 hp2 => ?_⟩⟩
      have np : p ≠ p2 := ne_of_none upd_same hp2
      refine ⟨p, p2, _, _, rfl, rfl, SqT.of (by rw [upd_ne np, upd_same]), SqT.of upd_same, (fun z => by cases z), by show 4 ≤ sizeLine; decide, (fun z => by cases z), fun _ p3 hp3 => ?_⟩
      have s2 := (same_upd (o := .tup (pairV (sums (1, 0) l).2)) hp).trans (same_upd (o := .tup (pairV (sums (1, 0) l).1)) hp2)
      exact k _ p3 (s2.trans (same_upd (o := .tup (pairV (sums (1, 0) l).2 ++ pairV (sums (1, 0) l).1)) hp3)) (s2.free hp3) upd_same
end
end K01
namespace K01
open PySem L2 HK
abbrev sTold : Stmt := top 18
abbrev sLetters : Stmt := top 19
abbrev sLSum : Stmt := top 20
abbrev sLaw : Stmt := top 21
def spLetters : Sp := fun vs H Q _ => vs = [] ∧ Q (.str (T ls)) H
def spLSum (K : PySem.W.Frag) : Sp := fun vs H Q _ => ∃ (a : Addr) (l : List Int), vs = [.ref a] ∧ SqT K H a (l.map V.int) ∧
  ∀ H' p, Same H H' → H p = none → H' p = some (.tup [.int ((sums (1, 0) l).2 / 256), .int ((sums (1, 0) l).2 % 256), .int ((sums (1, 0) l).1 / 256), .int ((sums (1, 0) l).1 % 256)]) → Q (.ref p) H'
section
variable {P : Program} {w : World} {K : PySem.W.Frag} {mg : Str → Option Value} {base : Heap} {C fI : Addr}
theorem scLetters : FnScope [] [] (defScope sLetters) := ⟨rfl, rfl, rfl, by decide +kernel, rfl, by decide +kernel, by decide +kernel⟩
theorem ok_letters {f : Addr} {fd : FuncData} (F : L2.Fun K "_law_letters" "_law_letters" sLetters f fd) : FnOk P w K mg base L2.CX0 1 f fd [] spLetters := by
  refine F.ok scLetters (fun vs H Q E h => ?_) (fun cdv A outer s H vs Q E hr h => ?_)
  · rw [h.1]
    rfl
  · obtain ⟨rfl, q⟩ := h
    rw [← ls_text] at q
    exact ⟨_, pss_one (ps_ret pe_str), q⟩
theorem scLSum : FnScope ["numbers", "first", "second", "number"] ["numbers"] (defScope sLSum) := ⟨rfl, rfl, rfl, by decide +kernel, rfl, by decide +kernel, by decide +kernel⟩
theorem ok_lsum {f : Addr} {fd : FuncData} (F : L2.Fun K "_law_sum" "_law_sum" sLSum f fd) (mI : mg "int" = none) : FnOk P w K mg base L2.CX0 1 f fd ["numbers"] (spLSum K) := by
  refine F.ok scLSum (fun vs H Q E h => ?_) (fun cdv A outer s H vs Q E hr h => ?_)
  · obtain ⟨a, l, rfl, _⟩ := h
    rfl
  · obtain ⟨a, l, rfl, ha, k⟩ := h
    refine ⟨_, pss_cons (ps_asg (pe_tup (pa_cons pe_int (pa_cons pe_int pa_nil))) (pg_tup rfl (pgs_cons (pg_name (i := 1) scLSum.nd rfl (Or.inl rfl)) (pgs_cons (pg_name (i := 2) scLSum.nd rfl (Or.inl rfl)) pgs_nil))))
      (pss_cons (ps_for PassesOwn.never rfl (pi_tup (pv 0)) (pg_name (i := 3) scLSum.nd rfl (Or.inl rfl))
        (pss_cons (ps_set (i := 1) scLSum.nd rfl (Or.inl rfl) (pe_op op_mod (pe_callTy call_int1 (by rfl) mI PyProof.Rows.Boot.«int» (pa_cons (pe_op op_add (pv 1) (pv 3)) pa_nil)) pe_int))
        (pss_one (ps_set (i := 2) scLSum.nd rfl (Or.inl rfl) (pe_op op_mod (pe_callTy call_int1 (by rfl) mI PyProof.Rows.Boot.«int» (pa_cons (pe_op op_add (pv 2) (pv 1)) pa_nil)) pe_int)))))
      (pss_one (ps_ret (pe_tup (pa_cons (pe_op op_fdiv (pv 2) pe_int) (pa_cons (pe_op op_mod (pv 2) pe_int) (pa_cons (pe_op op_fdiv (pv 1) pe_int) (pa_cons (pe_op op_mod (pv 1) pe_int) pa_nil)))))))), ?_⟩
    refine ⟨by show 2 ≤ sizeLine; decide, fun t0 nt0 => ?_⟩
    have ha0 : SqT K (upd H t0 (.tup [.int 1, .int 0])) a (l.map V.int) := sqT_same (same_upd nt0) ha
    refine ⟨t0, _, rfl, SqT.of upd_same, rfl, _, _, rfl, _, _, rfl, rfl, _, rfl, a, rfl, ⟨_, ha0⟩, ?_⟩
    refine for_tup (K := K) (a := a) (xs := l.map V.int) (fun i σ H' => H' = upd H t0 (.tup [.int 1, .int 0]) ∧ ∃ v, σ = [some (.ref a), some (.int (sums (1, 0) (l.take i)).1), some (.int (sums (1, 0) (l.take i)).2), v]) ⟨rfl, _, rfl⟩ (fun i σ H' hi q => ?_) (fun i x σ H' hx q => ?_) (fun σ H' q => ?_)
    · obtain ⟨rfl, _⟩ := q
      exact ha0
    · obtain ⟨rfl, v, rfl⟩ := q
      rw [List.getElem?_map] at hx
      obtain ⟨n, hn, rfl⟩ := Option.map_eq_some_iff.mp hx
      refine ⟨_, rfl, _, rfl, _, _, rfl, rfl, .inl ⟨_, rfl, _, _, rfl, rfl, (by show (0 : Int) < 65521; decide), _, rfl, _, rfl, _, _, rfl, rfl, .inl ⟨_, rfl, _, _, rfl, rfl, (by show (0 : Int) < 65521; decide), rfl, some (.int n), ?_⟩⟩⟩
      have e : l.take (i + 1) = l.take i ++ [n] := by rw [List.take_add_one, hn]; rfl
      rw [e, sums_snoc]
      rfl
    · obtain ⟨rfl, v, rfl⟩ := q
      rw [List.length_map, List.take_length]
      exact ⟨_, rfl, _, _, rfl, rfl, ⟨by decide, by decide⟩, _, rfl, _, _, rfl, rfl, (by show (0 : Int) < 256; decide), _, rfl, _, _, rfl, rfl, ⟨by decide, by decide⟩, _, rfl, _, _, rfl, rfl, (by show (0 : Int) < 256; decide), by show 4 ≤ sizeLine; decide, fun p hp => k _ p ((same_upd nt0).trans (same_upd hp)) ((same_upd nt0).free hp) upd_same⟩
/-! ### _law_told(lambda: ..) -/
structure ToldTxt (K : PySem.W.Frag) (mg : Str → Option Value) (C g : Addr) : Prop where
  m : mg "_law_told" = some (.ref g)
  k : PySem.W.keepIn K (.ref g) = true
  fn : ∃ (oc kV doc pm cdv ct : Value) (od an : Option Addr) (osl : Array (Option Value)),
    K.lookup g = some ⟨oc, od, .func (PySem.W.fnOf "_law_told" "_law_told" (defArgs sTold) (defBody sTold) (defScope sTold) .none kV doc pm an cdv ct), osl⟩ ∧ PySem.W.codeIn K cdv "_law_told" = true
  mF : mg "FileError" = some (.ref C)
theorem scTold : FnScope ["what"] ["what"] (defScope sTold) := ⟨rfl, rfl, rfl, by decide +kernel, rfl, by decide +kernel, by decide +kernel⟩
theorem pe_told {X : Cx} {C g c P : Addr} {k : Nat} {params : Arguments} {body : Expr} {scope : Scope} {t : XK → TE} {p lpos pos : Pos} (TT : ToldTxt X.K X.mg C g) (TB : LamX.TabB X.base X.mg c P) (hcode : X.env.code = .ref c)
    (hg : Gl X "_law_told") (hr : Room (k + 2) X.A) (L : LamX.LamS X.env.scope scope) (hdef : defaultsOf params X.env = ([], []))
    (hbind : ∀ (q : Str) (cl : List (Str × Addr)) (pm cv ctv : Value), bindArgs (PySem.W.kla_fn "<lambda>" q params body scope cl pm cv ctv) ⟨[], []⟩ = pure [])
    (hbody : ∀ (A : Around) (outer : List Env) (s : Shared) (H : Hp) (E : XK) (f c' : Addr), Room k (A.deeper (LamX.lamEnv X scope s.heap.objs.size f c')) → PE (LamX.lamCx X A outer s H E scope f c') body (t E)) :
    PE X (.Call (.Name "_law_told" p) [.Lambda params body scope lpos] [] pos) (LamX.tLam [(P, X.env.qual ++ "<lambda>")] (LamX.TTold X.K C "FileError") t) := by
  obtain ⟨oc, kV, doc, pm, cdv, ct, od, an, osl, lk, hcd⟩ := TT.fn
  refine LamX.pe_lamcall (Ng := ["what"]) (a := "what") hg TT.m TT.k lk hcd (.all fun us hl => match us, hl with | [_], _ => rfl) scTold rfl (Or.inl rfl) (LamX.told_gives (e := "FileError") rfl TT.mF rfl (fun _ => rfl)) TB hcode List.mem_cons_self (fun q hq _ => ?_) hr L hdef hbind hbody
  rw [List.mem_singleton.mp hq]
end
end K01
namespace K01
open PySem L2 HK
/-! ### data compared -/
theorem dp_ints {K : PySem.W.Frag} {H : Hp} : ∀ ns : List Int, DpAll K H (ns.map V.int) (ns.map PyData.int)
  | [] => .nil
  | n :: r => .cons (.int n) (dp_ints r)
theorem shaped_tup (ns : List Int) : SeqAt.shaped (.tuple (ns.map PyData.int)) = true := PySem.W.ke_shaped_ints ns
theorem eqv_tup (ns : List Int) : PyData.eqv (.tuple (ns.map PyData.int)) (.tuple (ns.map PyData.int)) = true := PySem.SeqAt.eqv_refl _ (SeqAt.canLay_of_shaped (shaped_tup ns))
/-- two tuples of the same ints are not unlike -/
theorem ne_ints {K : PySem.W.Frag} {H : Hp} {a b : Addr} {ns ms : List Int} {Q : VK} (ha : SqT K H a (ns.map V.int)) (hb : SqT K H b (ms.map V.int)) (e : ns = ms) (q : Q (.bl false) H) : rNeD K (.ref a) (.ref b) H Q := by
  subst e
  refine ⟨_, _, Dp.tup ha (dp_ints ns), Dp.tup hb (dp_ints ns), shaped_tup ns, shaped_tup ns, ?_⟩
  rw [eqv_tup]
  exact q
theorem ne_same {x : V} {H : Hp} {Q : VK} (h : scal x x = true) (q : Q (.bl false) H) : rNe x x H Q := by
  refine ⟨h, ?_⟩
  rw [decide_eq_true rfl]
  exact q
/-! ### what stands through the law's turn -/
structure Wd (D R P : Addr) (H : Hp) (d : Dice) : Prop where
  dice : H D = some (.lst d.vs)
  row : H R = some (.lst [.ref D])
  tabs : LamX.Tabs [(P, "law.<locals>.<lambda>")] H
theorem tabs_put {T : List (Addr × Str)} {H : Hp} {L : Addr} {xs ys : List V} (hL : H L = some (.lst xs)) (h : LamX.Tabs T H) : LamX.Tabs T (upd H L (.lst ys)) := fun p hp => by
  obtain ⟨ps, h1, h2, h3⟩ := h p hp
  refine ⟨ps, by rw [upd_ne (ne_of h1 hL (by intro z; cases z))]; exact h1, h2, fun pos cv hc => ?_⟩
  obtain ⟨c, e1, e2⟩ := h3 pos cv hc
  refine ⟨c, e1, ?_⟩
  rw [upd_ne (ne_of e2 hL (by intro z; unfold LamX.CodeO at z; cases z))]
  exact e2
theorem Wd.ne {D R P : Addr} {H : Hp} {d : Dice} (x : Wd D R P H d) : D ≠ R := ne_of x.dice x.row (by intro z; cases z)
theorem Wd.same {D R P : Addr} {H H' : Hp} {d : Dice} (x : Wd D R P H d) (e : Same H H') : Wd D R P H' d := ⟨e _ _ x.dice, e _ _ x.row, x.tabs.ext e⟩
theorem Wd.roll {D R P : Addr} {H : Hp} {d : Dice} (x : Wd D R P H d) (d' : Dice) : Wd D R P (upd H D (.lst d'.vs)) d' := ⟨upd_same, by rw [upd_ne x.ne.symm]; exact x.row, tabs_put x.dice x.tabs⟩
theorem Wd.put {D R P L : Addr} {H : Hp} {d : Dice} {xs ys : List V} (x : Wd D R P H d) (hL : H L = some (.lst xs)) (h1 : L ≠ D) (h2 : L ≠ R) : Wd D R P (upd H L (.lst ys)) d :=
  ⟨by rw [upd_ne h1.symm]; exact x.dice, by rw [upd_ne h2.symm]; exact x.row, tabs_put hL x.tabs⟩
theorem Wd.ext {D R P : Addr} {H H' : Hp} {d : Dice} (x : Wd D R P H d) (e : LamX.ExtN H H') (t : LamX.Tabs [(P, "law.<locals>.<lambda>")] H') : Wd D R P H' d :=
  ⟨e _ _ x.dice (fun ps z => by cases z), e _ _ x.row (fun ps z => by cases z), t⟩
/-- what the law asks of the module -/
structure LTxt (P : Program) (w : World) (K : PySem.W.Frag) (mg : Str → Option Value) (base : Heap) (C g : Addr) : Prop where
  told : ToldTxt K mg C g
  exm : PySem.W.exmOne K (.ref C) (.ref C) = some true
  range : mg "range" = none
  tup : mg "tuple" = none
  len : mg "len" = none
  letters : ∃ f fd, FnOk P w K mg base L2.CX0 1 f fd [] spLetters ∧ mg "_law_letters" = some (.ref f) ∧ PySem.W.keepIn K (.ref f) = true ∧ Binds K fd [] []
  rounds : ∃ f fd, FnOk P w K mg base L2.CX0 2 f fd ["script", "most"] (spRounds K) ∧ mg "_law_rounds" = some (.ref f) ∧ PySem.W.keepIn K (.ref f) = true ∧ Binds K fd ["script", "most"] []
  roll : ∃ f fd, FnOk P w K mg base L2.CX0 1 f fd ["dice", "many"] spRoll ∧ mg "_law_roll" = some (.ref f) ∧ PySem.W.keepIn K (.ref f) = true ∧ Binds K fd ["dice", "many"] []
  lsum : ∃ f fd, FnOk P w K mg base L2.CX0 1 f fd ["numbers"] (spLSum K) ∧ mg "_law_sum" = some (.ref f) ∧ PySem.W.keepIn K (.ref f) = true ∧ Binds K fd ["numbers"] []
  nums : ∃ f fd, FnOk P w K mg base (L2.CX P w) 3 f fd ["text"] (spNums C) ∧ mg "numbers_of" = some (.ref f) ∧ PySem.W.keepIn K (.ref f) = true ∧ Binds K fd ["text"] []
  text : ∃ f fd, FnOk P w K mg base (L2.CX P w) 3 f fd ["numbers"] (spTextOf K) ∧ mg "text_of" = some (.ref f) ∧ PySem.W.keepIn K (.ref f) = true ∧ Binds K fd ["numbers"] []
  check : ∃ f fd, FnOk P w K mg base (L2.CX P w) 4 f fd ["text"] (spCheck C) ∧ mg "check_text" = some (.ref f) ∧ PySem.W.keepIn K (.ref f) = true ∧ Binds K fd ["text"] []
  pair : ∃ f fd, FnOk P w K mg base L2.CX0 1 f fd ["number"] spPair ∧ mg "pair" = some (.ref f) ∧ PySem.W.keepIn K (.ref f) = true ∧ Binds K fd ["number"] []
  ofpair : ∃ f fd, FnOk P w K mg base L2.CX0 1 f fd ["data", "place"] (spOfPair K) ∧ mg "number_of_pair" = some (.ref f) ∧ PySem.W.keepIn K (.ref f) = true ∧ Binds K fd ["data", "place"] []
  at_ : ∃ f fd, FnOk P w K mg base (L2.CX P w) 2 f fd ["number"] (spAt C) ∧ mg "letter_at" = some (.ref f) ∧ PySem.W.keepIn K (.ref f) = true ∧ Binds K fd ["number"] []
  num : ∃ f fd, FnOk P w K mg base (L2.CX P w) 2 f fd ["letter"] (spNum C) ∧ mg "letter_number" = some (.ref f) ∧ PySem.W.keepIn K (.ref f) = true ∧ Binds K fd ["letter"] []
  sum : ∃ f fd, FnOk P w K mg base L2.CX0 2 f fd ["numbers"] (spSum K) ∧ mg "word_sum" = some (.ref f) ∧ PySem.W.keepIn K (.ref f) = true ∧ Binds K fd ["numbers"] []
abbrev NL : List Str := ["script", "letters", "numbers", "number", "place", "drawn", "dice", "text", "k", "sign"]
theorem scLaw : FnScope NL ["script"] (defScope sLaw) := ⟨rfl, rfl, rfl, by decide +kernel, rfl, by decide +kernel, by decide +kernel⟩
theorem tSeq_mk {t u : TS} {D : Ends} {σ : L2.St} {H : Hp} (h : t { D with nx := u D } σ H) : tSeq t u D σ H := h
theorem tAsg_mk {te : TE} {g : TG} {D : Ends} {σ : L2.St} {H : Hp} (h : te σ H fun x H1 => g x σ H1 D.nx) : tAsg te g D σ H := h
theorem tCB_mk {r : List V → Hp → VK → Prop} {t : TA} {σ : L2.St} {H : Hp} {Q : VK} (h : t σ H fun xs H1 => r xs H1 Q) : tCB r t σ H Q := h
theorem tCons_mk {te : TE} {t : TA} {σ : L2.St} {H : Hp} {Q : List V → Hp → Prop} (h : te σ H fun x H1 => t σ H1 fun xs H2 => Q (x :: xs) H2) : tCons te t σ H Q := h
/-! ### the two comprehensions that roll -/
theorem letters_at {n : Int} (h0 : 0 ≤ n) (h1 : n < 95) : ∃ c, ls[n.toNat]? = some c ∧ n = ((n.toNat : Nat) : Int) ∧ c ∈ ls := by
  have hl : n.toNat < ls.length := by rw [ls_len]; omega
  exact ⟨ls[n.toNat], List.getElem?_eq_getElem hl, by omega, List.getElem_mem hl⟩
theorem text_read {D R P : Addr} {x0 x2 x3 x4 x5 x7 x8 x9 : Option V} {H : Hp} {d : Dice} {Q : VK} (W : Wd D R P H d)
    (k : ∀ (cs : List Nat) H' L d', cs.length ≤ 20 → (∀ c ∈ cs, c ∈ ls) → H' L = some (.lst (cs.map fun c => V.str (T [c]))) → Wd D R P H' d' → Q (.ref L) H') :
    tLc (iRng1 (tCons (tCall spRoll [] E0 (tCons (tVar 6) (tCons (tC (.int 21)) tNil))) tNil)) (gName 8) tYes (tOp rIxS (tVar 1) (tCall spRoll [] E0 (tCons (tVar 6) (tCons (tC (.int 95)) tNil)))) [8]
      [x0, some (.str (T ls)), x2, x3, x4, x5, some (.ref D), x7, x8, x9] H Q := by
  have r := roll_range d (m := 21) (by decide)
  refine ⟨_, rfl, D, d, 21, rfl, W.dice, by decide, by decide, _, rfl, by omega, by omega, fun L nL => ?_⟩
  have W1 := W.roll (roll d 21).2
  have nLD : L ≠ D := (ne_of_none W1.dice nL).symm
  have nLR : L ≠ R := (ne_of_none W1.row nL).symm
  refine lc_range (lo := 0) (n := (roll d 21).1.toNat) (fun i H' => ∃ cs d', cs.length = i ∧ (∀ c ∈ cs, c ∈ ls) ∧ H' L = some (.lst (cs.map fun c => V.str (T [c]))) ∧ Wd D R P H' d')
    ⟨[], _, rfl, fun c hc => by simp at hc, upd_same, W1.same (same_upd nL)⟩ (fun i H' hi q => ?_) (fun H' q => ?_)
  · obtain ⟨cs, d', e, good, hL, W'⟩ := q
    have r2 := roll_range d' (m := 95) (by decide)
    obtain ⟨c, hc, en, hm⟩ := letters_at r2.1 r2.2
    refine ⟨rfl, _, rfl, _, rfl, D, d', 95, rfl, W'.dice, by decide, by decide, _, _, c, rfl, rfl, (by rw [T_len, ls_len]; decide), (by have z := atI_nat hc; rw [← en] at z; exact z), ?_⟩
    refine ⟨_, by rw [upd_ne nLD]; exact hL, by rw [List.length_map, e]; exact small1000 (by omega), cs ++ [c], _, by rw [List.length_append, e]; rfl, ?_, by rw [upd_same, List.map_append]; rfl, (W'.roll _).put (by rw [upd_ne nLD]; exact hL) nLD nLR⟩
    intro x hx
    rcases List.mem_append.mp hx with z | z
    · exact good x z
    · rw [List.mem_singleton.mp z]
      exact hm
  · obtain ⟨cs, d', e, good, hL, W'⟩ := q
    exact k cs H' L d' (by omega) good hL W'
theorem drawn_read {D R P : Addr} {x0 x1 x2 x3 x4 x5 x7 x8 x9 : Option V} {H : Hp} {d : Dice} {Q : VK} (W : Wd D R P H d)
    (k : ∀ (ns : List Int) H' L d', H' L = some (.lst (ns.map V.int)) → Wd D R P H' d' → Q (.ref L) H') :
    tLc (iRng1 (tCons (tCall spRoll [] E0 (tCons (tVar 6) (tCons (tC (.int 20)) tNil))) tNil)) (gName 8) tYes (tCall spRoll [] E0 (tCons (tVar 6) (tCons (tC (.int 256)) tNil))) [8]
      [x0, x1, x2, x3, x4, x5, some (.ref D), x7, x8, x9] H Q := by
  have r := roll_range d (m := 20) (by decide)
  refine ⟨_, rfl, D, d, 20, rfl, W.dice, by decide, by decide, _, rfl, by omega, by omega, fun L nL => ?_⟩
  have W1 := W.roll (roll d 20).2
  have nLD : L ≠ D := (ne_of_none W1.dice nL).symm
  have nLR : L ≠ R := (ne_of_none W1.row nL).symm
  refine lc_range (lo := 0) (n := (roll d 20).1.toNat) (fun i H' => ∃ ns d', ns.length = i ∧ H' L = some (.lst (ns.map V.int)) ∧ Wd D R P H' d')
    ⟨[], _, rfl, upd_same, W1.same (same_upd nL)⟩ (fun i H' hi q => ?_) (fun H' q => ?_)
  · obtain ⟨ns, d', e, hL, W'⟩ := q
    refine ⟨rfl, _, rfl, D, d', 256, rfl, W'.dice, by decide, by decide, ?_⟩
    exact ⟨_, by rw [upd_ne nLD]; exact hL, by rw [List.length_map, e]; exact small1000 (by omega), ns ++ [(roll d' 256).1], _, by rw [List.length_append, e]; rfl, by rw [upd_same, List.map_append]; rfl, (W'.roll _).put (by rw [upd_ne nLD]; exact hL) nLD nLR⟩
  · obtain ⟨ns, d', e, hL, W'⟩ := q
    exact k ns H' L d' hL W'
def spLaw (K : PySem.W.Frag) (P : Addr) : Sp := fun vs H Q _ => ∃ (a : Addr) (ns : List Int), vs = [.ref a] ∧ SqL K H a (ns.map V.int) ∧ LamX.Tabs [(P, "law.<locals>.<lambda>")] H ∧ ∀ H', Q (.bl true) H'
section
variable {P : Program} {w : World} {K : PySem.W.Frag} {mg : Str → Option Value} {base : Heap} {C g : Addr}
theorem ok_law {f c PT : Addr} {oc kV doc pm ct : Value} {od an : Option Addr} {osl : Array (Option Value)}
    (lk : K.lookup f = some ⟨oc, od, .func (PySem.W.fnOf "law" "law" (defArgs sLaw) (defBody sLaw) (defScope sLaw) .none kV doc pm an (.ref c) ct), osl⟩) (hcd : PySem.W.codeIn K (.ref c) "law" = true) (TB : LamX.TabB base mg c PT) (L : LTxt P w K mg base C g) :
    FnOk P w K mg base L2.CX0 8 f (PySem.W.fnOf "law" "law" (defArgs sLaw) (defBody sLaw) (defScope sLaw) .none kV doc pm an (.ref c) ct) ["script"] (spLaw K PT) := by
  obtain ⟨f1, d1, F1, m1, k1, b1⟩ := L.letters
  obtain ⟨f2, d2, F2, m2, k2, b2⟩ := L.rounds
  obtain ⟨f3, d3, F3, m3, k3, b3⟩ := L.roll
  obtain ⟨f4, d4, F4, m4, k4, b4⟩ := L.lsum
  obtain ⟨f5, d5, F5, m5, k5, b5⟩ := L.nums
  obtain ⟨f6, d6, F6, m6, k6, b6⟩ := L.text
  obtain ⟨f7, d7, F7, m7, k7, b7⟩ := L.check
  obtain ⟨f8, d8, F8, m8, k8, b8⟩ := L.pair
  obtain ⟨f9, d9, F9, m9, k9, b9⟩ := L.ofpair
  obtain ⟨f10, d10, F10, m10, k10, b10⟩ := L.at_
  obtain ⟨f11, d11, F11, m11, k11, b11⟩ := L.num
  obtain ⟨f12, d12, F12, m12, k12, b12⟩ := L.sum
  have lexm := L.exm
  have G1 := F1.mono (show 1 ≤ 7 by decide)
  have G2 := F2.mono (show 2 ≤ 7 by decide)
  have G3 := F3.mono (show 1 ≤ 7 by decide)
  have G4 := F4.mono (show 1 ≤ 7 by decide)
  have G5 := F5.mono (show 3 ≤ 7 by decide)
  have G6 := F6.mono (show 3 ≤ 7 by decide)
  have G7 := F7.mono (show 4 ≤ 7 by decide)
  have G8 := F8.mono (show 1 ≤ 7 by decide)
  have G9 := F9.mono (show 1 ≤ 7 by decide)
  have G10 := F10.mono (show 2 ≤ 7 by decide)
  have G11 := F11.mono (show 2 ≤ 7 by decide)
  have G12 := F12.mono (show 2 ≤ 7 by decide)
  have R3 := F3.mono (show 1 ≤ 5 by decide)
  have R7 := F7.mono (show 4 ≤ 5 by decide)
  have R10 := F10.mono (show 2 ≤ 5 by decide)
  have R11 := F11.mono (show 2 ≤ 5 by decide)
  refine fn_of lk hcd scLaw (fun vs H Q E h => ?_) (fun A outer s H vs Q E hr h => ?_)
  · obtain ⟨a, ns, rfl, _⟩ := h
    rfl
  · obtain ⟨a, ns, rfl, ha, hT, k⟩ := h
    suffices hX : ∃ t, PSs (cxOf L2.CX0 P w K mg base NL "law" (defScope sLaw) f (.ref c) A outer s H E).nox (defBody sLaw) t ∧ t { nx := fun _ H' => Q .non H', rt := Q } (L2.start NL [.ref a]) H by
      obtain ⟨t, h1, h2⟩ := hX
      exact ⟨t, h1.nox, h2⟩
    have hr7 : Room 7 (cxOf L2.CX0 P w K mg base NL "law" (defScope sLaw) f (.ref c) A outer s H E).nox.A := hr
    refine ⟨_, pss_cons (ps_set (i := 1) scLaw.nd rfl (Or.inr rfl) (pe_call0 G1 hr7 (by rfl) m1 k1 b1 .nil pass0))
      (pss_cons (ps_for PassesOwn.never rfl (pi_list (pe_call G2 hr7 (by rfl) m2 k2 b2 .nil pass0 (pa_cons (pv 0) (pa_cons pe_int pa_nil)))) (pg_name (i := 6) scLaw.nd rfl (Or.inr rfl))
        -- text = ''.join(..)
        (pss_cons (ps_set (i := 7) scLaw.nd rfl (Or.inr rfl) (pe_join pe_str (pe_lc (own := [("k", 8)]) (g := gName 8) (by rfl) scLaw.nd (pi_range1 (by rfl) L.range (pa_cons (pe_call G3 hr7 (by rfl) m3 k3 b3 .nil pass0 (pa_cons (pv 6) (pa_cons pe_int pa_nil))) pa_nil))
            (blkOk_by (N := NL) (sc := defScope sLaw) (by decide +kernel)) (fun _ _ _ _ _ => pg_name (i := 8) scLaw.nd rfl (Or.inl rfl)) (fun _ _ _ _ _ => pts_nil)
            (fun _ _ _ _ _ => pe_ix ix_str (pv 1) (pe_call G3 hr7 (by rfl) m3 k3 b3 .nil pass0 (pa_cons (pv 6) (pa_cons pe_int pa_nil))) (fun _ _ => rfl)))))
        -- numbers = tuple(..)
        (pss_cons (ps_set (i := 2) scLaw.nd rfl (Or.inl rfl) (pe_callTy call_tuple_of (by rfl) L.tup PyProof.Rows.Boot.«tuple» (pa_cons (pe_lc (own := [("sign", 9)]) (g := gName 9) (te := tBMS K "str" (rIndexX (fun _ _ _ _ => False)) (tVar 1) (tCons (tVar 9) tNil)) (by rfl) scLaw.nd (pi_str (pv 7))
            (blkOk_by (N := NL) (sc := defScope sLaw) (by decide +kernel)) (fun _ _ _ _ _ => pg_name (i := 9) scLaw.nd rfl (Or.inl rfl)) (fun _ _ _ _ _ => pts_nil)
            (fun _ _ _ _ _ => ?el)) pa_nil)))
        -- numbers_of, text_of, check_text
        (pss_cons (ps_if (PW.pt (pw_or (pt_cmpR (op_neD hr7.units) (pe_call G5 hr7 (by rfl) m5 k5 b5 .nil passL (pa_cons (pv 7) pa_nil)) (pv 2) (nomark _))
            (pw_or (pt_cmpR op_ne (pe_call G6 hr7 (by rfl) m6 k6 b6 .nil passL (pa_cons (pv 2) pa_nil)) (pv 7) (nomark _))
            (pw_or1 (pt_cmpR op_ne (pe_call G7 hr7 (by rfl) m7 k7 b7 .nil passL (pa_cons (pv 7) pa_nil)) (pv 7) (nomark _)))))) (pss_one (ps_ret pe_bl)) pss_nil)
        -- number, place = ..
        (pss_cons (ps_par (i := 3) (j := 4) rfl scLaw.nd rfl rfl (by decide) rfl rfl (pa_cons (pe_call G3 hr7 (by rfl) m3 k3 b3 .nil pass0 (pa_cons (pv 6) (pa_cons pe_int pa_nil))) (pa_cons (pe_call G3 hr7 (by rfl) m3 k3 b3 .nil pass0 (pa_cons (pv 6) (pa_cons pe_int pa_nil))) pa_nil)) rfl)
        (pss_cons (ps_if (PW.pt (pw_or (pt_cmpR (op_neD hr7.units) (pe_call G8 hr7 (by rfl) m8 k8 b8 .nil pass0 (pa_cons (pv 3) pa_nil)) (pe_tup (pa_cons (pe_op op_fdiv (pv 3) pe_int) (pa_cons (pe_op op_mod (pv 3) pe_int) pa_nil))) (nomark _))
            (pw_or1 (pt_cmpR op_ne (pe_call G9 hr7 (by rfl) m9 k9 b9 .nil pass0 (pa_cons (pe_op op_catT (pe_tup (pa_cons pe_int pa_nil)) (pe_call G8 hr7 (by rfl) m8 k8 b8 .nil pass0 (pa_cons (pv 3) pa_nil))) (pa_cons pe_int pa_nil))) (pv 3) (nomark _))))) (pss_one (ps_ret pe_bl)) pss_nil)
        (pss_cons (ps_if (PW.pt (pw_or (pt_cmpR op_ne (pe_call G10 hr7 (by rfl) m10 k10 b10 .nil passL (pa_cons (pv 4) pa_nil)) (pe_ix ix_str (pv 1) (pv 4) (fun _ _ => rfl)) (nomark _))
            (pw_or1 (pt_cmpR op_ne (pe_call G11 hr7 (by rfl) m11 k11 b11 .nil passL (pa_cons (pe_ix ix_str (pv 1) (pv 4) (fun _ _ => rfl)) pa_nil)) (pv 4) (nomark _))))) (pss_one (ps_ret pe_bl)) pss_nil)
        -- told
        (pss_cons (ps_if (PW.pt (pw_or (pt_cmpR op_ne (pe_told (k := 5) L.told TB rfl (by rfl) hr7 (LamX.lamS_by (sc := defScope sLaw) (by decide +kernel)) rfl (fun _ _ _ _ _ => rfl)
              (fun A1 o1 s1 H1 E1 f1 c1 hr5 => pe_call R10 hr5 (by rfl) m10 k10 b10 .nil (passes_call (takes_of rfl rfl rfl rfl) (fun _ _ _ _ h => h)) (pa_cons (pe_op op_add pe_int (pe_call R3 hr5 (by rfl) m3 k3 b3 .nil pass0 (pa_cons (pv 6) (pa_cons pe_int pa_nil)))) pa_nil))) pe_str (nomark _))
            (pw_or1 (pt_cmpR op_ne (pe_told (k := 5) L.told TB rfl (by rfl) hr7 (LamX.lamS_by (sc := defScope sLaw) (by decide +kernel)) rfl (fun _ _ _ _ _ => rfl)
              (fun A1 o1 s1 H1 E1 f1 c1 hr5 => pe_call R10 hr5 (by rfl) m10 k10 b10 .nil (passes_call (takes_of rfl rfl rfl rfl) (fun _ _ _ _ h => h)) (pa_cons (pe_op op_sub pe_int pe_int) pa_nil))) pe_str (nomark _))))) (pss_one (ps_ret pe_bl)) pss_nil)
        -- drawn
        (pss_cons (ps_set (i := 5) scLaw.nd rfl (Or.inl rfl) (pe_callTy call_tuple_of (by rfl) L.tup PyProof.Rows.Boot.«tuple» (pa_cons (pe_lc (own := [("k", 8)]) (g := gName 8) (by rfl) scLaw.nd (pi_range1 (by rfl) L.range (pa_cons (pe_call G3 hr7 (by rfl) m3 k3 b3 .nil pass0 (pa_cons (pv 6) (pa_cons pe_int pa_nil))) pa_nil))
            (blkOk_by (N := NL) (sc := defScope sLaw) (by decide +kernel)) (fun _ _ _ _ _ => pg_name (i := 8) scLaw.nd rfl (Or.inl rfl)) (fun _ _ _ _ _ => pts_nil)
            (fun _ _ _ _ _ => pe_call G3 hr7 (by rfl) m3 k3 b3 .nil pass0 (pa_cons (pv 6) (pa_cons pe_int pa_nil)))) pa_nil)))
        (pss_cons (ps_if (pt_cmpR (op_neD hr7.units) (pe_call G12 hr7 (by rfl) m12 k12 b12 .nil pass0 (pa_cons (pv 5) pa_nil)) (pe_call G4 hr7 (by rfl) m4 k4 b4 .nil pass0 (pa_cons (pv 5) pa_nil)) (nomark _)) (pss_one (ps_ret pe_bl)) pss_nil)
        (pss_one (ps_if (PW.pt (pw_or (pt_cmpR op_ne (pe_told (k := 5) L.told TB rfl (by rfl) hr7 (LamX.lamS_by (sc := defScope sLaw) (by decide +kernel)) rfl (fun _ _ _ _ _ => rfl)
              (fun A1 o1 s1 H1 E1 f1 c1 hr5 => pe_call R7 hr5 (by rfl) m7 k7 b7 .nil (passes_call (takes_of rfl rfl rfl rfl) (fun _ _ _ _ h => h)) (pa_cons (pe_op op_add_str (pv 7) pe_str) pa_nil))) pe_str (nomark _))
            (pw_or1 (pt_cmpR op_ne (pe_told (k := 5) L.told TB rfl (by rfl) hr7 (LamX.lamS_by (sc := defScope sLaw) (by decide +kernel)) rfl (fun _ _ _ _ _ => rfl)
              (fun A1 o1 s1 H1 E1 f1 c1 hr5 => pe_call R11 hr5 (by rfl) m11 k11 b11 .nil (passes_call (takes_of rfl rfl rfl rfl) (fun _ _ _ _ h => h)) (pa_cons pe_str pa_nil))) pe_str (nomark _))))) (pss_one (ps_ret pe_bl)) pss_nil))))))))))))
      (pss_one (ps_ret (pe_cmpR op_eq (pe_callB call_len_str (by rfl) L.len PySem.boot_len (pa_cons (pv 1) pa_nil)) pe_int (nomark _))))), ?_⟩
    case el => exact pe_bmS PySem.F.plainAttrs_str PySem.F.slot_str_index PySem.F.type_str_index (mt_indexX (W := fun _ _ _ _ => False) rfl L2.takes0) (pv 1) (pa_cons (pv 9) pa_nil)
    refine ⟨rfl, ?_⟩
    refine ⟨_, rfl, a, ns, rfl, ha, fun H1 R D s1 nR nD nRD hR hD => ?_⟩
    refine ⟨R, rfl, ⟨_, SqL.of hR⟩, ?_⟩
    have W1 : Wd D R PT H1 (mkDice (cell0 ns)) := ⟨hD, hR, hT.ext s1⟩
    generalize mkDice (cell0 ns) = d0 at W1
    refine for_list (K := K) (a := R) (xs := [.ref D]) (fun i σ H' => (i = 0 → σ = [some (.ref a), some (.str (T ls)), none, none, none, none, none, none, none, none] ∧ H' = H1) ∧ (i = 1 → σ[1]? = some (some (.str (T ls))) ∧ ∃ d, Wd D R PT H' d))
      ⟨fun _ => ⟨rfl, rfl⟩, fun z => by cases z⟩ (fun i σ H' hi q => ?_) (fun i x σ H' hx q => ?_) (fun σ H' q => ?_)
    · have hi : i ≤ 1 := hi
      rcases (by omega : i = 0 ∨ i = 1) with rfl | rfl
      · rw [(q.1 rfl).2]
        exact SqL.of hR
      · obtain ⟨_, d, z⟩ := q.2 rfl
        exact SqL.of z.row
    · match i, hx with
      | 0, hx =>
        obtain rfl : V.ref D = x := Option.some.inj hx
        obtain ⟨rfl, rfl⟩ := q.1 rfl
        -- text
        refine ⟨⟨_, rfl⟩, text_read W1 (fun cs H2 L d2 hl good hL W2 => ?_)⟩
        refine ⟨_, L, cs.map (fun c => T [c]), rfl, rfl, .inl (SqL.of (by rw [hL, List.map_map]; rfl)), (by rw [join_len]; show cs.length + (cs.map _).length * 0 ≤ _; omega), ?_⟩
        have ej : PySem.Txt.join (Str.ofString "") (cs.map fun c => T [c]) = T cs := by rw [show Str.ofString "" = T [] by decide +kernel, join_T]
        rw [ej]
        -- numbers
        refine ⟨_, rfl, _, rfl, fun M nM => ?_⟩
        have nMD : M ≠ D := (ne_of_none W2.dice nM).symm
        have nMR : M ≠ R := (ne_of_none W2.row nM).symm
        refine lc_str (fun i H' => H' = upd H2 M (.lst ((cs.take i).map fun c => V.int (num c : Nat)))) rfl (fun i c H' hc q => ?_) (fun H' q => ?_)
        · subst q
          have hil := (List.getElem?_eq_some_iff.mp hc).1
          have hn := (num_ok (good c (List.mem_of_getElem? hc))).1
          refine ⟨rfl, _, rfl, rfl, _, rfl, _, _, rfl, rfl, fun k hk => ?_, fun hk => ?_⟩
          · rw [index_one, hn] at hk
            obtain rfl := Option.some.inj hk
            refine ⟨_, upd_same, by rw [List.length_map, List.length_take]; exact small1000 (by omega), ?_⟩
            rw [upd_upd, take_map_succ _ hc]
          · rw [index_one, hn] at hk
            cases hk
        · subst q
          rw [List.take_length]
          refine ⟨_, _, rfl, .inl ⟨SqL.of upd_same, fun t nt => ?_⟩⟩
          have W3 := (W2.same (same_upd (o := .lst (cs.map fun c => V.int (num c : Nat))) nM)).same (same_upd (o := .tup (cs.map fun c => V.int (num c : Nat))) nt)
          have ht : (upd (upd H2 M (.lst (cs.map fun c => V.int (num c : Nat)))) t (.tup (cs.map fun c => V.int (num c : Nat)))) t = some (.tup (cs.map fun c => V.int (num c : Nat))) := upd_same
          generalize upd (upd H2 M (.lst (cs.map fun c => V.int (num c : Nat)))) t (.tup (cs.map fun c => V.int (num c : Nat))) = H3 at W3 ht ⊢
          have en : (cs.map fun c => ((num c : Nat) : Int)).map V.int = cs.map fun c => V.int (num c : Nat) := by rw [List.map_map]; rfl
          have hl2 : cs.length ≤ 1000 := by omega
          -- numbers_of(text) != numbers or ..
          refine ⟨_, rfl, cs, rfl, hl2, .inl ⟨good, fun t2 H4 s4 n2 h2 => ⟨_, rfl, ?_⟩⟩⟩
          refine ne_ints (ns := cs.map fun c => ((num c : Nat) : Int)) (ms := cs.map fun c => ((num c : Nat) : Int)) (SqT.of (by rw [en]; exact h2)) (SqT.of (by rw [en]; exact s4 _ _ ht)) rfl ⟨_, rfl, iteF ?_⟩
          refine ⟨_, rfl, t, cs, rfl, SqT.of (s4 _ _ ht), good, hl2, fun H5 s5 => ⟨_, rfl, ne_same rfl ⟨_, rfl, iteF ?_⟩⟩⟩
          refine ⟨_, rfl, cs, rfl, hl2, .inl ⟨good, fun H6 s6 => ⟨_, rfl, ne_same rfl ⟨_, rfl, iteF ?_⟩⟩⟩⟩
          have W6 := W3.same ((s4.trans s5).trans s6)
          -- number, place
          have rn := roll_range d2 (m := 65536) (by decide)
          refine ⟨_, rfl, D, d2, 65536, rfl, W6.dice, by decide, by decide, ?_⟩
          have W7 := W6.roll (roll d2 65536).2
          generalize (roll d2 65536).1 = n at rn ⊢
          generalize (roll d2 65536).2 = d3 at W7 ⊢
          generalize upd H6 D (.lst d3.vs) = H7 at W7 ⊢
          have rp := roll_range d3 (m := 95) (by decide)
          refine ⟨_, rfl, D, d3, 95, rfl, W7.dice, by decide, by decide, _, _, rfl, ?_⟩
          have W8 := W7.roll (roll d3 95).2
          generalize (roll d3 95).1 = pl at rp ⊢
          generalize (roll d3 95).2 = d4 at W8 ⊢
          generalize upd H7 D (.lst d4.vs) = H8 at W8 ⊢
          obtain ⟨c, hc, ep, hm⟩ := letters_at rp.1 rp.2
          generalize pl.toNat = kp at hc ep
          subst ep
          -- pair(number) != ..
          refine ⟨_, rfl, n, rfl, fun p1 np1 => ⟨_, rfl, _, _, rfl, rfl, ⟨by decide, by decide⟩, _, rfl, _, _, rfl, rfl, (by show (0 : Int) < 256; decide), by show 2 ≤ sizeLine; decide, fun p2 np2 => ?_⟩⟩
          refine ne_ints (ns := [n / 256 % 256, n % 256]) (ms := [n / 256, n % 256]) (SqT.of (by rw [upd_ne (ne_of_none upd_same np2), upd_same]; rfl)) (SqT.of upd_same) (by rw [Int.emod_eq_of_lt (by omega) (by omega)]) ⟨_, rfl, iteF ?_⟩
          have W9 := (W8.same (same_upd (o := .tup (pairV n)) np1)).same (same_upd (o := .tup [.int (n / 256), .int (n % 256)]) np2)
          generalize upd (upd H8 p1 (.tup (pairV n))) p2 (.tup [.int (n / 256), .int (n % 256)]) = H9 at W9 ⊢
          refine ⟨by show 1 ≤ sizeLine; decide, fun q1 nq1 => ⟨_, rfl, n, rfl, fun q2 nq2 => ?_⟩⟩
          have n12 : q1 ≠ q2 := ne_of_none upd_same nq2
          refine ⟨q1, q2, _, _, rfl, rfl, SqT.of (by rw [upd_ne n12, upd_same]), SqT.of upd_same, (fun z => by cases z), by show 3 ≤ sizeLine; decide, (fun z => by cases z), fun _ q3 nq3 => ?_⟩
          refine ⟨q3, _, 1, n / 256 % 256, n % 256, rfl, SqT.of upd_same, rfl, rfl, by omega, by omega, _, rfl, ?_⟩
          have e256 : n / 256 % 256 * 256 + n % 256 = n := by omega
          rw [e256]
          refine ne_same rfl ⟨_, rfl, iteF ?_⟩
          have W10 := ((W9.same (same_upd (o := .tup [.int 7]) nq1)).same (same_upd (o := .tup (pairV n)) nq2)).same (same_upd (o := .tup ([.int 7] ++ pairV n)) nq3)
          generalize upd (upd (upd H9 q1 (.tup [.int 7])) q2 (.tup (pairV n))) q3 (.tup ([.int 7] ++ pairV n)) = H10 at W10 ⊢
          -- letter_at(place), letter_number(letters[place])
          have hzl : (T ls).length ≤ sizeLine := by rw [T_len, ls_len]; decide
          refine ⟨_, rfl, _, rfl, .inl ⟨kp, c, rfl, hc, _, rfl, _, rfl, _, _, c, rfl, rfl, hzl, atI_nat hc, ne_same rfl ⟨_, rfl, iteF ?_⟩⟩⟩
          refine ⟨_, rfl, _, rfl, _, _, c, rfl, rfl, hzl, atI_nat hc, T [c], rfl, .inl ⟨c, kp, rfl, pos_at ls_nodup hc, _, rfl, ne_same rfl ⟨_, rfl, iteF ?_⟩⟩⟩
          -- told
          refine ⟨W10.tabs, fun H11 e11 t11 => ?_⟩
          have W11 := W10.ext e11 t11
          have rz := roll_range d4 (m := 100) (by decide)
          refine ⟨_, rfl, D, d4, 100, rfl, W11.dice, by decide, by decide, _, _, rfl, rfl, _, rfl, .inr ⟨by omega, fun _ H12 s12 => ⟨true, lexm, fun _ => ?_, fun z => Bool.noConfusion z⟩⟩⟩
          have W12 := (W11.roll (roll d4 100).2).same s12
          generalize (roll d4 100).2 = d5 at W12
          refine ⟨rfl, _, rfl, iteNS rfl ?_⟩
          refine ⟨W12.tabs, fun H13 e13 t13 => ⟨_, _, rfl, rfl, _, rfl, .inr ⟨by decide, fun _ H14 s14 => ⟨true, lexm, fun _ => ?_, fun z => Bool.noConfusion z⟩⟩⟩⟩
          have W14 := (W12.ext e13 t13).same s14
          refine ⟨rfl, _, rfl, iteNS rfl ?_⟩
          -- drawn
          dsimp only [tNext]
          refine tSeq_mk (tAsg_mk (tCB_mk (tCons_mk ?_)))
          refine drawn_read W14 (fun ms H15 L5 d6 hL5 W15 => ⟨_, _, rfl, .inl ⟨SqL.of hL5, fun t5 nt5 => ?_⟩⟩)
          have W16 := W15.same (same_upd (o := .tup (ms.map V.int)) nt5)
          have ht5 : (upd H15 t5 (.tup (ms.map V.int))) t5 = some (.tup (ms.map V.int)) := upd_same
          generalize upd H15 t5 (.tup (ms.map V.int)) = H16 at W16 ht5 ⊢
          refine ⟨_, rfl, t5, ms, rfl, SqT.of ht5, fun H17 p17 s17 n17 h17 => ⟨_, rfl, t5, ms, rfl, SqT.of (s17 _ _ ht5), fun H18 p18 s18 n18 h18 => ?_⟩⟩
          have rs := sums_range ms (1, 0) (by decide) (by decide) (by decide) (by decide)
          generalize sums (1, 0) ms = sm at h17 h18 rs
          refine ne_ints (ns := [sm.2 / 256 % 256, sm.2 % 256, sm.1 / 256 % 256, sm.1 % 256]) (ms := [sm.2 / 256, sm.2 % 256, sm.1 / 256, sm.1 % 256]) (SqT.of (s18 _ _ h17)) (SqT.of h18)
            (by rw [Int.emod_eq_of_lt (a := sm.2 / 256) (by omega) (by omega), Int.emod_eq_of_lt (a := sm.1 / 256) (by omega) (by omega)]) ⟨_, rfl, iteF ?_⟩
          have W18 := (W16.same s17).same s18
          -- told
          refine ⟨W18.tabs, fun H19 e19 t19 => ?_⟩
          have W19 := W18.ext e19 t19
          have et : T cs ++ Str.ofString "\t" = T (cs ++ [9]) := by
            refine TL.ext_tl ?_
            rw [TL.tl_append, show TL.tl (Str.ofString "\t") = [9] by decide +kernel]
            rfl
          refine ⟨_, rfl, _, _, rfl, rfl, ?_, ?_⟩
          · rw [T_len, show (Str.ofString "\t").length = 1 by decide +kernel, sizeLine_eq]
            omega
          · rw [et]
            refine ⟨cs ++ [9], rfl, by rw [List.length_append]; show cs.length + 1 ≤ 1000; omega, .inr ⟨⟨9, by simp, by decide⟩, fun _ H20 s20 => ⟨true, lexm, fun _ => ?_, fun z => Bool.noConfusion z⟩⟩⟩
            refine ⟨rfl, _, rfl, iteNS rfl ?_⟩
            have W20 := W19.same s20
            refine ⟨W20.tabs, fun H21 e21 t21 => ⟨T [], ?_, .inr ⟨.inl rfl, fun _ H22 s22 => ⟨true, lexm, fun _ => ?_, fun z => Bool.noConfusion z⟩⟩⟩⟩
            · rw [show Str.ofString "" = T [] by decide +kernel]
              rfl
            · refine ⟨rfl, _, rfl, iteNS rfl ?_⟩
              exact ⟨(fun z => by cases z), fun _ => ⟨rfl, d6, (W20.ext e21 t21).same s22⟩⟩
    · obtain ⟨h1, d, W⟩ := q.2 rfl
      refine ⟨_, h1, _, rfl, (by rw [T_len, ls_len]; decide), rfl, ?_⟩
      have e : decide (V.int (((T ls).length : Nat) : Int) = V.int 95) = true := by rw [T_len, ls_len]; decide
      rw [e]
      exact k _
end
end K01
namespace HK
open PySem PySem.Spec PyProof.Rows L2 LamX
theorem tabIn_of {K : PySem.W.Frag} {x : Str} {f c P : Addr} {fd : FuncData} {oc c1 : Value} {od c2 : Option Addr} {sl c3 : Array (Option Value)} {vs : Array Value} (a : PySem.W.nsIn K mainGlobals x = some (some (.ref f))) (l : K.lookup f = some ⟨oc, od, .func fd, sl⟩) (hc : fd.code = .ref c)
    (lc : K.lookup c = some ⟨c1, c2, .fields vs, c3⟩) (hv : vs[11]? = some (.ref P)) : PySem.W.tabIn K x = some (c, P) := by
  unfold PySem.W.tabIn
  rw [a]
  dsimp only
  rw [l]
  dsimp only
  rw [hc]
  dsimp only
  rw [lc]
  dsimp only
  rw [hv]
/-- the end of a law's row, the law's own table of code objects told -/
theorem walk_TT {l : PySem.W.OpenLaw} {n k : Nat} {q : Program} {loose : List Str} {XP : (Str → Option Value) → Heap → Prop} {YP : World → Heap → Prop} {d : DefRec} {K : Params → PySem.W.Frag} {CX : World → CXT} {x : Str}
    (hn : l.most = some n) (hn2 : n ≤ sizeLine) (hdf : d.params.defaults = []) (hr : Room k callerA) (hY : ∀ (w : World) (h : Heap), YP w h → (K w.params).In h) (hrec : (recsOf q).find? (fun e => e.name == d.name) = some d)
    (F : ∀ (w : World) (mg : Str → Option Value) (fa : Addr) (h : Heap), (∀ c P, PySem.W.tabIn (K w.params) d.name = some (c, P) → PySem.W.CodeHd h c P ∧ h.get? P = some ({ cls := .none, data := .fields #[] } : Obj)) → (K w.params).In h → h.Ns mainGlobals mg → mg d.name = some (.ref fa) → LawAtS l w (K w.params) (CX w) k n x mg fa h)
    (hCX : ∀ (w : World) (H : Hp) (s : Shared) (e : Value) (s' : Shared), CX w [] H s (fun _ _ _ => False) e s' → False) :
    PySem.W.WalkO q loose XP YP l.row.toRowW d [] (fun f vs => PySem.call f vs) := by
  refine Att.attach_callB hn hdf fun w s0 s1 mg mb fa o pm cd doc a vs ns G Y ho hd hcd hmg hobj hints hlen hbits hg => ?_
  have KX := hY w _ Y
  obtain ⟨fd, cs, sp, hT, nT, C, hb, hsp, hF⟩ := F w mg fa _ (fun c P ht => PySem.W.tab_of G.T KX hrec ht) KX G.T.g hmg
  exact law_callTs KX G.T.g G.T.b G.T.builtins G.T.nolimit hg hT nT C G.T.bmain hobj hints (Nat.le_trans hlen hn2) hr hF hb (fun H hH hS => hsp H a ns hlen hbits hH hS) fun H e s' => hCX w H s1 e s'
theorem exm_same {K : PySem.W.Frag} {C : Addr} (h1 : PySem.W.subIn K (.ref C) (.type "BaseException") = some true) (h2 : PySem.W.isClsIn K C = true) (h3 : PySem.W.typeIn K (.ref C) = some (.type "type")) (h4 : PySem.W.subIn K (.ref C) (.ref C) = some true) : PySem.W.exmOne K (.ref C) (.ref C) = some true :=
  by
  have e1 : (PySem.W.subIn K (.ref C) (.type "BaseException") == some true) = true := by rw [h1]; rfl
  unfold PySem.W.exmOne
  rw [if_pos e1]
  show (if ((PySem.W.clsIn K C).isSome && PySem.W.typeIn K (.ref C) == some (.type "type")) = true then PySem.W.subIn K (.ref C) (.ref C) else none) = some true
  have e2 : (PySem.W.clsIn K C).isSome = true := h2
  rw [e2, h3, h4]
  rfl
end HK
namespace K01
open PySem L2 HK
abbrev sFInit : Stmt := inClass (top 2) 0
theorem all_mk {l : PySem.W.OpenLaw} {w : World} {K : PySem.W.Frag} {h : Heap} {mg : Str → Option Value} {fa : Addr} (X : K.In h) (G : h.Ns mainGlobals mg) (hfa : mg "law" = some (.ref fa))
    (tabs : ∀ c P, PySem.W.tabIn K "law" = some (c, P) → PySem.W.CodeHd h c P ∧ h.get? P = some ({ cls := .none, data := .fields #[] } : Obj))
    {fNum : Addr} {odNum anNum : Option Addr} {slNum : Array (Option Value)} {ocNum kVNum dcNum pmNum cdNum ctNum : Value}
    {fAt : Addr} {odAt anAt : Option Addr} {slAt : Array (Option Value)} {ocAt kVAt dcAt pmAt cdAt ctAt : Value}
    {fNums : Addr} {odNums anNums : Option Addr} {slNums : Array (Option Value)} {ocNums kVNums dcNums pmNums cdNums ctNums : Value}
    {fText : Addr} {odText anText : Option Addr} {slText : Array (Option Value)} {ocText kVText dcText pmText cdText ctText : Value}
    {fCheck : Addr} {odCheck anCheck : Option Addr} {slCheck : Array (Option Value)} {ocCheck kVCheck dcCheck pmCheck cdCheck ctCheck : Value}
    {fPair : Addr} {odPair anPair : Option Addr} {slPair : Array (Option Value)} {ocPair kVPair dcPair pmPair cdPair ctPair : Value}
    {fOfPair : Addr} {odOfPair anOfPair : Option Addr} {slOfPair : Array (Option Value)} {ocOfPair kVOfPair dcOfPair pmOfPair cdOfPair ctOfPair : Value}
    {fSum : Addr} {odSum anSum : Option Addr} {slSum : Array (Option Value)} {ocSum kVSum dcSum pmSum cdSum ctSum : Value}
    {fDice : Addr} {odDice anDice : Option Addr} {slDice : Array (Option Value)} {ocDice kVDice dcDice pmDice cdDice ctDice : Value}
    {fRoll : Addr} {odRoll anRoll : Option Addr} {slRoll : Array (Option Value)} {ocRoll kVRoll dcRoll pmRoll cdRoll ctRoll : Value}
    {fRounds : Addr} {odRounds anRounds : Option Addr} {slRounds : Array (Option Value)} {ocRounds kVRounds dcRounds pmRounds cdRounds ctRounds : Value}
    {fTold : Addr} {odTold anTold : Option Addr} {slTold : Array (Option Value)} {ocTold kVTold dcTold pmTold cdTold ctTold : Value}
    {fLetters : Addr} {odLetters anLetters : Option Addr} {slLetters : Array (Option Value)} {ocLetters kVLetters dcLetters pmLetters cdLetters ctLetters : Value}
    {fLSum : Addr} {odLSum anLSum : Option Addr} {slLSum : Array (Option Value)} {ocLSum kVLSum dcLSum pmLSum cdLSum ctLSum : Value}
    {fL cL PT : Addr} {odL anL cdL2 : Option Addr} {slL cslL : Array (Option Value)} {ocL kVL dcL pmL ctL ccL : Value} {vsL : Array Value}
    {C fI cda cc N : Addr} {nm q : Str} {bs bm : List Value} {sn : List Str} {sub : List Value} {ab : Bool} {col : Option Bool} {dd : Option Addr} {k0 k1 k2 k3 k5 : Option Value}
    {odI anI cdd cld : Option Addr} {slI ccs csl : Array (Option Value)} {ocI kVI dcI pmI ctI ccl cl : Value} {vs : Array Value} {file : Str} {tf tLt tBt : Tok}
    (aNum : PySem.W.nsIn K mainGlobals "letter_number" = some (some (.ref fNum))) (lNum : K.lookup fNum = some ⟨ocNum, odNum, .func (PySem.W.fnOf "letter_number" "letter_number" (defArgs sNum) (defBody sNum) (defScope sNum) .none kVNum dcNum pmNum anNum cdNum ctNum), slNum⟩) (cNum : PySem.W.codeIn K cdNum "letter_number" = true) (kNum : PySem.W.keepIn K (.ref fNum) = true)
    (aAt : PySem.W.nsIn K mainGlobals "letter_at" = some (some (.ref fAt))) (lAt : K.lookup fAt = some ⟨ocAt, odAt, .func (PySem.W.fnOf "letter_at" "letter_at" (defArgs sAt) (defBody sAt) (defScope sAt) .none kVAt dcAt pmAt anAt cdAt ctAt), slAt⟩) (cAt : PySem.W.codeIn K cdAt "letter_at" = true) (kAt : PySem.W.keepIn K (.ref fAt) = true)
    (aNums : PySem.W.nsIn K mainGlobals "numbers_of" = some (some (.ref fNums))) (lNums : K.lookup fNums = some ⟨ocNums, odNums, .func (PySem.W.fnOf "numbers_of" "numbers_of" (defArgs sNums) (defBody sNums) (defScope sNums) .none kVNums dcNums pmNums anNums cdNums ctNums), slNums⟩) (cNums : PySem.W.codeIn K cdNums "numbers_of" = true) (kNums : PySem.W.keepIn K (.ref fNums) = true)
    (aText : PySem.W.nsIn K mainGlobals "text_of" = some (some (.ref fText))) (lText : K.lookup fText = some ⟨ocText, odText, .func (PySem.W.fnOf "text_of" "text_of" (defArgs sText) (defBody sText) (defScope sText) .none kVText dcText pmText anText cdText ctText), slText⟩) (cText : PySem.W.codeIn K cdText "text_of" = true) (kText : PySem.W.keepIn K (.ref fText) = true)
    (aCheck : PySem.W.nsIn K mainGlobals "check_text" = some (some (.ref fCheck))) (lCheck : K.lookup fCheck = some ⟨ocCheck, odCheck, .func (PySem.W.fnOf "check_text" "check_text" (defArgs sCheck) (defBody sCheck) (defScope sCheck) .none kVCheck dcCheck pmCheck anCheck cdCheck ctCheck), slCheck⟩) (cCheck : PySem.W.codeIn K cdCheck "check_text" = true) (kCheck : PySem.W.keepIn K (.ref fCheck) = true)
    (aPair : PySem.W.nsIn K mainGlobals "pair" = some (some (.ref fPair))) (lPair : K.lookup fPair = some ⟨ocPair, odPair, .func (PySem.W.fnOf "pair" "pair" (defArgs sPair) (defBody sPair) (defScope sPair) .none kVPair dcPair pmPair anPair cdPair ctPair), slPair⟩) (cPair : PySem.W.codeIn K cdPair "pair" = true) (kPair : PySem.W.keepIn K (.ref fPair) = true)
    (aOfPair : PySem.W.nsIn K mainGlobals "number_of_pair" = some (some (.ref fOfPair))) (lOfPair : K.lookup fOfPair = some ⟨ocOfPair, odOfPair, .func (PySem.W.fnOf "number_of_pair" "number_of_pair" (defArgs sOfPair) (defBody sOfPair) (defScope sOfPair) .none kVOfPair dcOfPair pmOfPair anOfPair cdOfPair ctOfPair), slOfPair⟩) (cOfPair : PySem.W.codeIn K cdOfPair "number_of_pair" = true) (kOfPair : PySem.W.keepIn K (.ref fOfPair) = true)
    (aSum : PySem.W.nsIn K mainGlobals "word_sum" = some (some (.ref fSum))) (lSum : K.lookup fSum = some ⟨ocSum, odSum, .func (PySem.W.fnOf "word_sum" "word_sum" (defArgs sSum) (defBody sSum) (defScope sSum) .none kVSum dcSum pmSum anSum cdSum ctSum), slSum⟩) (cSum : PySem.W.codeIn K cdSum "word_sum" = true) (kSum : PySem.W.keepIn K (.ref fSum) = true)
    (aDice : PySem.W.nsIn K mainGlobals "_law_dice" = some (some (.ref fDice))) (lDice : K.lookup fDice = some ⟨ocDice, odDice, .func (PySem.W.fnOf "_law_dice" "_law_dice" (defArgs sDice) (defBody sDice) (defScope sDice) .none kVDice dcDice pmDice anDice cdDice ctDice), slDice⟩) (cDice : PySem.W.codeIn K cdDice "_law_dice" = true) (kDice : PySem.W.keepIn K (.ref fDice) = true)
    (aRoll : PySem.W.nsIn K mainGlobals "_law_roll" = some (some (.ref fRoll))) (lRoll : K.lookup fRoll = some ⟨ocRoll, odRoll, .func (PySem.W.fnOf "_law_roll" "_law_roll" (defArgs sRoll) (defBody sRoll) (defScope sRoll) .none kVRoll dcRoll pmRoll anRoll cdRoll ctRoll), slRoll⟩) (cRoll : PySem.W.codeIn K cdRoll "_law_roll" = true) (kRoll : PySem.W.keepIn K (.ref fRoll) = true)
    (aRounds : PySem.W.nsIn K mainGlobals "_law_rounds" = some (some (.ref fRounds))) (lRounds : K.lookup fRounds = some ⟨ocRounds, odRounds, .func (PySem.W.fnOf "_law_rounds" "_law_rounds" (defArgs sRounds) (defBody sRounds) (defScope sRounds) .none kVRounds dcRounds pmRounds anRounds cdRounds ctRounds), slRounds⟩) (cRounds : PySem.W.codeIn K cdRounds "_law_rounds" = true) (kRounds : PySem.W.keepIn K (.ref fRounds) = true)
    (aTold : PySem.W.nsIn K mainGlobals "_law_told" = some (some (.ref fTold))) (lTold : K.lookup fTold = some ⟨ocTold, odTold, .func (PySem.W.fnOf "_law_told" "_law_told" (defArgs sTold) (defBody sTold) (defScope sTold) .none kVTold dcTold pmTold anTold cdTold ctTold), slTold⟩) (cTold : PySem.W.codeIn K cdTold "_law_told" = true) (kTold : PySem.W.keepIn K (.ref fTold) = true)
    (aLetters : PySem.W.nsIn K mainGlobals "_law_letters" = some (some (.ref fLetters))) (lLetters : K.lookup fLetters = some ⟨ocLetters, odLetters, .func (PySem.W.fnOf "_law_letters" "_law_letters" (defArgs sLetters) (defBody sLetters) (defScope sLetters) .none kVLetters dcLetters pmLetters anLetters cdLetters ctLetters), slLetters⟩) (cLetters : PySem.W.codeIn K cdLetters "_law_letters" = true) (kLetters : PySem.W.keepIn K (.ref fLetters) = true)
    (aLSum : PySem.W.nsIn K mainGlobals "_law_sum" = some (some (.ref fLSum))) (lLSum : K.lookup fLSum = some ⟨ocLSum, odLSum, .func (PySem.W.fnOf "_law_sum" "_law_sum" (defArgs sLSum) (defBody sLSum) (defScope sLSum) .none kVLSum dcLSum pmLSum anLSum cdLSum ctLSum), slLSum⟩) (cLSum : PySem.W.codeIn K cdLSum "_law_sum" = true) (kLSum : PySem.W.keepIn K (.ref fLSum) = true)
    (aL : PySem.W.nsIn K mainGlobals "law" = some (some (.ref fL))) (lL : K.lookup fL = some ⟨ocL, odL, .func (PySem.W.fnOf "law" "law" (defArgs sLaw) (defBody sLaw) (defScope sLaw) .none kVL dcL pmL anL (.ref cL) ctL), slL⟩) (cL1 : PySem.W.codeIn K (.ref cL) "law" = true)
    (lcL : K.lookup cL = some ⟨ccL, cdL2, .fields vsL, cslL⟩) (vL : vsL[11]? = some (.ref PT)) (nP : K.lookup PT = none)
    (aC : PySem.W.nsIn K mainGlobals "FileError" = some (some (.ref C)))
    (xC : K.lookup C = some (excClassObj nm q C N bs bm true sn sub ab col dd k0 k1 k2 k3 k5 "ValueError.__new__")) (rC : PySem.HandSPX.refsVE bm = true)
    (saC : PySem.W.findIn K (.ref C) "__setattr__" = some (some (.builtin "object.__setattr__"))) (exC : PySem.W.subIn K (.ref C) (.type "BaseException") = some true) (tyC : PySem.W.typeIn K (.ref C) = some (.type "type")) (kC : PySem.W.keepIn K (.ref C) = true)
    (isC : PySem.W.isClsIn K C = true) (ssC : PySem.W.subIn K (.ref C) (.ref C) = some true)
    (iC : PySem.W.findIn K (.ref C) "__init__" = some (some (.ref fI))) (tI : PySem.W.typeIn K (.ref fI) = some (.type "function")) (nW : PySem.W.findIn K (.ref C) "word" = some none)
    (su : PySem.W.ks_superIn K C C "__init__" = some (some (.builtin "ValueError.__init__"))) (opq : PySem.W.nsIn K cStatics "thirdparty.any" = some none) (nsu : PySem.W.nsIn K mainGlobals "super" = some none)
    (sVE : PySem.W.subIn K (.ref C) (.type "ValueError") = some true) (sCC : PySem.W.mroIn K C (.ref C) = some true)
    (lI : K.lookup fI = some ⟨ocI, odI, .func (PySem.W.fnX "__init__" "FileError.__init__" (defArgs sFInit) (defBody sFInit) (defScope sFInit) [("__class__", cc)] .none kVI dcI pmI anI (.ref cda) ctI), slI⟩) (cI : PySem.W.codeIn K (.ref cda) "FileError.__init__" = true)
    (lcd : K.lookup cda = some ⟨ccl, cdd, .fields vs, ccs⟩) (hvs : vs[2]? = some (.str file tf)) (hfile : ((l.prog.main.file : Str) == file) = true) (lcc : K.lookup cc = some ⟨cl, cld, .cell (some (.ref C)), csl⟩)
    (htop : (l.prog.main.scope.names.lookup ("super" : Str)).isSome = false)
    (mL : PySem.W.nsIn K mainGlobals "LETTERS" = some (some (.str (T ls) tLt))) (mB : PySem.W.nsIn K mainGlobals "SUM_BASE" = some (some (.int 65521 tBt)))
    (z1 : PySem.W.nsIn K mainGlobals "len" = some none) (z2 : PySem.W.nsIn K mainGlobals "tuple" = some none) (z3 : PySem.W.nsIn K mainGlobals "int" = some none) (z4 : PySem.W.nsIn K mainGlobals "abs" = some none) (z5 : PySem.W.nsIn K mainGlobals "range" = some none) :
    LamX.LawAtS l w K L2.CX0 8 63 "script" mg fa h := by
  have e := hfa.symm.trans (PySem.W.mg_of X G aL)
  cases e
  obtain ⟨hd, ht⟩ := tabs cL PT (tabIn_of aL lL rfl lcL vL)
  have ox : OexC K C := ⟨⟨nm, q, N, bs, bm, sn, sub, ab, col, dd, k0, k1, k2, k3, k5, xC, rC⟩, saC, exC, tyC, kC⟩
  have fe : FeTxt l.prog K "FileError.__init__" C fI := ⟨ox, iC, tI, nW, su, opq, nsu, sVE, sCC,
    ⟨ocI, kVI, dcI, pmI, ctI, odI, anI, slI, cda, cc, defArgs sFInit, defScope sFInit, _, _, _, _, _, _, _, _, _, _, lI, cI, ⟨ccl, cdd, vs, ccs, file, tf, lcd, hvs, hfile⟩, ⟨cl, cld, csl, lcc⟩, ⟨_, rfl, rfl⟩,
      fun us hl => (match us, hl with | [_, _], _ => rfl), rfl, rfl, rfl, rfl, rfl, rfl, rfl, by decide +kernel, rfl⟩, htop⟩
  have tx : Txt l.prog K mg C fI := ⟨fe, PySem.W.mg_of X G aC, ⟨_, PySem.W.mg_of X G mL⟩, ⟨_, PySem.W.mg_of X G mB⟩, PySem.W.mg_none_of X G z1, PySem.W.mg_none_of X G z2⟩
  have mI := PySem.W.mg_none_of X G z3
  have mA := PySem.W.mg_none_of X G z4
  have GNum := fun_mk (st := sNum) lNum cNum kNum
  have mNum := PySem.W.mg_of X G aNum
  have GAt := fun_mk (st := sAt) lAt cAt kAt
  have mAt := PySem.W.mg_of X G aAt
  have GNums := fun_mk (st := sNums) lNums cNums kNums
  have mNums := PySem.W.mg_of X G aNums
  have GText := fun_mk (st := sText) lText cText kText
  have mText := PySem.W.mg_of X G aText
  have GCheck := fun_mk (st := sCheck) lCheck cCheck kCheck
  have mCheck := PySem.W.mg_of X G aCheck
  have GPair := fun_mk (st := sPair) lPair cPair kPair
  have mPair := PySem.W.mg_of X G aPair
  have GOfPair := fun_mk (st := sOfPair) lOfPair cOfPair kOfPair
  have mOfPair := PySem.W.mg_of X G aOfPair
  have GSum := fun_mk (st := sSum) lSum cSum kSum
  have mSum := PySem.W.mg_of X G aSum
  have GDice := fun_mk (st := sDice) lDice cDice kDice
  have mDice := PySem.W.mg_of X G aDice
  have GRoll := fun_mk (st := sRoll) lRoll cRoll kRoll
  have mRoll := PySem.W.mg_of X G aRoll
  have GRounds := fun_mk (st := sRounds) lRounds cRounds kRounds
  have mRounds := PySem.W.mg_of X G aRounds
  have GTold := fun_mk (st := sTold) lTold cTold kTold
  have mTold := PySem.W.mg_of X G aTold
  have GLetters := fun_mk (st := sLetters) lLetters cLetters kLetters
  have mLetters := PySem.W.mg_of X G aLetters
  have GLSum := fun_mk (st := sLSum) lLSum cLSum kLSum
  have mLSum := PySem.W.mg_of X G aLSum
  have bNum := GNum.binds (ps := ["letter"]) fun _ _ _ _ _ _ us hl => match us, hl with | [_], _ => rfl
  have bAt := GAt.binds (ps := ["number"]) fun _ _ _ _ _ _ us hl => match us, hl with | [_], _ => rfl
  have bNums := GNums.binds (ps := ["text"]) fun _ _ _ _ _ _ us hl => match us, hl with | [_], _ => rfl
  have bText := GText.binds (ps := ["numbers"]) fun _ _ _ _ _ _ us hl => match us, hl with | [_], _ => rfl
  have bCheck := GCheck.binds (ps := ["text"]) fun _ _ _ _ _ _ us hl => match us, hl with | [_], _ => rfl
  have bPair := GPair.binds (ps := ["number"]) fun _ _ _ _ _ _ us hl => match us, hl with | [_], _ => rfl
  have bOfPair := GOfPair.binds (ps := ["data", "place"]) fun _ _ _ _ _ _ us hl => match us, hl with | [_, _], _ => rfl
  have bSum := GSum.binds (ps := ["numbers"]) fun _ _ _ _ _ _ us hl => match us, hl with | [_], _ => rfl
  have bDice := GDice.binds (ps := ["cell"]) fun _ _ _ _ _ _ us hl => match us, hl with | [_], _ => rfl
  have bRoll := GRoll.binds (ps := ["dice", "many"]) fun _ _ _ _ _ _ us hl => match us, hl with | [_, _], _ => rfl
  have bRounds := GRounds.binds (ps := ["script", "most"]) fun _ _ _ _ _ _ us hl => match us, hl with | [_, _], _ => rfl
  have bLetters := GLetters.binds (ps := []) fun _ _ _ _ _ _ us hl => match us, hl with | [], _ => rfl
  have bLSum := GLSum.binds (ps := ["numbers"]) fun _ _ _ _ _ _ us hl => match us, hl with | [_], _ => rfl
  have bits : ∀ base : Heap, LTxt l.prog w K mg base C fTold := fun base => by
    have oNum := ok_num (P := l.prog) (w := w) (base := base) GNum tx
    have oAt := ok_at (P := l.prog) (w := w) (base := base) GAt tx
    have oNums := ok_nums (P := l.prog) (w := w) (base := base) GNums tx oNum mNum kNum bNum
    have oText := ok_text (P := l.prog) (w := w) (base := base) GText oAt mAt kAt bAt
    have oCheck := ok_check (P := l.prog) (w := w) (base := base) GCheck oNums mNums kNums bNums
    have oPair := ok_pair (P := l.prog) (w := w) (mg := mg) (base := base) GPair
    have oOfPair := ok_ofpair (P := l.prog) (w := w) (mg := mg) (base := base) GOfPair
    have oSum := ok_sum (P := l.prog) (w := w) (base := base) GSum tx oPair mPair kPair bPair
    have oDice := ok_dice (P := l.prog) (w := w) (mg := mg) (base := base) GDice mA mI
    have oRoll := ok_roll (P := l.prog) (w := w) (mg := mg) (base := base) GRoll mI
    have oRounds := ok_rounds (P := l.prog) (w := w) (mg := mg) (base := base) GRounds oDice mDice kDice bDice
    have oLetters := ok_letters (P := l.prog) (w := w) (mg := mg) (base := base) GLetters
    have oLSum := ok_lsum (P := l.prog) (w := w) (mg := mg) (base := base) GLSum mI
    exact ⟨⟨mTold, kTold, ⟨_, _, _, _, _, _, _, _, _, lTold, cTold⟩, PySem.W.mg_of X G aC⟩, exm_same exC isC tyC ssC, PySem.W.mg_none_of X G z5, PySem.W.mg_none_of X G z2, PySem.W.mg_none_of X G z1,
      ⟨_, _, oLetters, mLetters, kLetters, bLetters⟩, ⟨_, _, oRounds, mRounds, kRounds, bRounds⟩, ⟨_, _, oRoll, mRoll, kRoll, bRoll⟩, ⟨_, _, oLSum, mLSum, kLSum, bLSum⟩, ⟨_, _, oNums, mNums, kNums, bNums⟩, ⟨_, _, oText, mText, kText, bText⟩,
      ⟨_, _, oCheck, mCheck, kCheck, bCheck⟩, ⟨_, _, oPair, mPair, kPair, bPair⟩, ⟨_, _, oOfPair, mOfPair, kOfPair, bOfPair⟩, ⟨_, _, oAt, mAt, kAt, bAt⟩, ⟨_, _, oNum, mNum, kNum, bNum⟩, ⟨_, _, oSum, mSum, kSum, bSum⟩⟩
  refine ⟨_, [(cL, PT)], spLaw K PT, fun p hp => ?_, fun p hp => ?_, fun p hp => ?_, fun s u => .of_eq rfl, fun H a ns _ _ hH hS => ⟨a, ns, rfl, hS, fun p hp => ?_, fun _ => rfl⟩, fun base _ _ TB => ok_law lL cL1 (TB _ List.mem_cons_self) (bits base)⟩
  · rw [List.mem_singleton.mp hp]
    exact ht
  · rw [List.mem_singleton.mp hp]
    exact nP
  · rw [List.mem_singleton.mp hp]
    exact hd
  · rw [List.mem_singleton.mp hp]
    exact LamX.TabS.nil (hH _ List.mem_cons_self)
end K01
open PySem PySem.W PyProof.Rows
set_option maxRecDepth 100000 in
set_option maxHeartbeats 0 in
theorem PySem.Challenge.cw_hoststack_k01_texts_as_numbers_holds : PySem.Challenge.rw_hoststack_k01_texts_as_numbers.Holds := by
  w_on; o_law; k_head; (case hw => w_witness2)
  k_fill
  refine HK.walk_TT (l := PySem.Challenge.rw_hoststack_k01_texts_as_numbers) (n := 63) (k := 8) (x := "script") (CX := fun _ => L2.CX0) rfl (by decide) rfl ⟨rfl, by decide, by decide⟩ (fun w h Y => PySem.W.km_in_of Y) (by rfl) ?F (fun _ _ _ _ _ z => z)
  case F =>
    intro w mg fa h tabs KX G hmg
    refine' K01.all_mk KX G hmg tabs ?aNum ?lNum ?cNum ?kNum ?aAt ?lAt ?cAt ?kAt ?aNums ?lNums ?cNums ?kNums ?aText ?lText ?cText ?kText ?aCheck ?lCheck ?cCheck ?kCheck ?aPair ?lPair ?cPair ?kPair ?aOfPair ?lOfPair ?cOfPair ?kOfPair ?aSum ?lSum ?cSum ?kSum ?aDice ?lDice ?cDice ?kDice ?aRoll ?lRoll ?cRoll ?kRoll ?aRounds ?lRounds ?cRounds ?kRounds ?aTold ?lTold ?cTold ?kTold ?aLetters ?lLetters ?cLetters ?kLetters ?aLSum ?lLSum ?cLSum ?kLSum ?aL ?lL ?cL1 ?lcL ?vL ?nP ?aC ?xC ?rC ?saC ?exC ?tyC ?kC ?isC ?ssC ?iC ?tI ?nW ?su ?opq ?nsu ?sVE ?sCC ?lI ?cI ?lcd ?hvs ?hfile ?lcc ?htop ?mL ?mB ?z1 ?z2 ?z3 ?z4 ?z5
    (case aNum => k_is)
    (case lNum => k_is)
    (case cNum => k_is)
    (case kNum => k_is)
    (case aAt => k_is)
    (case lAt => k_is)
    (case cAt => k_is)
    (case kAt => k_is)
    (case aNums => k_is)
    (case lNums => k_is)
    (case cNums => k_is)
    (case kNums => k_is)
    (case aText => k_is)
    (case lText => k_is)
    (case cText => k_is)
    (case kText => k_is)
    (case aCheck => k_is)
    (case lCheck => k_is)
    (case cCheck => k_is)
    (case kCheck => k_is)
    (case aPair => k_is)
    (case lPair => k_is)
    (case cPair => k_is)
    (case kPair => k_is)
    (case aOfPair => k_is)
    (case lOfPair => k_is)
    (case cOfPair => k_is)
    (case kOfPair => k_is)
    (case aSum => k_is)
    (case lSum => k_is)
    (case cSum => k_is)
    (case kSum => k_is)
    (case aDice => k_is)
    (case lDice => k_is)
    (case cDice => k_is)
    (case kDice => k_is)
    (case aRoll => k_is)
    (case lRoll => k_is)
    (case cRoll => k_is)
    (case kRoll => k_is)
    (case aRounds => k_is)
    (case lRounds => k_is)
    (case cRounds => k_is)
    (case kRounds => k_is)
    (case aTold => k_is)
    (case lTold => k_is)
    (case cTold => k_is)
    (case kTold => k_is)
    (case aLetters => k_is)
    (case lLetters => k_is)
    (case cLetters => k_is)
    (case kLetters => k_is)
    (case aLSum => k_is)
    (case lLSum => k_is)
    (case cLSum => k_is)
    (case kLSum => k_is)
    (case aL => k_is)
    (case lL => k_is)
    (case cL1 => k_is)
    (case lcL => k_is)
    (case vL => rfl)
    (case nP => kernel_rfl)
    (case aC => k_is)
    (case xC => k_is)
    (case rC => decide +kernel)
    (case saC => k_is)
    (case exC => k_is)
    (case tyC => k_is)
    (case kC => k_is)
    (case isC => k_is)
    (case ssC => first | rfl | k_is)
    (case iC => k_is)
    (case tI => k_is)
    (case nW => k_is)
    (case su => ks_is)
    (case opq => k_is)
    (case nsu => k_is)
    (case sVE => k_is)
    (case sCC => k_is)
    (case lI => k_is)
    (case cI => k_is)
    (case lcd => k_is)
    (case hvs => rfl)
    (case hfile => first | rfl | decide +kernel)
    (case lcc => k_is)
    (case htop => first | rfl | decide +kernel)
    (case mL => k_is)
    (case mB => k_is)
    (case z1 => k_is)
    (case z2 => k_is)
    (case z3 => k_is)
    (case z4 => k_is)
    (case z5 => k_is)
