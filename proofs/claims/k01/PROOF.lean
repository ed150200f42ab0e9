import PyProof.Rows.All
import Wide.All
import OpenK.AllK
import Wide.FinOn
import KE.KExcSuper
import HandS.ForExc
import HandS.ExcSuper
import HandS.ExcInit
import HandS.Nested
import HandS.ExcField
import HandS.ExcIs
import HandS.IsInst
import KE.KExcIs
import HandS.ForMost
import HandS.NoneIn
import PySem.Challenge.RW_risingknobs_k01_errors_by_class
set_option Elab.async false
set_option linter.all false
set_option maxRecDepth 100000
set_option maxHeartbeats 4000000
/-! own exceptions whose __init__ opens with super().__init__('..') -/
namespace SX
open PySem PySem.W PySem.Calls PyProof.Rows

section
variable {prog : Program} {w : World} {A : Around} {E : Value → Shared → Prop} {h : Heap} {g : Array GenState} {d : Drawn} {t : Nat} {os : OsState}
variable {nm q : Str} {C N : Addr} {bs bm : List Value} {hdct : Bool} {sn : List Str} {sub : List Value} {ab : Bool} {col : Option Bool} {dd : Option Addr} {k0 k1 k2 k3 k5 : Option Value}

/-- the bound ValueError.__init__ called -/
theorem mw_call {u e t0 : Addr} {args : List Value} {Q : Value → Shared → Prop}
    (hC : h.get? C = some (excClassObj nm q C N bs bm hdct sn sub ab col dd k0 k1 k2 k3 k5 "ValueError.__new__"))
    (he : h.get? e = some (HandSPX.excO C t0)) (hu : h.get? u = some (kxs_mw "ValueError.__init__" e)) (hl : args.length ≤ sizeLine)
    (done : ∀ h1 t1, (∀ b o, b ≠ e → h.get? b = some o → h1.get? b = some o) → h1.get? e = some (HandSPX.excO C t1) → Q .none ⟨h1, g, d, t, os⟩) :
    wpAny (model prog w) A (call (.ref u) args) Q E ⟨h, g, d, t, os⟩ := by
  refine wpAny_call (codeAny_of_tree ?_)
  show wpAny (model prog w) A.in1 (callAny (.ref u) ⟨args, []⟩) _ _ _
  simp only [callAny]
  refine wpAny_bind (wpAny_load hu ?_)
  have d1 : (Value.type "method-wrapper" == Value.type "method" || Value.type "method-wrapper" == Value.type "builtin_function_or_method" || Value.type "method-wrapper" == Value.type "method-wrapper") = true := by decide
  simp only [kxs_mw, d1, if_true]
  refine W.KFB.if_so (by decide) (wpAny_bind ?_)
  refine ESX.check_bound F.excBase_ValueError hC he rfl (wpAny_bind (wpAny_pure ?_))
  refine wpAny_pure ?_
  refine ⟨plainId_quiet F.excBase_ValueError.init.plain _, ?_⟩
  refine codeAny_builtin F.excBase_ValueError.initEntry ?_
  refine exc_init_tree (cls := .ref C) (t0 := t0) (dv := none) (c2 := .none) (c3 := .none) (b4 := .bool false) he hl ?_
  intro h1 keep at1 _
  exact done h1 _ keep at1

/-- the whole of super().__init__('..') in the frame of the class's own __init__ -/
theorem super_init {pl : Sem Bool} {body : List Stmt} {env : Env} {p0 p1 p2 p3 pos : Pos} {txt : Str} {j : Nat} {Q : Value → Shared → Prop} {K : Frag} {fI x cda cc : Addr} {fd : FuncData} {ar : Arg} {vs : Array Value} {file : Str} {tf : Tok}
    {o1 : Obj} {ccl cl : Value} {cdd cld : Option Addr} {ccs csl : Array (Option Value)} {cd : ClassData} {t0 : Addr} {mg mb m : Str → Option Value}
    (X : K.In h) (hf : K.lookup fI = some o1) (hfd : o1.data = .func fd) (hp : (fd.params.posonlyargs ++ fd.params.args).head? = some ar)
    (hcode : K.lookup cda = some ⟨ccl, cdd, .fields vs, ccs⟩) (hvs : vs[2]? = some (.str file tf)) (hfile : ((prog.main.file : Str) == file) = true)
    (hcell : K.lookup cc = some ⟨cl, cld, .cell (some (.ref C)), csl⟩) (hcd : clsIn K C = some cd) (hsub : mroIn K C (.ref C) = some true)
    (hso : ks_superIn K C C "__init__" = some (some (.builtin "ValueError.__init__"))) (hVE : subIn K (.ref C) (.type "ValueError") = some true) (hop : nsIn K cStatics "thirdparty.any" = some none)
    (hlk : K.lookup C = some (excClassObj nm q C N bs bm hdct sn sub ab col dd k0 k1 k2 k3 k5 "ValueError.__new__"))
    (efu : env.func = some fI) (eco : env.code = .ref cda) (ek : env.scope.kind = .function) (ecl : env.cells.lookup ("__class__" : Str) = some cc)
    (hks : env.kindOf "super" = some .globalImplicit) (hkc : env.kindOf "__class__" = some .free) (hka : env.kindOf ar.arg = some .local)
    (eg : h.Ns env.globals mg) (hmg : mg "super" = none) (eb : h.Ns env.builtins mb) (hmb : mb "super" = some (.type "super")) (el : h.Ns env.locals m) (hself : m ar.arg = some (.ref x))
    (htop : (prog.main.scope.names.lookup ("super" : Str)).isSome = false)
    (hx : h.get? x = some (HandSPX.excO C t0))
    (done : ∀ h1 t1 tk, (∀ b o, b ≠ x → h.get? b = some o → h1.get? b = some o) → h1.get? x = some (HandSPX.excO C t1) → Q .none ⟨h1, g, d, tk, os⟩)
    (he : eval (.Call (.Attribute (.Call (.Name "super" p0) [] [] p1) "__init__" p2) [.Constant (.str txt) j p3] [] pos) env = (do
      let ov ← attributeBase (.Call (.Name "super" p0) [] [] p1) "__init__" env (eval (.Call (.Name "super" p0) [] [] p1) env)
      standAt p2.atName
      let (f, first) ← holding [ov] (getMethod ov "__init__" pl)
      callWith pos f first (backTo pos (starEach [.Constant (.str txt) j p3] env)) []) := by rfl) :
    _root_.PySem.wpAt (model prog w) A (.func body env) (eval (.Call (.Attribute (.Call (.Name "super" p0) [] [] p1) "__init__" p2) [.Constant (.str txt) j p3] [] pos) env) Q E ⟨h, g, d, t, os⟩ := by
  have I : InstAt h x (HandSPX.excO C t0) C none := ⟨hx, rfl, rfl, trivial⟩
  obtain ⟨oD, hD1, hD2⟩ : ∃ oD, h.get? C = some oD ∧ oD.data = .cls cd := by
    unfold clsIn at hcd
    split at hcd
    · rename_i c' d' cd' sl ho
      cases hcd
      exact ⟨_, X _ _ ho, rfl⟩
    · cases hcd
  have hm : alongIn K "__init__" ((cd.mro.dropWhile (· != .ref C)).drop 1) = some (some (.builtin "ValueError.__init__")) := by
    unfold ks_superIn at hso
    rw [hcd] at hso
    exact hso
  refine ks_wpAt_MethodCall (pl := pl) ?_ he
  refine ks_wpAt_super_base (env := env) hks hkc (by decide) efu (X _ _ hf) hfd hp eco (X _ _ hcode) rfl hvs hfile htop ?_
  refine ks_loadName_global ek hks (loadGlobal_builtin eg hmg eb hmb ⟨rfl, ?_⟩)
  refine wpAny_loadName_free ek hkc ecl ⟨_, X _ _ hcell, rfl⟩ ?_
  refine wpAny_loadName_local ek hka el hself ?_
  refine ks_wpAny_isType_cls hD1 hD2 ⟨rfl, ?_⟩
  refine ks_wpAny_call_super hD1 hD2 hx rfl (fun c e => by cases e) (looks_mroIn X hsub) (fun h2 e2 k2 => ?_)
  have X2 : K.In h2 := X.keeps k2
  have hx2 := k2 _ _ hx
  have I2 : InstAt h2 x (HandSPX.excO C t0) C none := ⟨hx2, rfl, rfl, trivial⟩
  refine kxs_getMethod kxs_ValueError e2 (looks_opaque X2 hop) (l₀ := cd.mro) (fun A Q E s k q => wpAny_bind ((looks_clsIn X2 hcd) A _ E s k (wpAny_pure q))) rfl X2 hm (I2.type.andThen (looks_subIn X2 hVE)) (ks_ne X2 I2 hcd) (by decide) ?_
  have hu : (h2.push (kxs_mw "ValueError.__init__" x)).get? h2.objs.size = some (kxs_mw "ValueError.__init__" x) := Heap.get?_push_at rfl rfl
  show wpAny _ _ (callWith pos (Value.ref h2.objs.size) [] ((false, eval (.Constant (.str txt) j p3) env) :: []) []) _ _ _
  refine kxs_callWith (i := "ValueError.__init__") (x := x) rfl (evalArgs_plain (Calls.spliced_cons (Calls.Constant_str (Calls.spliced_nil ⟨hu, ?_⟩))))
  refine mw_call (Heap.get?_push_of_some _ (X2 _ _ hlk)) (Heap.get?_push_of_some _ hx2) hu (by show 1 ≤ sizeLine; rw [sizeLine_eq]; omega) fun h3 t3 k3 at3 => ?_
  exact done h3 t3 _ (fun b o hb e => k3 b o hb (Heap.get?_push_of_some _ (k2 b o e))) at3
end
end SX

set_option Elab.async false
set_option linter.all false
set_option maxRecDepth 100000
set_option maxHeartbeats 4000000
namespace SX
open PySem PySem.Spec PyProof.Rows L2 NdefX

/-- what the written part says of an error class at C, its __init__ at fI, its cell at cc, the code object at c -/
structure ErrTxt (P : Program) (K : PySem.W.Frag) (mg : Str → Option Value) (C cc c : Addr) : Prop where
  ox : OexC K C
  cell : ∃ cl cld csl, K.lookup cc = some ⟨cl, cld, .cell (some (.ref C)), csl⟩
  code : ∃ (ccl : Value) (cdd : Option Addr) (vs : Array Value) (ccs : Array (Option Value)) (file : Str) (tf : Tok), K.lookup c = some ⟨ccl, cdd, .fields vs, ccs⟩ ∧ vs[2]? = some (.str file tf) ∧ ((P.main.file : Str) == file) = true
  cls : ∃ cd, PySem.W.clsIn K C = some cd
  sub : PySem.W.mroIn K C (.ref C) = some true
  sup : PySem.W.ks_superIn K C C "__init__" = some (some (.builtin "ValueError.__init__"))
  ve : PySem.W.subIn K (.ref C) (.type "ValueError") = some true
  op : PySem.W.nsIn K cStatics "thirdparty.any" = some none
  mgs : mg "super" = none
  top : (P.main.scope.names.lookup ("super" : Str)).isSome = false

section
variable {CX : CXT} {P : Program} {w : World} {K : PySem.W.Frag} {mg : Str → Option Value} {base : Heap} {N ps : List Str} {fI C cc c : Addr} {k : Nat} {sp : Sp}
  {qual : Str} {params : Arguments} {rest : List Stmt} {scope : Scope} {dV kV doc pm ct oc : Value} {an od : Option Addr} {osl : Array (Option Value)} {q0 q1 q2 q3 q4 q5 : Pos} {txt : Str} {jt : Nat}

abbrev supS (txt : Str) (jt : Nat) (q0 q1 q2 q3 q4 q5 : Pos) : Stmt := .Expr (.Call (.Attribute (.Call (.Name "super" q0) [] [] q1) "__init__" q2) [.Constant (.str txt) jt q3] [] q4) q5
abbrev nfI (qual : Str) (params : Arguments) (body : List Stmt) (scope : Scope) (cc c : Addr) : NF := ⟨"__init__", qual, params, body, scope, [("__class__", cc)], c⟩

theorem init_of {pl : Env → Sem Bool} (T : ErrTxt P K mg C cc c)
    (lk : K.lookup fI = some ⟨oc, od, .func (PySem.W.fnX "__init__" qual params (supS txt jt q0 q1 q2 q3 q4 q5 :: rest) scope [("__class__", cc)] dV kV doc pm an (.ref c) ct), osl⟩)
    (hcd : PySem.W.codeIn K (.ref c) qual = true) (S : NScope N ps ["__class__"] scope) (hs0 : ps[0]? = some ("self" : Str)) (hpar : ∃ ar : Arg, (params.posonlyargs ++ params.args).head? = some ar ∧ ar.arg = ("self" : Str))
    (hks : scope.names.lookup ("super" : Str) = some .globalImplicit)
    (he : ∀ env : Env, eval (.Call (.Attribute (.Call (.Name "super" q0) [] [] q1) "__init__" q2) [.Constant (.str txt) jt q3] [] q4) env = (do
      let ov ← attributeBase (.Call (.Name "super" q0) [] [] q1) "__init__" env (eval (.Call (.Name "super" q0) [] [] q1) env)
      standAt q2.atName
      let (f, first) ← holding [ov] (getMethod ov "__init__" (pl env))
      callWith q4 f first (backTo q4 (starEach [.Constant (.str txt) jt q3] env)) []))
    (len : ∀ vs H Q E, sp vs H Q E → vs.length = ps.length)
    (hbody : ∀ (A : Around) (outer : List Env) (s : Shared) (H : Hp) (vs : List V) (Q : VK) (E : XK), Room k (A.deeper (envF (nfI qual params (supS txt jt q0 q1 q2 q3 q4 q5 :: rest) scope cc c) fI s.heap.objs.size)) → sp vs H Q E →
      ∃ a t, vs[0]? = some (.ref a) ∧ H a = some (exo a C none) ∧ PSs (ncx CX P w K mg base N (nfI qual params (supS txt jt q0 q1 q2 q3 q4 q5 :: rest) scope cc c) fI A outer s H E) rest t ∧
        t { nx := fun _ H' => Q .non H', rt := Q } (startF N vs [none]) H) :
    FnOk P w K mg base CX (k + 1) fI (PySem.W.fnX "__init__" qual params (supS txt jt q0 q1 q2 q3 q4 q5 :: rest) scope [("__class__", cc)] dV kV doc pm an (.ref c) ct) ps sp := by
  refine ⟨len, fun A outer s H args us vs Q E hr e0 hb r hsp => ?_⟩
  have hl := len _ _ _ _ hsp
  have KX : K.In s.heap := e0.mod.kin.keeps fun b o e => (e0.bs b o e).1
  have lim : s.heap.NoLimit := e0.mod.nolimit.keeps fun b o e => (e0.bs b o e).1
  obtain ⟨cl, cld, csl, hcell⟩ := T.cell
  obtain ⟨ccl, cdd, cvs, ccs, file, tf, hcode, hvs, hfile⟩ := T.code
  obtain ⟨cd, hcls⟩ := T.cls
  obtain ⟨ar, har, hself⟩ := hpar
  obtain ⟨nm, q, Nn, bs, bm, sn, sub, ab, col, dd, k0, k1, k2, k3, k5, hC, hbm⟩ := T.ox.cls
  refine codeAny_call_function hr.depth (KX _ _ lk) rfl S.co S.gen rfl (PySem.W.codeRec_of KX hcd) (hb _ _ _ _ ?_)
  refine wpAny_newFunctionEnv S.nocell (fun ⟨n, _⟩ hy => S.par n (List.of_mem_zip hy).1) (fun h1 hns hsb => ⟨lim.fresh _ hsb, ?_⟩) S.kind
  obtain ⟨a, t, ha, hH, ht, hq⟩ := hbody A outer s H vs Q E (hr.deeper _) hsp
  have kp : ∀ b o, s.heap.get? b = some o → h1.get? b = some o := fun b o e => hsb.extBut b o (Nat.ne_of_lt (Heap.lt_size e)) (Heap.get?_push_of_some _ e)
  have C0 : CellsAt [("__class__", cc)] ["__class__"] [none] s.heap H := by
    refine ⟨rfl, fun y c e => ?_, fun x y c e1 e2 => ?_, fun i y e => ?_⟩
    · have z : c = cc := by
        simp only [List.lookup] at e
        split at e
        · exact (Option.some.inj e).symm
        · cases e
      subst z
      exact ⟨(e0.bs _ _ (e0.mod.kin _ _ hcell)).2, _, _, KX _ _ hcell, rfl⟩
    · have z : ∀ y : Str, List.lookup y [(("__class__" : Str), cc)] = some c → y = "__class__" := fun y e => by
        simp only [List.lookup] at e
        split at e
        · rename_i z
          exact eq_of_beq z
        · cases e
      rw [z x e1, z y e2]
    · cases i with
      | zero =>
        cases e
        exact ⟨cc, by simp [List.lookup], fun v z => by cases z⟩
      | succ i => cases e
  have I : Inv (ncx CX P w K mg base N (nfI qual params (supS txt jt q0 q1 q2 q3 q4 q5 :: rest) scope cc c) fI A outer s H E) [] (startF N vs [none]) H { s with heap := h1, toks := s.toks + (ps.zip us).length } := inv_startN S hr.hd e0 hl r C0 hns kp
  obtain ⟨t1, hx⟩ := exo_at I.hok hH
  obtain ⟨mb, hb1, hb2⟩ := I.mod.blt
  have hu0 : us[0]? = some (.ref a) := by
    obtain ⟨u, e, rv⟩ := r.get ha
    rw [e]
    obtain rfl : u = Value.ref a := rv
    rfl
  have hlook : (ps.zip us).reverse.lookup ("self" : Str) = some (.ref a) := zip_look (by
    have q : (N.take (ps.length + ([("__class__" : Str)]).length)).Nodup := S.nd.sublist (List.take_sublist _ N)
    rw [S.pre] at q
    exact (List.nodup_append.mp q).1) hs0 hu0
  refine ks_codeAny_funcAt ?_
  refine ks_wpAt_execs_cons (ks_wpAt_Expr_any ?_ I.quiet rfl)
  obtain ⟨hp, g, d, tk, os⟩ := s
  refine super_init (K := K) (fI := fI) (x := a) (cda := c) (cc := cc) (C := C) (ar := ar) (t0 := t1) (mg := mg) (mb := mb) I.kIn lk rfl har hcode hvs hfile hcell hcls T.sub T.sup T.ve T.op hC rfl rfl S.kind rfl hks
    (S.frk _ (List.mem_cons_self)) (by rw [hself]; exact S.par _ (List.mem_of_getElem? hs0)) (I.mod.glob.keeps I.bk) T.mgs (hb1.keeps I.bk) ((hb2 _ (by decide)).trans (by decide +kernel)) hns (by rw [hself]; exact hlook) T.top hx (fun h2 t2 tk2 k2 at2 => ?_) (he _)
  have J0 := I.write (t' := tk2) (x := a) (e := a) (o := exo a C none) (by rw [hH]; exact True.intro) (.inl rfl) k2 ⟨_, at2⟩ (exo_ok at2)
  have eu : upd H a (exo a C none) = H := by
    funext b
    by_cases hb : b = a
    · rw [hb, upd_same, hH]
    · rw [upd_ne hb]
  rw [eu] at J0
  refine wpAt_of_wpAny (wpAny_mono (ht.run [] _ (startF N vs [none]) H _ J0 hq) (fun fl s' hs => ?_) fun e s' hs => hs)
  have fin : ∀ {σ' : L2.St} {H' : Hp} {v : V} {u : Value}, Inv (ncx CX P w K mg base N (nfI qual params (supS txt jt q0 q1 q2 q3 q4 q5 :: rest) scope cc c) fI A outer ⟨hp, g, d, tk, os⟩ H E) [] σ' H' s' → L2.RelV v u → Q v H' → CE outer P w H ⟨hp, g, d, tk, os⟩ Q u s' :=
    fun {σ' H' v u} J rv q => ⟨v, H', J.os, J.bare, J.base, J.hok, rv, q⟩
  cases fl with
  | ret u =>
    obtain ⟨v, σ', H', J, rv, q⟩ := hs
    exact fin J rv q
  | next =>
    obtain ⟨σ', H', J, q⟩ := hs
    exact fin (v := V.non) (u := Value.none) J rfl q
  | brk =>
    obtain ⟨_, _, _, q⟩ := hs
    exact False.elim q
  | cont =>
    obtain ⟨_, _, _, q⟩ := hs
    exact False.elim q
end
end SX

set_option Elab.async false
set_option linter.all false
set_option maxRecDepth 100000
set_option maxHeartbeats 4000000
namespace SX
open PySem PySem.Spec PyProof.Rows L2 NdefX

/-- an own exception made and kept: its own __init__ keeps sp -/
def tMkE (C : Addr) (sp : Sp) (dvs : List V) (ta : TA) : TE := fun σ H Q => ta σ H fun vs H1 => vs.length ≤ 1000 ∧ ∀ a, H1 a = none →
  sp (.ref a :: (vs ++ dvs)) (upd H1 a (exo a C none)) (fun v H2 => v = .non ∧ Q (.ref a) H2) (fun _ _ _ => False)

section
variable {X : Cx} {e : Expr} {es : List Expr} {ta : TA} {p pos : Pos}
theorem run_mkE {CX : CXT} {C fI : Addr} {k : Nat} {fd : FuncData} {ps : List Str} {sp : Sp} {ds : List Value} {dvs : List V} {pins : List (Addr × Obj)} {σ : L2.St} {H1 : Hp} {s1 : Shared} {Q : VK} {us : List Value} {vs : List V}
    (T : OexC X.K C) (iC : PySem.W.findIn X.K (.ref C) "__init__" = some (some (.ref fI))) (tI : PySem.W.typeIn X.K (.ref fI) = some (.type "function"))
    (F1 : FnOk X.prog X.w X.K X.mg X.base CX k fI fd ps sp) (hr : Room (k + 1) X.A) (hb : Binds X.K fd ps ds) (hd : Vals dvs ds) (hx : Passes CX X (fun _ _ _ => False))
    (I1 : Inv X pins σ H1 s1) (r1 : Vals vs us) (hz : vs.length ≤ 1000)
    (q1 : ∀ a, H1 a = none → sp (.ref a :: (vs ++ dvs)) (upd H1 a (exo a C none)) (fun v H2 => v = .non ∧ Q (.ref a) H2) (fun _ _ _ => False)) :
    wpAny (model X.prog X.w) X.A (call (.ref C) us) (EP X pins σ Q) X.xe s1 := by
  obtain ⟨nm, q, N, bs, bm, sn, sub, ab, col, dd, k0, k1, k2, k3, k5, hC, hbm⟩ := T.cls
  obtain ⟨hp, g, dr, tk, os⟩ := s1
  have hsz : hp.objs.size ≤ hp.objs.size + 1 := Nat.le_succ _
  have hn : H1 (hp.objs.size + 1) = none := I1.hok.fresh hsz
  have hq := q1 (hp.objs.size + 1) hn
  have keep : ∀ b o, hp.get? b = some o → ((hp.push (PySem.W.kdv_tup us)).push (PySem.HandSPX.excO C hp.objs.size)).get? b = some o := fun b o e =>
    Heap.get?_push_of_some _ (Heap.get?_push_of_some _ e)
  have hat : ((hp.push (PySem.W.kdv_tup us)).push (PySem.HandSPX.excO C hp.objs.size)).get? (hp.objs.size + 1) = some (PySem.HandSPX.excO C hp.objs.size) := by heap_get
  have I2 := I1.laid (t' := tk) (a := hp.objs.size + 1) (o := exo (hp.objs.size + 1) C none) (h' := (hp.push (PySem.W.kdv_tup us)).push (PySem.HandSPX.excO C hp.objs.size)) keep hsz (exo_ok hat)
  have r2 : Vals (V.ref (hp.objs.size + 1) :: (vs ++ dvs)) (Value.ref (hp.objs.size + 1) :: (us ++ ds)) := .cons rfl (r1.append hd)
  have hl : (Value.ref (hp.objs.size + 1) :: us ++ ds).length = ps.length := by
    have e := r2.length
    rw [F1.len _ _ _ _ hq] at e
    exact e.symm
  have hus : us.length ≤ sizeLine := by
    rw [← Paired.length r1, sizeLine_eq]
    omega
  have kin : X.K.In hp := I1.kIn
  refine wpAny_call (PySem.HandSPX.call_own F.excBase_ValueError (fun Y => PySem.HandSPX.refsVE_contains Y bm hbm) (kin _ _ hC) (PySem.W.looks_findIn kin iC) (fun self => PySem.W.bind_fn kin self tI) hus ?_)
  refine codeAny_mono (F1.run _ X.stack _ _ ⟨Value.ref (hp.objs.size + 1) :: us, []⟩ (Value.ref (hp.objs.size + 1) :: (us ++ ds)) _ _ (fun _ _ _ => False) (hr.make C us []) (I2.env0.make C us []) (hb _ (Value.ref (hp.objs.size + 1) :: us) I2.kIn hl) r2 hq) fun r s' hq' => ?_
  cases r with
  | error er => exact hx pins σ _ _ er s' I2 hq'
  | ok fl =>
    cases fl with
    | ret u =>
      obtain ⟨v, H2, J, rv, ev, q2⟩ := I2.after hq'
      subst ev
      exact ⟨rv, .ref (hp.objs.size + 1), H2, J, rfl, q2⟩
    | next => exact False.elim hq'
    | brk => exact False.elim hq'
    | cont => exact False.elim hq'

theorem pe_mkE {CX : CXT} {x : Str} {C fI : Addr} {k : Nat} {fd : FuncData} {ps : List Str} {sp : Sp} {ds : List Value} {dvs : List V} (T : OexC X.K C) (iC : PySem.W.findIn X.K (.ref C) "__init__" = some (some (.ref fI)))
    (tI : PySem.W.typeIn X.K (.ref fI) = some (.type "function")) (F1 : FnOk X.prog X.w X.K X.mg X.base CX k fI fd ps sp) (hr : Room (k + 1) X.A) (hb : Binds X.K fd ps ds) (hd : Vals dvs ds) (hx : Passes CX X (fun _ _ _ => False))
    (hg : Gl X x) (hm : X.mg x = some (.ref C)) (ha : PA X (e :: es) ta)
    (hdb : (x == ("__debug__" : Str)) = false := by decide) (he : starEach (e :: es) X.env = (false, eval e X.env) :: starEach es X.env := by rfl) (hpl : (backTo pos (starEach es X.env)).any (·.1) = false := by rfl) :
    PE X (.Call (.Name x p) (e :: es) [] pos) (tMkE C sp dvs ta) := by
  refine ⟨fun pins s σ H Q I h => ?_⟩
  refine wpAny_Call_Name_kw (ld_glob I hg hm ?_ hdb)
  refine PySem.W.callWith_K (h₀ := X.base) I.ok.mod.kin T.kC (thn (ha.run pos pins s σ H _ I h) fun us s1 ⟨vs, H1, I1, r1, hz, q1⟩ => ⟨I1.kIn, ?_⟩) he hpl
  exact run_mkE T iC tI F1 hr hb hd hx I1 r1 hz q1
theorem pe_mkE0 {CX : CXT} {x : Str} {C fI : Addr} {k : Nat} {fd : FuncData} {ps : List Str} {sp : Sp} {ds : List Value} {dvs : List V} (T : OexC X.K C) (iC : PySem.W.findIn X.K (.ref C) "__init__" = some (some (.ref fI)))
    (tI : PySem.W.typeIn X.K (.ref fI) = some (.type "function")) (F1 : FnOk X.prog X.w X.K X.mg X.base CX k fI fd ps sp) (hr : Room (k + 1) X.A) (hb : Binds X.K fd ps ds) (hd : Vals dvs ds) (hx : Passes CX X (fun _ _ _ => False))
    (hg : Gl X x) (hm : X.mg x = some (.ref C)) (hdb : (x == ("__debug__" : Str)) = false := by decide) :
    PE X (.Call (.Name x p) [] [] pos) (tMkE C sp dvs tNil) := by
  refine ⟨fun pins s σ H Q I h => ?_⟩
  refine wpAny_Call_Name_kw (ld_glob I hg hm ?_ hdb)
  exact PySem.W.callWith_K0 I.kIn T.kC (run_mkE (us := []) (vs := []) T iC tI F1 hr hb hd hx I .nil (Nat.zero_le _) h.2)

/-- e.f of such an exception -/
def tEf (K : PySem.W.Frag) (f : Str) (te : TE) : TE := fun σ H Q => te σ H fun x H1 => ∃ (a C dx : Addr) (fs : List (Str × V)) (v : V), x = .ref a ∧ H1 a = some (exo a C (some dx)) ∧ H1 dx = some (exd dx fs) ∧ XfC K C ∧
  PySem.W.findIn K (.ref C) f = some none ∧ fs.lookup f = some v ∧ Q v H1
theorem pe_ef {te : TE} {n : Str} (he : PE X e te) (hb : attributeBase e n X.env (eval e X.env) = eval e X.env := by rfl) : PE X (.Attribute e n pos) (tEf X.K n te) := by
  refine ⟨fun pins s σ H Q I h => ?_⟩
  refine attr_of hb (thn (he.run pins s σ H _ I h) fun u s1 hh => ?_)
  obtain ⟨x, H1, I1, rx, a, C, dd, fs, v, ex, ea, ed, T, hno, l, q⟩ := hh
  subst ex
  obtain rfl : u = Value.ref a := rx
  obtain ⟨t1, hx⟩ := exo_at I1.hok ea
  obtain ⟨mA, hns, hr⟩ := exd_at I1.hok ed
  obtain ⟨od, ho, hl⟩ := lookIn_ns hns
  obtain ⟨u, hu, ru⟩ := RelO.some_of (v := v) (o := mA n) (by rw [← l]; exact hr n)
  have J : PySem.W.InstAt s1.heap a { cls := .ref C, dict := some dd, data := .fields #[.ref t1, .none, .none, .none, .bool false, .none] } C (some od) := ⟨hx, rfl, rfl, ho⟩
  exact HandSPX.exc_get I1.kIn J T.ga T.gg T.exC (PySem.W.findObj_own T.hdC hno rfl (by rw [hl, hu])) (handed_of ru) ⟨v, H1, I1.tok _, ru, q⟩

/-- isinstance(e, c) of such an exception -/
def rIsX (K : PySem.W.Frag) : List V → Hp → VK → Prop := fun xs H Q => ∃ (a C : Addr) (od : Option Addr) (fs : List (Str × V)) (c : V) (u : Value) (b : Bool), xs = [.ref a, c] ∧ ClsV c u ∧ H a = some (exo a C od) ∧ (∀ d, od = some d → H d = some (exd d fs)) ∧
  ExcC K C ∧ PySem.W.kitOne K (.ref C) u = some b ∧ Q (.bl b) H
theorem call_isX : CallR X (.builtin "isinstance") (rIsX X.K) := by
  intro pins s σ H xs us Q I r h
  obtain ⟨a, C, od, fs, c, u, b, rfl, k, ea, ed, T, e, q⟩ := h
  obtain ⟨u1, u2, rfl, r1, r2⟩ := vals2 r
  have e2 := k.eq r2
  subst e2
  obtain rfl : u1 = Value.ref a := r1
  obtain ⟨t1, hx⟩ := exo_at I.hok ea
  obtain ⟨odx, J⟩ : ∃ odx, PySem.W.InstAt s.heap a { cls := .ref C, dict := od, data := .fields #[.ref t1, .none, .none, .none, .bool false, .none] } C odx := by
    cases od with
    | none => exact ⟨none, hx, rfl, rfl, trivial⟩
    | some d =>
      obtain ⟨mA, hns, _⟩ := exd_at I.hok (ed d rfl)
      obtain ⟨od, ho, _⟩ := lookIn_ns hns
      exact ⟨some od, hx, rfl, rfl, ho⟩
  exact PySem.W.kia_one (PySem.W.kitx_exc (by obtain ⟨cd, hc, _⟩ := PySem.W.any_some T.hd; rw [hc]; rfl) T.hg T.hk T.hs T.ha T.hn T.ht T.hm) I.kIn J e (fun z => nomatch z) fun tk => ⟨.bl b, H, I.tok tk, rfl, q⟩
end
end SX

set_option Elab.async false
set_option linter.all false
set_option maxRecDepth 100000
set_option maxHeartbeats 4000000
namespace KL
open PySem PySem.Spec PyProof.Rows L2 NdefX SX
def top (i : Nat) : Stmt := PySem.Challenge.pw_risingknobs_k01_errors_by_class.main.body.getD i (.Pass ⟨0, 0, 0, 0⟩)
abbrev iNum : Stmt := inClass (top 2) 0
abbrev iTxt : Stmt := inClass (top 3) 0
abbrev iOpt : Stmt := inClass (top 4) 0
abbrev iSet : Stmt := inClass (top 5) 0
abbrev iReg : Stmt := inClass (top 6) 0
abbrev iUnl : Stmt := inClass (top 7) 0
abbrev iAli : Stmt := inClass (top 8) 0
abbrev iShow : Stmt := inClass (top 9) 0
abbrev iUndo : Stmt := inClass (top 10) 0

/-- K says: at fI the __init__ of the class at C -/
def InitAt (K : PySem.W.Frag) (qual : Str) (st : Stmt) (fI cc c : Addr) (fd : FuncData) : Prop := ∃ (oc : Value) (od : Option Addr) (kV doc pm : Value) (an : Option Addr) (ct : Value) (osl : Array (Option Value)),
  fd = PySem.W.fnX "__init__" qual (defArgs st) (defBody st) (defScope st) [("__class__", cc)] .none kV doc pm an (.ref c) ct ∧ K.lookup fI = some ⟨oc, od, .func fd, osl⟩ ∧ PySem.W.codeIn K (.ref c) qual = true

/-- H' is H but at a, where an exception stands with its own dict at d, new -/
structure Filled (H H' : Hp) (a C d : Addr) (fs : List (Str × V)) : Prop where
  ob : H' a = some (exo a C (some d))
  dc : H' d = some (exd d fs)
  nw : H d = none
  ne : d ≠ a
  kp : ∀ b o, H b = some o → b ≠ a → H' b = some o

def spI1 (C : Addr) (f : Str) : Sp := fun vs H Q _ => ∃ (a : Addr) (v : V), vs = [.ref a, v] ∧ H a = some (exo a C none) ∧ ∀ d H', Filled H H' a C d [(f, v)] → Q .non H'
def spI2 (C : Addr) (f g : Str) : Sp := fun vs H Q _ => ∃ (a : Addr) (v u : V), vs = [.ref a, v, u] ∧ H a = some (exo a C none) ∧ ∀ d H', Filled H H' a C d [(g, u), (f, v)] → Q .non H'
def spI0 (C : Addr) : Sp := fun vs H Q _ => ∃ (a : Addr), vs = [.ref a] ∧ H a = some (exo a C none) ∧ Q .non H
/-- a list or a tuple -/
def SqA (K : PySem.W.Frag) (H : Hp) (a : Addr) (xs : List V) : Prop := SqL K H a xs ∨ SqT K H a xs
def spT1 (K : PySem.W.Frag) (C : Addr) (f : Str) : Sp := fun vs H Q _ => ∃ (a p : Addr) (xs : List V), vs = [.ref a, .ref p] ∧ H a = some (exo a C none) ∧ SqA K H p xs ∧
  ∀ d q H', Filled H H' a C d [(f, .ref q)] → SqT K H' q xs → Q .non H'
def spT2 (K : PySem.W.Frag) (C : Addr) (f g : Str) : Sp := fun vs H Q _ => ∃ (a p p2 : Addr) (xs ys : List V), vs = [.ref a, .ref p, .ref p2] ∧ H a = some (exo a C none) ∧ SqA K H p xs ∧ SqA K H p2 ys ∧
  ∀ d q q2 H', Filled H H' a C d [(g, .ref q2), (f, .ref q)] → SqT K H' q xs → SqT K H' q2 ys → Q .non H'

theorem fill1 {H : Hp} {a C d : Addr} {fs : List (Str × V)} (hd : H d = none) (hne : d ≠ a) : Filled H (upd (upd H d (exd d fs)) a (exo a C (some d))) a C d fs where
  ob := upd_same
  dc := by rw [upd_ne hne, upd_same]
  nw := hd
  ne := hne
  kp := fun b o e hb => by rw [upd_ne hb, upd_ne (ne_of_none e hd)]; exact e


theorem Filled.more {H H' : Hp} {a C d : Addr} {fs : List (Str × V)} {y : Str × V} (f : Filled H H' a C d fs) (hne : d ≠ a) : Filled H (upd H' d (exd d (y :: fs))) a C d (y :: fs) where
  ob := by rw [upd_ne hne.symm]; exact f.ob
  dc := upd_same
  nw := f.nw
  ne := hne
  kp := fun b o e hb => by rw [upd_ne (ne_of_none e f.nw)]; exact f.kp b o e hb
theorem Filled.pre' {H H1 H' : Hp} {a C d : Addr} {fs : List (Str × V)} (f : Filled H1 H' a C d fs) (s : Same H H1) : Filled H H' a C d fs where
  ob := f.ob
  dc := f.dc
  nw := s.free f.nw
  ne := f.ne
  kp := fun b o e hb => f.kp b o (s b o e) hb
theorem same_upd {H : Hp} {p : Addr} {o : HO} (h : H p = none) : Same H (upd H p o) := fun b x e => by
  rw [upd_ne (ne_of_none e h)]
  exact e
theorem Filled.pre {H H' : Hp} {a C d q : Addr} {fs : List (Str × V)} {o : HO} (hq : H q = none) (f : Filled (upd H q o) H' a C d fs) : Filled H H' a C d fs := f.pre' (same_upd hq)
theorem Filled.after {H H' H2 : Hp} {a C d : Addr} {fs : List (Str × V)} (f : Filled H H' a C d fs) (s : Same H' H2) : Filled H H2 a C d fs where
  ob := s _ _ f.ob
  dc := s _ _ f.dc
  nw := f.nw
  ne := f.ne
  kp := fun b o e hb => s _ _ (f.kp b o e hb)
theorem sqT_ne {K : PySem.W.Frag} {H H' : Hp} {a p : Addr} {xs : List V} {o : HO} (ha : H a = some o) (n1 : ∀ ys, o ≠ .tup ys) (n2 : ∀ u z, o ≠ .frz u z) (kp : ∀ b o, H b = some o → b ≠ a → H' b = some o) (h : SqT K H p xs) : SqT K H' p xs := by
  rcases h with (h | ⟨u, h⟩) | h
  · exact .inl (.inl (kp _ _ h fun z => by rw [z, ha] at h; exact n1 _ (Option.some.inj h)))
  · exact .inl (.inr ⟨u, kp _ _ h fun z => by rw [z, ha] at h; exact n2 _ _ (Option.some.inj h)⟩)
  · exact .inr h
theorem sqL_ne {K : PySem.W.Frag} {H H' : Hp} {a p : Addr} {xs : List V} {o : HO} (ha : H a = some o) (n1 : ∀ ys, o ≠ .lst ys) (n2 : ∀ u z, o ≠ .frz u z) (kp : ∀ b o, H b = some o → b ≠ a → H' b = some o) (h : SqL K H p xs) : SqL K H' p xs := by
  rcases h with (h | ⟨u, h⟩) | h
  · exact .inl (.inl (kp _ _ h fun z => by rw [z, ha] at h; exact n1 _ (Option.some.inj h)))
  · exact .inl (.inr ⟨u, kp _ _ h fun z => by rw [z, ha] at h; exact n2 _ _ (Option.some.inj h)⟩)
  · exact .inr h
theorem exo_lst {e C : Addr} {d : Option Addr} {xs : List V} : exo e C d ≠ .lst xs := fun z => by
  unfold exo at z
  cases z
theorem Filled.sqT {K : PySem.W.Frag} {H H' : Hp} {a C d p : Addr} {fs : List (Str × V)} {xs : List V} (f : Filled H H' a C d fs) (ha : H a = some (exo a C none)) (h : SqT K H p xs) : SqT K H' p xs :=
  sqT_ne ha (fun _ => exo_tup) (fun _ _ => exo_frz) f.kp h
theorem Filled.sqA {K : PySem.W.Frag} {H H' : Hp} {a C d p : Addr} {fs : List (Str × V)} {xs : List V} (f : Filled H H' a C d fs) (ha : H a = some (exo a C none)) (h : SqA K H p xs) : SqA K H' p xs :=
  h.imp (sqL_ne ha (fun _ => exo_lst) (fun _ _ => exo_frz) f.kp) (f.sqT ha)
theorem Same.sqt {K : PySem.W.Frag} {H H' : Hp} {a : Addr} {xs : List V} (e : Same H H') (h : SqT K H a xs) : SqT K H' a xs := by
  rcases h with (h | ⟨o, h⟩) | h
  · exact .inl (.inl (e _ _ h))
  · exact .inl (.inr ⟨o, e _ _ h⟩)
  · exact .inr h
theorem sqA_same {K : PySem.W.Frag} {H H' : Hp} {a : Addr} {xs : List V} (e : Same H H') (h : SqA K H a xs) : SqA K H' a xs := h.imp e.seq (Same.sqt e)
theorem exd_frz {e : Addr} {fs : List (Str × V)} {o : Obj} {u : HO} : exd e fs ≠ .frz o u := fun z => by
  unfold exd at z
  cases z
theorem Filled.sqU {K : PySem.W.Frag} {H H' : Hp} {a C d p : Addr} {fs gs : List (Str × V)} {xs : List V} (f : Filled H H' a C d fs) (hne : d ≠ a) (h : SqT K H' p xs) : SqT K (upd H' d (exd d gs)) p xs :=
  sqT_ne f.dc (fun _ => exd_tup) (fun _ _ => exd_frz) (fun b o e hb => by rw [upd_ne hb]; exact e) h
/-- tuple(x), x a list or a tuple: the tuple, new or the same -/
def rTup (K : PySem.W.Frag) : List V → Hp → VK → Prop := fun vs H Q => ∃ (p : Addr) (xs : List V), vs = [.ref p] ∧ SqA K H p xs ∧ ∀ q H2, Same H H2 → SqT K H2 q xs → Q (.ref q) H2
theorem call_tup {X : Cx} : CallR X (.type "tuple") (rTup X.K) := fun pins s σ H vs us Q I r ⟨p, xs, e, h, k⟩ => call_tuple_of pins s σ H vs us Q I r ⟨p, xs, e, h.elim
  (fun h => .inl ⟨h, fun q hq => k q _ (same_upd hq) (.inl (.inl upd_same))⟩) (fun h => .inr ⟨h, k p H (Same.refl H) h⟩)⟩
section
variable {CX : CXT} {P : Program} {w : World} {K : PySem.W.Frag} {mg : Str → Option Value} {base : Heap} {fI C cc c : Addr} {fd : FuncData}
theorem ok_num (T : ErrTxt P K mg C cc c) (nF : PySem.W.findIn K (.ref C) "n" = some none) (F : InitAt K "BadNumber.__init__" iNum fI cc c fd) : FnOk P w K mg base CX 1 fI fd ["self", "n"] (spI1 C "n") := by
  obtain ⟨oc, od, kV, doc, pm, an, ct, osl, rfl, lk, hcd⟩ := F
  refine init_of (N := ["self", "n", "__class__"]) T lk hcd (nscope_by (by decide +kernel)) rfl ⟨_, rfl, rfl⟩ (by decide +kernel) (fun _ => rfl) (fun vs H Q E h => ?_) (fun A outer s H vs Q E hr h => ?_)
  · obtain ⟨a, v, rfl, _⟩ := h
    rfl
  · obtain ⟨a, v, rfl, ha, k⟩ := h
    refine ⟨a, _, rfl, ha, pss_one (ps_ost (pv 0) (pv 1)), ?_⟩
    exact ⟨v, rfl, .ref a, rfl, a, C, rfl, T.ox, nF, .inl ⟨ha, fun d hd hne => k d _ (fill1 hd hne)⟩⟩
theorem ok_txt (T : ErrTxt P K mg C cc c) (nF : PySem.W.findIn K (.ref C) "at" = some none) (F : InitAt K "BadText.__init__" iTxt fI cc c fd) : FnOk P w K mg base CX 1 fI fd ["self", "at"] (spI1 C "at") := by
  obtain ⟨oc, od, kV, doc, pm, an, ct, osl, rfl, lk, hcd⟩ := F
  refine init_of (N := ["self", "at", "__class__"]) T lk hcd (nscope_by (by decide +kernel)) rfl ⟨_, rfl, rfl⟩ (by decide +kernel) (fun _ => rfl) (fun vs H Q E h => ?_) (fun A outer s H vs Q E hr h => ?_)
  · obtain ⟨a, v, rfl, _⟩ := h
    rfl
  · obtain ⟨a, v, rfl, ha, k⟩ := h
    refine ⟨a, _, rfl, ha, pss_one (ps_ost (pv 0) (pv 1)), ?_⟩
    exact ⟨v, rfl, .ref a, rfl, a, C, rfl, T.ox, nF, .inl ⟨ha, fun d hd hne => k d _ (fill1 hd hne)⟩⟩
theorem ok_set (T : ErrTxt P K mg C cc c) (nF : PySem.W.findIn K (.ref C) "n" = some none) (F : InitAt K "BadSetting.__init__" iSet fI cc c fd) : FnOk P w K mg base CX 1 fI fd ["self", "n"] (spI1 C "n") := by
  obtain ⟨oc, od, kV, doc, pm, an, ct, osl, rfl, lk, hcd⟩ := F
  refine init_of (N := ["self", "n", "__class__"]) T lk hcd (nscope_by (by decide +kernel)) rfl ⟨_, rfl, rfl⟩ (by decide +kernel) (fun _ => rfl) (fun vs H Q E h => ?_) (fun A outer s H vs Q E hr h => ?_)
  · obtain ⟨a, v, rfl, _⟩ := h
    rfl
  · obtain ⟨a, v, rfl, ha, k⟩ := h
    refine ⟨a, _, rfl, ha, pss_one (ps_ost (pv 0) (pv 1)), ?_⟩
    exact ⟨v, rfl, .ref a, rfl, a, C, rfl, T.ox, nF, .inl ⟨ha, fun d hd hne => k d _ (fill1 hd hne)⟩⟩
theorem ok_unl (T : ErrTxt P K mg C cc c) (n1 : PySem.W.findIn K (.ref C) "first" = some none) (n2 : PySem.W.findIn K (.ref C) "second" = some none) (F : InitAt K "UnlikeGrids.__init__" iUnl fI cc c fd) :
    FnOk P w K mg base CX 1 fI fd ["self", "first", "second"] (spI2 C "first" "second") := by
  obtain ⟨oc, od, kV, doc, pm, an, ct, osl, rfl, lk, hcd⟩ := F
  refine init_of (N := ["self", "first", "second", "__class__"]) T lk hcd (nscope_by (by decide +kernel)) rfl ⟨_, rfl, rfl⟩ (by decide +kernel) (fun _ => rfl) (fun vs H Q E h => ?_) (fun A outer s H vs Q E hr h => ?_)
  · obtain ⟨a, v, u, rfl, _⟩ := h
    rfl
  · obtain ⟨a, v, u, rfl, ha, k⟩ := h
    refine ⟨a, _, rfl, ha, pss_cons (ps_ost (pv 0) (pv 1)) (pss_one (ps_ost (pv 0) (pv 2))), ?_⟩
    refine ⟨v, rfl, .ref a, rfl, a, C, rfl, T.ox, n1, .inl ⟨ha, fun d hd hne => ?_⟩⟩
    have f1 := fill1 (C := C) (fs := [("first", v)]) hd hne
    exact ⟨u, rfl, .ref a, rfl, a, C, rfl, T.ox, n2, .inr ⟨d, _, f1.ob, f1.dc, (by show 1 ≤ 900; decide), k d _ (f1.more hne)⟩⟩
theorem ok_show (T : ErrTxt P K mg C cc c) (F : InitAt K "NothingToShow.__init__" iShow fI cc c fd) : FnOk P w K mg base CX 1 fI fd ["self"] (spI0 C) := by
  obtain ⟨oc, od, kV, doc, pm, an, ct, osl, rfl, lk, hcd⟩ := F
  refine init_of (N := ["self", "__class__"]) T lk hcd (nscope_by (by decide +kernel)) rfl ⟨_, rfl, rfl⟩ (by decide +kernel) (fun _ => rfl) (fun vs H Q E h => ?_) (fun A outer s H vs Q E hr h => ?_)
  · obtain ⟨a, rfl, _⟩ := h
    rfl
  · obtain ⟨a, rfl, ha, k⟩ := h
    exact ⟨a, _, rfl, ha, pss_nil, k⟩
theorem ok_undo (T : ErrTxt P K mg C cc c) (F : InitAt K "NothingToUndo.__init__" iUndo fI cc c fd) : FnOk P w K mg base CX 1 fI fd ["self"] (spI0 C) := by
  obtain ⟨oc, od, kV, doc, pm, an, ct, osl, rfl, lk, hcd⟩ := F
  refine init_of (N := ["self", "__class__"]) T lk hcd (nscope_by (by decide +kernel)) rfl ⟨_, rfl, rfl⟩ (by decide +kernel) (fun _ => rfl) (fun vs H Q E h => ?_) (fun A outer s H vs Q E hr h => ?_)
  · obtain ⟨a, rfl, _⟩ := h
    rfl
  · obtain ⟨a, rfl, ha, k⟩ := h
    exact ⟨a, _, rfl, ha, pss_nil, k⟩
theorem ok_opt (T : ErrTxt P K mg C cc c) (mt : mg "tuple" = none) (nF : PySem.W.findIn K (.ref C) "option" = some none) (F : InitAt K "BadOption.__init__" iOpt fI cc c fd) : FnOk P w K mg base CX 1 fI fd ["self", "option"] (spT1 K C "option") := by
  obtain ⟨oc, od, kV, doc, pm, an, ct, osl, rfl, lk, hcd⟩ := F
  refine init_of (N := ["self", "option", "__class__"]) T lk hcd (nscope_by (by decide +kernel)) rfl ⟨_, rfl, rfl⟩ (by decide +kernel) (fun _ => rfl) (fun vs H Q E h => ?_) (fun A outer s H vs Q E hr h => ?_)
  · obtain ⟨a, p, xs, rfl, _⟩ := h
    rfl
  · obtain ⟨a, p, xs, rfl, ha, hp, k⟩ := h
    refine ⟨a, _, rfl, ha, pss_one (ps_ost (pv 0) (pe_callTy call_tup (by rfl) mt (by decide +kernel) (pa_cons (pv 1) pa_nil))), ?_⟩
    refine ⟨.ref p, rfl, p, xs, rfl, hp, fun q H1 s1 hq => ?_⟩
    have ha1 := s1 _ _ ha
    refine ⟨.ref a, rfl, a, C, rfl, T.ox, nF, .inl ⟨ha1, fun d hd hne => ?_⟩⟩
    have f1 := fill1 (C := C) (fs := [("option", .ref q)]) hd hne
    exact k d q _ (f1.pre' s1) (f1.sqT ha1 hq)
theorem ok_reg (T : ErrTxt P K mg C cc c) (mt : mg "tuple" = none) (n1 : PySem.W.findIn K (.ref C) "first" = some none) (n2 : PySem.W.findIn K (.ref C) "second" = some none) (F : InitAt K "BadRegion.__init__" iReg fI cc c fd) :
    FnOk P w K mg base CX 1 fI fd ["self", "first", "second"] (spT2 K C "first" "second") := by
  obtain ⟨oc, od, kV, doc, pm, an, ct, osl, rfl, lk, hcd⟩ := F
  refine init_of (N := ["self", "first", "second", "__class__"]) T lk hcd (nscope_by (by decide +kernel)) rfl ⟨_, rfl, rfl⟩ (by decide +kernel) (fun _ => rfl) (fun vs H Q E h => ?_) (fun A outer s H vs Q E hr h => ?_)
  · obtain ⟨a, p, p2, xs, ys, rfl, _⟩ := h
    rfl
  · obtain ⟨a, p, p2, xs, ys, rfl, ha, hp, hp2, k⟩ := h
    refine ⟨a, _, rfl, ha, pss_cons (ps_ost (pv 0) (pe_callTy call_tup (by rfl) mt (by decide +kernel) (pa_cons (pv 1) pa_nil))) (pss_one (ps_ost (pv 0) (pe_callTy call_tup (by rfl) mt (by decide +kernel) (pa_cons (pv 2) pa_nil)))), ?_⟩
    refine ⟨.ref p, rfl, p, xs, rfl, hp, fun q H1 s1 hq => ?_⟩
    have ha1 := s1 _ _ ha
    refine ⟨.ref a, rfl, a, C, rfl, T.ox, n1, .inl ⟨ha1, fun d hd hne => ?_⟩⟩
    have f1 := fill1 (C := C) (fs := [("first", .ref q)]) hd hne
    refine ⟨.ref p2, rfl, p2, ys, rfl, f1.sqA ha1 (sqA_same s1 hp2), fun q2 H2 s2 hq2 => ?_⟩
    have f2 := f1.after s2
    exact ⟨.ref a, rfl, a, C, rfl, T.ox, n2, .inr ⟨d, _, f2.ob, f2.dc, (by show 1 ≤ 900; decide), k d q q2 _ ((f2.more hne).pre' s1) ((f2.more hne).sqT ha1 hq) (f2.sqU hne hq2)⟩⟩
theorem ok_ali (T : ErrTxt P K mg C cc c) (mt : mg "tuple" = none) (n1 : PySem.W.findIn K (.ref C) "first" = some none) (n2 : PySem.W.findIn K (.ref C) "second" = some none) (F : InitAt K "AlikeWorths.__init__" iAli fI cc c fd) :
    FnOk P w K mg base CX 1 fI fd ["self", "first", "second"] (spT2 K C "first" "second") := by
  obtain ⟨oc, od, kV, doc, pm, an, ct, osl, rfl, lk, hcd⟩ := F
  refine init_of (N := ["self", "first", "second", "__class__"]) T lk hcd (nscope_by (by decide +kernel)) rfl ⟨_, rfl, rfl⟩ (by decide +kernel) (fun _ => rfl) (fun vs H Q E h => ?_) (fun A outer s H vs Q E hr h => ?_)
  · obtain ⟨a, p, p2, xs, ys, rfl, _⟩ := h
    rfl
  · obtain ⟨a, p, p2, xs, ys, rfl, ha, hp, hp2, k⟩ := h
    refine ⟨a, _, rfl, ha, pss_cons (ps_ost (pv 0) (pe_callTy call_tup (by rfl) mt (by decide +kernel) (pa_cons (pv 1) pa_nil))) (pss_one (ps_ost (pv 0) (pe_callTy call_tup (by rfl) mt (by decide +kernel) (pa_cons (pv 2) pa_nil)))), ?_⟩
    refine ⟨.ref p, rfl, p, xs, rfl, hp, fun q H1 s1 hq => ?_⟩
    have ha1 := s1 _ _ ha
    refine ⟨.ref a, rfl, a, C, rfl, T.ox, n1, .inl ⟨ha1, fun d hd hne => ?_⟩⟩
    have f1 := fill1 (C := C) (fs := [("first", .ref q)]) hd hne
    refine ⟨.ref p2, rfl, p2, ys, rfl, f1.sqA ha1 (sqA_same s1 hp2), fun q2 H2 s2 hq2 => ?_⟩
    have f2 := f1.after s2
    exact ⟨.ref a, rfl, a, C, rfl, T.ox, n2, .inr ⟨d, _, f2.ob, f2.dc, (by show 1 ≤ 900; decide), k d q q2 _ ((f2.more hne).pre' s1) ((f2.more hne).sqT ha1 hq) (f2.sqU hne hq2)⟩⟩
end
end KL

set_option Elab.async false
set_option linter.all false
set_option maxRecDepth 100000
set_option maxHeartbeats 4000000
namespace KL
open PySem PySem.Spec PyProof.Rows L2 NdefX SX
abbrev sBag : Stmt := top 12
abbrev sDraw : Stmt := top 13
abbrev sAt : Stmt := top 14
theorem scBag : FnScope ["_law_cell"] ["_law_cell"] (defScope sBag) := ⟨rfl, rfl, rfl, by decide +kernel, rfl, by decide +kernel, by decide +kernel⟩
theorem scDraw : FnScope ["_law_pool", "_law_limit", "_law_drawn", "_law_mixed"] ["_law_pool", "_law_limit"] (defScope sDraw) := ⟨rfl, rfl, rfl, by decide +kernel, rfl, by decide +kernel, by decide +kernel⟩
theorem scAt : FnScope ["_law_script", "_law_k"] ["_law_script", "_law_k"] (defScope sAt) := ⟨rfl, rfl, rfl, by decide +kernel, rfl, by decide +kernel, by decide +kernel⟩

/-! displays, weakened -/
theorem PA.clo {X : Cx} {es : List Expr} {t : TA} (h : PA X es t) : PA X es (fun σ H R => ∃ A : List V → Hp → Prop, (∀ xs H1, A xs H1 → R xs H1) ∧ t σ H A) :=
  ⟨fun pos pins s σ H R I ⟨A, k, q⟩ => thn (h.run pos pins s σ H A I q) fun us s1 ⟨xs, H1, I1, r, q1⟩ => ⟨xs, H1, I1, r, k _ _ q1⟩⟩
def tNewL (t : TA) : TE := fun σ H Q => t σ H fun xs H1 => xs.length ≤ sizeLine ∧ ∀ p H2, Same H1 H2 → H1 p = none → H2 p = some (.lst xs) → Q (.ref p) H2
def tNewT (t : TA) : TE := fun σ H Q => t σ H fun xs H1 => xs.length ≤ sizeLine ∧ ∀ p H2, Same H1 H2 → H1 p = none → H2 p = some (.tup xs) → Q (.ref p) H2
theorem pe_newL {X : Cx} {es : List Expr} {pos : Pos} {t : TA} (h : PA X es t) : PE X (.List es pos) (tNewL t) := ⟨fun pins s σ H Q I q => (pe_lst (PA.clo h)).run pins s σ H Q I ⟨_, fun xs H1 z => ⟨z.1, fun p hp => z.2 p _ (same_upd hp) hp upd_same⟩, q⟩⟩
theorem pe_newT {X : Cx} {es : List Expr} {pos : Pos} {x1} {t : TA} (h : PA X es t) : PE X (.Tuple es x1 pos) (tNewT t) := ⟨fun pins s σ H Q I q => (pe_tup (PA.clo h)).run pins s σ H Q I ⟨_, fun xs H1 z => ⟨z.1, fun p hp => z.2 p _ (same_upd hp) hp upd_same⟩, q⟩⟩

/-- the pool of a law -/
def Bag (H : Hp) (p : Addr) (b : Bool) : Prop := ∃ c n : Int, H p = some (.lst [.int c, .int n, .bl b])
/-- all but the object at p is as it was -/
def But (p : Addr) (H H' : Hp) : Prop := ∀ b o, H b = some o → b ≠ p → H' b = some o
theorem But.trans {p : Addr} {H H1 H2 : Hp} (a : But p H H1) (b : But p H1 H2) : But p H H2 := fun c o e n => b c o (a c o e n) n
theorem But.refl (p : Addr) (H : Hp) : But p H H := fun _ _ e _ => e
theorem But.upd {p : Addr} {H : Hp} {o : HO} : But p H (upd H p o) := fun c u e n => by rw [upd_ne n]; exact e
def spBag : Sp := fun vs H Q _ => ∃ c : Int, vs = [.int c] ∧ ∀ p H' b, Same H H' → H p = none → Bag H' p b → Q (.ref p) H'
def spDraw : Sp := fun vs H Q _ => ∃ (p : Addr) (m : Int) (b : Bool), vs = [.ref p, .int m] ∧ Bag H p b ∧ 0 < m ∧ m < 1000000 ∧ ∀ (r : Int) H', 0 ≤ r → r < m → But p H H' → Bag H' p b → Q (.int r) H'
def spAt (K : PySem.W.Frag) : Sp := fun vs H Q _ => ∃ (a : Addr) (ns : List Int) (k : Nat), vs = [.ref a, .int k] ∧ SqL K H a (ns.map V.int) ∧ ∀ z, Q (.int z) H

section
variable {P : Program} {w : World} {K : PySem.W.Frag} {mg : Str → Option Value} {base : Heap} {f : Addr} {fd : FuncData}
theorem ok_bag (F : Fun K "_law_bag" "_law_bag" sBag f fd) : FnOk P w K mg base CX0 1 f fd ["_law_cell"] spBag := by
  refine F.ok scBag (fun vs H Q E h => ?_) (fun cdv A outer s H vs Q E hr h => ?_)
  · obtain ⟨c, rfl, _⟩ := h
    rfl
  · obtain ⟨c, rfl, k⟩ := h
    refine ⟨_, pss_one (ps_ret (pe_newL (pa_cons (pv 0) (pa_cons pe_int (pa_cons (pe_cmpR op_ge (pv 0) (pe_op op_pow pe_int pe_int) (nomark _)) pa_nil))))), ?_⟩
    refine ⟨_, rfl, _, rfl, _, _, rfl, rfl, ⟨by decide, by decide, by decide⟩, _, _, rfl, rfl, by show 3 ≤ sizeLine; decide, fun p H2 s2 hp e2 => ?_⟩
    exact k p H2 _ s2 hp ⟨_, _, e2⟩
theorem ok_at (F : Fun K "_law_at" "_law_at" sAt f fd) (ml : mg "len" = none) : FnOk P w K mg base CX0 1 f fd ["_law_script", "_law_k"] (spAt K) := by
  refine F.ok scAt (fun vs H Q E h => ?_) (fun cdv A outer s H vs Q E hr h => ?_)
  · obtain ⟨a, ns, k, rfl, _⟩ := h
    rfl
  · obtain ⟨a, ns, k, rfl, hs, q⟩ := h
    refine ⟨_, pss_cons (ps_if (pt_cmpR op_lt (pv 1) (pe_callB call_len_seq (by rfl) ml PySem.boot_len (pa_cons (pv 0) pa_nil)) (nomark _)) (pss_one (ps_ret (pe_ix ix_list (pv 0) (pv 1) (fun _ _ => rfl)))) pss_nil) (pss_one (ps_ret pe_int)), ?_⟩
    refine ⟨_, rfl, _, rfl, a, _, rfl, .inl hs, _, _, rfl, rfl, _, rfl, ite2 (fun e => ?_) (fun e => q _)⟩
    have hk := of_decide_eq_true e
    rw [List.length_map] at hk
    have hk : k < ns.length := by omega
    exact ⟨_, rfl, _, rfl, a, _, _, _, rfl, rfl, hs, atI_nat (by rw [List.getElem?_map, List.getElem?_eq_getElem hk]; rfl), q _⟩
theorem ok_draw (F : Fun K "_law_draw" "_law_draw" sDraw f fd) (mi : mg "int" = none) : FnOk P w K mg base CX0 1 f fd ["_law_pool", "_law_limit"] spDraw := by
  refine F.ok scDraw (fun vs H Q E h => ?_) (fun cdv A outer s H vs Q E hr h => ?_)
  · obtain ⟨p, m, b, rfl, _⟩ := h
    rfl
  · obtain ⟨p, m, b, rfl, ⟨c, n, hp⟩, h0, h1, k⟩ := h
    refine ⟨_, pss_cons (ps_asg (pe_op op_add (pe_ix ix_list (pv 0) pe_int (fun _ _ => rfl)) pe_int) (pg_sub (pv 0) pe_int set_list))
      (pss_cons (ps_if (pt_truth (pe_ix ix_list (pv 0) pe_int (fun _ _ => rfl)) (by intro _; rfl))
        (pss_cons (ps_set (i := 2) scDraw.nd rfl (Or.inl rfl) (pe_op op_modN (pe_callTy call_int1 (by rfl) mi (by decide +kernel) (pa_cons (pe_ix ix_list (pv 0) pe_int (fun _ _ => rfl)) pa_nil)) (pv 1)))
        (pss_cons (ps_asg (pe_op op_fdivN (pe_callTy call_int1 (by rfl) mi (by decide +kernel) (pa_cons (pe_ix ix_list (pv 0) pe_int (fun _ _ => rfl)) pa_nil)) (pv 1)) (pg_sub (pv 0) pe_int set_list))
        (pss_one (ps_ret (pv 2))))) pss_nil)
      (pss_cons (ps_set (i := 3) scDraw.nd rfl (Or.inl rfl) (pe_op op_modN (pe_callTy call_int1 (by rfl) mi (by decide +kernel) (pa_cons
        (pe_op op_add (pe_op op_add (pe_op op_mul (pe_ix ix_list (pv 0) pe_int (fun _ _ => rfl)) pe_int) (pe_op op_mul (pe_ix ix_list (pv 0) pe_int (fun _ _ => rfl)) pe_int)) pe_int) pa_nil)) pe_int))
      (pss_one (ps_ret (pe_op op_modN (pe_op op_fdivN (pe_callTy call_int1 (by rfl) mi (by decide +kernel) (pa_cons (pe_op op_modN (pe_op op_pow (pv 3) pe_int) pe_int) pa_nil)) pe_int) (pv 1)))))), ?_⟩
    -- pool[1] = pool[1] + 1
    refine ⟨_, rfl, p, _, _, _, rfl, rfl, SqL.of hp, atI_nat (j := 1) rfl, _, _, rfl, rfl, _, rfl, p, _, _, 1, rfl, rfl, hp, rfl, ?_⟩
    have hp1 : (upd H p (.lst [.int c, .int (n + 1), .bl b])) p = some (.lst [.int c, .int (n + 1), .bl b]) := upd_same
    have hb1 : But p H (upd H p (.lst [.int c, .int (n + 1), .bl b])) := But.upd
    refine ⟨_, rfl, p, _, _, _, rfl, rfl, SqL.of hp1, atI_nat (j := 2) rfl, b, rfl, ?_⟩
    cases b with
    | true =>
      refine iteT ?_
      refine ⟨_, rfl, p, _, _, _, rfl, rfl, SqL.of hp1, atI_nat (j := 0) rfl, .inl ⟨_, rfl, ?_⟩⟩
      refine ⟨_, rfl, _, _, rfl, rfl, by omega, ?_⟩
      refine ⟨_, rfl, p, _, _, _, rfl, rfl, SqL.of hp1, atI_nat (j := 0) rfl, .inl ⟨_, rfl, ?_⟩⟩
      refine ⟨_, rfl, _, _, rfl, rfl, ⟨by omega, by omega⟩, _, rfl, p, _, _, 0, rfl, rfl, hp1, rfl, ?_⟩
      exact ⟨_, rfl, k _ _ (Int.fmod_nonneg_of_pos _ h0) (Int.fmod_lt_of_pos _ h0) (hb1.trans But.upd) ⟨_, _, upd_same⟩⟩
    | false =>
      refine iteF ?_
      refine ⟨_, rfl, p, _, _, _, rfl, rfl, SqL.of hp1, atI_nat (j := 0) rfl, _, _, rfl, rfl, .inr (by decide), ?_⟩
      refine ⟨_, rfl, p, _, _, _, rfl, rfl, SqL.of hp1, atI_nat (j := 1) rfl, _, _, rfl, rfl, .inr (by decide), _, _, rfl, rfl, _, _, rfl, rfl, .inl ⟨_, rfl, ?_⟩⟩
      refine ⟨_, _, rfl, rfl, (by show (2147483647 : Int) ≠ 0; decide), ?_⟩
      have g0 := Int.fmod_nonneg_of_pos (c * 7919 + (n + 1) * 104729 + 13) (show (0 : Int) < 2147483647 by decide)
      have g1 := Int.fmod_lt_of_pos (c * 7919 + (n + 1) * 104729 + 13) (show (0 : Int) < 2147483647 by decide)
      refine ⟨_, rfl, _, _, rfl, rfl, ⟨by decide, by decide, by omega⟩, _, _, rfl, rfl, (by show (2147483647 : Int) ≠ 0; decide), .inl ⟨_, rfl, ?_⟩⟩
      refine ⟨_, _, rfl, rfl, ⟨by decide, by decide⟩, _, rfl, _, _, rfl, rfl, by omega, ?_⟩
      exact k _ _ (Int.fmod_nonneg_of_pos _ h0) (Int.fmod_lt_of_pos _ h0) hb1 ⟨_, _, hp1⟩
end
end KL

set_option Elab.async false
set_option linter.all false
set_option maxRecDepth 100000
set_option maxHeartbeats 4000000
namespace KL
open PySem PySem.Spec PyProof.Rows L2 NdefX SX
abbrev sKinds : Stmt := top 15
abbrev sMade : Stmt := top 16
theorem scKinds : FnScope ["_law_e", "_law_flags"] ["_law_e"] (defScope sKinds) := ⟨rfl, rfl, rfl, by decide +kernel, rfl, by decide +kernel, by decide +kernel⟩
theorem scMade : FnScope ["_law_which", "_law_n", "_law_one", "_law_other", "_law_e"] ["_law_which", "_law_n", "_law_one", "_law_other"] (defScope sMade) := ⟨rfl, rfl, rfl, by decide +kernel, rfl, by decide +kernel, by decide +kernel⟩

/-! more weakened rules -/
def rCatW : R2 := fun x y H Q => ∃ l b xs zs, x = .ref l ∧ y = .ref b ∧ H l = some (.lst xs) ∧ H b = some (.lst zs) ∧ xs.length + zs.length ≤ sizeLine ∧ ∀ p H2, Same H H2 → H p = none → H2 p = some (.lst (xs ++ zs)) → Q (.ref p) H2
theorem op_catW {X : Cx} : OpR X (binaryOp .Add) rCatW := fun pins s σ H x y v u Q I rx ry ⟨l, b, xs, zs, e1, e2, h1, h2, hz, q⟩ =>
  op_cat pins s σ H x y v u Q I rx ry ⟨l, b, xs, zs, e1, e2, h1, h2, hz, fun p hp => q p _ (same_upd hp) hp upd_same⟩

/-! data of ints -/
theorem dpInts {K : PySem.W.Frag} {H : Hp} : ∀ xs : List Int, DpAll K H (xs.map V.int) (xs.map PyData.int)
  | [] => .nil
  | x :: xs => .cons (.int x) (dpInts xs)
theorem layInts : ∀ xs : List Int, PyData.canLayAll0 (xs.map PyData.int) = true
  | [] => rfl
  | x :: xs => by
    show (PyData.canLay0 (.int x) && PyData.canLayAll0 (xs.map PyData.int)) = true
    rw [layInts xs]
    rfl
theorem depInts : ∀ xs : List Int, PyData.depthAll (xs.map PyData.int) = 0
  | [] => rfl
  | x :: xs => by
    show max (PyData.depth (.int x)) (PyData.depthAll (xs.map PyData.int)) = 0
    rw [depInts xs]
    rfl
theorem shapedT (xs : List Int) : SeqAt.shaped (.tuple (xs.map PyData.int)) = true := by
  unfold SeqAt.shaped
  rw [show PyData.canLay0 (.tuple (xs.map PyData.int)) = PyData.canLayAll0 (xs.map PyData.int) from rfl, layInts,
    show PyData.depth (.tuple (xs.map PyData.int)) = PyData.depthAll (xs.map PyData.int) + 1 from rfl, depInts]
  rfl
theorem shapedLT (xs ys : List Int) : SeqAt.shaped (.list [.tuple (xs.map PyData.int), .tuple (ys.map PyData.int)]) = true := by
  unfold SeqAt.shaped
  rw [show PyData.canLay0 (.list [.tuple (xs.map PyData.int), .tuple (ys.map PyData.int)]) = (PyData.canLayAll0 (xs.map PyData.int) && (PyData.canLayAll0 (ys.map PyData.int) && true)) from rfl, layInts, layInts,
    show PyData.depth (.list [.tuple (xs.map PyData.int), .tuple (ys.map PyData.int)]) = max (PyData.depthAll (xs.map PyData.int) + 1) (max (PyData.depthAll (ys.map PyData.int) + 1) 0) + 1 from rfl, depInts, depInts]
  rfl
theorem eqvSelf {d : PyData} (h : SeqAt.shaped d = true) : PyData.eqv d d = true := SeqAt.eqv_refl d (SeqAt.canLay_of_shaped h)

/-! the nine classes -/
structure ErrK (K : PySem.W.Frag) (mg : Str → Option Value) (x : Str) (C : Addr) : Prop where
  ox : OexC K C
  xf : XfC K C
  ec : ExcC K C
  gm : mg x = some (.ref C)
structure MkK (P : Program) (w : World) (K : PySem.W.Frag) (mg : Str → Option Value) (base : Heap) (C : Addr) (ps : List Str) (sp : Sp) : Prop where
  ex : ∃ (fI : Addr) (fd : FuncData), PySem.W.findIn K (.ref C) "__init__" = some (some (.ref fI)) ∧ PySem.W.typeIn K (.ref fI) = some (.type "function") ∧ FnOk P w K mg base CX0 1 fI fd ps sp ∧ Binds K fd ps []
structure Nine (K : PySem.W.Frag) (mg : Str → Option Value) (cl : Nat → Addr) : Prop where
  e0 : ErrK K mg "BadNumber" (cl 0)
  e1 : ErrK K mg "BadText" (cl 1)
  e2 : ErrK K mg "BadOption" (cl 2)
  e3 : ErrK K mg "BadSetting" (cl 3)
  e4 : ErrK K mg "BadRegion" (cl 4)
  e5 : ErrK K mg "UnlikeGrids" (cl 5)
  e6 : ErrK K mg "AlikeWorths" (cl 6)
  e7 : ErrK K mg "NothingToShow" (cl 7)
  e8 : ErrK K mg "NothingToUndo" (cl 8)
  ec : ∀ i, i < 9 → ExcC K (cl i)
  kit : ∀ i, i < 9 → ∀ j, j < 9 → PySem.W.kitOne K (.ref (cl i)) (.ref (cl j)) = some (decide (j = i))
  n0 : PySem.W.findIn K (.ref (cl 0)) "n" = some none
  n1 : PySem.W.findIn K (.ref (cl 1)) "at" = some none
  n2 : PySem.W.findIn K (.ref (cl 2)) "option" = some none
  n3 : PySem.W.findIn K (.ref (cl 3)) "n" = some none
  n4 : PySem.W.findIn K (.ref (cl 4)) "first" = some none
  m4 : PySem.W.findIn K (.ref (cl 4)) "second" = some none
  n5 : PySem.W.findIn K (.ref (cl 5)) "first" = some none
  m5 : PySem.W.findIn K (.ref (cl 5)) "second" = some none
  n6 : PySem.W.findIn K (.ref (cl 6)) "first" = some none
  m6 : PySem.W.findIn K (.ref (cl 6)) "second" = some none
/-- an exception of the i-th class stands at e -/
def ErrAt (cl : Nat → Addr) (i : Nat) (H : Hp) (e : Addr) : Prop := ∃ od fs, H e = some (exo e (cl i) od) ∧ ∀ d, od = some d → H d = some (exd d fs)
theorem ErrAt.same {cl : Nat → Addr} {i : Nat} {H H' : Hp} {e : Addr} (h : ErrAt cl i H e) (s : Same H H') : ErrAt cl i H' e := by
  obtain ⟨od, fs, h1, h2⟩ := h
  exact ⟨od, fs, s _ _ h1, fun d hd => s _ _ (h2 d hd)⟩
def flags (i : Nat) : List V := (List.range 9).map fun j => .bl (decide (j = i))
def spKinds (cl : Nat → Addr) : Sp := fun vs H Q _ => ∃ (a : Addr) (i : Nat), i < 9 ∧ vs = [.ref a] ∧ ErrAt cl i H a ∧ ∀ p H', Same H H' → H p = none → H' p = some (.lst (flags i)) → Q (.ref p) H'
def spMade (K : PySem.W.Frag) (cl : Nat → Addr) : Sp := fun vs H Q _ => ∃ (i : Nat) (z : Int) (a b : Addr) (xs ys : List Int), i < 9 ∧ vs = [.int i, .int z, .ref a, .ref b] ∧ SqA K H a (xs.map V.int) ∧ SqA K H b (ys.map V.int) ∧
  ∀ p e H', Same H H' → H' p = some (.lst [.ref e, .bl true]) → ErrAt cl i H' e → Q (.ref p) H'

section
variable {P : Program} {w : World} {K : PySem.W.Frag} {mg : Str → Option Value} {base : Heap} {f : Addr} {fd : FuncData} {cl : Nat → Addr}
theorem isx {H : Hp} {a : Addr} {i j : Nat} {Q : VK} (N : Nine K mg cl) (hi : i < 9) (hj : j < 9) (h : ErrAt cl i H a) (q : Q (.bl (decide (j = i))) H) : rIsX K [.ref a, .ref (cl j)] H Q := by
  obtain ⟨od, fs, h1, h2⟩ := h
  exact ⟨a, cl i, od, fs, _, _, _, rfl, .own _, h1, h2, N.ec i hi, N.kit i hi j hj, q⟩
theorem ok_kinds (F : Fun K "_law_kinds" "_law_kinds" sKinds f fd) (mi : mg "isinstance" = none) (N : Nine K mg cl) : FnOk P w K mg base CX0 1 f fd ["_law_e"] (spKinds cl) := by
  refine F.ok scKinds (fun vs H Q E h => ?_) (fun cdv A outer s H vs Q E hr h => ?_)
  · obtain ⟨a, i, _, rfl, _⟩ := h
    rfl
  · obtain ⟨a, i, hi, rfl, he, k⟩ := h
    refine ⟨_, pss_cons (ps_set (i := 1) scKinds.nd rfl (Or.inl rfl) (pe_newL (pa_cons (pe_callB call_isX (by rfl) mi (by decide +kernel) (pa_cons (pv 0) (pa_cons (pe_glob (v := .ref (cl 0)) (by rfl) N.e0.gm rfl) pa_nil))) (pa_cons (pe_callB call_isX (by rfl) mi (by decide +kernel) (pa_cons (pv 0) (pa_cons (pe_glob (v := .ref (cl 1)) (by rfl) N.e1.gm rfl) pa_nil))) (pa_cons (pe_callB call_isX (by rfl) mi (by decide +kernel) (pa_cons (pv 0) (pa_cons (pe_glob (v := .ref (cl 2)) (by rfl) N.e2.gm rfl) pa_nil))) (pa_cons (pe_callB call_isX (by rfl) mi (by decide +kernel) (pa_cons (pv 0) (pa_cons (pe_glob (v := .ref (cl 3)) (by rfl) N.e3.gm rfl) pa_nil))) pa_nil))))))
      (pss_cons (ps_set (i := 1) scKinds.nd rfl (Or.inl rfl) (pe_op op_catW (pv 1) (pe_newL (pa_cons (pe_callB call_isX (by rfl) mi (by decide +kernel) (pa_cons (pv 0) (pa_cons (pe_glob (v := .ref (cl 4)) (by rfl) N.e4.gm rfl) pa_nil))) (pa_cons (pe_callB call_isX (by rfl) mi (by decide +kernel) (pa_cons (pv 0) (pa_cons (pe_glob (v := .ref (cl 5)) (by rfl) N.e5.gm rfl) pa_nil))) (pa_cons (pe_callB call_isX (by rfl) mi (by decide +kernel) (pa_cons (pv 0) (pa_cons (pe_glob (v := .ref (cl 6)) (by rfl) N.e6.gm rfl) pa_nil))) pa_nil))))))
      (pss_one (ps_ret (pe_op op_catW (pv 1) (pe_newL (pa_cons (pe_callB call_isX (by rfl) mi (by decide +kernel) (pa_cons (pv 0) (pa_cons (pe_glob (v := .ref (cl 7)) (by rfl) N.e7.gm rfl) pa_nil))) (pa_cons (pe_callB call_isX (by rfl) mi (by decide +kernel) (pa_cons (pv 0) (pa_cons (pe_glob (v := .ref (cl 8)) (by rfl) N.e8.gm rfl) pa_nil))) pa_nil))))))), ?_⟩
    obtain ⟨od, fs, he⟩ := he
    have tr : ∀ {H1 H2 : Hp}, Same H1 H2 → (H1 a = some (exo a (cl i) od) ∧ ∀ d, od = some d → H1 d = some (exd d fs)) → (H2 a = some (exo a (cl i) od) ∧ ∀ d, od = some d → H2 d = some (exd d fs)) := fun s h => ⟨s _ _ h.1, fun d hd => s _ _ (h.2 d hd)⟩
    refine ⟨_, rfl, a, cl i, od, fs, _, _, _, rfl, .own _, he.1, he.2, N.ec i hi, N.kit i hi 0 (by decide), _, rfl, a, cl i, od, fs, _, _, _, rfl, .own _, he.1, he.2, N.ec i hi, N.kit i hi 1 (by decide), _, rfl, a, cl i, od, fs, _, _, _, rfl, .own _, he.1, he.2, N.ec i hi, N.kit i hi 2 (by decide), _, rfl, a, cl i, od, fs, _, _, _, rfl, .own _, he.1, he.2, N.ec i hi, N.kit i hi 3 (by decide), (by show 4 ≤ sizeLine; decide), fun p H1 s1 hp e1 => ?_⟩
    have he1 := tr s1 he
    refine ⟨_, rfl, _, rfl, a, cl i, od, fs, _, _, _, rfl, .own _, he1.1, he1.2, N.ec i hi, N.kit i hi 4 (by decide), _, rfl, a, cl i, od, fs, _, _, _, rfl, .own _, he1.1, he1.2, N.ec i hi, N.kit i hi 5 (by decide), _, rfl, a, cl i, od, fs, _, _, _, rfl, .own _, he1.1, he1.2, N.ec i hi, N.kit i hi 6 (by decide), (by show 3 ≤ sizeLine; decide), fun p2 H2 s2 hp2 e2 => ?_⟩
    refine ⟨p, p2, _, _, rfl, rfl, s2 _ _ e1, e2, (by show 7 ≤ sizeLine; decide), fun p3 H3 s3 hp3 e3 => ?_⟩
    have he3 := tr (s2.trans s3) he1
    refine ⟨_, rfl, _, rfl, a, cl i, od, fs, _, _, _, rfl, .own _, he3.1, he3.2, N.ec i hi, N.kit i hi 7 (by decide), _, rfl, a, cl i, od, fs, _, _, _, rfl, .own _, he3.1, he3.2, N.ec i hi, N.kit i hi 8 (by decide), (by show 2 ≤ sizeLine; decide), fun p4 H4 s4 hp4 e4 => ?_⟩
    refine ⟨p3, p4, _, _, rfl, rfl, s4 _ _ e3, e4, (by show 9 ≤ sizeLine; decide), fun p5 H5 s5 hp5 e5 => ?_⟩
    exact k p5 H5 (s1.trans (s2.trans (s3.trans (s4.trans s5)))) (s1.free (s2.free (s3.free (s4.free hp5)))) e5

theorem made_same {H H' : Hp} {a C d : Addr} {fs : List (Str × V)} (ha : H a = none) (f : Filled (upd H a (exo a C none)) H' a C d fs) : Same H H' := fun b o e =>
  f.kp b o (by rw [upd_ne (ne_of_none e ha)]; exact e) (ne_of_none e ha)
end
end KL

set_option Elab.async false
set_option linter.all false
set_option maxRecDepth 100000
set_option maxHeartbeats 4000000
namespace KL
open PySem PySem.Spec PyProof.Rows L2 NdefX SX
section
variable {P : Program} {w : World} {K : PySem.W.Frag} {mg : Str → Option Value} {base : Heap} {f : Addr} {fd : FuncData} {cl : Nat → Addr}
theorem ok_made (F : Fun K "_law_made" "_law_made" sMade f fd) (mt : mg "tuple" = none) (N : Nine K mg cl)
    (M0 : MkK P w K mg base (cl 0) ["self", "n"] (spI1 (cl 0) "n"))
    (M1 : MkK P w K mg base (cl 1) ["self", "at"] (spI1 (cl 1) "at"))
    (M2 : MkK P w K mg base (cl 2) ["self", "option"] (spT1 K (cl 2) "option"))
    (M3 : MkK P w K mg base (cl 3) ["self", "n"] (spI1 (cl 3) "n"))
    (M4 : MkK P w K mg base (cl 4) ["self", "first", "second"] (spT2 K (cl 4) "first" "second"))
    (M5 : MkK P w K mg base (cl 5) ["self", "first", "second"] (spI2 (cl 5) "first" "second"))
    (M6 : MkK P w K mg base (cl 6) ["self", "first", "second"] (spT2 K (cl 6) "first" "second"))
    (M7 : MkK P w K mg base (cl 7) ["self"] (spI0 (cl 7)))
    (M8 : MkK P w K mg base (cl 8) ["self"] (spI0 (cl 8))) :
    FnOk P w K mg base CX0 3 f fd ["_law_which", "_law_n", "_law_one", "_law_other"] (spMade K cl) := by
  obtain ⟨f0, d0, i0, t0, G0, b0⟩ := M0.ex
  obtain ⟨f1, d1, i1, t1, G1, b1⟩ := M1.ex
  obtain ⟨f2, d2, i2, t2, G2, b2⟩ := M2.ex
  obtain ⟨f3, d3, i3, t3, G3, b3⟩ := M3.ex
  obtain ⟨f4, d4, i4, t4, G4, b4⟩ := M4.ex
  obtain ⟨f5, d5, i5, t5, G5, b5⟩ := M5.ex
  obtain ⟨f6, d6, i6, t6, G6, b6⟩ := M6.ex
  obtain ⟨f7, d7, i7, t7, G7, b7⟩ := M7.ex
  obtain ⟨f8, d8, i8, t8, G8, b8⟩ := M8.ex
  refine F.ok scMade (fun vs H Q E h => ?_) (fun cdv A outer s H vs Q E hr h => ?_)
  · obtain ⟨i, z, a, b, xs, ys, _, rfl, _⟩ := h
    rfl
  · obtain ⟨i, z, pa, pb, xs, ys, hi, rfl, ha, hb, k⟩ := h
    refine ⟨_, (pss_cons (ps_if (pt_cmpR op_eq (pv 0) pe_int (nomark _)) (pss_cons (ps_set (i := 4) scMade.nd rfl (Or.inl rfl) (pe_mkE N.e0.ox i0 t0 G0 (hr.mono (by decide)) b0 .nil pass0 (by rfl) N.e0.gm (pa_cons (pv 1) pa_nil))) (pss_one (ps_ret (pe_newL (pa_cons (pv 4) (pa_cons (pe_cmpR op_eq (pe_ef (pv 4)) (pv 1) (nomark _)) pa_nil)))))) pss_nil)
      (pss_cons (ps_if (pt_cmpR op_eq (pv 0) pe_int (nomark _)) (pss_cons (ps_set (i := 4) scMade.nd rfl (Or.inl rfl) (pe_mkE N.e1.ox i1 t1 G1 (hr.mono (by decide)) b1 .nil pass0 (by rfl) N.e1.gm (pa_cons (pv 1) pa_nil))) (pss_one (ps_ret (pe_newL (pa_cons (pv 4) (pa_cons (pe_cmpR op_eq (pe_ef (pv 4)) (pv 1) (nomark _)) pa_nil)))))) pss_nil)
      (pss_cons (ps_if (pt_cmpR op_eq (pv 0) pe_int (nomark _)) (pss_cons (ps_set (i := 4) scMade.nd rfl (Or.inl rfl) (pe_mkE N.e2.ox i2 t2 G2 (hr.mono (by decide)) b2 .nil pass0 (by rfl) N.e2.gm (pa_cons (pv 2) pa_nil))) (pss_one (ps_ret (pe_newL (pa_cons (pv 4) (pa_cons (pe_cmpR (op_eqD hr.units) (pe_ef (pv 4)) (pe_callTy call_tup (by rfl) mt (by decide +kernel) (pa_cons (pv 2) pa_nil)) (nomark _)) pa_nil)))))) pss_nil)
      (pss_cons (ps_if (pt_cmpR op_eq (pv 0) pe_int (nomark _)) (pss_cons (ps_set (i := 4) scMade.nd rfl (Or.inl rfl) (pe_mkE N.e3.ox i3 t3 G3 (hr.mono (by decide)) b3 .nil pass0 (by rfl) N.e3.gm (pa_cons (pv 1) pa_nil))) (pss_one (ps_ret (pe_newL (pa_cons (pv 4) (pa_cons (pe_cmpR op_eq (pe_ef (pv 4)) (pv 1) (nomark _)) pa_nil)))))) pss_nil)
      (pss_cons (ps_if (pt_cmpR op_eq (pv 0) pe_int (nomark _)) (pss_cons (ps_set (i := 4) scMade.nd rfl (Or.inl rfl) (pe_mkE N.e4.ox i4 t4 G4 (hr.mono (by decide)) b4 .nil pass0 (by rfl) N.e4.gm (pa_cons (pv 2) (pa_cons (pv 3) pa_nil)))) (pss_one (ps_ret (pe_newL (pa_cons (pv 4) (pa_cons (pe_cmpR (op_eqD hr.units) (pe_newL (pa_cons (pe_ef (pv 4)) (pa_cons (pe_ef (pv 4)) pa_nil))) (pe_newL (pa_cons (pe_callTy call_tup (by rfl) mt (by decide +kernel) (pa_cons (pv 2) pa_nil)) (pa_cons (pe_callTy call_tup (by rfl) mt (by decide +kernel) (pa_cons (pv 3) pa_nil)) pa_nil))) (nomark _)) pa_nil)))))) pss_nil)
      (pss_cons (ps_if (pt_cmpR op_eq (pv 0) pe_int (nomark _)) (pss_cons (ps_set (i := 4) scMade.nd rfl (Or.inl rfl) (pe_mkE N.e5.ox i5 t5 G5 (hr.mono (by decide)) b5 .nil pass0 (by rfl) N.e5.gm (pa_cons (pe_callTy call_tup (by rfl) mt (by decide +kernel) (pa_cons (pv 2) pa_nil)) (pa_cons (pe_callTy call_tup (by rfl) mt (by decide +kernel) (pa_cons (pv 3) pa_nil)) pa_nil)))) (pss_one (ps_ret (pe_newL (pa_cons (pv 4) (pa_cons (pe_cmpR (op_eqD hr.units) (pe_newL (pa_cons (pe_ef (pv 4)) (pa_cons (pe_ef (pv 4)) pa_nil))) (pe_newL (pa_cons (pe_callTy call_tup (by rfl) mt (by decide +kernel) (pa_cons (pv 2) pa_nil)) (pa_cons (pe_callTy call_tup (by rfl) mt (by decide +kernel) (pa_cons (pv 3) pa_nil)) pa_nil))) (nomark _)) pa_nil)))))) pss_nil)
      (pss_cons (ps_if (pt_cmpR op_eq (pv 0) pe_int (nomark _)) (pss_cons (ps_set (i := 4) scMade.nd rfl (Or.inl rfl) (pe_mkE N.e6.ox i6 t6 G6 (hr.mono (by decide)) b6 .nil pass0 (by rfl) N.e6.gm (pa_cons (pv 2) (pa_cons (pv 3) pa_nil)))) (pss_one (ps_ret (pe_newL (pa_cons (pv 4) (pa_cons (pe_cmpR (op_eqD hr.units) (pe_newL (pa_cons (pe_ef (pv 4)) (pa_cons (pe_ef (pv 4)) pa_nil))) (pe_newL (pa_cons (pe_callTy call_tup (by rfl) mt (by decide +kernel) (pa_cons (pv 2) pa_nil)) (pa_cons (pe_callTy call_tup (by rfl) mt (by decide +kernel) (pa_cons (pv 3) pa_nil)) pa_nil))) (nomark _)) pa_nil)))))) pss_nil)
      (pss_one (ps_ret (pe_newL (pa_cons (pe_ix ix_list (pe_newL (pa_cons (pe_mkE0 N.e7.ox i7 t7 G7 (hr.mono (by decide)) b7 .nil pass0 (by rfl) N.e7.gm) (pa_cons (pe_mkE0 N.e8.ox i8 t8 G8 (hr.mono (by decide)) b8 .nil pass0 (by rfl) N.e8.gm) pa_nil))) (pe_op op_sub (pv 0) pe_int) (fun _ _ => rfl)) (pa_cons pe_bl pa_nil)))))))))))), ?_⟩
    refine ⟨_, rfl, rfl, _, rfl, ite2 (fun e => ?_) (fun e0 => ?_)⟩
    · obtain rfl : i = 0 := by
        have z := V.int.inj (of_decide_eq_true e)
        omega
      refine ⟨_, rfl, (by show 1 ≤ 1000; decide), fun a na => ⟨a, _, rfl, upd_same, fun d H1 fl => ⟨rfl, ?_⟩⟩⟩
      have sm := made_same na fl
      refine ⟨_, rfl, _, rfl, a, _, d, _, _, rfl, fl.ob, fl.dc, N.e0.xf, N.n0, rfl, _, rfl, rfl, (by show 2 ≤ sizeLine; decide), fun p2 H3 s3 np e3 => ?_⟩
      rw [decide_eq_true rfl] at e3
      exact k p2 a H3 (sm.trans s3) e3 ⟨some d, _, s3 _ _ fl.ob, fun d' h => by cases h; exact s3 _ _ fl.dc⟩
    refine ⟨_, rfl, rfl, _, rfl, ite2 (fun e => ?_) (fun e1 => ?_)⟩
    · obtain rfl : i = 1 := by
        have z := V.int.inj (of_decide_eq_true e)
        omega
      refine ⟨_, rfl, (by show 1 ≤ 1000; decide), fun a na => ⟨a, _, rfl, upd_same, fun d H1 fl => ⟨rfl, ?_⟩⟩⟩
      have sm := made_same na fl
      refine ⟨_, rfl, _, rfl, a, _, d, _, _, rfl, fl.ob, fl.dc, N.e1.xf, N.n1, rfl, _, rfl, rfl, (by show 2 ≤ sizeLine; decide), fun p2 H3 s3 np e3 => ?_⟩
      rw [decide_eq_true rfl] at e3
      exact k p2 a H3 (sm.trans s3) e3 ⟨some d, _, s3 _ _ fl.ob, fun d' h => by cases h; exact s3 _ _ fl.dc⟩
    refine ⟨_, rfl, rfl, _, rfl, ite2 (fun e => ?_) (fun e2 => ?_)⟩
    · obtain rfl : i = 2 := by
        have z := V.int.inj (of_decide_eq_true e)
        omega
      refine ⟨_, rfl, (by show 1 ≤ 1000; decide), fun a na => ⟨a, pa, _, rfl, upd_same, sqA_same (same_upd na) ha, fun d q H1 fl hq => ⟨rfl, ?_⟩⟩⟩
      have sm := made_same na fl
      refine ⟨_, rfl, _, rfl, a, _, d, _, _, rfl, fl.ob, fl.dc, N.e2.xf, N.n2, rfl, _, rfl, pa, _, rfl, sqA_same sm ha, fun q2 H2 s2 hq2 => ?_⟩
      refine ⟨_, _, .tup (Same.sqt s2 hq) (dpInts xs), .tup hq2 (dpInts xs), shapedT xs, shapedT xs, (by show 2 ≤ sizeLine; decide), fun p2 H3 s3 np e3 => ?_⟩
      rw [eqvSelf (shapedT xs)] at e3
      exact k p2 a H3 (sm.trans (s2.trans s3)) e3 ⟨some d, _, s3 _ _ (s2 _ _ fl.ob), fun d' h => by cases h; exact s3 _ _ (s2 _ _ fl.dc)⟩
    refine ⟨_, rfl, rfl, _, rfl, ite2 (fun e => ?_) (fun e3 => ?_)⟩
    · obtain rfl : i = 3 := by
        have z := V.int.inj (of_decide_eq_true e)
        omega
      refine ⟨_, rfl, (by show 1 ≤ 1000; decide), fun a na => ⟨a, _, rfl, upd_same, fun d H1 fl => ⟨rfl, ?_⟩⟩⟩
      have sm := made_same na fl
      refine ⟨_, rfl, _, rfl, a, _, d, _, _, rfl, fl.ob, fl.dc, N.e3.xf, N.n3, rfl, _, rfl, rfl, (by show 2 ≤ sizeLine; decide), fun p2 H3 s3 np e3 => ?_⟩
      rw [decide_eq_true rfl] at e3
      exact k p2 a H3 (sm.trans s3) e3 ⟨some d, _, s3 _ _ fl.ob, fun d' h => by cases h; exact s3 _ _ fl.dc⟩
    refine ⟨_, rfl, rfl, _, rfl, ite2 (fun e => ?_) (fun e4 => ?_)⟩
    · obtain rfl : i = 4 := by
        have z := V.int.inj (of_decide_eq_true e)
        omega
      refine ⟨_, rfl, _, rfl, (by show 2 ≤ 1000; decide), fun a na => ⟨a, pa, pb, _, _, rfl, upd_same, sqA_same (same_upd na) ha, sqA_same (same_upd na) hb, fun d q q' H1 fl hq hq' => ⟨rfl, ?_⟩⟩⟩
      have sm := made_same na fl
      refine ⟨_, rfl, _, rfl, a, _, d, _, _, rfl, fl.ob, fl.dc, N.e4.xf, N.n4, rfl, _, rfl, a, _, d, _, _, rfl, fl.ob, fl.dc, N.e4.xf, N.m4, rfl, (by show 2 ≤ sizeLine; decide), fun l1 K1 c1 nl1 f1 => ?_⟩
      refine ⟨_, rfl, pa, _, rfl, sqA_same (sm.trans c1) ha, fun r1 K2 c2 g1 => ⟨_, rfl, pb, _, rfl, sqA_same (sm.trans (c1.trans c2)) hb, fun r2 K3 c3 g2 => ⟨(by show 2 ≤ sizeLine; decide), fun l2 K4 c4 nl2 f2 => ?_⟩⟩⟩
      have c24 := c2.trans (c3.trans c4)
      refine ⟨.list [.tuple (xs.map PyData.int), .tuple (ys.map PyData.int)], .list [.tuple (xs.map PyData.int), .tuple (ys.map PyData.int)], .lst (SqL.of (c24 _ _ f1)) (.cons (.tup (Same.sqt (c1.trans c24) hq) (dpInts xs)) (.cons (.tup (Same.sqt (c1.trans c24) hq') (dpInts ys)) .nil)),
        .lst (SqL.of f2) (.cons (.tup (Same.sqt (c3.trans c4) g1) (dpInts xs)) (.cons (.tup (Same.sqt c4 g2) (dpInts ys)) .nil)), shapedLT xs ys, shapedLT xs ys, (by show 2 ≤ sizeLine; decide), fun p2 H3 s3 np e3 => ?_⟩
      rw [eqvSelf (shapedLT xs ys)] at e3
      have c := c1.trans (c24.trans s3)
      exact k p2 a H3 (sm.trans c) e3 ⟨some d, _, c _ _ fl.ob, fun d' h => by cases h; exact c _ _ fl.dc⟩
    refine ⟨_, rfl, rfl, _, rfl, ite2 (fun e => ?_) (fun e5 => ?_)⟩
    · obtain rfl : i = 5 := by
        have z := V.int.inj (of_decide_eq_true e)
        omega
      refine ⟨_, rfl, pa, _, rfl, ha, fun q0 H0 s0 hq0 => ⟨_, rfl, pb, _, rfl, sqA_same s0 hb, fun q1 H01 s1 hq1 => ?_⟩⟩
      refine ⟨(by show 2 ≤ 1000; decide), fun a na => ⟨a, _, _, rfl, upd_same, fun d H1 fl => ⟨rfl, ?_⟩⟩⟩
      have sm0 := made_same na fl
      have sm := s0.trans (s1.trans sm0)
      have hq := Same.sqt (s1.trans sm0) hq0
      have hq' := Same.sqt sm0 hq1
      refine ⟨_, rfl, _, rfl, a, _, d, _, _, rfl, fl.ob, fl.dc, N.e5.xf, N.n5, rfl, _, rfl, a, _, d, _, _, rfl, fl.ob, fl.dc, N.e5.xf, N.m5, rfl, (by show 2 ≤ sizeLine; decide), fun l1 K1 c1 nl1 f1 => ?_⟩
      refine ⟨_, rfl, pa, _, rfl, sqA_same (sm.trans c1) ha, fun r1 K2 c2 g1 => ⟨_, rfl, pb, _, rfl, sqA_same (sm.trans (c1.trans c2)) hb, fun r2 K3 c3 g2 => ⟨(by show 2 ≤ sizeLine; decide), fun l2 K4 c4 nl2 f2 => ?_⟩⟩⟩
      have c24 := c2.trans (c3.trans c4)
      refine ⟨.list [.tuple (xs.map PyData.int), .tuple (ys.map PyData.int)], .list [.tuple (xs.map PyData.int), .tuple (ys.map PyData.int)], .lst (SqL.of (c24 _ _ f1)) (.cons (.tup (Same.sqt (c1.trans c24) hq) (dpInts xs)) (.cons (.tup (Same.sqt (c1.trans c24) hq') (dpInts ys)) .nil)),
        .lst (SqL.of f2) (.cons (.tup (Same.sqt (c3.trans c4) g1) (dpInts xs)) (.cons (.tup (Same.sqt c4 g2) (dpInts ys)) .nil)), shapedLT xs ys, shapedLT xs ys, (by show 2 ≤ sizeLine; decide), fun p2 H3 s3 np e3 => ?_⟩
      rw [eqvSelf (shapedLT xs ys)] at e3
      have c := c1.trans (c24.trans s3)
      exact k p2 a H3 (sm.trans c) e3 ⟨some d, _, c _ _ fl.ob, fun d' h => by cases h; exact c _ _ fl.dc⟩
    refine ⟨_, rfl, rfl, _, rfl, ite2 (fun e => ?_) (fun e6 => ?_)⟩
    · obtain rfl : i = 6 := by
        have z := V.int.inj (of_decide_eq_true e)
        omega
      refine ⟨_, rfl, _, rfl, (by show 2 ≤ 1000; decide), fun a na => ⟨a, pa, pb, _, _, rfl, upd_same, sqA_same (same_upd na) ha, sqA_same (same_upd na) hb, fun d q q' H1 fl hq hq' => ⟨rfl, ?_⟩⟩⟩
      have sm := made_same na fl
      refine ⟨_, rfl, _, rfl, a, _, d, _, _, rfl, fl.ob, fl.dc, N.e6.xf, N.n6, rfl, _, rfl, a, _, d, _, _, rfl, fl.ob, fl.dc, N.e6.xf, N.m6, rfl, (by show 2 ≤ sizeLine; decide), fun l1 K1 c1 nl1 f1 => ?_⟩
      refine ⟨_, rfl, pa, _, rfl, sqA_same (sm.trans c1) ha, fun r1 K2 c2 g1 => ⟨_, rfl, pb, _, rfl, sqA_same (sm.trans (c1.trans c2)) hb, fun r2 K3 c3 g2 => ⟨(by show 2 ≤ sizeLine; decide), fun l2 K4 c4 nl2 f2 => ?_⟩⟩⟩
      have c24 := c2.trans (c3.trans c4)
      refine ⟨.list [.tuple (xs.map PyData.int), .tuple (ys.map PyData.int)], .list [.tuple (xs.map PyData.int), .tuple (ys.map PyData.int)], .lst (SqL.of (c24 _ _ f1)) (.cons (.tup (Same.sqt (c1.trans c24) hq) (dpInts xs)) (.cons (.tup (Same.sqt (c1.trans c24) hq') (dpInts ys)) .nil)),
        .lst (SqL.of f2) (.cons (.tup (Same.sqt (c3.trans c4) g1) (dpInts xs)) (.cons (.tup (Same.sqt c4 g2) (dpInts ys)) .nil)), shapedLT xs ys, shapedLT xs ys, (by show 2 ≤ sizeLine; decide), fun p2 H3 s3 np e3 => ?_⟩
      rw [eqvSelf (shapedLT xs ys)] at e3
      have c := c1.trans (c24.trans s3)
      exact k p2 a H3 (sm.trans c) e3 ⟨some d, _, c _ _ fl.ob, fun d' h => by cases h; exact c _ _ fl.dc⟩
    refine ⟨(by show 0 ≤ 1000; decide), fun a na => ⟨a, rfl, upd_same, ⟨rfl, ?_⟩⟩⟩
    refine ⟨(by show 0 ≤ 1000; decide), fun a' na' => ⟨a', rfl, upd_same, ⟨rfl, ?_⟩⟩⟩
    have h78 : i = 7 ∨ i = 8 := by
      have g : ∀ j : Nat, ¬ decide (V.int (i : Int) = V.int (j : Int)) = true → i ≠ j := fun j q z => q (decide_eq_true (by rw [z]))
      have g0 := g 0 e0
      have g1 := g 1 e1
      have g2 := g 2 e2
      have g3 := g 3 e3
      have g4 := g 4 e4
      have g5 := g 5 e5
      have g6 := g 6 e6
      omega
    refine ⟨(by show 2 ≤ sizeLine; decide), fun l1 K1 c1 nl1 f1 => ?_⟩
    have sa := same_upd (o := exo a (cl 7) none) na
    have sb := same_upd (o := exo a' (cl 8) none) na'
    rcases h78 with rfl | rfl
    · refine ⟨_, rfl, _, _, rfl, rfl, l1, _, _, _, rfl, rfl, SqL.of f1, atI_nat (j := 0) rfl, (by show 2 ≤ sizeLine; decide), fun p2 H3 s3 np e3 => ?_⟩
      exact k p2 a H3 (sa.trans (sb.trans (c1.trans s3))) e3 ⟨none, [], (sb.trans (c1.trans s3)) _ _ upd_same, fun d h => by cases h⟩
    · refine ⟨_, rfl, _, _, rfl, rfl, l1, _, _, _, rfl, rfl, SqL.of f1, atI_nat (j := 1) rfl, (by show 2 ≤ sizeLine; decide), fun p2 H3 s3 np e3 => ?_⟩
      exact k p2 a' H3 (sa.trans (sb.trans (c1.trans s3))) e3 ⟨none, [], (c1.trans s3) _ _ upd_same, fun d h => by cases h⟩

end
end KL

set_option Elab.async false
set_option linter.all false
set_option maxRecDepth 100000
set_option maxHeartbeats 4000000
namespace KL
open PySem PySem.Spec PyProof.Rows L2 NdefX SX
abbrev sLaw : Stmt := top 17
abbrev nLaw : List Str := ["_law_script", "_law_pool", "_law_n", "_law_one", "_law_other", "_law_which", "_law_pair", "_law_e", "_law_same", "_law_k"]
theorem scLaw : FnScope nLaw ["_law_script"] (defScope sLaw) := ⟨rfl, rfl, rfl, by decide +kernel, rfl, by decide +kernel, by decide +kernel⟩
def rListW (K : PySem.W.Frag) : List V → Hp → VK → Prop := fun vs H Q => ∃ (p : Addr) (xs : List V), vs = [.ref p] ∧ SqA K H p xs ∧ ∀ q H2, Same H H2 → H q = none → H2 q = some (.lst xs) → Q (.ref q) H2
theorem call_listW {X : Cx} : CallR X (.type "list") (rListW X.K) := fun pins s σ H vs us Q I r ⟨p, xs, e, h, k⟩ => call_list_of pins s σ H vs us Q I r ⟨p, xs, e, h, fun q hq => k q _ (same_upd hq) hq upd_same⟩
theorem Bag.same {H H' : Hp} {p : Addr} {b : Bool} (h : Bag H p b) (s : Same H H') : Bag H' p b := by
  obtain ⟨c, n, e⟩ := h
  exact ⟨c, n, s _ _ e⟩
theorem Same.but {p : Addr} {H H' : Hp} (s : Same H H') : But p H H' := fun b o e _ => s b o e
theorem Bag.ne {H : Hp} {p q : Addr} {b : Bool} (h : Bag H p b) (hq : H q = none) : q ≠ p := fun z => by
  obtain ⟨c, n, e⟩ := h
  rw [← z, hq] at e
  cases e
theorem But.lst {H H' : Hp} {p q : Addr} {o : HO} (s : But p H H') (hq : q ≠ p) (h : H q = some o) : H' q = some o := s _ _ h hq
/-- the same of an object that was new -/
def spLaw (K : PySem.W.Frag) : Sp := fun vs H Q _ => ∃ (a : Addr) (ns : List Int), vs = [.ref a] ∧ SqL K H a (ns.map V.int) ∧ ns.length ≤ 63 ∧ ∀ H', Q (.bl true) H'
theorem pick3 (x y z r : Int) (h0 : 0 ≤ r) (h1 : r < 3) : ∃ v : Int, atI [V.int x, .int y, .int z] r = some (.int v) := by
  have : r = 0 ∨ r = 1 ∨ r = 2 := by omega
  rcases this with rfl | rfl | rfl
  · exact ⟨x, rfl⟩
  · exact ⟨y, rfl⟩
  · exact ⟨z, rfl⟩
theorem flags_dp {K : PySem.W.Frag} {H : Hp} (bs : List Bool) : DpAll K H (bs.map V.bl) (bs.map PyData.bool) := by
  induction bs with
  | nil => exact .nil
  | cons b bs ih => exact .cons (.bl b) ih
theorem layBools : ∀ xs : List Bool, PyData.canLayAll0 (xs.map PyData.bool) = true
  | [] => rfl
  | x :: xs => by
    show (PyData.canLay0 (.bool x) && PyData.canLayAll0 (xs.map PyData.bool)) = true
    rw [layBools xs]
    rfl
theorem depBools : ∀ xs : List Bool, PyData.depthAll (xs.map PyData.bool) = 0
  | [] => rfl
  | x :: xs => by
    show max (PyData.depth (.bool x)) (PyData.depthAll (xs.map PyData.bool)) = 0
    rw [depBools xs]
    rfl
theorem shapedB (xs : List Bool) : SeqAt.shaped (.list (xs.map PyData.bool)) = true := by
  unfold SeqAt.shaped
  rw [show PyData.canLay0 (.list (xs.map PyData.bool)) = PyData.canLayAll0 (xs.map PyData.bool) from rfl, layBools,
    show PyData.depth (.list (xs.map PyData.bool)) = PyData.depthAll (xs.map PyData.bool) + 1 from rfl, depBools]
  rfl
/-- what stands through the law: the pool's list is not asked any more, the two options -/
structure Here (K : PySem.W.Frag) (H : Hp) (one other : Addr) (xs ys : List Int) : Prop where
  l : H one = some (.lst (xs.map V.int))
  t : SqT K H other (ys.map V.int)
theorem Here.same {K : PySem.W.Frag} {H H' : Hp} {one other : Addr} {xs ys : List Int} (h : Here K H one other xs ys) (s : Same H H') : Here K H' one other xs ys := ⟨s _ _ h.l, Same.sqt s h.t⟩
section
variable {P : Program} {w : World} {K : PySem.W.Frag} {mg : Str → Option Value} {base : Heap} {f fB fD fA fK fM R : Addr} {fd dB dD dA dK dM : FuncData} {cl : Nat → Addr}
theorem ok_law (F : Fun K "law" "law" sLaw f fd) (N : Nine K mg cl)
    (FB : Fun K "_law_bag" "_law_bag" sBag fB dB) (bB : Binds K dB ["_law_cell"] []) (gB : mg "_law_bag" = some (.ref fB)) (GB : FnOk P w K mg base CX0 1 fB dB ["_law_cell"] spBag)
    (FD : Fun K "_law_draw" "_law_draw" sDraw fD dD) (bD : Binds K dD ["_law_pool", "_law_limit"] []) (gD : mg "_law_draw" = some (.ref fD)) (GD : FnOk P w K mg base CX0 1 fD dD ["_law_pool", "_law_limit"] spDraw)
    (FA : Fun K "_law_at" "_law_at" sAt fA dA) (bA : Binds K dA ["_law_script", "_law_k"] []) (gA : mg "_law_at" = some (.ref fA)) (GA : FnOk P w K mg base CX0 1 fA dA ["_law_script", "_law_k"] (spAt K))
    (FK : Fun K "_law_kinds" "_law_kinds" sKinds fK dK) (bK : Binds K dK ["_law_e"] []) (gK : mg "_law_kinds" = some (.ref fK)) (GK : FnOk P w K mg base CX0 1 fK dK ["_law_e"] (spKinds cl))
    (FM : Fun K "_law_made" "_law_made" sMade fM dM) (bM : Binds K dM ["_law_which", "_law_n", "_law_one", "_law_other"] []) (gM : mg "_law_made" = some (.ref fM)) (GM : FnOk P w K mg base CX0 3 fM dM ["_law_which", "_law_n", "_law_one", "_law_other"] (spMade K cl))
    (mi : mg "int" = none) (mr : mg "range" = none) (mt : mg "tuple" = none) (ml : mg "list" = none) (ms : mg "isinstance" = none) (mv : mg "ValueError" = none) (gR : mg "RiseError" = some (.ref R))
    (kR : ∀ i, i < 9 → PySem.W.kitOne K (.ref (cl i)) (.ref R) = some true) (kV : ∀ i, i < 9 → PySem.W.kitOne K (.ref (cl i)) (.type "ValueError") = some true) :
    FnOk P w K mg base CX0 4 f fd ["_law_script"] (spLaw K) := by
  refine F.ok scLaw (fun vs H Q E h => ?_) (fun cdv A outer s H vs Q E hr h => ?_)
  · obtain ⟨a, ns, rfl, _⟩ := h
    rfl
  · obtain ⟨a, ns, rfl, hS, hlen, k⟩ := h
    have hr1 : Room 1 _ := hr.mono (by decide)
    refine ⟨_, pss_cons (ps_set (i := 1) scLaw.nd rfl (Or.inr rfl) (pe_call GB hr1 (by rfl) gB FB.kp bB .nil pass0 (pa_cons (pe_call GA hr1 (by rfl) gA FA.kp bA .nil pass0 (pa_cons (pv 0) (pa_cons pe_int pa_nil))) pa_nil)))
      (pss_cons (ps_set (i := 2) scLaw.nd rfl (Or.inl rfl) (pe_ix ix_list (pe_newL (pa_cons (pe_op op_sub (pe_call GD hr1 (by rfl) gD FD.kp bD .nil pass0 (pa_cons (pv 1) (pa_cons pe_int pa_nil))) pe_int)
          (pa_cons (pe_op op_modN (pe_callTy call_int1 (by rfl) mi (by decide +kernel) (pa_cons (pe_call GA hr1 (by rfl) gA FA.kp bA .nil pass0 (pa_cons (pv 0) (pa_cons pe_int pa_nil))) pa_nil)) (pe_op op_pow pe_int pe_int))
          (pa_cons (pe_un un_neg pe_int) pa_nil)))) (pe_call GD hr1 (by rfl) gD FD.kp bD .nil pass0 (pa_cons (pv 1) (pa_cons pe_int pa_nil))) (fun _ _ => rfl)))
      (pss_cons (ps_setLc (i := 3) (own := [("_law_k", 9)]) (g := gName 9) (tt := tYes) rfl scLaw.nd rfl rfl (sw_true rfl rfl rfl (by decide +kernel)) (pi_range1 rfl mr (pa_cons (pe_call GD hr1 (by rfl) gD FD.kp bD .nil pass0 (pa_cons (pv 1) (pa_cons pe_int pa_nil))) pa_nil))
          (blkOk_by (N := nLaw) (sc := defScope sLaw) (by decide +kernel)) (fun _ _ _ _ _ => pg_name (i := 9) scLaw.nd rfl (Or.inl rfl)) (fun _ _ _ _ _ => pts_nil) (fun _ _ _ _ _ => pe_op op_sub (pe_call GD hr1 (by rfl) gD FD.kp bD .nil pass0 (pa_cons (pv 1) (pa_cons pe_int pa_nil))) pe_int))
      (pss_cons (ps_set (i := 4) scLaw.nd rfl (Or.inl rfl) (pe_callTy call_tup (by rfl) mt (by decide +kernel) (pa_cons
          (pe_lc (own := [("_law_k", 9)]) (g := gName 9) (tt := tYes) rfl scLaw.nd (pi_range1 rfl mr (pa_cons (pe_call GD hr1 (by rfl) gD FD.kp bD .nil pass0 (pa_cons (pv 1) (pa_cons pe_int pa_nil))) pa_nil))
          (blkOk_by (N := nLaw) (sc := defScope sLaw) (by decide +kernel)) (fun _ _ _ _ _ => pg_name (i := 9) scLaw.nd rfl (Or.inl rfl)) (fun _ _ _ _ _ => pts_nil) (fun _ _ _ _ _ => pe_call GD hr1 (by rfl) gD FD.kp bD .nil pass0 (pa_cons (pv 1) (pa_cons pe_int pa_nil)))) pa_nil)))
      (pss_cons (ps_for PassesOwn.never rfl (pi_range1 rfl mr (pa_cons pe_int pa_nil)) (pg_name (i := 5) scLaw.nd rfl (Or.inr rfl))
        (pss_one (ps_for PassesOwn.never rfl (pi_list (pe_newL (pa_cons (pe_newL (pa_cons (pv 3) (pa_cons (pv 4) pa_nil))) (pa_cons (pe_newL (pa_cons (pv 4) (pa_cons (pe_callTy call_listW (by rfl) ml (by decide +kernel) (pa_cons (pv 3) pa_nil)) pa_nil))) pa_nil)))) (pg_name (i := 6) scLaw.nd rfl (Or.inl rfl))
          (pss_cons (ps_asg (pe_call GM (hr.mono (by decide)) (by rfl) gM FM.kp bM .nil pass0 (pa_cons (pv 5) (pa_cons (pv 2) (pa_cons (pe_ix ix_list (pv 6) pe_int (fun _ _ => rfl)) (pa_cons (pe_ix ix_list (pv 6) pe_int (fun _ _ => rfl)) pa_nil)))))
              (pg_unl rfl (pgs_cons (pg_name (i := 7) scLaw.nd rfl (Or.inl rfl)) (pgs_cons (pg_name (i := 8) scLaw.nd rfl (Or.inl rfl)) pgs_nil))))
          (pss_cons (ps_if (PW.pt (pw_or (pt_not (pt_val (pv 8))) (pw_or1 (pt_cmpR (op_neD hr.units) (pe_call GK hr1 (by rfl) gK FK.kp bK .nil pass0 (pa_cons (pv 7) pa_nil))
              (pe_lc (own := [("_law_k", 9)]) (g := gName 9) (tt := tYes) rfl scLaw.nd (pi_range1 rfl mr (pa_cons pe_int pa_nil))
                (blkOk_by (N := nLaw) (sc := defScope sLaw) (by decide +kernel)) (fun _ _ _ _ _ => pg_name (i := 9) scLaw.nd rfl (Or.inl rfl)) (fun _ _ _ _ _ => pts_nil) (fun _ _ _ _ _ => pe_cmpR op_eq (pv 9) (pv 5) (nomark _))) (nomark _))))) (pss_one (ps_ret pe_bl)) pss_nil)
          (pss_one (ps_if (PW.pt (pw_or (pt_not (pt_val (pe_callB call_isX (by rfl) ms (by decide +kernel) (pa_cons (pv 7) (pa_cons (pe_glob (v := .ref R) (by rfl) gR rfl) pa_nil)))))
              (pw_or1 (pt_not (pt_val (pe_callB call_isX (by rfl) ms (by decide +kernel) (pa_cons (pv 7) (pa_cons (pe_bltn (v := .ty "ValueError") (by rfl) mv (by decide +kernel) rfl) pa_nil)))))))) (pss_one (ps_ret pe_bl)) pss_nil)))))))
      (pss_one (ps_ret pe_bl)))))), ?_⟩
    -- the pool
    refine ⟨_, rfl, a, ns, 0, rfl, hS, fun z0 => ⟨z0, rfl, fun p H1 b s1 np hB1 => ?_⟩⟩
    have toS : ∀ {H' : Hp}, But p H1 H' → Same H H' := fun bt c o e => bt c o (s1 c o e) (ne_of_none e np)
    -- a number
    refine ⟨_, rfl, p, 40, b, rfl, hB1, by decide, by decide, fun r1 H2 _ _ b2 hB2 => ?_⟩
    refine ⟨_, _, rfl, rfl, _, rfl, a, ns, 1, rfl, (toS b2).seq hS, fun z1 => .inl ⟨_, rfl, ?_⟩⟩
    refine ⟨_, _, rfl, rfl, ⟨by decide, by decide, by decide⟩, _, _, rfl, rfl, (by show (10 : Int) ^ 40 ≠ 0; decide), _, rfl, (by show 3 ≤ sizeLine; decide), fun l H3 s3 nl el => ?_⟩
    refine ⟨_, rfl, p, 3, b, rfl, hB2.same s3, by decide, by decide, fun r2 H4 h20 h23 b4 hB4 => ?_⟩
    obtain ⟨z, hz⟩ := pick3 _ _ _ r2 h20 h23
    refine ⟨l, _, _, _, rfl, rfl, SqL.of (b4.lst (hB2.ne nl) el), hz, ?_⟩
    have bt4 : But p H1 H4 := b2.trans ((Same.but s3).trans b4)
    -- the first option
    refine ⟨_, rfl, p, 4, b, rfl, hB4, by decide, by decide, fun r3 H5 h30 h34 b5 hB5 => ⟨r3, rfl, by omega, by omega, fun D nD => ?_⟩⟩
    have nDp := hB5.ne nD
    refine lc_range (lo := 0) (n := r3.toNat) (fun i H' => ∃ xs : List Int, xs.length = i ∧ H' D = some (.lst (xs.map V.int)) ∧ Bag H' p b ∧ But p H5 H') ⟨[], rfl, upd_same, hB5.same (same_upd nD), (Same.but (same_upd nD))⟩ ?_ ?_
    · rintro i H' hi ⟨xs, hl, hD, hB, bt⟩
      refine ⟨rfl, ?_⟩
      refine ⟨_, rfl, p, 12, b, rfl, hB, by decide, by decide, fun r H6 _ _ b6 hB6 => ⟨_, _, rfl, rfl, _, b6.lst nDp hD, ?_, ?_⟩⟩
      · rw [List.length_map, hl]
        exact small1000 (by omega)
      · refine ⟨xs ++ [r - 2], by rw [List.length_append, hl]; rfl, by rw [upd_same, List.map_append]; rfl, ?_, fun c o e n => ?_⟩
        · obtain ⟨x1, x2, e⟩ := hB6
          exact ⟨x1, x2, by rw [upd_ne nDp.symm]; exact e⟩
        · rw [upd_ne (ne_of_none e nD)]
          exact b6 c o (bt c o e n) n
    rintro H6 ⟨xs, hxl, hD, hB6, bt6⟩
    -- the second option
    refine ⟨_, rfl, p, 4, b, rfl, hB6, by decide, by decide, fun r4 H7 h40 h44 b7 hB7 => ⟨r4, rfl, by omega, by omega, fun D2 nD2 => ?_⟩⟩
    have nDp2 := hB7.ne nD2
    have hD7 := b7.lst nDp hD
    refine lc_range (lo := 0) (n := r4.toNat) (fun i H' => ∃ ys : List Int, ys.length = i ∧ H' D2 = some (.lst (ys.map V.int)) ∧ Bag H' p b ∧ But p H7 H') ⟨[], rfl, upd_same, hB7.same (same_upd nD2), (Same.but (same_upd nD2))⟩ ?_ ?_
    · rintro i H' hi ⟨ys, hl, hD2, hB, bt⟩
      refine ⟨rfl, ?_⟩
      refine ⟨_, rfl, p, 12, b, rfl, hB, by decide, by decide, fun r H8 _ _ b8 hB8 => ⟨_, b8.lst nDp2 hD2, ?_, ?_⟩⟩
      · rw [List.length_map, hl]
        exact small1000 (by omega)
      · refine ⟨ys ++ [r], by rw [List.length_append, hl]; rfl, by rw [upd_same, List.map_append]; rfl, ?_, fun c o e n => ?_⟩
        · obtain ⟨x1, x2, e⟩ := hB8
          exact ⟨x1, x2, by rw [upd_ne nDp2.symm]; exact e⟩
        · rw [upd_ne (ne_of_none e nD2)]
          exact b8 c o (bt c o e n) n
    rintro H8 ⟨ys, hyl, hD2, hB8, bt8⟩
    refine ⟨D2, _, rfl, .inl (SqL.of hD2), fun t H9 s9 ht => ?_⟩
    have hereE : Here K H9 D t xs ys := ⟨s9 _ _ (bt8 _ _ hD7 nDp), ht⟩
    -- for which in range(9)
    refine ⟨9, rfl, by decide, by decide, for_range (lo := 0) (n := 9) (fun i σ H' => ∃ u1 u2 u3 u4 : Option V, σ = [some (.ref a), some (.ref p), some (.int z), some (.ref D), some (.ref t), u1, u2, u3, u4, none] ∧ Here K H' D t xs ys) ⟨none, none, none, none, rfl, hereE⟩ ?_ ?_⟩
    · rintro i σ H' hi ⟨u1, u2, u3, u4, rfl, he⟩
      rw [show (0 : Int) + (i : Int) = (i : Int) from Int.zero_add _]
      refine ⟨_, rfl, _, rfl, (by show 2 ≤ sizeLine; decide), fun l1 K1 c1 n1 f1 => ⟨_, rfl, _, rfl, D, _, rfl, .inl (SqL.of (c1 _ _ he.l)), fun q K2 c2 n2 f2 => ⟨(by show 2 ≤ sizeLine; decide), fun l2 K3 c3 n3 f3 => ⟨(by show 2 ≤ sizeLine; decide), fun l3 K4 c4 n4 f4 => ?_⟩⟩⟩⟩
      refine ⟨l3, rfl, ⟨_, SqL.of f4⟩, for_list (K := K) (a := l3) (xs := [.ref l1, .ref l2]) (fun j σ H' => ∃ u2 u3 u4 : Option V, σ = [some (.ref a), some (.ref p), some (.int z), some (.ref D), some (.ref t), some (.int i), u2, u3, u4, none] ∧
        Here K H' D t xs ys ∧ H' l3 = some (.lst [.ref l1, .ref l2]) ∧ H' l1 = some (.lst [.ref D, .ref t]) ∧ H' l2 = some (.lst [.ref t, .ref q]) ∧ H' q = some (.lst (xs.map V.int)))
        ⟨u2, u3, u4, rfl, he.same (c1.trans (c2.trans (c3.trans c4))), f4, (c2.trans (c3.trans c4)) _ _ f1, c4 _ _ f3, (c3.trans c4) _ _ f2⟩ (fun j σ H' _ ⟨_, _, _, _, _, g, _⟩ => SqL.of g) ?_ ?_⟩
      · rintro j x σ H' hx ⟨v2, v3, v4, rfl, he', g3, g1, g2, gq⟩
        obtain ⟨lx, u, v, us, vs, rfl, gx, hu, hv⟩ : ∃ (lx u v : Addr) (us vs : List Int), x = .ref lx ∧ H' lx = some (.lst [.ref u, .ref v]) ∧ SqA K H' u (us.map V.int) ∧ SqA K H' v (vs.map V.int) := by
          rcases j with _ | _ | j
          · cases hx
            exact ⟨l1, D, t, xs, ys, rfl, g1, .inl (SqL.of he'.l), .inr he'.t⟩
          · cases hx
            exact ⟨l2, t, q, ys, xs, rfl, g2, .inr he'.t, .inl (SqL.of gq)⟩
          · cases hx
        refine ⟨_, rfl, _, rfl, _, rfl, lx, _, _, _, rfl, rfl, SqL.of gx, atI_nat (j := 0) rfl, _, rfl, lx, _, _, _, rfl, rfl, SqL.of gx, atI_nat (j := 1) rfl, i, z, u, v, us, vs, hi, rfl, hu, hv, fun pm e K5 c5 e5 ⟨od, fs, h1, h2⟩ => ?_⟩
        -- e, same = the pair; not same?
        refine ⟨pm, _, rfl, SqL.of e5, rfl, _, _, rfl, _, _, rfl, rfl, ?_⟩
        refine ⟨_, rfl, true, rfl, ?_⟩
        -- kinds(e) != [..]
        refine ⟨_, rfl, e, i, hi, rfl, ⟨od, fs, h1, h2⟩, fun pk K6 c6 n6 e6 => ⟨9, rfl, by decide, by decide, fun D3 nD3 => ?_⟩⟩
        refine lc_range (lo := 0) (n := 9) (fun m H' => Same K6 H' ∧ H' D3 = some (.lst (((List.range m).map fun jj => decide (jj = i)).map V.bl))) ⟨same_upd nD3, upd_same⟩ ?_ ?_
        · rintro m H' hm ⟨sm, gm⟩
          refine ⟨rfl, ?_⟩
          refine ⟨_, rfl, _, rfl, rfl, _, gm, ?_, fun c o e => ?_, ?_⟩
          · rw [List.length_map, List.length_map, List.length_range]
            exact small1000 (by omega)
          · rw [upd_ne (ne_of_none e nD3)]
            exact sm c o e
          · rw [upd_same, List.range_succ, List.map_append, List.map_append]
            have ed : decide (V.int (0 + (m : Int)) = V.int (i : Int)) = decide (m = i) := by
              rw [Int.zero_add]
              exact decide_eq_decide.mpr ⟨fun z => by have := V.int.inj z; omega, fun z => by rw [z]⟩
            rw [ed]
            rfl
        rintro K7 ⟨c7, g7⟩
        have e6' : K6 pk = some (.lst (((List.range 9).map fun jj => decide (jj = i)).map V.bl)) := by
          rw [e6]
          unfold flags
          rw [List.map_map]
          rfl
        refine ⟨.list (((List.range 9).map fun jj => decide (jj = i)).map PyData.bool), .list (((List.range 9).map fun jj => decide (jj = i)).map PyData.bool), .lst (SqL.of (c7 _ _ e6')) (flags_dp _), .lst (SqL.of g7) (flags_dp _), shapedB _, shapedB _, ?_⟩
        rw [eqvSelf (shapedB _)]
        refine ⟨false, rfl, ?_⟩
        -- isinstance
        have c67 := c6.trans c7
        refine ⟨_, rfl, e, cl i, od, fs, _, _, _, rfl, .own _, c67 _ _ h1, fun d hd => c67 _ _ (h2 d hd), N.ec i hi, kR i hi, true, rfl, ?_⟩
        refine ⟨_, rfl, e, cl i, od, fs, _, _, _, rfl, .ty _, c67 _ _ h1, fun d hd => c67 _ _ (h2 d hd), N.ec i hi, kV i hi, true, rfl, ?_⟩
        have cc := c5.trans c67
        exact ⟨_, _, _, rfl, he'.same cc, cc _ _ g3, cc _ _ g1, cc _ _ g2, cc _ _ gq⟩
      · rintro σ H' ⟨v2, v3, v4, rfl, he', _⟩
        exact ⟨_, _, _, _, rfl, he'⟩
    · rintro σ H' ⟨u1, u2, u3, u4, rfl, _⟩
      exact k H'
end
end KL

set_option Elab.async false
set_option linter.all false
set_option maxRecDepth 100000
set_option maxHeartbeats 4000000
namespace KL
open PySem PySem.Spec PyProof.Rows L2 NdefX SX

structure ErrPack (P : Program) (K : PySem.W.Frag) (mg : Str → Option Value) (x qual : Str) (st : Stmt) (f1 f2 : Str) (C fI cc c : Addr) (fd : FuncData) (R : Addr) : Prop where
  T : ErrTxt P K mg C cc c
  I : InitAt K qual st fI cc c fd
  xf : XfC K C
  ec : ExcC K C
  gm : mg x = some (.ref C)
  iC : PySem.W.findIn K (.ref C) "__init__" = some (some (.ref fI))
  tI : PySem.W.typeIn K (.ref fI) = some (.type "function")
  mro : ∃ cd, PySem.W.clsIn K C = some cd ∧ cd.mro = .ref C :: .ref R :: PySem.HandSPX.veTail ∧ cd.name = x
  n1 : PySem.W.findIn K (.ref C) f1 = some none
  n2 : PySem.W.findIn K (.ref C) f2 = some none
  gR : mg "RiseError" = some (.ref R)
  tR : PySem.W.typeIn K (.ref R) = some (.type "type")
  cR : ∃ cd, PySem.W.clsIn K R = some cd ∧ cd.name = "RiseError"

theorem err_mk {P : Program} {K : PySem.W.Frag} {h : Heap} {mg : Str → Option Value} (X : K.In h) (G : h.Ns mainGlobals mg) {x qual f1 f2 : Str} {st : Stmt} {C fI cc c R : Addr}
    {nm q : Str} {N : Addr} {bs bm : List Value} {sn : List Str} {sub : List Value} {ab : Bool} {col : Option Bool} {dd : Option Addr} {m0 m1 m2 m3 m5 : Option Value} {cd cdR : ClassData}
    {oc kV doc pm ct ccl cl : Value} {od an cdd cld : Option Addr} {osl ccs csl : Array (Option Value)} {vs : Array Value} {file : Str} {tf : Tok}
    (aR : PySem.W.nsIn K mainGlobals "RiseError" = some (some (.ref R)))
    (tR : PySem.W.typeIn K (.ref R) = some (.type "type"))
    (xR : PySem.W.clsIn K R = some cdR)
    (aC : PySem.W.nsIn K mainGlobals x = some (some (.ref C)))
    (xL : K.lookup C = some (excClassObj nm q C N bs bm true sn sub ab col dd m0 m1 m2 m3 m5 "ValueError.__new__"))
    (xc : PySem.W.clsIn K C = some cd)
    (iC : PySem.W.findIn K (.ref C) "__init__" = some (some (.ref fI)))
    (tI : PySem.W.typeIn K (.ref fI) = some (.type "function"))
    (lI : K.lookup fI = some ⟨oc, od, .func (PySem.W.fnX "__init__" qual (defArgs st) (defBody st) (defScope st) [("__class__", cc)] .none kV doc pm an (.ref c) ct), osl⟩)
    (cI : PySem.W.codeIn K (.ref c) qual = true)
    (lc : K.lookup cc = some ⟨cl, cld, .cell (some (.ref C)), csl⟩)
    (lo : K.lookup c = some ⟨ccl, cdd, .fields vs, ccs⟩)
    (su : PySem.W.ks_superIn K C C "__init__" = some (some (.builtin "ValueError.__init__")))
    (sa : PySem.W.findIn K (.ref C) "__setattr__" = some (some (.builtin "object.__setattr__")))
    (exC : PySem.W.subIn K (.ref C) (.type "BaseException") = some true)
    (tyC : PySem.W.typeIn K (.ref C) = some (.type "type"))
    (kC : PySem.W.keepIn K (.ref C) = true)
    (ga : PySem.W.findIn K (.ref C) "__getattribute__" = some (some (.builtin "BaseException.__getattribute__")))
    (gg : PySem.W.findIn K (.ref C) "__getattr__" = some none)
    (hd : PySem.W.hasDictIn K C = true)
    (ha : PySem.W.findIn K (.ref C) "__class__" = some (some (.builtin "object.__class__")))
    (hn : PySem.W.specialIn K (.builtin "object.__class__") "__get__" = some (some (.builtin "getset_descriptor.__get__")))
    (ht : PySem.W.takesIn K (.builtin "object.__class__") = some true)
    (hm : PySem.W.mroIn K C (.type "object") = some true)
    (sc : PySem.W.mroIn K C (.ref C) = some true)
    (ve : PySem.W.subIn K (.ref C) (.type "ValueError") = some true)
    (op : PySem.W.nsIn K cStatics "thirdparty.any" = some none)
    (gs : PySem.W.nsIn K mainGlobals "super" = some none)
    (n1 : PySem.W.findIn K (.ref C) f1 = some none)
    (n2 : PySem.W.findIn K (.ref C) f2 = some none)
    (hbm : PySem.HandSPX.refsVE bm = true) (hvs : vs[2]? = some (.str file tf)) (hfile : ((P.main.file : Str) == file) = true) (htop : (P.main.scope.names.lookup ("super" : Str)).isSome = false)
    (hmro : cd.mro = .ref C :: .ref R :: PySem.HandSPX.veTail) (hname : cd.name = x) (hnameR : cdR.name = "RiseError") :
    ∃ (C fI cc c : Addr) (fd : FuncData) (R : Addr), ErrPack P K mg x qual st f1 f2 C fI cc c fd R :=
  ⟨C, fI, cc, c, _, R,
    { T := { ox := ⟨⟨nm, q, N, bs, bm, sn, sub, ab, col, dd, m0, m1, m2, m3, m5, xL, hbm⟩, sa, exC, tyC, kC⟩, cell := ⟨_, _, _, lc⟩, code := ⟨_, _, _, _, _, _, lo, hvs, hfile⟩, cls := ⟨_, xc⟩, sub := sc, sup := su, ve := ve, op := op, mgs := PySem.W.mg_none_of X G gs, top := htop }
      I := ⟨_, _, _, _, _, _, _, _, rfl, lI, cI⟩
      xf := ⟨ga, gg, exC, hd⟩
      ec := ⟨ga, gg, exC, hd, ha, hn, ht, hm⟩
      gm := PySem.W.mg_of X G aC
      iC := iC
      tI := tI
      mro := ⟨_, xc, hmro, hname⟩
      n1 := n1
      n2 := n2
      gR := PySem.W.mg_of X G aR
      tR := tR
      cR := ⟨_, xR, hnameR⟩ }⟩
theorem kit_sub {K : PySem.W.Frag} {C D : Addr} {cd : ClassData} {x : Value} (hc : PySem.W.clsIn K C = some cd) (ne : cd.mro ≠ []) : PySem.W.mroIn K C x = some (cd.mro.contains x) := by
  unfold PySem.W.mroIn
  rw [hc, Option.bind_some, if_neg (by rw [List.isEmpty_iff]; exact ne)]
section
variable {P P' : Program} {K : PySem.W.Frag} {mg : Str → Option Value} {x x' qual qual' f1 f2 f1' f2' : Str} {st st' : Stmt} {C fI cc c R C' fI' cc' c' R' : Addr} {fd fd' : FuncData}
theorem kit_own (E : ErrPack P K mg x qual st f1 f2 C fI cc c fd R) : PySem.W.kitOne K (.ref C) (.ref C) = some true := by
  unfold PySem.W.kitOne
  rw [if_pos (by simp)]
theorem kit_other (E : ErrPack P K mg x qual st f1 f2 C fI cc c fd R) (E' : ErrPack P K mg x' qual' st' f1' f2' C' fI' cc' c' fd' R') (hx : x ≠ x') (hx' : ("RiseError" : Str) ≠ x') : PySem.W.kitOne K (.ref C) (.ref C') = some false := by
  obtain ⟨cd, hc, hm, hn⟩ := E.mro
  obtain ⟨cd', hc', hm', hn'⟩ := E'.mro
  have ne : C ≠ C' := fun z => by
    subst z
    rw [hc] at hc'
    cases hc'
    exact hx (hn.symm.trans hn')
  have neR : R ≠ C' := fun z => by
    subst z
    obtain ⟨cR, h1, h2⟩ := E.cR
    rw [hc'] at h1
    cases h1
    exact hx' (h2.symm.trans hn')
  unfold PySem.W.kitOne
  rw [if_neg (by simp [ne])]
  unfold PySem.W.kitCls
  have e1 : ((PySem.W.clsIn K C').isSome && PySem.W.typeIn K (.ref C') == some (.type "type")) = true := by rw [hc', E'.T.ox.tyC] <;> rfl
  show (if ((PySem.W.clsIn K C').isSome && PySem.W.typeIn K (.ref C') == some (.type "type")) = true then PySem.W.subIn K (.ref C) (.ref C') else none) = some false
  rw [if_pos e1]
  show PySem.W.mroIn K C (.ref C') = some false
  rw [kit_sub (D := C') hc (by rw [hm]; exact fun z => nomatch z), hm]
  have n1 : ((Value.ref C') == Value.ref C) = false := by simp; exact fun z => ne z.symm
  have n2 : ((Value.ref C') == Value.ref R) = false := by simp; exact fun z => neR z.symm
  simp only [List.contains_cons, n1, n2, Bool.false_or]
  rfl
theorem kit_rise (E : ErrPack P K mg x qual st f1 f2 C fI cc c fd R) : PySem.W.kitOne K (.ref C) (.ref R) = some true := by
  obtain ⟨cd, hc, hm, hn⟩ := E.mro
  unfold PySem.W.kitOne
  split
  · rfl
  · unfold PySem.W.kitCls
    have e1 : ((PySem.W.clsIn K R).isSome && PySem.W.typeIn K (.ref R) == some (.type "type")) = true := by
      obtain ⟨cR, h1, _⟩ := E.cR
      rw [h1, E.tR] <;> rfl
    show (if ((PySem.W.clsIn K R).isSome && PySem.W.typeIn K (.ref R) == some (.type "type")) = true then PySem.W.subIn K (.ref C) (.ref R) else none) = some true
    rw [if_pos e1]
    show PySem.W.mroIn K C (.ref R) = some true
    rw [kit_sub (D := R) hc (by rw [hm]; exact fun z => nomatch z), hm]
    simp
theorem kit_ve (E : ErrPack P K mg x qual st f1 f2 C fI cc c fd R) : PySem.W.kitOne K (.ref C) (.type "ValueError") = some true := by
  have e : (Value.ref C == Value.type "ValueError") = false := rfl
  unfold PySem.W.kitOne
  rw [e, if_neg Bool.false_ne_true]
  show (if PySem.W.kitMeta "ValueError" = true then PySem.W.subIn K (.ref C) (.type "ValueError") else none) = some true
  rw [if_pos (by decide +kernel)]
  exact E.T.ve
end
theorem init_binds {K : PySem.W.Frag} {qual : Str} {st : Stmt} {fI cc c : Addr} {fd : FuncData} {ps : List Str} (I : InitAt K qual st fI cc c fd)
    (h : ∀ (kV doc pm : Value) (an : Option Addr) (ct : Value) (us : List Value), us.length = ps.length → bindArgs (PySem.W.fnX "__init__" qual (defArgs st) (defBody st) (defScope st) [("__class__", cc)] .none kV doc pm an (.ref c) ct) ⟨us, []⟩ = pure (ps.zip us)) : Binds K fd ps [] := by
  obtain ⟨oc, od, kV, doc, pm, an, ct, osl, rfl, lk, hcd⟩ := I
  exact .all (h kV doc pm an ct)
theorem fun_pack {K : PySem.W.Frag} {h : Heap} {mg : Str → Option Value} (X : K.In h) (G : h.Ns mainGlobals mg) {x : Str} {st : Stmt} {f : Addr} {oc kV doc pm cdv ct : Value} {od an : Option Addr} {osl : Array (Option Value)}
    (a : PySem.W.nsIn K mainGlobals x = some (some (.ref f))) (l : K.lookup f = some ⟨oc, od, .func (PySem.W.fnOf x x (defArgs st) (defBody st) (defScope st) .none kV doc pm an cdv ct), osl⟩)
    (c : PySem.W.codeIn K cdv x = true) (k : PySem.W.keepIn K (.ref f) = true) : ∃ f fd, mg x = some (.ref f) ∧ Fun K x x st f fd := ⟨f, _, PySem.W.mg_of X G a, fun_mk l c k⟩
theorem all_of {P : Program} {w : World} {K : PySem.W.Frag} {mg : Str → Option Value} {fa : Addr} (hfa : mg "law" = some (.ref fa))
    (E0 : ∃ (C fI cc c : Addr) (fd : FuncData) (R : Addr), ErrPack P K mg "BadNumber" "BadNumber.__init__" iNum "n" "n" C fI cc c fd R)
    (E1 : ∃ (C fI cc c : Addr) (fd : FuncData) (R : Addr), ErrPack P K mg "BadText" "BadText.__init__" iTxt "at" "at" C fI cc c fd R)
    (E2 : ∃ (C fI cc c : Addr) (fd : FuncData) (R : Addr), ErrPack P K mg "BadOption" "BadOption.__init__" iOpt "option" "option" C fI cc c fd R)
    (E3 : ∃ (C fI cc c : Addr) (fd : FuncData) (R : Addr), ErrPack P K mg "BadSetting" "BadSetting.__init__" iSet "n" "n" C fI cc c fd R)
    (E4 : ∃ (C fI cc c : Addr) (fd : FuncData) (R : Addr), ErrPack P K mg "BadRegion" "BadRegion.__init__" iReg "first" "second" C fI cc c fd R)
    (E5 : ∃ (C fI cc c : Addr) (fd : FuncData) (R : Addr), ErrPack P K mg "UnlikeGrids" "UnlikeGrids.__init__" iUnl "first" "second" C fI cc c fd R)
    (E6 : ∃ (C fI cc c : Addr) (fd : FuncData) (R : Addr), ErrPack P K mg "AlikeWorths" "AlikeWorths.__init__" iAli "first" "second" C fI cc c fd R)
    (E7 : ∃ (C fI cc c : Addr) (fd : FuncData) (R : Addr), ErrPack P K mg "NothingToShow" "NothingToShow.__init__" iShow "n" "n" C fI cc c fd R)
    (E8 : ∃ (C fI cc c : Addr) (fd : FuncData) (R : Addr), ErrPack P K mg "NothingToUndo" "NothingToUndo.__init__" iUndo "n" "n" C fI cc c fd R)
    (B : ∃ f fd, mg "_law_bag" = some (.ref f) ∧ Fun K "_law_bag" "_law_bag" sBag f fd) (D : ∃ f fd, mg "_law_draw" = some (.ref f) ∧ Fun K "_law_draw" "_law_draw" sDraw f fd)
    (A : ∃ f fd, mg "_law_at" = some (.ref f) ∧ Fun K "_law_at" "_law_at" sAt f fd) (KK : ∃ f fd, mg "_law_kinds" = some (.ref f) ∧ Fun K "_law_kinds" "_law_kinds" sKinds f fd)
    (M : ∃ f fd, mg "_law_made" = some (.ref f) ∧ Fun K "_law_made" "_law_made" sMade f fd) (L : ∃ f fd, mg "law" = some (.ref f) ∧ Fun K "law" "law" sLaw f fd)
    (mi : mg "int" = none) (mr : mg "range" = none) (mt : mg "tuple" = none) (ml : mg "list" = none) (ms : mg "isinstance" = none) (mv : mg "ValueError" = none) (me : mg "len" = none) :
    ∃ fd : FuncData, (∀ (s : Shared) (v : Value), BindsTo s fd ⟨[v], []⟩ [("_law_script", v)]) ∧ ∀ base : Heap, FnOk P w K mg base CX0 4 fa fd ["_law_script"] (spLaw K) := by
  obtain ⟨C0, i0, cc0, c0, d0, R0, E0⟩ := E0
  obtain ⟨C1, i1, cc1, c1, d1, R1, E1⟩ := E1
  obtain ⟨C2, i2, cc2, c2, d2, R2, E2⟩ := E2
  obtain ⟨C3, i3, cc3, c3, d3, R3, E3⟩ := E3
  obtain ⟨C4, i4, cc4, c4, d4, R4, E4⟩ := E4
  obtain ⟨C5, i5, cc5, c5, d5, R5, E5⟩ := E5
  obtain ⟨C6, i6, cc6, c6, d6, R6, E6⟩ := E6
  obtain ⟨C7, i7, cc7, c7, d7, R7, E7⟩ := E7
  obtain ⟨C8, i8, cc8, c8, d8, R8, E8⟩ := E8
  obtain rfl : R0 = R1 := by
    have z := E0.gR.symm.trans E1.gR
    cases z
    rfl
  obtain rfl : R0 = R2 := by
    have z := E0.gR.symm.trans E2.gR
    cases z
    rfl
  obtain rfl : R0 = R3 := by
    have z := E0.gR.symm.trans E3.gR
    cases z
    rfl
  obtain rfl : R0 = R4 := by
    have z := E0.gR.symm.trans E4.gR
    cases z
    rfl
  obtain rfl : R0 = R5 := by
    have z := E0.gR.symm.trans E5.gR
    cases z
    rfl
  obtain rfl : R0 = R6 := by
    have z := E0.gR.symm.trans E6.gR
    cases z
    rfl
  obtain rfl : R0 = R7 := by
    have z := E0.gR.symm.trans E7.gR
    cases z
    rfl
  obtain rfl : R0 = R8 := by
    have z := E0.gR.symm.trans E8.gR
    cases z
    rfl
  obtain ⟨fB, dB, gB, FB⟩ := B
  obtain ⟨fD, dD, gD, FD⟩ := D
  obtain ⟨fA, dA, gA, FA⟩ := A
  obtain ⟨fK, dK, gK, FK⟩ := KK
  obtain ⟨fM, dM, gM, FM⟩ := M
  obtain ⟨fL, dL, gL, FL⟩ := L
  obtain rfl : fa = fL := by
    have z := hfa.symm.trans gL
    cases z
    rfl
  let cl : Nat → Addr := fun i => match i with
    | 0 => C0
    | 1 => C1
    | 2 => C2
    | 3 => C3
    | 4 => C4
    | 5 => C5
    | 6 => C6
    | 7 => C7
    | _ => C8
  have N : Nine K mg cl := {
    e0 := ⟨E0.T.ox, E0.xf, E0.ec, E0.gm⟩
    e1 := ⟨E1.T.ox, E1.xf, E1.ec, E1.gm⟩
    e2 := ⟨E2.T.ox, E2.xf, E2.ec, E2.gm⟩
    e3 := ⟨E3.T.ox, E3.xf, E3.ec, E3.gm⟩
    e4 := ⟨E4.T.ox, E4.xf, E4.ec, E4.gm⟩
    e5 := ⟨E5.T.ox, E5.xf, E5.ec, E5.gm⟩
    e6 := ⟨E6.T.ox, E6.xf, E6.ec, E6.gm⟩
    e7 := ⟨E7.T.ox, E7.xf, E7.ec, E7.gm⟩
    e8 := ⟨E8.T.ox, E8.xf, E8.ec, E8.gm⟩
    ec := fun i hi => match i, hi with
      | 0, _ => E0.ec
      | 1, _ => E1.ec
      | 2, _ => E2.ec
      | 3, _ => E3.ec
      | 4, _ => E4.ec
      | 5, _ => E5.ec
      | 6, _ => E6.ec
      | 7, _ => E7.ec
      | 8, _ => E8.ec
      | n + 9, h => absurd h (by omega)
    kit := fun i hi j hj => match i, hi, j, hj with
      | 0, _, 0, _ => kit_own E0
      | 0, _, 1, _ => kit_other E0 E1 (by decide +kernel) (by decide +kernel)
      | 0, _, 2, _ => kit_other E0 E2 (by decide +kernel) (by decide +kernel)
      | 0, _, 3, _ => kit_other E0 E3 (by decide +kernel) (by decide +kernel)
      | 0, _, 4, _ => kit_other E0 E4 (by decide +kernel) (by decide +kernel)
      | 0, _, 5, _ => kit_other E0 E5 (by decide +kernel) (by decide +kernel)
      | 0, _, 6, _ => kit_other E0 E6 (by decide +kernel) (by decide +kernel)
      | 0, _, 7, _ => kit_other E0 E7 (by decide +kernel) (by decide +kernel)
      | 0, _, 8, _ => kit_other E0 E8 (by decide +kernel) (by decide +kernel)
      | 1, _, 0, _ => kit_other E1 E0 (by decide +kernel) (by decide +kernel)
      | 1, _, 1, _ => kit_own E1
      | 1, _, 2, _ => kit_other E1 E2 (by decide +kernel) (by decide +kernel)
      | 1, _, 3, _ => kit_other E1 E3 (by decide +kernel) (by decide +kernel)
      | 1, _, 4, _ => kit_other E1 E4 (by decide +kernel) (by decide +kernel)
      | 1, _, 5, _ => kit_other E1 E5 (by decide +kernel) (by decide +kernel)
      | 1, _, 6, _ => kit_other E1 E6 (by decide +kernel) (by decide +kernel)
      | 1, _, 7, _ => kit_other E1 E7 (by decide +kernel) (by decide +kernel)
      | 1, _, 8, _ => kit_other E1 E8 (by decide +kernel) (by decide +kernel)
      | 2, _, 0, _ => kit_other E2 E0 (by decide +kernel) (by decide +kernel)
      | 2, _, 1, _ => kit_other E2 E1 (by decide +kernel) (by decide +kernel)
      | 2, _, 2, _ => kit_own E2
      | 2, _, 3, _ => kit_other E2 E3 (by decide +kernel) (by decide +kernel)
      | 2, _, 4, _ => kit_other E2 E4 (by decide +kernel) (by decide +kernel)
      | 2, _, 5, _ => kit_other E2 E5 (by decide +kernel) (by decide +kernel)
      | 2, _, 6, _ => kit_other E2 E6 (by decide +kernel) (by decide +kernel)
      | 2, _, 7, _ => kit_other E2 E7 (by decide +kernel) (by decide +kernel)
      | 2, _, 8, _ => kit_other E2 E8 (by decide +kernel) (by decide +kernel)
      | 3, _, 0, _ => kit_other E3 E0 (by decide +kernel) (by decide +kernel)
      | 3, _, 1, _ => kit_other E3 E1 (by decide +kernel) (by decide +kernel)
      | 3, _, 2, _ => kit_other E3 E2 (by decide +kernel) (by decide +kernel)
      | 3, _, 3, _ => kit_own E3
      | 3, _, 4, _ => kit_other E3 E4 (by decide +kernel) (by decide +kernel)
      | 3, _, 5, _ => kit_other E3 E5 (by decide +kernel) (by decide +kernel)
      | 3, _, 6, _ => kit_other E3 E6 (by decide +kernel) (by decide +kernel)
      | 3, _, 7, _ => kit_other E3 E7 (by decide +kernel) (by decide +kernel)
      | 3, _, 8, _ => kit_other E3 E8 (by decide +kernel) (by decide +kernel)
      | 4, _, 0, _ => kit_other E4 E0 (by decide +kernel) (by decide +kernel)
      | 4, _, 1, _ => kit_other E4 E1 (by decide +kernel) (by decide +kernel)
      | 4, _, 2, _ => kit_other E4 E2 (by decide +kernel) (by decide +kernel)
      | 4, _, 3, _ => kit_other E4 E3 (by decide +kernel) (by decide +kernel)
      | 4, _, 4, _ => kit_own E4
      | 4, _, 5, _ => kit_other E4 E5 (by decide +kernel) (by decide +kernel)
      | 4, _, 6, _ => kit_other E4 E6 (by decide +kernel) (by decide +kernel)
      | 4, _, 7, _ => kit_other E4 E7 (by decide +kernel) (by decide +kernel)
      | 4, _, 8, _ => kit_other E4 E8 (by decide +kernel) (by decide +kernel)
      | 5, _, 0, _ => kit_other E5 E0 (by decide +kernel) (by decide +kernel)
      | 5, _, 1, _ => kit_other E5 E1 (by decide +kernel) (by decide +kernel)
      | 5, _, 2, _ => kit_other E5 E2 (by decide +kernel) (by decide +kernel)
      | 5, _, 3, _ => kit_other E5 E3 (by decide +kernel) (by decide +kernel)
      | 5, _, 4, _ => kit_other E5 E4 (by decide +kernel) (by decide +kernel)
      | 5, _, 5, _ => kit_own E5
      | 5, _, 6, _ => kit_other E5 E6 (by decide +kernel) (by decide +kernel)
      | 5, _, 7, _ => kit_other E5 E7 (by decide +kernel) (by decide +kernel)
      | 5, _, 8, _ => kit_other E5 E8 (by decide +kernel) (by decide +kernel)
      | 6, _, 0, _ => kit_other E6 E0 (by decide +kernel) (by decide +kernel)
      | 6, _, 1, _ => kit_other E6 E1 (by decide +kernel) (by decide +kernel)
      | 6, _, 2, _ => kit_other E6 E2 (by decide +kernel) (by decide +kernel)
      | 6, _, 3, _ => kit_other E6 E3 (by decide +kernel) (by decide +kernel)
      | 6, _, 4, _ => kit_other E6 E4 (by decide +kernel) (by decide +kernel)
      | 6, _, 5, _ => kit_other E6 E5 (by decide +kernel) (by decide +kernel)
      | 6, _, 6, _ => kit_own E6
      | 6, _, 7, _ => kit_other E6 E7 (by decide +kernel) (by decide +kernel)
      | 6, _, 8, _ => kit_other E6 E8 (by decide +kernel) (by decide +kernel)
      | 7, _, 0, _ => kit_other E7 E0 (by decide +kernel) (by decide +kernel)
      | 7, _, 1, _ => kit_other E7 E1 (by decide +kernel) (by decide +kernel)
      | 7, _, 2, _ => kit_other E7 E2 (by decide +kernel) (by decide +kernel)
      | 7, _, 3, _ => kit_other E7 E3 (by decide +kernel) (by decide +kernel)
      | 7, _, 4, _ => kit_other E7 E4 (by decide +kernel) (by decide +kernel)
      | 7, _, 5, _ => kit_other E7 E5 (by decide +kernel) (by decide +kernel)
      | 7, _, 6, _ => kit_other E7 E6 (by decide +kernel) (by decide +kernel)
      | 7, _, 7, _ => kit_own E7
      | 7, _, 8, _ => kit_other E7 E8 (by decide +kernel) (by decide +kernel)
      | 8, _, 0, _ => kit_other E8 E0 (by decide +kernel) (by decide +kernel)
      | 8, _, 1, _ => kit_other E8 E1 (by decide +kernel) (by decide +kernel)
      | 8, _, 2, _ => kit_other E8 E2 (by decide +kernel) (by decide +kernel)
      | 8, _, 3, _ => kit_other E8 E3 (by decide +kernel) (by decide +kernel)
      | 8, _, 4, _ => kit_other E8 E4 (by decide +kernel) (by decide +kernel)
      | 8, _, 5, _ => kit_other E8 E5 (by decide +kernel) (by decide +kernel)
      | 8, _, 6, _ => kit_other E8 E6 (by decide +kernel) (by decide +kernel)
      | 8, _, 7, _ => kit_other E8 E7 (by decide +kernel) (by decide +kernel)
      | 8, _, 8, _ => kit_own E8
      | n + 9, h, _, _ => absurd h (by omega)
      | _, _, n + 9, h => absurd h (by omega)
    n0 := E0.n1
    n1 := E1.n1
    n2 := E2.n1
    n3 := E3.n1
    n4 := E4.n1
    n5 := E5.n1
    n6 := E6.n1
    m4 := E4.n2
    m5 := E5.n2
    m6 := E6.n2 }
  have kR : ∀ i, i < 9 → PySem.W.kitOne K (.ref (cl i)) (.ref R0) = some true := fun i hi => match i, hi with
    | 0, _ => kit_rise E0
    | 1, _ => kit_rise E1
    | 2, _ => kit_rise E2
    | 3, _ => kit_rise E3
    | 4, _ => kit_rise E4
    | 5, _ => kit_rise E5
    | 6, _ => kit_rise E6
    | 7, _ => kit_rise E7
    | 8, _ => kit_rise E8
    | n + 9, h => absurd h (by omega)
  have kV : ∀ i, i < 9 → PySem.W.kitOne K (.ref (cl i)) (.type "ValueError") = some true := fun i hi => match i, hi with
    | 0, _ => kit_ve E0
    | 1, _ => kit_ve E1
    | 2, _ => kit_ve E2
    | 3, _ => kit_ve E3
    | 4, _ => kit_ve E4
    | 5, _ => kit_ve E5
    | 6, _ => kit_ve E6
    | 7, _ => kit_ve E7
    | 8, _ => kit_ve E8
    | n + 9, h => absurd h (by omega)
  have bB := FB.binds (ps := ["_law_cell"]) fun _ _ _ _ _ _ us hl => match us, hl with | [_], _ => rfl
  have bD := FD.binds (ps := ["_law_pool", "_law_limit"]) fun _ _ _ _ _ _ us hl => match us, hl with | [_, _], _ => rfl
  have bA := FA.binds (ps := ["_law_script", "_law_k"]) fun _ _ _ _ _ _ us hl => match us, hl with | [_, _], _ => rfl
  have bK := FK.binds (ps := ["_law_e"]) fun _ _ _ _ _ _ us hl => match us, hl with | [_], _ => rfl
  have bM := FM.binds (ps := ["_law_which", "_law_n", "_law_one", "_law_other"]) fun _ _ _ _ _ _ us hl => match us, hl with | [_, _, _, _], _ => rfl
  obtain ⟨oc, od, kV', doc, pm, an, cdv, ct, osl, rfl, lk, hcd⟩ := id FL.ex
  refine ⟨PySem.W.fnOf "law" "law" (defArgs sLaw) (defBody sLaw) (defScope sLaw) .none kV' doc pm an cdv ct, fun s v => .of_eq rfl, fun base => ?_⟩
  have M0 : MkK P w K mg base (cl 0) _ _ := ⟨i0, d0, E0.iC, E0.tI, ok_num E0.T E0.n1 E0.I, init_binds E0.I fun _ _ _ _ _ us hl => match us, hl with | [_, _], _ => rfl⟩
  have M1 : MkK P w K mg base (cl 1) _ _ := ⟨i1, d1, E1.iC, E1.tI, ok_txt E1.T E1.n1 E1.I, init_binds E1.I fun _ _ _ _ _ us hl => match us, hl with | [_, _], _ => rfl⟩
  have M2 : MkK P w K mg base (cl 2) _ _ := ⟨i2, d2, E2.iC, E2.tI, ok_opt E2.T mt E2.n1 E2.I, init_binds E2.I fun _ _ _ _ _ us hl => match us, hl with | [_, _], _ => rfl⟩
  have M3 : MkK P w K mg base (cl 3) _ _ := ⟨i3, d3, E3.iC, E3.tI, ok_set E3.T E3.n1 E3.I, init_binds E3.I fun _ _ _ _ _ us hl => match us, hl with | [_, _], _ => rfl⟩
  have M4 : MkK P w K mg base (cl 4) _ _ := ⟨i4, d4, E4.iC, E4.tI, ok_reg E4.T mt E4.n1 E4.n2 E4.I, init_binds E4.I fun _ _ _ _ _ us hl => match us, hl with | [_, _, _], _ => rfl⟩
  have M5 : MkK P w K mg base (cl 5) _ _ := ⟨i5, d5, E5.iC, E5.tI, ok_unl E5.T E5.n1 E5.n2 E5.I, init_binds E5.I fun _ _ _ _ _ us hl => match us, hl with | [_, _, _], _ => rfl⟩
  have M6 : MkK P w K mg base (cl 6) _ _ := ⟨i6, d6, E6.iC, E6.tI, ok_ali E6.T mt E6.n1 E6.n2 E6.I, init_binds E6.I fun _ _ _ _ _ us hl => match us, hl with | [_, _, _], _ => rfl⟩
  have M7 : MkK P w K mg base (cl 7) _ _ := ⟨i7, d7, E7.iC, E7.tI, ok_show E7.T E7.I, init_binds E7.I fun _ _ _ _ _ us hl => match us, hl with | [_], _ => rfl⟩
  have M8 : MkK P w K mg base (cl 8) _ _ := ⟨i8, d8, E8.iC, E8.tI, ok_undo E8.T E8.I, init_binds E8.I fun _ _ _ _ _ us hl => match us, hl with | [_], _ => rfl⟩
  exact ok_law FL N FB bB gB (ok_bag FB) FD bD gD (ok_draw FD mi) FA bA gA (ok_at FA me) FK bK gK (ok_kinds FK ms N) FM bM gM (ok_made FM mt N M0 M1 M2 M3 M4 M5 M6 M7 M8) mi mr mt ml ms mv E0.gR kR kV
theorem use_all {P : Program} {w : World} {K : PySem.W.Frag} {mg : Str → Option Value} {fa : Addr} {k : Nat} {x : Str} {sp : Sp}
    (h : ∃ fd : FuncData, (∀ (s : Shared) (v : Value), BindsTo s fd ⟨[v], []⟩ [(x, v)]) ∧ ∀ base : Heap, FnOk P w K mg base CX0 k fa fd [x] sp) :
    ∃ fd : FuncData, (∀ (s : Shared) (v : Value), BindsTo s fd ⟨[v], []⟩ [(x, v)]) ∧ ∀ base : Heap, K.In base → base.Ns mainGlobals mg → FnOk P w K mg base CX0 k fa fd [x] sp := by
  obtain ⟨fd, h1, h2⟩ := h
  exact ⟨fd, h1, fun base _ _ => h2 base⟩
end KL

set_option Elab.async false
set_option linter.all false
open PySem PySem.W PyProof.Rows
set_option maxRecDepth 100000 in
set_option maxHeartbeats 0 in
theorem PySem.Challenge.cw_risingknobs_k01_errors_by_class_holds : PySem.Challenge.rw_risingknobs_k01_errors_by_class.Holds := by
  w_on; o_law; k_head; (case hw => w_witness2)
  k_fill
  refine L2.walk_of (l := PySem.Challenge.rw_risingknobs_k01_errors_by_class) (n := 63) (k := 4) (x := "_law_script") (CX := fun _ => L2.CX0) (sp := fun w => KL.spLaw _) rfl (by decide) rfl ⟨rfl, by decide, by decide⟩ (fun w h Y => PySem.W.kIn_of Y) ?F (fun _ _ a ns hl _ hS => ⟨a, ns, rfl, hS, hl, fun _ => rfl⟩) (fun _ _ _ _ _ h => h)
  case F =>
    intro w mg fa h KX G hmg
    refine' KL.use_all (KL.all_of (w := w) hmg ?pE0 ?pE1 ?pE2 ?pE3 ?pE4 ?pE5 ?pE6 ?pE7 ?pE8 ?pB ?pD ?pA ?pK ?pM ?pL (mg_none_of KX G ?pz1) (mg_none_of KX G ?pz2) (mg_none_of KX G ?pz3) (mg_none_of KX G ?pz4) (mg_none_of KX G ?pz5) (mg_none_of KX G ?pz6) (mg_none_of KX G ?pz7))
    case pE0 =>
      refine' KL.err_mk KX G ?aR ?tR ?xR ?aC ?xL ?xc ?iC ?tI ?lI ?cI ?lc ?lo ?su ?sa ?exC ?tyC ?kC ?ga ?gg ?hd ?ha ?hn ?ht ?hm ?sc ?ve ?op ?gs ?n1 ?n2 ?hbm ?hvs ?hfile ?htop ?hmro ?hname ?hnameR
      (case aR => k_is); (case tR => k_is); (case xR => k_is); (case aC => k_is); (case xL => k_is); (case xc => k_is); (case iC => k_is); (case tI => k_is); (case lI => k_is); (case cI => k_is); (case lc => k_is); (case lo => k_is); (case su => ks_is); (case sa => k_is); (case exC => k_is); (case tyC => k_is); (case kC => k_is); (case ga => k_is); (case gg => k_is); (case hd => k_is); (case ha => k_is); (case hn => k_is); (case ht => k_is); (case hm => k_is); (case sc => k_is); (case ve => k_is); (case op => k_is); (case gs => k_is); (case n1 => k_is); (case n2 => k_is); (case hbm => decide +kernel); (case hvs => rfl); (case hfile => decide +kernel); (case htop => decide +kernel); (case hmro => rfl); (case hname => rfl); (case hnameR => rfl)
    case pE1 =>
      refine' KL.err_mk KX G ?aR ?tR ?xR ?aC ?xL ?xc ?iC ?tI ?lI ?cI ?lc ?lo ?su ?sa ?exC ?tyC ?kC ?ga ?gg ?hd ?ha ?hn ?ht ?hm ?sc ?ve ?op ?gs ?n1 ?n2 ?hbm ?hvs ?hfile ?htop ?hmro ?hname ?hnameR
      (case aR => k_is); (case tR => k_is); (case xR => k_is); (case aC => k_is); (case xL => k_is); (case xc => k_is); (case iC => k_is); (case tI => k_is); (case lI => k_is); (case cI => k_is); (case lc => k_is); (case lo => k_is); (case su => ks_is); (case sa => k_is); (case exC => k_is); (case tyC => k_is); (case kC => k_is); (case ga => k_is); (case gg => k_is); (case hd => k_is); (case ha => k_is); (case hn => k_is); (case ht => k_is); (case hm => k_is); (case sc => k_is); (case ve => k_is); (case op => k_is); (case gs => k_is); (case n1 => k_is); (case n2 => k_is); (case hbm => decide +kernel); (case hvs => rfl); (case hfile => decide +kernel); (case htop => decide +kernel); (case hmro => rfl); (case hname => rfl); (case hnameR => rfl)
    case pE2 =>
      refine' KL.err_mk KX G ?aR ?tR ?xR ?aC ?xL ?xc ?iC ?tI ?lI ?cI ?lc ?lo ?su ?sa ?exC ?tyC ?kC ?ga ?gg ?hd ?ha ?hn ?ht ?hm ?sc ?ve ?op ?gs ?n1 ?n2 ?hbm ?hvs ?hfile ?htop ?hmro ?hname ?hnameR
      (case aR => k_is); (case tR => k_is); (case xR => k_is); (case aC => k_is); (case xL => k_is); (case xc => k_is); (case iC => k_is); (case tI => k_is); (case lI => k_is); (case cI => k_is); (case lc => k_is); (case lo => k_is); (case su => ks_is); (case sa => k_is); (case exC => k_is); (case tyC => k_is); (case kC => k_is); (case ga => k_is); (case gg => k_is); (case hd => k_is); (case ha => k_is); (case hn => k_is); (case ht => k_is); (case hm => k_is); (case sc => k_is); (case ve => k_is); (case op => k_is); (case gs => k_is); (case n1 => k_is); (case n2 => k_is); (case hbm => decide +kernel); (case hvs => rfl); (case hfile => decide +kernel); (case htop => decide +kernel); (case hmro => rfl); (case hname => rfl); (case hnameR => rfl)
    case pE3 =>
      refine' KL.err_mk KX G ?aR ?tR ?xR ?aC ?xL ?xc ?iC ?tI ?lI ?cI ?lc ?lo ?su ?sa ?exC ?tyC ?kC ?ga ?gg ?hd ?ha ?hn ?ht ?hm ?sc ?ve ?op ?gs ?n1 ?n2 ?hbm ?hvs ?hfile ?htop ?hmro ?hname ?hnameR
      (case aR => k_is); (case tR => k_is); (case xR => k_is); (case aC => k_is); (case xL => k_is); (case xc => k_is); (case iC => k_is); (case tI => k_is); (case lI => k_is); (case cI => k_is); (case lc => k_is); (case lo => k_is); (case su => ks_is); (case sa => k_is); (case exC => k_is); (case tyC => k_is); (case kC => k_is); (case ga => k_is); (case gg => k_is); (case hd => k_is); (case ha => k_is); (case hn => k_is); (case ht => k_is); (case hm => k_is); (case sc => k_is); (case ve => k_is); (case op => k_is); (case gs => k_is); (case n1 => k_is); (case n2 => k_is); (case hbm => decide +kernel); (case hvs => rfl); (case hfile => decide +kernel); (case htop => decide +kernel); (case hmro => rfl); (case hname => rfl); (case hnameR => rfl)
    case pE4 =>
      refine' KL.err_mk KX G ?aR ?tR ?xR ?aC ?xL ?xc ?iC ?tI ?lI ?cI ?lc ?lo ?su ?sa ?exC ?tyC ?kC ?ga ?gg ?hd ?ha ?hn ?ht ?hm ?sc ?ve ?op ?gs ?n1 ?n2 ?hbm ?hvs ?hfile ?htop ?hmro ?hname ?hnameR
      (case aR => k_is); (case tR => k_is); (case xR => k_is); (case aC => k_is); (case xL => k_is); (case xc => k_is); (case iC => k_is); (case tI => k_is); (case lI => k_is); (case cI => k_is); (case lc => k_is); (case lo => k_is); (case su => ks_is); (case sa => k_is); (case exC => k_is); (case tyC => k_is); (case kC => k_is); (case ga => k_is); (case gg => k_is); (case hd => k_is); (case ha => k_is); (case hn => k_is); (case ht => k_is); (case hm => k_is); (case sc => k_is); (case ve => k_is); (case op => k_is); (case gs => k_is); (case n1 => k_is); (case n2 => k_is); (case hbm => decide +kernel); (case hvs => rfl); (case hfile => decide +kernel); (case htop => decide +kernel); (case hmro => rfl); (case hname => rfl); (case hnameR => rfl)
    case pE5 =>
      refine' KL.err_mk KX G ?aR ?tR ?xR ?aC ?xL ?xc ?iC ?tI ?lI ?cI ?lc ?lo ?su ?sa ?exC ?tyC ?kC ?ga ?gg ?hd ?ha ?hn ?ht ?hm ?sc ?ve ?op ?gs ?n1 ?n2 ?hbm ?hvs ?hfile ?htop ?hmro ?hname ?hnameR
      (case aR => k_is); (case tR => k_is); (case xR => k_is); (case aC => k_is); (case xL => k_is); (case xc => k_is); (case iC => k_is); (case tI => k_is); (case lI => k_is); (case cI => k_is); (case lc => k_is); (case lo => k_is); (case su => ks_is); (case sa => k_is); (case exC => k_is); (case tyC => k_is); (case kC => k_is); (case ga => k_is); (case gg => k_is); (case hd => k_is); (case ha => k_is); (case hn => k_is); (case ht => k_is); (case hm => k_is); (case sc => k_is); (case ve => k_is); (case op => k_is); (case gs => k_is); (case n1 => k_is); (case n2 => k_is); (case hbm => decide +kernel); (case hvs => rfl); (case hfile => decide +kernel); (case htop => decide +kernel); (case hmro => rfl); (case hname => rfl); (case hnameR => rfl)
    case pE6 =>
      refine' KL.err_mk KX G ?aR ?tR ?xR ?aC ?xL ?xc ?iC ?tI ?lI ?cI ?lc ?lo ?su ?sa ?exC ?tyC ?kC ?ga ?gg ?hd ?ha ?hn ?ht ?hm ?sc ?ve ?op ?gs ?n1 ?n2 ?hbm ?hvs ?hfile ?htop ?hmro ?hname ?hnameR
      (case aR => k_is); (case tR => k_is); (case xR => k_is); (case aC => k_is); (case xL => k_is); (case xc => k_is); (case iC => k_is); (case tI => k_is); (case lI => k_is); (case cI => k_is); (case lc => k_is); (case lo => k_is); (case su => ks_is); (case sa => k_is); (case exC => k_is); (case tyC => k_is); (case kC => k_is); (case ga => k_is); (case gg => k_is); (case hd => k_is); (case ha => k_is); (case hn => k_is); (case ht => k_is); (case hm => k_is); (case sc => k_is); (case ve => k_is); (case op => k_is); (case gs => k_is); (case n1 => k_is); (case n2 => k_is); (case hbm => decide +kernel); (case hvs => rfl); (case hfile => decide +kernel); (case htop => decide +kernel); (case hmro => rfl); (case hname => rfl); (case hnameR => rfl)
    case pE7 =>
      refine' KL.err_mk KX G ?aR ?tR ?xR ?aC ?xL ?xc ?iC ?tI ?lI ?cI ?lc ?lo ?su ?sa ?exC ?tyC ?kC ?ga ?gg ?hd ?ha ?hn ?ht ?hm ?sc ?ve ?op ?gs ?n1 ?n2 ?hbm ?hvs ?hfile ?htop ?hmro ?hname ?hnameR
      (case aR => k_is); (case tR => k_is); (case xR => k_is); (case aC => k_is); (case xL => k_is); (case xc => k_is); (case iC => k_is); (case tI => k_is); (case lI => k_is); (case cI => k_is); (case lc => k_is); (case lo => k_is); (case su => ks_is); (case sa => k_is); (case exC => k_is); (case tyC => k_is); (case kC => k_is); (case ga => k_is); (case gg => k_is); (case hd => k_is); (case ha => k_is); (case hn => k_is); (case ht => k_is); (case hm => k_is); (case sc => k_is); (case ve => k_is); (case op => k_is); (case gs => k_is); (case n1 => k_is); (case n2 => k_is); (case hbm => decide +kernel); (case hvs => rfl); (case hfile => decide +kernel); (case htop => decide +kernel); (case hmro => rfl); (case hname => rfl); (case hnameR => rfl)
    case pE8 =>
      refine' KL.err_mk KX G ?aR ?tR ?xR ?aC ?xL ?xc ?iC ?tI ?lI ?cI ?lc ?lo ?su ?sa ?exC ?tyC ?kC ?ga ?gg ?hd ?ha ?hn ?ht ?hm ?sc ?ve ?op ?gs ?n1 ?n2 ?hbm ?hvs ?hfile ?htop ?hmro ?hname ?hnameR
      (case aR => k_is); (case tR => k_is); (case xR => k_is); (case aC => k_is); (case xL => k_is); (case xc => k_is); (case iC => k_is); (case tI => k_is); (case lI => k_is); (case cI => k_is); (case lc => k_is); (case lo => k_is); (case su => ks_is); (case sa => k_is); (case exC => k_is); (case tyC => k_is); (case kC => k_is); (case ga => k_is); (case gg => k_is); (case hd => k_is); (case ha => k_is); (case hn => k_is); (case ht => k_is); (case hm => k_is); (case sc => k_is); (case ve => k_is); (case op => k_is); (case gs => k_is); (case n1 => k_is); (case n2 => k_is); (case hbm => decide +kernel); (case hvs => rfl); (case hfile => decide +kernel); (case htop => decide +kernel); (case hmro => rfl); (case hname => rfl); (case hnameR => rfl)
    case pB => refine' KL.fun_pack KX G ?a ?l ?c ?k; (case a => k_is); (case l => k_is); (case c => k_is); (case k => k_is)
    case pD => refine' KL.fun_pack KX G ?a ?l ?c ?k; (case a => k_is); (case l => k_is); (case c => k_is); (case k => k_is)
    case pA => refine' KL.fun_pack KX G ?a ?l ?c ?k; (case a => k_is); (case l => k_is); (case c => k_is); (case k => k_is)
    case pK => refine' KL.fun_pack KX G ?a ?l ?c ?k; (case a => k_is); (case l => k_is); (case c => k_is); (case k => k_is)
    case pM => refine' KL.fun_pack KX G ?a ?l ?c ?k; (case a => k_is); (case l => k_is); (case c => k_is); (case k => k_is)
    case pL => refine' KL.fun_pack KX G ?a ?l ?c ?k; (case a => k_is); (case l => k_is); (case c => k_is); (case k => k_is)
    (case pz1 => k_is)
    (case pz2 => k_is)
    (case pz3 => k_is)
    (case pz4 => k_is)
    (case pz5 => k_is)
    (case pz6 => k_is)
    (case pz7 => k_is)

