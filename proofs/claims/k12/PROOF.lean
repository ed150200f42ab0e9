import PyProof.Rows.All
import Wide.All
import OpenK.AllK
import Wide.FinOn
import KE.KExcSuper
import HandS.ForExc
import HandS.ExcSuper
import HandS.ExcInit
import HandS.Nested
import HandS.ExcField
import HandS.ExcIs
import HandS.IsInst
import KE.KExcIs
import HandS.ForMost
import HandS.NoneIn
import KE.KCallOwn
import HandS.OwnEq
import HandS.Star
import HandS.ClsMeth
import HandS.TryMany
import HandS.CallSlots
import HandS.Walk
import HandS.TupAny
import HandS.Codes
import PySem.Challenge.RW_risingknobs_k12_texts_of_grids
set_option Elab.async false
set_option linter.all false
set_option maxRecDepth 100000
set_option maxHeartbeats 4000000
/-! own exceptions whose __init__ opens with super().__init__('..') -/
namespace SX
open PySem PySem.W PySem.Calls PyProof.Rows

section
variable {prog : Program} {w : World} {A : Around} {E : Value → Shared → Prop} {h : Heap} {g : Array GenState} {d : Drawn} {t : Nat} {os : OsState}
variable {nm q : Str} {C N : Addr} {bs bm : List Value} {hdct : Bool} {sn : List Str} {sub : List Value} {ab : Bool} {col : Option Bool} {dd : Option Addr} {k0 k1 k2 k3 k5 : Option Value}

/-- the bound ValueError.__init__ called -/
theorem mw_call {u e t0 : Addr} {args : List Value} {Q : Value → Shared → Prop}
    (hC : h.get? C = some (excClassObj nm q C N bs bm hdct sn sub ab col dd k0 k1 k2 k3 k5 "ValueError.__new__"))
    (he : h.get? e = some (HandSPX.excO C t0)) (hu : h.get? u = some (kxs_mw "ValueError.__init__" e)) (hl : args.length ≤ sizeLine)
    (done : ∀ h1 t1, (∀ b o, b ≠ e → h.get? b = some o → h1.get? b = some o) → h1.get? e = some (HandSPX.excO C t1) → Q .none ⟨h1, g, d, t, os⟩) :
    wpAny (model prog w) A (call (.ref u) args) Q E ⟨h, g, d, t, os⟩ := by
  refine wpAny_call (codeAny_of_tree ?_)
  show wpAny (model prog w) A.in1 (callAny (.ref u) ⟨args, []⟩) _ _ _
  simp only [callAny]
  refine wpAny_bind (wpAny_load hu ?_)
  have d1 : (Value.type "method-wrapper" == Value.type "method" || Value.type "method-wrapper" == Value.type "builtin_function_or_method" || Value.type "method-wrapper" == Value.type "method-wrapper") = true := by decide
  simp only [kxs_mw, d1, if_true]
  refine W.KFB.if_so (by decide) (wpAny_bind ?_)
  refine ESX.check_bound F.excBase_ValueError hC he rfl (wpAny_bind (wpAny_pure ?_))
  refine wpAny_pure ?_
  refine ⟨plainId_quiet F.excBase_ValueError.init.plain _, ?_⟩
  refine codeAny_builtin F.excBase_ValueError.initEntry ?_
  refine exc_init_tree (cls := .ref C) (t0 := t0) (dv := none) (c2 := .none) (c3 := .none) (b4 := .bool false) he hl ?_
  intro h1 keep at1 _
  exact done h1 _ keep at1

/-- the whole of super().__init__('..') in the frame of the class's own __init__ -/
theorem super_init {pl : Sem Bool} {body : List Stmt} {env : Env} {p0 p1 p2 p3 pos : Pos} {txt : Str} {j : Nat} {Q : Value → Shared → Prop} {K : Frag} {fI x cda cc : Addr} {fd : FuncData} {ar : Arg} {vs : Array Value} {file : Str} {tf : Tok}
    {o1 : Obj} {ccl cl : Value} {cdd cld : Option Addr} {ccs csl : Array (Option Value)} {cd : ClassData} {t0 : Addr} {mg mb m : Str → Option Value}
    (X : K.In h) (hf : K.lookup fI = some o1) (hfd : o1.data = .func fd) (hp : (fd.params.posonlyargs ++ fd.params.args).head? = some ar)
    (hcode : K.lookup cda = some ⟨ccl, cdd, .fields vs, ccs⟩) (hvs : vs[2]? = some (.str file tf)) (hfile : ((prog.main.file : Str) == file) = true)
    (hcell : K.lookup cc = some ⟨cl, cld, .cell (some (.ref C)), csl⟩) (hcd : clsIn K C = some cd) (hsub : mroIn K C (.ref C) = some true)
    (hso : ks_superIn K C C "__init__" = some (some (.builtin "ValueError.__init__"))) (hVE : subIn K (.ref C) (.type "ValueError") = some true) (hop : nsIn K cStatics "thirdparty.any" = some none)
    (hlk : K.lookup C = some (excClassObj nm q C N bs bm hdct sn sub ab col dd k0 k1 k2 k3 k5 "ValueError.__new__"))
    (efu : env.func = some fI) (eco : env.code = .ref cda) (ek : env.scope.kind = .function) (ecl : env.cells.lookup ("__class__" : Str) = some cc)
    (hks : env.kindOf "super" = some .globalImplicit) (hkc : env.kindOf "__class__" = some .free) (hka : env.kindOf ar.arg = some .local)
    (eg : h.Ns env.globals mg) (hmg : mg "super" = none) (eb : h.Ns env.builtins mb) (hmb : mb "super" = some (.type "super")) (el : h.Ns env.locals m) (hself : m ar.arg = some (.ref x))
    (htop : (prog.main.scope.names.lookup ("super" : Str)).isSome = false)
    (hx : h.get? x = some (HandSPX.excO C t0))
    (done : ∀ h1 t1 tk, (∀ b o, b ≠ x → h.get? b = some o → h1.get? b = some o) → h1.get? x = some (HandSPX.excO C t1) → Q .none ⟨h1, g, d, tk, os⟩)
    (he : eval (.Call (.Attribute (.Call (.Name "super" p0) [] [] p1) "__init__" p2) [.Constant (.str txt) j p3] [] pos) env = (do
      let ov ← attributeBase (.Call (.Name "super" p0) [] [] p1) "__init__" env (eval (.Call (.Name "super" p0) [] [] p1) env)
      standAt p2.atName
      let (f, first) ← holding [ov] (getMethod ov "__init__" pl)
      callWith pos f first (backTo pos (starEach [.Constant (.str txt) j p3] env)) []) := by rfl) :
    _root_.PySem.wpAt (model prog w) A (.func body env) (eval (.Call (.Attribute (.Call (.Name "super" p0) [] [] p1) "__init__" p2) [.Constant (.str txt) j p3] [] pos) env) Q E ⟨h, g, d, t, os⟩ := by
  have I : InstAt h x (HandSPX.excO C t0) C none := ⟨hx, rfl, rfl, trivial⟩
  obtain ⟨oD, hD1, hD2⟩ : ∃ oD, h.get? C = some oD ∧ oD.data = .cls cd := by
    unfold clsIn at hcd
    split at hcd
    · rename_i c' d' cd' sl ho
      cases hcd
      exact ⟨_, X _ _ ho, rfl⟩
    · cases hcd
  have hm : alongIn K "__init__" ((cd.mro.dropWhile (· != .ref C)).drop 1) = some (some (.builtin "ValueError.__init__")) := by
    unfold ks_superIn at hso
    rw [hcd] at hso
    exact hso
  refine ks_wpAt_MethodCall (pl := pl) ?_ he
  refine ks_wpAt_super_base (env := env) hks hkc (by decide) efu (X _ _ hf) hfd hp eco (X _ _ hcode) rfl hvs hfile htop ?_
  refine ks_loadName_global ek hks (loadGlobal_builtin eg hmg eb hmb ⟨rfl, ?_⟩)
  refine wpAny_loadName_free ek hkc ecl ⟨_, X _ _ hcell, rfl⟩ ?_
  refine wpAny_loadName_local ek hka el hself ?_
  refine ks_wpAny_isType_cls hD1 hD2 ⟨rfl, ?_⟩
  refine ks_wpAny_call_super hD1 hD2 hx rfl (fun c e => by cases e) (looks_mroIn X hsub) (fun h2 e2 k2 => ?_)
  have X2 : K.In h2 := X.keeps k2
  have hx2 := k2 _ _ hx
  have I2 : InstAt h2 x (HandSPX.excO C t0) C none := ⟨hx2, rfl, rfl, trivial⟩
  refine kxs_getMethod kxs_ValueError e2 (looks_opaque X2 hop) (l₀ := cd.mro) (fun A Q E s k q => wpAny_bind ((looks_clsIn X2 hcd) A _ E s k (wpAny_pure q))) rfl X2 hm (I2.type.andThen (looks_subIn X2 hVE)) (ks_ne X2 I2 hcd) (by decide) ?_
  have hu : (h2.push (kxs_mw "ValueError.__init__" x)).get? h2.objs.size = some (kxs_mw "ValueError.__init__" x) := Heap.get?_push_at rfl rfl
  show wpAny _ _ (callWith pos (Value.ref h2.objs.size) [] ((false, eval (.Constant (.str txt) j p3) env) :: []) []) _ _ _
  refine kxs_callWith (i := "ValueError.__init__") (x := x) rfl (evalArgs_plain (Calls.spliced_cons (Calls.Constant_str (Calls.spliced_nil ⟨hu, ?_⟩))))
  refine mw_call (Heap.get?_push_of_some _ (X2 _ _ hlk)) (Heap.get?_push_of_some _ hx2) hu (by show 1 ≤ sizeLine; rw [sizeLine_eq]; omega) fun h3 t3 k3 at3 => ?_
  exact done h3 t3 _ (fun b o hb e => k3 b o hb (Heap.get?_push_of_some _ (k2 b o e))) at3
end
end SX

set_option Elab.async false
set_option linter.all false
set_option maxRecDepth 100000
set_option maxHeartbeats 4000000
namespace SX
open PySem PySem.Spec PyProof.Rows L2 NdefX

/-- what the written part says of an error class at C, its __init__ at fI, its cell at cc, the code object at c -/
structure ErrTxt (P : Program) (K : PySem.W.Frag) (mg : Str → Option Value) (C cc c : Addr) : Prop where
  ox : OexC K C
  cell : ∃ cl cld csl, K.lookup cc = some ⟨cl, cld, .cell (some (.ref C)), csl⟩
  code : ∃ (ccl : Value) (cdd : Option Addr) (vs : Array Value) (ccs : Array (Option Value)) (file : Str) (tf : Tok), K.lookup c = some ⟨ccl, cdd, .fields vs, ccs⟩ ∧ vs[2]? = some (.str file tf) ∧ ((P.main.file : Str) == file) = true
  cls : ∃ cd, PySem.W.clsIn K C = some cd
  sub : PySem.W.mroIn K C (.ref C) = some true
  sup : PySem.W.ks_superIn K C C "__init__" = some (some (.builtin "ValueError.__init__"))
  ve : PySem.W.subIn K (.ref C) (.type "ValueError") = some true
  op : PySem.W.nsIn K cStatics "thirdparty.any" = some none
  mgs : mg "super" = none
  top : (P.main.scope.names.lookup ("super" : Str)).isSome = false

section
variable {CX : CXT} {P : Program} {w : World} {K : PySem.W.Frag} {mg : Str → Option Value} {base : Heap} {N ps : List Str} {fI C cc c : Addr} {k : Nat} {sp : Sp}
  {qual : Str} {params : Arguments} {rest : List Stmt} {scope : Scope} {dV kV doc pm ct oc : Value} {an od : Option Addr} {osl : Array (Option Value)} {q0 q1 q2 q3 q4 q5 : Pos} {txt : Str} {jt : Nat}

abbrev supS (txt : Str) (jt : Nat) (q0 q1 q2 q3 q4 q5 : Pos) : Stmt := .Expr (.Call (.Attribute (.Call (.Name "super" q0) [] [] q1) "__init__" q2) [.Constant (.str txt) jt q3] [] q4) q5
abbrev nfI (qual : Str) (params : Arguments) (body : List Stmt) (scope : Scope) (cc c : Addr) : NF := ⟨"__init__", qual, params, body, scope, [("__class__", cc)], c⟩

theorem init_of {pl : Env → Sem Bool} (T : ErrTxt P K mg C cc c)
    (lk : K.lookup fI = some ⟨oc, od, .func (PySem.W.fnX "__init__" qual params (supS txt jt q0 q1 q2 q3 q4 q5 :: rest) scope [("__class__", cc)] dV kV doc pm an (.ref c) ct), osl⟩)
    (hcd : PySem.W.codeIn K (.ref c) qual = true) (S : NScope N ps ["__class__"] scope) (hs0 : ps[0]? = some ("self" : Str)) (hpar : ∃ ar : Arg, (params.posonlyargs ++ params.args).head? = some ar ∧ ar.arg = ("self" : Str))
    (hks : scope.names.lookup ("super" : Str) = some .globalImplicit)
    (he : ∀ env : Env, eval (.Call (.Attribute (.Call (.Name "super" q0) [] [] q1) "__init__" q2) [.Constant (.str txt) jt q3] [] q4) env = (do
      let ov ← attributeBase (.Call (.Name "super" q0) [] [] q1) "__init__" env (eval (.Call (.Name "super" q0) [] [] q1) env)
      standAt q2.atName
      let (f, first) ← holding [ov] (getMethod ov "__init__" (pl env))
      callWith q4 f first (backTo q4 (starEach [.Constant (.str txt) jt q3] env)) []))
    (len : ∀ vs H Q E, sp vs H Q E → vs.length = ps.length)
    (hbody : ∀ (A : Around) (outer : List Env) (s : Shared) (H : Hp) (vs : List V) (Q : VK) (E : XK), Room k (A.deeper (envF (nfI qual params (supS txt jt q0 q1 q2 q3 q4 q5 :: rest) scope cc c) fI s.heap.objs.size)) → sp vs H Q E →
      ∃ a t, vs[0]? = some (.ref a) ∧ H a = some (exo a C none) ∧ PSs (ncx CX P w K mg base N (nfI qual params (supS txt jt q0 q1 q2 q3 q4 q5 :: rest) scope cc c) fI A outer s H E) rest t ∧
        t { nx := fun _ H' => Q .non H', rt := Q } (startF N vs [none]) H) :
    FnOk P w K mg base CX (k + 1) fI (PySem.W.fnX "__init__" qual params (supS txt jt q0 q1 q2 q3 q4 q5 :: rest) scope [("__class__", cc)] dV kV doc pm an (.ref c) ct) ps sp := by
  refine ⟨len, fun A outer s H args us vs Q E hr e0 hb r hsp => ?_⟩
  have hl := len _ _ _ _ hsp
  have KX : K.In s.heap := e0.mod.kin.keeps fun b o e => (e0.bs b o e).1
  have lim : s.heap.NoLimit := e0.mod.nolimit.keeps fun b o e => (e0.bs b o e).1
  obtain ⟨cl, cld, csl, hcell⟩ := T.cell
  obtain ⟨ccl, cdd, cvs, ccs, file, tf, hcode, hvs, hfile⟩ := T.code
  obtain ⟨cd, hcls⟩ := T.cls
  obtain ⟨ar, har, hself⟩ := hpar
  obtain ⟨nm, q, Nn, bs, bm, sn, sub, ab, col, dd, k0, k1, k2, k3, k5, hC, hbm⟩ := T.ox.cls
  refine codeAny_call_function hr.depth (KX _ _ lk) rfl S.co S.gen rfl (PySem.W.codeRec_of KX hcd) (hb _ _ _ _ ?_)
  refine wpAny_newFunctionEnv S.nocell (fun ⟨n, _⟩ hy => S.par n (List.of_mem_zip hy).1) (fun h1 hns hsb => ⟨lim.fresh _ hsb, ?_⟩) S.kind
  obtain ⟨a, t, ha, hH, ht, hq⟩ := hbody A outer s H vs Q E (hr.deeper _) hsp
  have kp : ∀ b o, s.heap.get? b = some o → h1.get? b = some o := fun b o e => hsb.extBut b o (Nat.ne_of_lt (Heap.lt_size e)) (Heap.get?_push_of_some _ e)
  have C0 : CellsAt [("__class__", cc)] ["__class__"] [none] s.heap H := by
    refine ⟨rfl, fun y c e => ?_, fun x y c e1 e2 => ?_, fun i y e => ?_⟩
    · have z : c = cc := by
        simp only [List.lookup] at e
        split at e
        · exact (Option.some.inj e).symm
        · cases e
      subst z
      exact ⟨(e0.bs _ _ (e0.mod.kin _ _ hcell)).2, _, _, KX _ _ hcell, rfl⟩
    · have z : ∀ y : Str, List.lookup y [(("__class__" : Str), cc)] = some c → y = "__class__" := fun y e => by
        simp only [List.lookup] at e
        split at e
        · rename_i z
          exact eq_of_beq z
        · cases e
      rw [z x e1, z y e2]
    · cases i with
      | zero =>
        cases e
        exact ⟨cc, by simp [List.lookup], fun v z => by cases z⟩
      | succ i => cases e
  have I : Inv (ncx CX P w K mg base N (nfI qual params (supS txt jt q0 q1 q2 q3 q4 q5 :: rest) scope cc c) fI A outer s H E) [] (startF N vs [none]) H { s with heap := h1, toks := s.toks + (ps.zip us).length } := inv_startN S hr.hd e0 hl r C0 hns kp
  obtain ⟨t1, hx⟩ := exo_at I.hok hH
  obtain ⟨mb, hb1, hb2⟩ := I.mod.blt
  have hu0 : us[0]? = some (.ref a) := by
    obtain ⟨u, e, rv⟩ := r.get ha
    rw [e]
    obtain rfl : u = Value.ref a := rv
    rfl
  have hlook : (ps.zip us).reverse.lookup ("self" : Str) = some (.ref a) := zip_look (by
    have q : (N.take (ps.length + ([("__class__" : Str)]).length)).Nodup := S.nd.sublist (List.take_sublist _ N)
    rw [S.pre] at q
    exact (List.nodup_append.mp q).1) hs0 hu0
  refine ks_codeAny_funcAt ?_
  refine ks_wpAt_execs_cons (ks_wpAt_Expr_any ?_ I.quiet rfl)
  obtain ⟨hp, g, d, tk, os⟩ := s
  refine super_init (K := K) (fI := fI) (x := a) (cda := c) (cc := cc) (C := C) (ar := ar) (t0 := t1) (mg := mg) (mb := mb) I.kIn lk rfl har hcode hvs hfile hcell hcls T.sub T.sup T.ve T.op hC rfl rfl S.kind rfl hks
    (S.frk _ (List.mem_cons_self)) (by rw [hself]; exact S.par _ (List.mem_of_getElem? hs0)) (I.mod.glob.keeps I.bk) T.mgs (hb1.keeps I.bk) ((hb2 _ (by decide)).trans (by decide +kernel)) hns (by rw [hself]; exact hlook) T.top hx (fun h2 t2 tk2 k2 at2 => ?_) (he _)
  have J0 := I.write (t' := tk2) (x := a) (e := a) (o := exo a C none) (by rw [hH]; exact True.intro) (.inl rfl) k2 ⟨_, at2⟩ (exo_ok at2)
  have eu : upd H a (exo a C none) = H := by
    funext b
    by_cases hb : b = a
    · rw [hb, upd_same, hH]
    · rw [upd_ne hb]
  rw [eu] at J0
  refine wpAt_of_wpAny (wpAny_mono (ht.run [] _ (startF N vs [none]) H _ J0 hq) (fun fl s' hs => ?_) fun e s' hs => hs)
  have fin : ∀ {σ' : L2.St} {H' : Hp} {v : V} {u : Value}, Inv (ncx CX P w K mg base N (nfI qual params (supS txt jt q0 q1 q2 q3 q4 q5 :: rest) scope cc c) fI A outer ⟨hp, g, d, tk, os⟩ H E) [] σ' H' s' → L2.RelV v u → Q v H' → CE outer P w H ⟨hp, g, d, tk, os⟩ Q u s' :=
    fun {σ' H' v u} J rv q => ⟨v, H', J.os, J.bare, J.base, J.hok, rv, q⟩
  cases fl with
  | ret u =>
    obtain ⟨v, σ', H', J, rv, q⟩ := hs
    exact fin J rv q
  | next =>
    obtain ⟨σ', H', J, q⟩ := hs
    exact fin (v := V.non) (u := Value.none) J rfl q
  | brk =>
    obtain ⟨_, _, _, q⟩ := hs
    exact False.elim q
  | cont =>
    obtain ⟨_, _, _, q⟩ := hs
    exact False.elim q
end
end SX

set_option Elab.async false
set_option linter.all false
set_option maxRecDepth 100000
set_option maxHeartbeats 4000000
namespace SX
open PySem PySem.Spec PyProof.Rows L2 NdefX

/-- an own exception made and kept: its own __init__ keeps sp -/
def tMkE (C : Addr) (sp : Sp) (dvs : List V) (ta : TA) : TE := fun σ H Q => ta σ H fun vs H1 => vs.length ≤ 1000 ∧ ∀ a, H1 a = none →
  sp (.ref a :: (vs ++ dvs)) (upd H1 a (exo a C none)) (fun v H2 => v = .non ∧ Q (.ref a) H2) (fun _ _ _ => False)

section
variable {X : Cx} {e : Expr} {es : List Expr} {ta : TA} {p pos : Pos}
theorem run_mkE {CX : CXT} {C fI : Addr} {k : Nat} {fd : FuncData} {ps : List Str} {sp : Sp} {ds : List Value} {dvs : List V} {pins : List (Addr × Obj)} {σ : L2.St} {H1 : Hp} {s1 : Shared} {Q : VK} {us : List Value} {vs : List V}
    (T : OexC X.K C) (iC : PySem.W.findIn X.K (.ref C) "__init__" = some (some (.ref fI))) (tI : PySem.W.typeIn X.K (.ref fI) = some (.type "function"))
    (F1 : FnOk X.prog X.w X.K X.mg X.base CX k fI fd ps sp) (hr : Room (k + 1) X.A) (hb : Binds X.K fd ps ds) (hd : Vals dvs ds) (hx : Passes CX X (fun _ _ _ => False))
    (I1 : Inv X pins σ H1 s1) (r1 : Vals vs us) (hz : vs.length ≤ 1000)
    (q1 : ∀ a, H1 a = none → sp (.ref a :: (vs ++ dvs)) (upd H1 a (exo a C none)) (fun v H2 => v = .non ∧ Q (.ref a) H2) (fun _ _ _ => False)) :
    wpAny (model X.prog X.w) X.A (call (.ref C) us) (EP X pins σ Q) X.xe s1 := by
  obtain ⟨nm, q, N, bs, bm, sn, sub, ab, col, dd, k0, k1, k2, k3, k5, hC, hbm⟩ := T.cls
  obtain ⟨hp, g, dr, tk, os⟩ := s1
  have hsz : hp.objs.size ≤ hp.objs.size + 1 := Nat.le_succ _
  have hn : H1 (hp.objs.size + 1) = none := I1.hok.fresh hsz
  have hq := q1 (hp.objs.size + 1) hn
  have keep : ∀ b o, hp.get? b = some o → ((hp.push (PySem.W.kdv_tup us)).push (PySem.HandSPX.excO C hp.objs.size)).get? b = some o := fun b o e =>
    Heap.get?_push_of_some _ (Heap.get?_push_of_some _ e)
  have hat : ((hp.push (PySem.W.kdv_tup us)).push (PySem.HandSPX.excO C hp.objs.size)).get? (hp.objs.size + 1) = some (PySem.HandSPX.excO C hp.objs.size) := by heap_get
  have I2 := I1.laid (t' := tk) (a := hp.objs.size + 1) (o := exo (hp.objs.size + 1) C none) (h' := (hp.push (PySem.W.kdv_tup us)).push (PySem.HandSPX.excO C hp.objs.size)) keep hsz (exo_ok hat)
  have r2 : Vals (V.ref (hp.objs.size + 1) :: (vs ++ dvs)) (Value.ref (hp.objs.size + 1) :: (us ++ ds)) := .cons rfl (r1.append hd)
  have hl : (Value.ref (hp.objs.size + 1) :: us ++ ds).length = ps.length := by
    have e := r2.length
    rw [F1.len _ _ _ _ hq] at e
    exact e.symm
  have hus : us.length ≤ sizeLine := by
    rw [← Paired.length r1, sizeLine_eq]
    omega
  have kin : X.K.In hp := I1.kIn
  refine wpAny_call (PySem.HandSPX.call_own F.excBase_ValueError (fun Y => PySem.HandSPX.refsVE_contains Y bm hbm) (kin _ _ hC) (PySem.W.looks_findIn kin iC) (fun self => PySem.W.bind_fn kin self tI) hus ?_)
  refine codeAny_mono (F1.run _ X.stack _ _ ⟨Value.ref (hp.objs.size + 1) :: us, []⟩ (Value.ref (hp.objs.size + 1) :: (us ++ ds)) _ _ (fun _ _ _ => False) (hr.make C us []) (I2.env0.make C us []) (hb _ (Value.ref (hp.objs.size + 1) :: us) I2.kIn hl) r2 hq) fun r s' hq' => ?_
  cases r with
  | error er => exact hx pins σ _ _ er s' I2 hq'
  | ok fl =>
    cases fl with
    | ret u =>
      obtain ⟨v, H2, J, rv, ev, q2⟩ := I2.after hq'
      subst ev
      exact ⟨rv, .ref (hp.objs.size + 1), H2, J, rfl, q2⟩
    | next => exact False.elim hq'
    | brk => exact False.elim hq'
    | cont => exact False.elim hq'

theorem pe_mkE {CX : CXT} {x : Str} {C fI : Addr} {k : Nat} {fd : FuncData} {ps : List Str} {sp : Sp} {ds : List Value} {dvs : List V} (T : OexC X.K C) (iC : PySem.W.findIn X.K (.ref C) "__init__" = some (some (.ref fI)))
    (tI : PySem.W.typeIn X.K (.ref fI) = some (.type "function")) (F1 : FnOk X.prog X.w X.K X.mg X.base CX k fI fd ps sp) (hr : Room (k + 1) X.A) (hb : Binds X.K fd ps ds) (hd : Vals dvs ds) (hx : Passes CX X (fun _ _ _ => False))
    (hg : Gl X x) (hm : X.mg x = some (.ref C)) (ha : PA X (e :: es) ta)
    (hdb : (x == ("__debug__" : Str)) = false := by decide) (he : starEach (e :: es) X.env = (false, eval e X.env) :: starEach es X.env := by rfl) (hpl : (backTo pos (starEach es X.env)).any (·.1) = false := by rfl) :
    PE X (.Call (.Name x p) (e :: es) [] pos) (tMkE C sp dvs ta) := by
  refine ⟨fun pins s σ H Q I h => ?_⟩
  refine wpAny_Call_Name_kw (ld_glob I hg hm ?_ hdb)
  refine PySem.W.callWith_K (h₀ := X.base) I.ok.mod.kin T.kC (thn (ha.run pos pins s σ H _ I h) fun us s1 ⟨vs, H1, I1, r1, hz, q1⟩ => ⟨I1.kIn, ?_⟩) he hpl
  exact run_mkE T iC tI F1 hr hb hd hx I1 r1 hz q1
theorem pe_mkE0 {CX : CXT} {x : Str} {C fI : Addr} {k : Nat} {fd : FuncData} {ps : List Str} {sp : Sp} {ds : List Value} {dvs : List V} (T : OexC X.K C) (iC : PySem.W.findIn X.K (.ref C) "__init__" = some (some (.ref fI)))
    (tI : PySem.W.typeIn X.K (.ref fI) = some (.type "function")) (F1 : FnOk X.prog X.w X.K X.mg X.base CX k fI fd ps sp) (hr : Room (k + 1) X.A) (hb : Binds X.K fd ps ds) (hd : Vals dvs ds) (hx : Passes CX X (fun _ _ _ => False))
    (hg : Gl X x) (hm : X.mg x = some (.ref C)) (hdb : (x == ("__debug__" : Str)) = false := by decide) :
    PE X (.Call (.Name x p) [] [] pos) (tMkE C sp dvs tNil) := by
  refine ⟨fun pins s σ H Q I h => ?_⟩
  refine wpAny_Call_Name_kw (ld_glob I hg hm ?_ hdb)
  exact PySem.W.callWith_K0 I.kIn T.kC (run_mkE (us := []) (vs := []) T iC tI F1 hr hb hd hx I .nil (Nat.zero_le _) h.2)

/-- e.f of such an exception -/
def tEf (K : PySem.W.Frag) (f : Str) (te : TE) : TE := fun σ H Q => te σ H fun x H1 => ∃ (a C dx : Addr) (fs : List (Str × V)) (v : V), x = .ref a ∧ H1 a = some (exo a C (some dx)) ∧ H1 dx = some (exd dx fs) ∧ XfC K C ∧
  PySem.W.findIn K (.ref C) f = some none ∧ fs.lookup f = some v ∧ Q v H1
theorem pe_ef {te : TE} {n : Str} (he : PE X e te) (hb : attributeBase e n X.env (eval e X.env) = eval e X.env := by rfl) : PE X (.Attribute e n pos) (tEf X.K n te) := by
  refine ⟨fun pins s σ H Q I h => ?_⟩
  refine attr_of hb (thn (he.run pins s σ H _ I h) fun u s1 hh => ?_)
  obtain ⟨x, H1, I1, rx, a, C, dd, fs, v, ex, ea, ed, T, hno, l, q⟩ := hh
  subst ex
  obtain rfl : u = Value.ref a := rx
  obtain ⟨t1, hx⟩ := exo_at I1.hok ea
  obtain ⟨mA, hns, hr⟩ := exd_at I1.hok ed
  obtain ⟨od, ho, hl⟩ := lookIn_ns hns
  obtain ⟨u, hu, ru⟩ := RelO.some_of (v := v) (o := mA n) (by rw [← l]; exact hr n)
  have J : PySem.W.InstAt s1.heap a { cls := .ref C, dict := some dd, data := .fields #[.ref t1, .none, .none, .none, .bool false, .none] } C (some od) := ⟨hx, rfl, rfl, ho⟩
  exact HandSPX.exc_get I1.kIn J T.ga T.gg T.exC (PySem.W.findObj_own T.hdC hno rfl (by rw [hl, hu])) (handed_of ru) ⟨v, H1, I1.tok _, ru, q⟩

/-- isinstance(e, c) of such an exception -/
def rIsX (K : PySem.W.Frag) : List V → Hp → VK → Prop := fun xs H Q => ∃ (a C : Addr) (od : Option Addr) (fs : List (Str × V)) (c : V) (u : Value) (b : Bool), xs = [.ref a, c] ∧ ClsV c u ∧ H a = some (exo a C od) ∧ (∀ d, od = some d → H d = some (exd d fs)) ∧
  ExcC K C ∧ PySem.W.kitOne K (.ref C) u = some b ∧ Q (.bl b) H
theorem call_isX : CallR X (.builtin "isinstance") (rIsX X.K) := by
  intro pins s σ H xs us Q I r h
  obtain ⟨a, C, od, fs, c, u, b, rfl, k, ea, ed, T, e, q⟩ := h
  obtain ⟨u1, u2, rfl, r1, r2⟩ := vals2 r
  have e2 := k.eq r2
  subst e2
  obtain rfl : u1 = Value.ref a := r1
  obtain ⟨t1, hx⟩ := exo_at I.hok ea
  obtain ⟨odx, J⟩ : ∃ odx, PySem.W.InstAt s.heap a { cls := .ref C, dict := od, data := .fields #[.ref t1, .none, .none, .none, .bool false, .none] } C odx := by
    cases od with
    | none => exact ⟨none, hx, rfl, rfl, trivial⟩
    | some d =>
      obtain ⟨mA, hns, _⟩ := exd_at I.hok (ed d rfl)
      obtain ⟨od, ho, _⟩ := lookIn_ns hns
      exact ⟨some od, hx, rfl, rfl, ho⟩
  exact PySem.W.kia_one (PySem.W.kitx_exc (by obtain ⟨cd, hc, _⟩ := PySem.W.any_some T.hd; rw [hc]; rfl) T.hg T.hk T.hs T.ha T.hn T.ht T.hm) I.kIn J e (fun z => nomatch z) fun tk => ⟨.bl b, H, I.tok tk, rfl, q⟩
end
end SX

set_option Elab.async false
set_option linter.all false
set_option maxRecDepth 100000
set_option maxHeartbeats 4000000
namespace SX
open PySem PySem.Spec PyProof.Rows L2 NdefX
/-- K says: at fI the __init__ of the class at C -/
def InitAt (K : PySem.W.Frag) (qual : Str) (st : Stmt) (fI cc c : Addr) (fd : FuncData) : Prop := ∃ (oc : Value) (od : Option Addr) (kV doc pm : Value) (an : Option Addr) (ct : Value) (osl : Array (Option Value)),
  fd = PySem.W.fnX "__init__" qual (defArgs st) (defBody st) (defScope st) [("__class__", cc)] .none kV doc pm an (.ref c) ct ∧ K.lookup fI = some ⟨oc, od, .func fd, osl⟩ ∧ PySem.W.codeIn K (.ref c) qual = true

/-- H' is H but at a, where an exception stands with its own dict at d, new -/
structure Filled (H H' : Hp) (a C d : Addr) (fs : List (Str × V)) : Prop where
  ob : H' a = some (exo a C (some d))
  dc : H' d = some (exd d fs)
  nw : H d = none
  ne : d ≠ a
  kp : ∀ b o, H b = some o → b ≠ a → H' b = some o

def spI1 (C : Addr) (f : Str) : Sp := fun vs H Q _ => ∃ (a : Addr) (v : V), vs = [.ref a, v] ∧ H a = some (exo a C none) ∧ ∀ d H', Filled H H' a C d [(f, v)] → Q .non H'
def spI2 (C : Addr) (f g : Str) : Sp := fun vs H Q _ => ∃ (a : Addr) (v u : V), vs = [.ref a, v, u] ∧ H a = some (exo a C none) ∧ ∀ d H', Filled H H' a C d [(g, u), (f, v)] → Q .non H'
def spI0 (C : Addr) : Sp := fun vs H Q _ => ∃ (a : Addr), vs = [.ref a] ∧ H a = some (exo a C none) ∧ Q .non H
/-- a list or a tuple -/
def SqA (K : PySem.W.Frag) (H : Hp) (a : Addr) (xs : List V) : Prop := SqL K H a xs ∨ SqT K H a xs
def spT1 (K : PySem.W.Frag) (C : Addr) (f : Str) : Sp := fun vs H Q _ => ∃ (a p : Addr) (xs : List V), vs = [.ref a, .ref p] ∧ H a = some (exo a C none) ∧ SqA K H p xs ∧
  ∀ d q H', Filled H H' a C d [(f, .ref q)] → SqT K H' q xs → Q .non H'
def spT2 (K : PySem.W.Frag) (C : Addr) (f g : Str) : Sp := fun vs H Q _ => ∃ (a p p2 : Addr) (xs ys : List V), vs = [.ref a, .ref p, .ref p2] ∧ H a = some (exo a C none) ∧ SqA K H p xs ∧ SqA K H p2 ys ∧
  ∀ d q q2 H', Filled H H' a C d [(g, .ref q2), (f, .ref q)] → SqT K H' q xs → SqT K H' q2 ys → Q .non H'

theorem fill1 {H : Hp} {a C d : Addr} {fs : List (Str × V)} (hd : H d = none) (hne : d ≠ a) : Filled H (upd (upd H d (exd d fs)) a (exo a C (some d))) a C d fs where
  ob := upd_same
  dc := by rw [upd_ne hne, upd_same]
  nw := hd
  ne := hne
  kp := fun b o e hb => by rw [upd_ne hb, upd_ne (ne_of_none e hd)]; exact e


theorem Filled.more {H H' : Hp} {a C d : Addr} {fs : List (Str × V)} {y : Str × V} (f : Filled H H' a C d fs) (hne : d ≠ a) : Filled H (upd H' d (exd d (y :: fs))) a C d (y :: fs) where
  ob := by rw [upd_ne hne.symm]; exact f.ob
  dc := upd_same
  nw := f.nw
  ne := hne
  kp := fun b o e hb => by rw [upd_ne (ne_of_none e f.nw)]; exact f.kp b o e hb
theorem Filled.pre' {H H1 H' : Hp} {a C d : Addr} {fs : List (Str × V)} (f : Filled H1 H' a C d fs) (s : Same H H1) : Filled H H' a C d fs where
  ob := f.ob
  dc := f.dc
  nw := s.free f.nw
  ne := f.ne
  kp := fun b o e hb => f.kp b o (s b o e) hb
theorem same_upd {H : Hp} {p : Addr} {o : HO} (h : H p = none) : Same H (upd H p o) := fun b x e => by
  rw [upd_ne (ne_of_none e h)]
  exact e
theorem Filled.pre {H H' : Hp} {a C d q : Addr} {fs : List (Str × V)} {o : HO} (hq : H q = none) (f : Filled (upd H q o) H' a C d fs) : Filled H H' a C d fs := f.pre' (same_upd hq)
theorem Filled.after {H H' H2 : Hp} {a C d : Addr} {fs : List (Str × V)} (f : Filled H H' a C d fs) (s : Same H' H2) : Filled H H2 a C d fs where
  ob := s _ _ f.ob
  dc := s _ _ f.dc
  nw := f.nw
  ne := f.ne
  kp := fun b o e hb => s _ _ (f.kp b o e hb)
theorem sqT_ne {K : PySem.W.Frag} {H H' : Hp} {a p : Addr} {xs : List V} {o : HO} (ha : H a = some o) (n1 : ∀ ys, o ≠ .tup ys) (n2 : ∀ u z, o ≠ .frz u z) (kp : ∀ b o, H b = some o → b ≠ a → H' b = some o) (h : SqT K H p xs) : SqT K H' p xs := by
  rcases h with (h | ⟨u, h⟩) | h
  · exact .inl (.inl (kp _ _ h fun z => by rw [z, ha] at h; exact n1 _ (Option.some.inj h)))
  · exact .inl (.inr ⟨u, kp _ _ h fun z => by rw [z, ha] at h; exact n2 _ _ (Option.some.inj h)⟩)
  · exact .inr h
theorem sqL_ne {K : PySem.W.Frag} {H H' : Hp} {a p : Addr} {xs : List V} {o : HO} (ha : H a = some o) (n1 : ∀ ys, o ≠ .lst ys) (n2 : ∀ u z, o ≠ .frz u z) (kp : ∀ b o, H b = some o → b ≠ a → H' b = some o) (h : SqL K H p xs) : SqL K H' p xs := by
  rcases h with (h | ⟨u, h⟩) | h
  · exact .inl (.inl (kp _ _ h fun z => by rw [z, ha] at h; exact n1 _ (Option.some.inj h)))
  · exact .inl (.inr ⟨u, kp _ _ h fun z => by rw [z, ha] at h; exact n2 _ _ (Option.some.inj h)⟩)
  · exact .inr h
theorem exo_lst {e C : Addr} {d : Option Addr} {xs : List V} : exo e C d ≠ .lst xs := fun z => by
  unfold exo at z
  cases z
theorem Filled.sqT {K : PySem.W.Frag} {H H' : Hp} {a C d p : Addr} {fs : List (Str × V)} {xs : List V} (f : Filled H H' a C d fs) (ha : H a = some (exo a C none)) (h : SqT K H p xs) : SqT K H' p xs :=
  sqT_ne ha (fun _ => exo_tup) (fun _ _ => exo_frz) f.kp h
theorem Filled.sqA {K : PySem.W.Frag} {H H' : Hp} {a C d p : Addr} {fs : List (Str × V)} {xs : List V} (f : Filled H H' a C d fs) (ha : H a = some (exo a C none)) (h : SqA K H p xs) : SqA K H' p xs :=
  h.imp (sqL_ne ha (fun _ => exo_lst) (fun _ _ => exo_frz) f.kp) (f.sqT ha)
theorem Same.sqt {K : PySem.W.Frag} {H H' : Hp} {a : Addr} {xs : List V} (e : Same H H') (h : SqT K H a xs) : SqT K H' a xs := by
  rcases h with (h | ⟨o, h⟩) | h
  · exact .inl (.inl (e _ _ h))
  · exact .inl (.inr ⟨o, e _ _ h⟩)
  · exact .inr h
theorem sqA_same {K : PySem.W.Frag} {H H' : Hp} {a : Addr} {xs : List V} (e : Same H H') (h : SqA K H a xs) : SqA K H' a xs := h.imp e.seq (Same.sqt e)
theorem exd_frz {e : Addr} {fs : List (Str × V)} {o : Obj} {u : HO} : exd e fs ≠ .frz o u := fun z => by
  unfold exd at z
  cases z
theorem Filled.sqU {K : PySem.W.Frag} {H H' : Hp} {a C d p : Addr} {fs gs : List (Str × V)} {xs : List V} (f : Filled H H' a C d fs) (hne : d ≠ a) (h : SqT K H' p xs) : SqT K (upd H' d (exd d gs)) p xs :=
  sqT_ne f.dc (fun _ => exd_tup) (fun _ _ => exd_frz) (fun b o e hb => by rw [upd_ne hb]; exact e) h
/-- tuple(x), x a list or a tuple: the tuple, new or the same -/
def rTup (K : PySem.W.Frag) : List V → Hp → VK → Prop := fun vs H Q => ∃ (p : Addr) (xs : List V), vs = [.ref p] ∧ SqA K H p xs ∧ ∀ q H2, Same H H2 → SqT K H2 q xs → Q (.ref q) H2
theorem call_tup {X : Cx} : CallR X (.type "tuple") (rTup X.K) := fun pins s σ H vs us Q I r ⟨p, xs, e, h, k⟩ => call_tuple_of pins s σ H vs us Q I r ⟨p, xs, e, h.elim
  (fun h => .inl ⟨h, fun q hq => k q _ (same_upd hq) (.inl (.inl upd_same))⟩) (fun h => .inr ⟨h, k p H (Same.refl H) h⟩)⟩
/-! displays, weakened -/
theorem PA.clo {X : Cx} {es : List Expr} {t : TA} (h : PA X es t) : PA X es (fun σ H R => ∃ A : List V → Hp → Prop, (∀ xs H1, A xs H1 → R xs H1) ∧ t σ H A) :=
  ⟨fun pos pins s σ H R I ⟨A, k, q⟩ => thn (h.run pos pins s σ H A I q) fun us s1 ⟨xs, H1, I1, r, q1⟩ => ⟨xs, H1, I1, r, k _ _ q1⟩⟩
def tNewL (t : TA) : TE := fun σ H Q => t σ H fun xs H1 => xs.length ≤ sizeLine ∧ ∀ p H2, Same H1 H2 → H1 p = none → H2 p = some (.lst xs) → Q (.ref p) H2
def tNewT (t : TA) : TE := fun σ H Q => t σ H fun xs H1 => xs.length ≤ sizeLine ∧ ∀ p H2, Same H1 H2 → H1 p = none → H2 p = some (.tup xs) → Q (.ref p) H2
theorem pe_newL {X : Cx} {es : List Expr} {pos : Pos} {t : TA} (h : PA X es t) : PE X (.List es pos) (tNewL t) := ⟨fun pins s σ H Q I q => (pe_lst (PA.clo h)).run pins s σ H Q I ⟨_, fun xs H1 z => ⟨z.1, fun p hp => z.2 p _ (same_upd hp) hp upd_same⟩, q⟩⟩
theorem pe_newT {X : Cx} {es : List Expr} {pos : Pos} {x1} {t : TA} (h : PA X es t) : PE X (.Tuple es x1 pos) (tNewT t) := ⟨fun pins s σ H Q I q => (pe_tup (PA.clo h)).run pins s σ H Q I ⟨_, fun xs H1 z => ⟨z.1, fun p hp => z.2 p _ (same_upd hp) hp upd_same⟩, q⟩⟩

/-- the pool of a law -/
def Bag (H : Hp) (p : Addr) (b : Bool) : Prop := ∃ c n : Int, H p = some (.lst [.int c, .int n, .bl b])
/-- all but the object at p is as it was -/
def But (p : Addr) (H H' : Hp) : Prop := ∀ b o, H b = some o → b ≠ p → H' b = some o
theorem But.trans {p : Addr} {H H1 H2 : Hp} (a : But p H H1) (b : But p H1 H2) : But p H H2 := fun c o e n => b c o (a c o e n) n
theorem But.refl (p : Addr) (H : Hp) : But p H H := fun _ _ e _ => e
theorem But.upd {p : Addr} {H : Hp} {o : HO} : But p H (upd H p o) := fun c u e n => by rw [upd_ne n]; exact e
def spBag : Sp := fun vs H Q _ => ∃ c : Int, vs = [.int c] ∧ ∀ p H' b, Same H H' → H p = none → Bag H' p b → Q (.ref p) H'
def spDraw : Sp := fun vs H Q _ => ∃ (p : Addr) (m : Int) (b : Bool), vs = [.ref p, .int m] ∧ Bag H p b ∧ 0 < m ∧ m < 1000000 ∧ ∀ (r : Int) H', 0 ≤ r → r < m → But p H H' → Bag H' p b → Q (.int r) H'
def spAt (K : PySem.W.Frag) : Sp := fun vs H Q _ => ∃ (a : Addr) (ns : List Int) (k : Nat), vs = [.ref a, .int k] ∧ SqL K H a (ns.map V.int) ∧ ∀ z, Q (.int z) H

/-! more weakened rules -/
def rCatW : R2 := fun x y H Q => ∃ l b xs zs, x = .ref l ∧ y = .ref b ∧ H l = some (.lst xs) ∧ H b = some (.lst zs) ∧ xs.length + zs.length ≤ sizeLine ∧ ∀ p H2, Same H H2 → H p = none → H2 p = some (.lst (xs ++ zs)) → Q (.ref p) H2
theorem op_catW {X : Cx} : OpR X (binaryOp .Add) rCatW := fun pins s σ H x y v u Q I rx ry ⟨l, b, xs, zs, e1, e2, h1, h2, hz, q⟩ =>
  op_cat pins s σ H x y v u Q I rx ry ⟨l, b, xs, zs, e1, e2, h1, h2, hz, fun p hp => q p _ (same_upd hp) hp upd_same⟩

/-! data of ints -/
theorem dpInts {K : PySem.W.Frag} {H : Hp} : ∀ xs : List Int, DpAll K H (xs.map V.int) (xs.map PyData.int)
  | [] => .nil
  | x :: xs => .cons (.int x) (dpInts xs)
theorem layInts : ∀ xs : List Int, PyData.canLayAll0 (xs.map PyData.int) = true
  | [] => rfl
  | x :: xs => by
    show (PyData.canLay0 (.int x) && PyData.canLayAll0 (xs.map PyData.int)) = true
    rw [layInts xs]
    rfl
theorem depInts : ∀ xs : List Int, PyData.depthAll (xs.map PyData.int) = 0
  | [] => rfl
  | x :: xs => by
    show max (PyData.depth (.int x)) (PyData.depthAll (xs.map PyData.int)) = 0
    rw [depInts xs]
    rfl
theorem shapedT (xs : List Int) : SeqAt.shaped (.tuple (xs.map PyData.int)) = true := by
  unfold SeqAt.shaped
  rw [show PyData.canLay0 (.tuple (xs.map PyData.int)) = PyData.canLayAll0 (xs.map PyData.int) from rfl, layInts,
    show PyData.depth (.tuple (xs.map PyData.int)) = PyData.depthAll (xs.map PyData.int) + 1 from rfl, depInts]
  rfl
theorem shapedLT (xs ys : List Int) : SeqAt.shaped (.list [.tuple (xs.map PyData.int), .tuple (ys.map PyData.int)]) = true := by
  unfold SeqAt.shaped
  rw [show PyData.canLay0 (.list [.tuple (xs.map PyData.int), .tuple (ys.map PyData.int)]) = (PyData.canLayAll0 (xs.map PyData.int) && (PyData.canLayAll0 (ys.map PyData.int) && true)) from rfl, layInts, layInts,
    show PyData.depth (.list [.tuple (xs.map PyData.int), .tuple (ys.map PyData.int)]) = max (PyData.depthAll (xs.map PyData.int) + 1) (max (PyData.depthAll (ys.map PyData.int) + 1) 0) + 1 from rfl, depInts, depInts]
  rfl
theorem eqvSelf {d : PyData} (h : SeqAt.shaped d = true) : PyData.eqv d d = true := SeqAt.eqv_refl d (SeqAt.canLay_of_shaped h)

theorem made_same {H H' : Hp} {a C d : Addr} {fs : List (Str × V)} (ha : H a = none) (f : Filled (upd H a (exo a C none)) H' a C d fs) : Same H H' := fun b o e =>
  f.kp b o (by rw [upd_ne (ne_of_none e ha)]; exact e) (ne_of_none e ha)
def rListW (K : PySem.W.Frag) : List V → Hp → VK → Prop := fun vs H Q => ∃ (p : Addr) (xs : List V), vs = [.ref p] ∧ SqA K H p xs ∧ ∀ q H2, Same H H2 → H q = none → H2 q = some (.lst xs) → Q (.ref q) H2
theorem call_listW {X : Cx} : CallR X (.type "list") (rListW X.K) := fun pins s σ H vs us Q I r ⟨p, xs, e, h, k⟩ => call_list_of pins s σ H vs us Q I r ⟨p, xs, e, h, fun q hq => k q _ (same_upd hq) hq upd_same⟩
theorem Bag.same {H H' : Hp} {p : Addr} {b : Bool} (h : Bag H p b) (s : Same H H') : Bag H' p b := by
  obtain ⟨c, n, e⟩ := h
  exact ⟨c, n, s _ _ e⟩
theorem Same.but {p : Addr} {H H' : Hp} (s : Same H H') : But p H H' := fun b o e _ => s b o e
theorem Bag.ne {H : Hp} {p q : Addr} {b : Bool} (h : Bag H p b) (hq : H q = none) : q ≠ p := fun z => by
  obtain ⟨c, n, e⟩ := h
  rw [← z, hq] at e
  cases e
theorem But.lst {H H' : Hp} {p q : Addr} {o : HO} (s : But p H H') (hq : q ≠ p) (h : H q = some o) : H' q = some o := s _ _ h hq
/-- the same of an object that was new -/
def spLaw (K : PySem.W.Frag) : Sp := fun vs H Q _ => ∃ (a : Addr) (ns : List Int), vs = [.ref a] ∧ SqL K H a (ns.map V.int) ∧ ns.length ≤ 63 ∧ ∀ H', Q (.bl true) H'
theorem flags_dp {K : PySem.W.Frag} {H : Hp} (bs : List Bool) : DpAll K H (bs.map V.bl) (bs.map PyData.bool) := by
  induction bs with
  | nil => exact .nil
  | cons b bs ih => exact .cons (.bl b) ih
theorem layBools : ∀ xs : List Bool, PyData.canLayAll0 (xs.map PyData.bool) = true
  | [] => rfl
  | x :: xs => by
    show (PyData.canLay0 (.bool x) && PyData.canLayAll0 (xs.map PyData.bool)) = true
    rw [layBools xs]
    rfl
theorem depBools : ∀ xs : List Bool, PyData.depthAll (xs.map PyData.bool) = 0
  | [] => rfl
  | x :: xs => by
    show max (PyData.depth (.bool x)) (PyData.depthAll (xs.map PyData.bool)) = 0
    rw [depBools xs]
    rfl
theorem shapedB (xs : List Bool) : SeqAt.shaped (.list (xs.map PyData.bool)) = true := by
  unfold SeqAt.shaped
  rw [show PyData.canLay0 (.list (xs.map PyData.bool)) = PyData.canLayAll0 (xs.map PyData.bool) from rfl, layBools,
    show PyData.depth (.list (xs.map PyData.bool)) = PyData.depthAll (xs.map PyData.bool) + 1 from rfl, depBools]
  rfl
/-- what stands through the law: the pool's list is not asked any more, the two options -/
structure ErrPack (P : Program) (K : PySem.W.Frag) (mg : Str → Option Value) (x qual : Str) (st : Stmt) (f1 f2 : Str) (C fI cc c : Addr) (fd : FuncData) (R : Addr) : Prop where
  T : ErrTxt P K mg C cc c
  I : InitAt K qual st fI cc c fd
  xf : XfC K C
  ec : ExcC K C
  gm : mg x = some (.ref C)
  iC : PySem.W.findIn K (.ref C) "__init__" = some (some (.ref fI))
  tI : PySem.W.typeIn K (.ref fI) = some (.type "function")
  mro : ∃ cd, PySem.W.clsIn K C = some cd ∧ cd.mro = .ref C :: .ref R :: PySem.HandSPX.veTail ∧ cd.name = x
  n1 : PySem.W.findIn K (.ref C) f1 = some none
  n2 : PySem.W.findIn K (.ref C) f2 = some none
  gR : mg "RiseError" = some (.ref R)
  tR : PySem.W.typeIn K (.ref R) = some (.type "type")
  cR : ∃ cd, PySem.W.clsIn K R = some cd ∧ cd.name = "RiseError"

theorem err_mk {P : Program} {K : PySem.W.Frag} {h : Heap} {mg : Str → Option Value} (X : K.In h) (G : h.Ns mainGlobals mg) {x qual f1 f2 : Str} {st : Stmt} {C fI cc c R : Addr}
    {nm q : Str} {N : Addr} {bs bm : List Value} {sn : List Str} {sub : List Value} {ab : Bool} {col : Option Bool} {dd : Option Addr} {m0 m1 m2 m3 m5 : Option Value} {cd cdR : ClassData}
    {oc kV doc pm ct ccl cl : Value} {od an cdd cld : Option Addr} {osl ccs csl : Array (Option Value)} {vs : Array Value} {file : Str} {tf : Tok}
    (aR : PySem.W.nsIn K mainGlobals "RiseError" = some (some (.ref R)))
    (tR : PySem.W.typeIn K (.ref R) = some (.type "type"))
    (xR : PySem.W.clsIn K R = some cdR)
    (aC : PySem.W.nsIn K mainGlobals x = some (some (.ref C)))
    (xL : K.lookup C = some (excClassObj nm q C N bs bm true sn sub ab col dd m0 m1 m2 m3 m5 "ValueError.__new__"))
    (xc : PySem.W.clsIn K C = some cd)
    (iC : PySem.W.findIn K (.ref C) "__init__" = some (some (.ref fI)))
    (tI : PySem.W.typeIn K (.ref fI) = some (.type "function"))
    (lI : K.lookup fI = some ⟨oc, od, .func (PySem.W.fnX "__init__" qual (defArgs st) (defBody st) (defScope st) [("__class__", cc)] .none kV doc pm an (.ref c) ct), osl⟩)
    (cI : PySem.W.codeIn K (.ref c) qual = true)
    (lc : K.lookup cc = some ⟨cl, cld, .cell (some (.ref C)), csl⟩)
    (lo : K.lookup c = some ⟨ccl, cdd, .fields vs, ccs⟩)
    (su : PySem.W.ks_superIn K C C "__init__" = some (some (.builtin "ValueError.__init__")))
    (sa : PySem.W.findIn K (.ref C) "__setattr__" = some (some (.builtin "object.__setattr__")))
    (exC : PySem.W.subIn K (.ref C) (.type "BaseException") = some true)
    (tyC : PySem.W.typeIn K (.ref C) = some (.type "type"))
    (kC : PySem.W.keepIn K (.ref C) = true)
    (ga : PySem.W.findIn K (.ref C) "__getattribute__" = some (some (.builtin "BaseException.__getattribute__")))
    (gg : PySem.W.findIn K (.ref C) "__getattr__" = some none)
    (hd : PySem.W.hasDictIn K C = true)
    (ha : PySem.W.findIn K (.ref C) "__class__" = some (some (.builtin "object.__class__")))
    (hn : PySem.W.specialIn K (.builtin "object.__class__") "__get__" = some (some (.builtin "getset_descriptor.__get__")))
    (ht : PySem.W.takesIn K (.builtin "object.__class__") = some true)
    (hm : PySem.W.mroIn K C (.type "object") = some true)
    (sc : PySem.W.mroIn K C (.ref C) = some true)
    (ve : PySem.W.subIn K (.ref C) (.type "ValueError") = some true)
    (op : PySem.W.nsIn K cStatics "thirdparty.any" = some none)
    (gs : PySem.W.nsIn K mainGlobals "super" = some none)
    (n1 : PySem.W.findIn K (.ref C) f1 = some none)
    (n2 : PySem.W.findIn K (.ref C) f2 = some none)
    (hbm : PySem.HandSPX.refsVE bm = true) (hvs : vs[2]? = some (.str file tf)) (hfile : ((P.main.file : Str) == file) = true) (htop : (P.main.scope.names.lookup ("super" : Str)).isSome = false)
    (hmro : cd.mro = .ref C :: .ref R :: PySem.HandSPX.veTail) (hname : cd.name = x) (hnameR : cdR.name = "RiseError") :
    ∃ (C fI cc c : Addr) (fd : FuncData) (R : Addr), ErrPack P K mg x qual st f1 f2 C fI cc c fd R :=
  ⟨C, fI, cc, c, _, R,
    { T := { ox := ⟨⟨nm, q, N, bs, bm, sn, sub, ab, col, dd, m0, m1, m2, m3, m5, xL, hbm⟩, sa, exC, tyC, kC⟩, cell := ⟨_, _, _, lc⟩, code := ⟨_, _, _, _, _, _, lo, hvs, hfile⟩, cls := ⟨_, xc⟩, sub := sc, sup := su, ve := ve, op := op, mgs := PySem.W.mg_none_of X G gs, top := htop }
      I := ⟨_, _, _, _, _, _, _, _, rfl, lI, cI⟩
      xf := ⟨ga, gg, exC, hd⟩
      ec := ⟨ga, gg, exC, hd, ha, hn, ht, hm⟩
      gm := PySem.W.mg_of X G aC
      iC := iC
      tI := tI
      mro := ⟨_, xc, hmro, hname⟩
      n1 := n1
      n2 := n2
      gR := PySem.W.mg_of X G aR
      tR := tR
      cR := ⟨_, xR, hnameR⟩ }⟩
theorem kit_sub {K : PySem.W.Frag} {C D : Addr} {cd : ClassData} {x : Value} (hc : PySem.W.clsIn K C = some cd) (ne : cd.mro ≠ []) : PySem.W.mroIn K C x = some (cd.mro.contains x) := by
  unfold PySem.W.mroIn
  rw [hc, Option.bind_some, if_neg (by rw [List.isEmpty_iff]; exact ne)]
section
variable {P P' : Program} {K : PySem.W.Frag} {mg : Str → Option Value} {x x' qual qual' f1 f2 f1' f2' : Str} {st st' : Stmt} {C fI cc c R C' fI' cc' c' R' : Addr} {fd fd' : FuncData}
theorem kit_own (E : ErrPack P K mg x qual st f1 f2 C fI cc c fd R) : PySem.W.kitOne K (.ref C) (.ref C) = some true := by
  unfold PySem.W.kitOne
  rw [if_pos (by simp)]
theorem kit_other (E : ErrPack P K mg x qual st f1 f2 C fI cc c fd R) (E' : ErrPack P K mg x' qual' st' f1' f2' C' fI' cc' c' fd' R') (hx : x ≠ x') (hx' : ("RiseError" : Str) ≠ x') : PySem.W.kitOne K (.ref C) (.ref C') = some false := by
  obtain ⟨cd, hc, hm, hn⟩ := E.mro
  obtain ⟨cd', hc', hm', hn'⟩ := E'.mro
  have ne : C ≠ C' := fun z => by
    subst z
    rw [hc] at hc'
    cases hc'
    exact hx (hn.symm.trans hn')
  have neR : R ≠ C' := fun z => by
    subst z
    obtain ⟨cR, h1, h2⟩ := E.cR
    rw [hc'] at h1
    cases h1
    exact hx' (h2.symm.trans hn')
  unfold PySem.W.kitOne
  rw [if_neg (by simp [ne])]
  unfold PySem.W.kitCls
  have e1 : ((PySem.W.clsIn K C').isSome && PySem.W.typeIn K (.ref C') == some (.type "type")) = true := by rw [hc', E'.T.ox.tyC] <;> rfl
  show (if ((PySem.W.clsIn K C').isSome && PySem.W.typeIn K (.ref C') == some (.type "type")) = true then PySem.W.subIn K (.ref C) (.ref C') else none) = some false
  rw [if_pos e1]
  show PySem.W.mroIn K C (.ref C') = some false
  rw [kit_sub (D := C') hc (by rw [hm]; exact fun z => nomatch z), hm]
  have n1 : ((Value.ref C') == Value.ref C) = false := by simp; exact fun z => ne z.symm
  have n2 : ((Value.ref C') == Value.ref R) = false := by simp; exact fun z => neR z.symm
  simp only [List.contains_cons, n1, n2, Bool.false_or]
  rfl
theorem kit_rise (E : ErrPack P K mg x qual st f1 f2 C fI cc c fd R) : PySem.W.kitOne K (.ref C) (.ref R) = some true := by
  obtain ⟨cd, hc, hm, hn⟩ := E.mro
  unfold PySem.W.kitOne
  split
  · rfl
  · unfold PySem.W.kitCls
    have e1 : ((PySem.W.clsIn K R).isSome && PySem.W.typeIn K (.ref R) == some (.type "type")) = true := by
      obtain ⟨cR, h1, _⟩ := E.cR
      rw [h1, E.tR] <;> rfl
    show (if ((PySem.W.clsIn K R).isSome && PySem.W.typeIn K (.ref R) == some (.type "type")) = true then PySem.W.subIn K (.ref C) (.ref R) else none) = some true
    rw [if_pos e1]
    show PySem.W.mroIn K C (.ref R) = some true
    rw [kit_sub (D := R) hc (by rw [hm]; exact fun z => nomatch z), hm]
    simp
theorem kit_ve (E : ErrPack P K mg x qual st f1 f2 C fI cc c fd R) : PySem.W.kitOne K (.ref C) (.type "ValueError") = some true := by
  have e : (Value.ref C == Value.type "ValueError") = false := rfl
  unfold PySem.W.kitOne
  rw [e, if_neg Bool.false_ne_true]
  show (if PySem.W.kitMeta "ValueError" = true then PySem.W.subIn K (.ref C) (.type "ValueError") else none) = some true
  rw [if_pos (by decide +kernel)]
  exact E.T.ve
end
theorem init_binds {K : PySem.W.Frag} {qual : Str} {st : Stmt} {fI cc c : Addr} {fd : FuncData} {ps : List Str} (I : InitAt K qual st fI cc c fd)
    (h : ∀ (kV doc pm : Value) (an : Option Addr) (ct : Value) (us : List Value), us.length = ps.length → bindArgs (PySem.W.fnX "__init__" qual (defArgs st) (defBody st) (defScope st) [("__class__", cc)] .none kV doc pm an (.ref c) ct) ⟨us, []⟩ = pure (ps.zip us)) : Binds K fd ps [] := by
  obtain ⟨oc, od, kV, doc, pm, an, ct, osl, rfl, lk, hcd⟩ := I
  exact .all (h kV doc pm an ct)
theorem fun_pack {K : PySem.W.Frag} {h : Heap} {mg : Str → Option Value} (X : K.In h) (G : h.Ns mainGlobals mg) {x : Str} {st : Stmt} {f : Addr} {oc kV doc pm cdv ct : Value} {od an : Option Addr} {osl : Array (Option Value)}
    (a : PySem.W.nsIn K mainGlobals x = some (some (.ref f))) (l : K.lookup f = some ⟨oc, od, .func (PySem.W.fnOf x x (defArgs st) (defBody st) (defScope st) .none kV doc pm an cdv ct), osl⟩)
    (c : PySem.W.codeIn K cdv x = true) (k : PySem.W.keepIn K (.ref f) = true) : ∃ f fd, mg x = some (.ref f) ∧ Fun K x x st f fd := ⟨f, _, PySem.W.mg_of X G a, fun_mk l c k⟩
theorem use_all {P : Program} {w : World} {K : PySem.W.Frag} {mg : Str → Option Value} {fa : Addr} {k : Nat} {x : Str} {sp : Sp}
    (h : ∃ fd : FuncData, (∀ (s : Shared) (v : Value), BindsTo s fd ⟨[v], []⟩ [(x, v)]) ∧ ∀ base : Heap, FnOk P w K mg base CX0 k fa fd [x] sp) :
    ∃ fd : FuncData, (∀ (s : Shared) (v : Value), BindsTo s fd ⟨[v], []⟩ [(x, v)]) ∧ ∀ base : Heap, K.In base → base.Ns mainGlobals mg → FnOk P w K mg base CX0 k fa fd [x] sp := by
  obtain ⟨fd, h1, h2⟩ := h
  exact ⟨fd, h1, fun base _ _ => h2 base⟩
end SX

set_option Elab.async false
set_option linter.all false
set_option maxRecDepth 100000
set_option maxHeartbeats 4000000
/-! str(o), x in o, x not in o, len(o), o == x by a class's own methods -/
namespace SX
open PySem PySem.Spec PyProof.Rows L2 NdefX
structure Dun (K : PySem.W.Frag) (C : Addr) (m : Str) (f : Addr) : Prop where
  at_ : PySem.W.findIn K (.ref C) m = some (some (.ref f))
  fn : PySem.W.isFn K (.ref f) = true
section
variable {X : Cx} {CX : CXT} {k : Nat} {C f : Addr} {fd : FuncData} {ps : List Str} {sp : Sp} {E : XK}
theorem inst_of {pins : List (Addr × Obj)} {σ : L2.St} {H : Hp} {s : Shared} {a dx : Addr} {fs : List (Str × V)} (I : Inv X pins σ H s) (h : H a = some (.ins C dx fs)) : ∃ ox od, PySem.W.InstAt s.heap a ox C (some od) := by
  obtain ⟨mA, J, _⟩ := ins_get I.hok h
  obtain ⟨od, J, _⟩ := J.look
  exact ⟨_, od, J⟩
theorem run_sub {A : Around} {pins : List (Addr × Obj)} {σ : L2.St} {H : Hp} {s : Shared} {Q : VK} {us : List Value} {vs : List V} (F : FnOk X.prog X.w X.K X.mg X.base CX k f fd ps sp) (hb : Binds X.K fd ps []) (hx : Passes CX X E) (sb : Sub X k A)
    (I : Inv X pins σ H s) (r : Vals vs us) (h : sp vs H Q E) : wpAny (model X.prog X.w) A (call (.ref f) us) (EP X pins σ Q) X.xe s := by
  have e0 : Env0 X.prog X.w X.K X.mg X.base A X.stack s H := by
    have e := I.env0
    exact ⟨by rw [sb.fr]; exact e.frames, e.mod, e.bs, e.bsz, e.funs, e.frf, e.hok, e.bare⟩
  have hl : us.length = ps.length := by rw [← r.length]; exact F.len _ _ _ _ h
  have bnd : BindsTo s fd ⟨us, []⟩ (ps.zip us) := by
    have z := hb s us I.kIn (by simpa using hl)
    simpa using z
  refine wpAny_call (codeAny_mono (F.run A X.stack s H ⟨us, []⟩ us vs Q E sb.room e0 bnd r h) fun r s' hq => ?_)
  cases r with
  | error e => exact hx pins σ H s e s' I hq
  | ok fl => cases fl <;> first | exact I.after hq | exact False.elim hq

/-- str(o) -/
def rStrO (C : Addr) (sp : Sp) (E : XK) : List V → Hp → VK → Prop := fun xs H Q => ∃ (a dx : Addr) (fs : List (Str × V)), xs = [.ref a] ∧ H a = some (.ins C dx fs) ∧ sp [.ref a] H (fun v H' => ∃ z, v = .str z ∧ Q v H') E
theorem call_strO (D : Dun X.K C "__str__" f) (F : FnOk X.prog X.w X.K X.mg X.base CX k f fd ps sp) (hb : Binds X.K fd ps []) (hx : Passes CX X E) (hr : Room (k + 2) X.A) : CallR X (.type "str") (rStrO C sp E) := by
  intro pins s σ H xs us Q I r ⟨a, dx, fs, e, ha, q⟩
  subst e
  obtain ⟨u, rfl, ru⟩ := vals1 r
  obtain rfl : u = Value.ref a := ru
  obtain ⟨ox, od, J⟩ := inst_of I ha
  have sb : Sub X (k + 2) X.A := ⟨hr, rfl⟩
  refine PySem.W.kso_call sb.in1.in1.room.units0 I.kIn J D.at_ D.fn (wpAny_mono (run_sub (vs := [.ref a]) F hb hx sb.in1.in1 I (.cons rfl .nil) q) (fun v s' h => ?_) fun _ _ x => x)
  obtain ⟨y, H', I', ry, z, rfl, q'⟩ := h
  obtain ⟨t, rfl⟩ := ry
  exact ⟨.str z, H', I', ⟨t, rfl⟩, q'⟩
/-- len(o) -/
def rLenO (C : Addr) (sp : Sp) (E : XK) : List V → Hp → VK → Prop := fun xs H Q => ∃ (a dx : Addr) (fs : List (Str × V)), xs = [.ref a] ∧ H a = some (.ins C dx fs) ∧ sp [.ref a] H (fun v H' => ∃ n : Int, v = .int n ∧ 0 ≤ n ∧ n < 2 ^ 63 ∧ Q v H') E
theorem call_lenO (D : Dun X.K C "__len__" f) (F : FnOk X.prog X.w X.K X.mg X.base CX k f fd ps sp) (hb : Binds X.K fd ps []) (hx : Passes CX X E) (hr : Room (k + 1) X.A) : CallR X (.builtin "len") (rLenO C sp E) := by
  intro pins s σ H xs us Q I r ⟨a, dx, fs, e, ha, q⟩
  subst e
  obtain ⟨u, rfl, ru⟩ := vals1 r
  obtain rfl : u = Value.ref a := ru
  obtain ⟨ox, od, J⟩ := inst_of I ha
  obtain ⟨m, hF⟩ := I.fr
  have sb : Sub X (k + 1) X.A := ⟨hr, rfl⟩
  refine PySem.W.len_K hF I.ok.mod.kin J D.at_ D.fn (wpAny_mono (run_sub (vs := [.ref a]) F hb hx sb.in1 I (.cons rfl .nil) q) (fun v s' h => ?_) fun _ _ x => x)
  obtain ⟨y, H', I', ry, n, rfl, h0, h1, q'⟩ := h
  obtain ⟨t, rfl⟩ := ry
  exact ⟨⟨h0, h1⟩, .int n, H', I'.tok _, ⟨_, rfl⟩, q'⟩
/-- x in o, x not in o -/
def rInO (C : Addr) (neg : Bool) (sp : Sp) (E : XK) : R2 := fun x y H Q => ∃ (a dx : Addr) (fs : List (Str × V)), y = .ref a ∧ H a = some (.ins C dx fs) ∧ sp [.ref a, x] H (fun v H' => ∃ b, v = .bl b ∧ Q (.bl (if neg then !b else b)) H') E
theorem op_inO (D : Dun X.K C "__contains__" f) (F : FnOk X.prog X.w X.K X.mg X.base CX k f fd ps sp) (hb : Binds X.K fd ps []) (hx : Passes CX X E) (hr : Room k X.A) : OpR X (compareOp .In) (rInO C false sp E) := by
  intro pins s σ H x y v u Q I rx ry ⟨a, dx, fs, e, ha, q⟩
  subst e
  obtain rfl : u = Value.ref a := ry
  obtain ⟨ox, od, J⟩ := inst_of I ha
  obtain ⟨m, hF⟩ := I.fr
  refine PySem.W.in_K hF I.ok.mod.kin J D.at_ D.fn (wpAny_mono (run_sub (vs := [.ref a, x]) F hb hx ⟨hr, rfl⟩ I (.cons rfl (.cons rx .nil)) q) (fun w s' h => ?_) fun _ _ x => x)
  obtain ⟨y, H', I', ry, b, rfl, q'⟩ := h
  refine wpAny_mono (tru_ok pins s' σ H' (.bl b) w (fun c H2 => c = b ∧ H2 = H') I' ry ⟨b, rfl, rfl, rfl⟩) (fun c s2 h2 => ?_) fun _ _ x => x
  obtain ⟨H2, I2, rfl, rfl⟩ := h2
  exact ⟨.bl c, _, I2, rfl, q'⟩
theorem op_notInO (D : Dun X.K C "__contains__" f) (F : FnOk X.prog X.w X.K X.mg X.base CX k f fd ps sp) (hb : Binds X.K fd ps []) (hx : Passes CX X E) (hr : Room k X.A) : OpR X (compareOp .NotIn) (rInO C true sp E) := by
  intro pins s σ H x y v u Q I rx ry ⟨a, dx, fs, e, ha, q⟩
  subst e
  obtain rfl : u = Value.ref a := ry
  obtain ⟨ox, od, J⟩ := inst_of I ha
  obtain ⟨m, hF⟩ := I.fr
  refine PySem.W.notIn_K hF I.ok.mod.kin J D.at_ D.fn (wpAny_mono (run_sub (vs := [.ref a, x]) F hb hx ⟨hr, rfl⟩ I (.cons rfl (.cons rx .nil)) q) (fun w s' h => ?_) fun _ _ x => x)
  obtain ⟨y, H', I', ry, b, rfl, q'⟩ := h
  refine wpAny_mono (tru_ok pins s' σ H' (.bl b) w (fun c H2 => c = b ∧ H2 = H') I' ry ⟨b, rfl, rfl, rfl⟩) (fun c s2 h2 => ?_) fun _ _ x => x
  obtain ⟨H2, I2, rfl, rfl⟩ := h2
  exact ⟨.bl (!c), _, I2, rfl, q'⟩
/-- the class of a value, as == asks it: an instance of the same class, a list, a tuple, None, an int, a text -/
def OtherV (K : PySem.W.Frag) (C : Addr) (H : Hp) (y : V) : Prop := (∃ b dx fs, y = .ref b ∧ H b = some (.ins C dx fs)) ∨ (∃ b xs, y = .ref b ∧ SqT K H b xs ∧ PySem.W.subIn K (.type "tuple") (.ref C) = some false)
def rEqO (K : PySem.W.Frag) (C : Addr) (sp : Sp) (E : XK) : R2 := fun x y H Q => ∃ (a dx : Addr) (fs : List (Str × V)), x = .ref a ∧ H a = some (.ins C dx fs) ∧ OtherV K C H y ∧ sp [.ref a, y] H (fun v H' => ∃ b, v = .bl b ∧ Q v H') E
theorem op_eqO (D : Dun X.K C "__eq__" f) (F : FnOk X.prog X.w X.K X.mg X.base CX k f fd ps sp) (hb : Binds X.K fd ps []) (hx : Passes CX X E) (hr : Room k X.A) : OpR X (compareOp .Eq) (rEqO X.K C sp E) := by
  intro pins s σ H x y v u Q I rx ry ⟨a, dx, fs, e, ha, ho, q⟩
  subst e
  obtain rfl : v = Value.ref a := rx
  obtain ⟨ox, od, J⟩ := inst_of I ha
  obtain ⟨m, hF⟩ := I.fr
  have run := run_sub (A := X.A) (vs := [.ref a, y]) (us := [.ref a, u]) F hb hx ⟨hr, rfl⟩ I (.cons rfl (.cons ry .nil)) q
  have back : wpAny (model X.prog X.w) X.A (call (.ref f) [.ref a, u]) (PySem.W.CmpBack (EP X pins σ Q)) X.xe s := by
    refine wpAny_mono run (fun w s' h => ?_) fun _ _ x => x
    obtain ⟨y, H', I', ry, b, rfl, q'⟩ := h
    obtain rfl : w = Value.bool b := ry
    exact ⟨.bl b, H', I', rfl, q'⟩
  show wpAny (model X.prog X.w) X.A (richCompare .Eq (.ref a) u) (EP X pins σ Q) X.xe s
  rcases ho with ⟨b, dx', fs', rfl, hb'⟩ | ⟨b, xs, rfl, hT, hn⟩
  · obtain rfl : u = Value.ref b := ry
    obtain ⟨ox', od', J'⟩ := inst_of I hb'
    exact PySem.W.cmp_K (op := .Eq) (tb := .ref C) hr.units0 hF I.ok.mod.kin J J'.type (by simp [PySem.W.notFirst]) D.at_ D.fn back
  · obtain rfl : u = Value.ref b := ry
    obtain ⟨its, _, ⟨o, ho, hc, _⟩, _⟩ := I.tuple hT
    refine PySem.W.cmp_K (op := .Eq) (tb := .type "tuple") hr.units0 hF I.ok.mod.kin J (fun A Q E s' k q => wpAny_typeOf (T := "tuple") ⟨o, k _ _ ho, hc⟩ q) ?_ D.at_ D.fn back
    unfold PySem.W.notFirst
    rw [hn]
    rfl
end
end SX

set_option Elab.async false
set_option linter.all false
set_option maxRecDepth 100000
set_option maxHeartbeats 4000000
namespace SX
open PySem PySem.Spec PyProof.Rows L2 NdefX
section
variable {X : Cx} {CX : CXT} {k i : Nat} {f C : Addr} {sp : Sp} {E : XK} {x : Str} {e : Expr} {te : TE} {p q pos : Pos}
/-- x(*y), the local x holds the class C -/
def tMakeLS (K : PySem.W.Frag) (i : Nat) (C : Addr) (sp : Sp) (E : XK) (te : TE) : TE := fun σ H Q => σ[i]? = some (some (.ref C)) ∧ te σ H fun y H1 => ∃ a xs, y = V.ref a ∧ (SqT K H1 a xs ∨ SqL K H1 a xs) ∧
  ∀ z dx, H1 z = none → H1 dx = none → dx ≠ z → sp (V.ref z :: xs) (upd (upd H1 dx (.own z)) z (.ins C dx [])) (fun v H2 => v = .non ∧ Q (.ref z) H2) E
theorem pe_makeLS (M : Mk X.K C f) (F : FnR X.prog X.w X.K X.mg X.base CX k f sp) (hr : Room (k + 1) X.A) (hN : X.N[i]? = some x) (hv : Vis X.env.scope x) (hx : Passes CX X E) (he : PE X e te)
    (hdb : (x == ("__debug__" : Str)) = false := by decide) (hcd : (x == ("__classdict__" : Str)) = false := by decide) (hst : starEach [.Starred e q] X.env = [(true, eval e X.env)] := by rfl) :
    PE X (.Call (.Name x p) [.Starred e q] [] pos) (tMakeLS X.K i C sp E te) := by
  refine ⟨fun pins s σ H Q I ⟨hs, h⟩ => ?_⟩
  refine wpAny_Call_Name_kw (thn ((pe_var (pos := p) hN hv hdb hcd).run pins s σ H (fun v H1 => v = .ref C ∧ H1 = H) I ⟨.ref C, hs, rfl, rfl⟩) fun u s1 ⟨v, H1, I1, r1, e1, e2⟩ => ?_)
  subst e1 e2
  obtain rfl : u = Value.ref C := r1
  refine PySem.W.callWith_S (h₀ := X.base) I.ok.mod.kin M.kp (thn (he.run pins s1 σ _ _ I1 h) fun v s2 ⟨y, H2, I2, ry, a, xs, ey, hxs, q⟩ => ?_) hst
  subst ey
  obtain rfl : v = Value.ref a := ry
  exact StX.star_any I2 hxs fun us s3 I3 rv => ⟨I3.kIn, StX.run_makeR M F hr hx I3 rv q⟩
end
/-! raising -/
theorem gone_same {H1 H2 : Hp} {a C d : Addr} {fs : List (Str × V)} (ha : H1 a = none) (f : Filled (upd H1 a (exo a C none)) H2 a C d fs) : Same H1 (upd (L2.del H2 a) d (.xd fs)) ∧ H1 d = none := by
  have hd : H1 d = none := by
    have z := f.nw
    rw [upd_ne f.ne] at z
    exact z
  refine ⟨fun b o e => ?_, hd⟩
  have nb : b ≠ a := ne_of_none e ha
  rw [upd_ne (ne_of_none e hd), L2.del_ne nb]
  exact f.kp b o (by rw [upd_ne nb]; exact e) nb
/-- C('f' = v) raised: what is asked behind -/
def Thrown (C : Addr) (fs : List (Str × V)) (H : Hp) (Q : XK) : Prop := ∀ d H', Same H H' → H d = none → H' d = some (.xd fs) → Q (.ref C) (some d) H'
theorem mko1 {C : Addr} {f : Str} {v : V} {H1 : Hp} {Q : XK} (h : Thrown C [(f, v)] H1 Q) : [v].length ≤ 1000 ∧ ∀ a, H1 a = none → spI1 C f (.ref a :: ([v] ++ [])) (upd H1 a (exo a C none))
    (fun w H2 => w = .non ∧ ∃ (d : Addr) (fs : List (Str × V)), H2 a = some (exo a C (some d)) ∧ H2 d = some (exd d fs) ∧ H1 d = none ∧ Q (.ref C) (some d) (upd (L2.del H2 a) d (.xd fs))) (fun _ _ _ => False) := by
  refine ⟨by show 1 ≤ 1000; decide, fun a ha => ⟨a, v, rfl, upd_same, fun d H2 fl => ⟨rfl, d, _, fl.ob, fl.dc, (gone_same ha fl).2, ?_⟩⟩⟩
  exact h d _ (gone_same ha fl).1 (gone_same ha fl).2 upd_same
end SX

set_option Elab.async false
set_option linter.all false
set_option maxRecDepth 100000
set_option maxHeartbeats 4000000
/-! try: .. with several clauses, each «except X as n» -/
namespace SX
open PySem PySem.Spec PyProof.Rows L2 NdefX
/-- the ends of a suite whose name is gone behind it -/
def endsGone (i : Nat) (D : Ends) : Ends := { nx := fun σ H => D.nx (σ.set i none) H, rt := D.rt, bk := fun σ H => D.bk (σ.set i none) H, ct := fun σ H => D.ct (σ.set i none) H }
abbrev Cl := Value × Nat × (Addr → Value → Option Addr → TS)
def wAll (K : PySem.W.Frag) (Wout : WX) (D : Ends) : List Cl → WX
  | [] => Wout
  | (c, i, ts) :: r => fun cls d σ H => ∃ b, PySem.W.exmOne K cls c = some b ∧ (b = true → ∀ a, H a = none → ts a cls d (endsGone i D) (σ.set i (some (.ref a))) H) ∧ (b = false → wAll K Wout D r cls d σ H)
inductive ClOk (X : Cx) : List ExceptHandler → List Cl → Prop
  | nil : ClOk X [] []
  | cons {x n : Str} {i : Nat} {c : Value} {ts : Addr → Value → Option Addr → TS} {st : Stmt} {sts : List Stmt} {p1 p2 : Pos} {hs : List ExceptHandler} {l : List Cl} (hc : Names X x c) (hi : X.N[i]? = some n) (hn : X.env.kindOf n = some .local)
      (hsu : ∀ (a : Addr) (oe : Obj) (cls : Value) (d : Option Addr) (pn : List (Addr × Obj)), Zc cls d oe → (∃ vs, oe.data = .fields vs) → PSs (X.suite a ((a, oe) :: pn)) (st :: sts) (ts a cls d)) (r : ClOk X hs l) :
      ClOk X (.ExceptHandler (some (.Name x p1)) (some n) (st :: sts) p2 :: hs) ((c, i, ts) :: l)
section
variable {X : Cx} {body : List Stmt} {h0 : ExceptHandler} {hs : List ExceptHandler} {l : List Cl} {pos : Pos} {tb : WX → TS} {Wout : WX}
theorem ps_try_all (est : X.stack = X.env :: X.outer) (efr : X.env.frame = some X.env.locals) (nd : X.N.Nodup) (tk : Takes X Wout)
    (hb : ∀ (W : WX) (pn : List (Addr × Obj)) (xe : Value → Shared → Prop), Takes (X.tr pn xe) W → PassesOwn (model X.prog X.w) X.A X.env xe → PSs (X.tr pn xe) body (tb W))
    (hh : ClOk X (h0 :: hs) l) : PS X (.Try body (h0 :: hs) [] [] pos) (fun D σ H => tb (wAll X.K Wout D l) D σ H) := by
  constructor
  intro pins s σ H D I start
  have okX := I.ok
  have frames : X.A.frames = some (X.env :: X.outer) := okX.frames.trans (by rw [est])
  refine wpAny_Try_except (wpAny_mono ((hb (wAll X.K Wout D l) (X.pn ++ pins)
    (fun e t1 => wpAny (model X.prog X.w) X.A (noteFrame e X.env) (fun _ t2 => wpAny (model X.prog X.w) X.A (setFlight e none) (fun _ t3 => wpAny (model X.prog X.w) X.A (handleBy e X.env (h0 :: hs)) (SP X pins D) X.xe t3) X.xe t2) X.xe t1)
    (fun u t thrown => ?land) PassesOwn.looking).run [] s σ H D (I.toTry _) start) (fun fl t through => ?through) fun _ _ z => z)
  case through =>
    cases fl with
    | next => obtain ⟨σ', H', J, q⟩ := through; exact wpAny_execs_nil ⟨σ', H', J.ofTry okX, q⟩
    | brk => obtain ⟨σ', H', J, q⟩ := through; exact ⟨σ', H', J.ofTry okX, q⟩
    | cont => obtain ⟨σ', H', J, q⟩ := through; exact ⟨σ', H', J.ofTry okX, q⟩
    | ret u => obtain ⟨v, σ', H', J, r, q⟩ := through; exact ⟨v, σ', H', J.ofTry okX, r, q⟩
  case land =>
    obtain ⟨a, B, t0, pins1, σ1, H1, cls, d, rfl, J1, nb, up1, sky, na, eos, ag, wish⟩ := thrown
    have Jt : Inv X pins σ1 H1 t0 := J1.ofTry okX
    refine Sky.land Zc.steady frames efr (by rw [← est]; exact sky) fun hp1 fly1 up2 => ?_
    have Jl : Inv X pins σ1 H1 { t with heap := hp1 } := Jt.landed nb fly1.1 (up1.trans up2) eos ag
    obtain ⟨oe, fv, atE, zc, fdE⟩ := fly1.there
    have notF : a ∉ frs (X.env :: X.outer) := fun mem => by
      obtain ⟨_, o', e', no⟩ := fly1.2.2.1.mem mem
      rw [atE] at e'
      cases e'
      exact no _ fdE
    have aL : a ≠ X.env.locals := fun z => notF (List.mem_filterMap.mpr ⟨X.env, List.mem_cons_self, z ▸ efr⟩)
    have aF : a ∉ X.fs := fun mem => by
      obtain ⟨en, me, q⟩ := List.mem_filterMap.mp mem
      exact notF (List.mem_filterMap.mpr ⟨en, List.mem_cons_of_mem _ me, q⟩)
    have Su := Jl.suite atE fdE na aL aF
    have go : ∀ {hs1 : List ExceptHandler} {l1 : List Cl}, ClOk X hs1 l1 → wAll X.K Wout D l1 cls d σ1 H1 → wpAny (model X.prog X.w) X.A (handleBy (.ref a) X.env hs1) (SP X pins D) X.xe { t with heap := hp1 } := by
      intro hs1 l1 ok1
      induction ok1 with
      | nil =>
        intro out
        obtain ⟨_, _, _, oe', vs', T, _, _, he', _, hd', h1', _⟩ := id fly1
        have leave : wpAny (model X.prog X.w) X.A (setFlight (.ref a) X.env.frame) (fun _ t4 => wpAny (model X.prog X.w) X.A (throw (.ref a) : Sem Flow) (SP X pins D) X.xe t4) X.xe { t with heap := hp1 } := by
          rw [efr]
          refine HandSPX.setFlight_upZ fly1 fun hp2 held up3 => wpAny_throw (tk _ _ ⟨a, B, t0, pins, σ1, H1, cls, d, rfl, Jt, nb, (up1.trans up2).trans up3, ?_, na, eos, ag, out⟩)
          exact .inr (.inr (by rw [est]; exact held))
        refine wpAny_handleBy_nil ?_
        unfold PySem.passOn
        refine wpAny_bind (wpAny_field he' hd' h1' ?_)
        rw [if_neg (show ¬ ((Value.ref T == Value.none) = true) by simp)]
        first | exact wpAny_bind (wpAny_pure (wpAny_bind leave)) | exact wpAny_bind leave
      | @cons x n i c ts st sts p1 p2 hs2 l2 hc hi hn hsu r ih =>
        intro out
        obtain ⟨b, hb1, yes, no⟩ := out
        refine wpAny_handleBy_cons (codeAny_handlers_test ?_) fun q => nomatch q
        have looks := PySem.W.exm_one (M := model X.prog X.w) Jl.kIn (fun A Q E s k q => wpAny_typeOf_ref (k _ _ atE) (by rw [zc.1]; exact q)) hb1
        have name : ∀ {Q : Value → Shared → Prop} {E : Value → Shared → Prop}, Q c { t with heap := hp1 } → wpAny (model X.prog X.w) (X.A.mark (some (.ref a))) (eval (.Name x p1) X.env) Q E { t with heap := hp1 } := fun {Q E} q => by
          rcases hc with ⟨hg, dbg, hm | ⟨hm, hv, nn⟩⟩
          · exact ld_glob (X := X.suite a ((a, oe) :: (X.pn ++ pins))) Su hg hm q dbg
          · exact ld_blt (X := X.suite a ((a, oe) :: (X.pn ++ pins))) Su hg hm hv q nn dbg
        refine name (looks.here ?_)
        cases b with
        | false => exact ih (no rfl)
        | true =>
          refine codeAny_handlers_suite_as (HandSPX.lands_againZ fly1 fun hp2 fly2 up3 => ?_)
          have Jm : Inv X pins σ1 H1 { t with heap := hp2 } := Jt.landed nb fly2.1 ((up1.trans up2).trans up3) eos ag
          obtain ⟨oe2, fv2, atE2, zc2, fdE2⟩ := fly2.there
          refine store_ok (X := X.suite a ((a, oe2) :: (X.pn ++ pins))) (v := .ref a) (Jm.suite atE2 fdE2 na aL aF) nd hi (.inl hn) rfl (fun t5 S5 => ?_) (.inr hn)
          refine wpAny_mono ((hsu a oe2 cls d (X.pn ++ pins) zc2 ⟨_, fdE2⟩).run [] t5 _ H1 _ S5 (yes rfl a na)) (fun fl t6 w6 => ?_) fun _ _ z => z.elim
          have close : ∀ {σ6 : L2.St} {H6 : Hp} {Q : Shared → Prop}, Inv (X.suite a ((a, oe2) :: (X.pn ++ pins))) [] σ6 H6 t6 → (∀ t7, Inv X pins (σ6.set i none) H6 t7 → Q t7) →
              wpAny (model X.prog X.w) X.A (do bindName X.env n .none; unbindBehindTheSuite X.env n p2) (fun _ t7 => Q t7) X.xe t6 := fun S6 k => gone_ok (S6.unsuite okX) nd hi hn k
          cases fl with
          | ret u => obtain ⟨v6, σ6, H6, S6, r6, q6⟩ := w6; exact close S6 fun t7 J7 => ⟨_, _, _, J7, r6, q6⟩
          | next => obtain ⟨σ6, H6, S6, q6⟩ := w6; exact close S6 fun t7 J7 => ⟨_, _, J7, q6⟩
          | brk => obtain ⟨σ6, H6, S6, q6⟩ := w6; exact close S6 fun t7 J7 => ⟨_, _, J7, q6⟩
          | cont => obtain ⟨σ6, H6, S6, q6⟩ := w6; exact close S6 fun t7 J7 => ⟨_, _, J7, q6⟩
    exact go hh wish
end
end SX

set_option Elab.async false
set_option linter.all false
set_option maxRecDepth 100000
set_option maxHeartbeats 4000000
/-! a class's classmethod called within a try's body -/
namespace SX
open PySem PySem.Spec PyProof.Rows L2 NdefX
section
variable {X : Cx} {CX : CXT} {k : Nat} {C p g : Addr} {mc : Value} {m : Str} {sp : Sp} {E : L2.St → XK} {o e : Expr} {es : List Expr} {ta : TE} {t : TA} {apos pos : Pos}
theorem run_at {pins : List (Addr × Obj)} {σ : L2.St} {H : Hp} {s : Shared} {Q : VK} {E : XK} {f : Addr} {us : List Value} {vs : List V} (F : FnR X.prog X.w X.K X.mg X.base CX k f sp) (hr : Room k X.A) (hx : PassesAt CX X σ E) (I : Inv X pins σ H s)
    (r : Vals vs us) (h : sp vs H Q E) : codeAny (model X.prog X.w) X.A (.call (.ref f) ⟨us, []⟩) (fun r s' => match r with | .ok (.ret u) => EP X pins σ Q u s' | .ok _ => False | .error e => X.xe e s') s := by
  refine codeAny_mono (F X.A X.stack s H us vs Q E hr I.env0 r h) fun r s' hq => ?_
  cases r with
  | error e => exact hx pins H s e s' I hq
  | ok fl => cases fl <;> first | exact I.after hq | exact False.elim hq
def tCMethS (C : Addr) (sp : Sp) (E : L2.St → XK) (ta : TE) (t : TA) : TE := fun σ H Q => ta σ H fun x H1 => x = .ref C ∧ t σ H1 fun vs H2 => sp (.ref C :: vs) H2 Q (E σ)
theorem pe_cmethS {pl : Sem Bool} (he : PE X o ta) (r : ClX.CRead X.K C mc) (c : ClX.CMet X.K C mc m p g) (F : FnR X.prog X.w X.K X.mg X.base CX k g sp) (hr : Room k X.A) (hx : ∀ σ, PassesAt CX X σ (E σ)) (ha : PA X (e :: es) t)
    (hst : starEach (e :: es) X.env = (false, eval e X.env) :: starEach es X.env := by rfl) (hpl : (backTo pos (starEach es X.env)).any (·.1) = false := by rfl)
    (ht : eval (.Call (.Attribute o m apos) (e :: es) [] pos) X.env = (do
      let callee ← eval o X.env
      standAt apos.atName
      let (f, first) ← holding [callee] (getMethod callee m pl)
      callWith pos f first (backTo pos (starEach (e :: es) X.env)) (backToKw pos (keywordEach [] X.env))) := by rfl) :
    PE X (.Call (.Attribute o m apos) (e :: es) [] pos) (tCMethS C sp E ta t) := by
  constructor
  intro pins s σ H Q I h
  refine PySem.W.methodCall_KW (pl := pl) (thn (he.run pins s σ H _ I h) fun u s1 ⟨x, H1, I1, rx, ex, q⟩ => ?_) ht
  subst ex
  obtain rfl : u = Value.ref C := rx
  refine ClX.getmethcm_ok I1 r c fun s2 I2 => ClX.callwith_cm I2 (ClX.base_none I1 (Nat.le_refl _)) c.fi (thn (ha.run pos _ s2 σ H1 _ I2 q) fun us s3 ⟨vs, H2, I3, rv, q2⟩ => ⟨⟨ClX.pin_at I3, I3.kIn⟩, ?_⟩) hst hpl
  have z : wpAny (model X.prog X.w) X.A (call (.ref s1.heap.objs.size) us) (EP X ((s1.heap.objs.size, PySem.W.methodObj (.ref g) (.ref C)) :: pins) σ Q) X.xe s3 :=
    wpAny_call (PySem.W.method_call (ClX.pin_at I3) (run_at (us := .ref C :: us) (vs := .ref C :: vs) F hr (hx σ) I3 (.cons rfl rv) q2))
  exact thn z fun _ _ y => ClX.unpinE y
end
end SX

set_option Elab.async false
set_option linter.all false
set_option maxRecDepth 100000
set_option maxHeartbeats 4000000
namespace KL
open PySem PySem.Spec PyProof.Rows L2 NdefX SX
def top (i : Nat) : Stmt := PySem.Challenge.pw_risingknobs_k12_texts_of_grids.main.body.getD i (.Pass ⟨0, 0, 0, 0⟩)
abbrev iNum : Stmt := inClass (top 3) 0
abbrev iTxt : Stmt := inClass (top 4) 0
abbrev sWord : Stmt := top 13
abbrev sLevels : Stmt := top 14
abbrev sCheck : Stmt := top 15
abbrev sBelow : Stmt := top 16
section
variable {CX : CXT} {P : Program} {w : World} {K : PySem.W.Frag} {mg : Str → Option Value} {base : Heap} {fI C cc c : Addr} {fd : FuncData}
theorem ok_num (T : ErrTxt P K mg C cc c) (nF : PySem.W.findIn K (.ref C) "n" = some none) (F : InitAt K "BadNumber.__init__" iNum fI cc c fd) : FnOk P w K mg base CX 1 fI fd ["self", "n"] (spI1 C "n") := by
  obtain ⟨oc, od, kV, doc, pm, an, ct, osl, rfl, lk, hcd⟩ := F
  refine init_of (N := ["self", "n", "__class__"]) T lk hcd (nscope_by (by decide +kernel)) rfl ⟨_, rfl, rfl⟩ (by decide +kernel) (fun _ => rfl) (fun vs H Q E h => ?_) (fun A outer s H vs Q E hr h => ?_)
  · obtain ⟨a, v, rfl, _⟩ := h
    rfl
  · obtain ⟨a, v, rfl, ha, k⟩ := h
    refine ⟨a, _, rfl, ha, pss_one (ps_ost (pv 0) (pv 1)), ?_⟩
    exact ⟨v, rfl, .ref a, rfl, a, C, rfl, T.ox, nF, .inl ⟨ha, fun d hd hne => k d _ (fill1 hd hne)⟩⟩
theorem ok_txt (T : ErrTxt P K mg C cc c) (nF : PySem.W.findIn K (.ref C) "at" = some none) (F : InitAt K "BadText.__init__" iTxt fI cc c fd) : FnOk P w K mg base CX 1 fI fd ["self", "at"] (spI1 C "at") := by
  obtain ⟨oc, od, kV, doc, pm, an, ct, osl, rfl, lk, hcd⟩ := F
  refine init_of (N := ["self", "at", "__class__"]) T lk hcd (nscope_by (by decide +kernel)) rfl ⟨_, rfl, rfl⟩ (by decide +kernel) (fun _ => rfl) (fun vs H Q E h => ?_) (fun A outer s H vs Q E hr h => ?_)
  · obtain ⟨a, v, rfl, _⟩ := h
    rfl
  · obtain ⟨a, v, rfl, ha, k⟩ := h
    refine ⟨a, _, rfl, ha, pss_one (ps_ost (pv 0) (pv 1)), ?_⟩
    exact ⟨v, rfl, .ref a, rfl, a, C, rfl, T.ox, nF, .inl ⟨ha, fun d hd hne => k d _ (fill1 hd hne)⟩⟩
end
/-! ### the mathematics of the grids module -/
def digVs : List V := ["0", "1", "2", "3", "4", "5", "6", "7", "8", "9"].map fun x => V.str (PySem.Str.ofString x)
def badFrom : List Str → Nat → Option Nat
  | [], _ => none
  | w :: r, i => if inV (.str w) digVs = true then badFrom r (i + 1) else some i
theorem bad_cons (w : Str) (r : List Str) (i : Nat) : badFrom (w :: r) i = if inV (.str w) digVs = true then badFrom r (i + 1) else some i := rfl
def badTop : List Int → Option Int
  | [] => none
  | t :: r => if 0 ≤ t ∧ t ≤ 9 then badTop r else some t
def cnt (ts : List Int) : Int := ts.foldl (fun c t => c * (t + 1)) 1
def chk (ts : List Int) : Option Int := if 1 ≤ ts.length ∧ ts.length ≤ 3 then (match badTop ts with
  | some t => some t
  | none => if 16 < cnt ts then some (cnt ts) else none) else some ts.length
def ext (os : List (List Int)) (t : Int) : List (List Int) := os.flatMap fun o => (List.range (t + 1).toNat).map fun l : Nat => o ++ [(l : Int)]
def below (ts : List Int) : List (List Int) := ts.foldl ext [[]]

/-! ### promises -/
def optV : Option Nat → V
  | none => .non
  | some i => .int i
def spWord : Sp := fun vs H Q _ => ∃ z : Str, vs = [.str z] ∧ z.length ≤ 1000000 ∧ ∀ H', Same H H' → Q (optV (badFrom (Txt.split z (PySem.Str.ofString " ")) 0)) H'
def spCheck (K : PySem.W.Frag) (C : Addr) : Sp := fun vs H Q E => ∃ (a : Addr) (ts : List Int), vs = [.ref a] ∧ SqT K H a (ts.map V.int) ∧ (match chk ts with
  | none => Q .non H
  | some n => Thrown C [("n", .int n)] H E)
section
variable {P : Program} {w : World} {K : PySem.W.Frag} {mg : Str → Option Value} {base : Heap} {f C : Addr} {fd : FuncData}
theorem scWord : FnScope ["text", "at", "word"] ["text"] (defScope sWord) := ⟨rfl, rfl, rfl, by decide +kernel, rfl, by decide +kernel, by decide +kernel⟩
theorem ok_word (F : Fun K "bad_word" "bad_word" sWord f fd) (me : mg "enumerate" = none) {aD : Addr} (gD : mg "DIGITS" = some (.ref aD)) (hD : ∀ H, SqT K H aD digVs) : FnOk P w K mg base CX0 1 f fd ["text"] spWord := by
  refine F.ok scWord (fun vs H Q E h => ?_) (fun cdv A outer s H vs Q E hr h => ?_)
  · obtain ⟨z, rfl, _⟩ := h
    rfl
  · obtain ⟨z, rfl, hz, k⟩ := h
    refine ⟨_, pss_cons (ps_for PassesOwn.never rfl (pi_enum (by rfl) me (pa_cons (pe_bm PySem.F.plainAttrs_str PySem.F.slot_str_split PySem.F.type_str_split mt_split (pv 0) (pa_cons pe_str pa_nil)) pa_nil))
        (pg_tup rfl (pgs_cons (pg_name (i := 1) scWord.nd rfl (Or.inl rfl)) (pgs_cons (pg_name (i := 2) scWord.nd rfl (Or.inl rfl)) pgs_nil)))
        (pss_one (ps_if (pt_cmpR op_notIn_seq (pv 2) (pe_glob (v := .ref aD) (by rfl) gD rfl) (by rfl)) (pss_one (ps_ret (pv 1))) pss_nil)))
      (pss_one (ps_ret pe_non)), ?_⟩
    refine ⟨_, rfl, rfl, _, _, rfl, rfl, by decide +kernel, by rw [sizeLine_eq]; omega, fun l hl => ?_⟩
    have s1 : Same H (upd H l (.lst ((Txt.split z (PySem.Str.ofString " ")).map V.str))) := same_upd hl
    refine ⟨l, _, rfl, SqL.of upd_same, for_it (walk_enum (K := K) (a := l) (xs := (Txt.split z (PySem.Str.ofString " ")).map V.str)) (fun i σ H' => ∃ u1 u2 : Option V, σ = [some (.str z), u1, u2] ∧ Same H H' ∧ H' l = some (.lst ((Txt.split z (PySem.Str.ofString " ")).map V.str)) ∧
        badFrom (Txt.split z (PySem.Str.ofString " ")) 0 = badFrom ((Txt.split z (PySem.Str.ofString " ")).drop i) i) ⟨none, none, rfl, s1, upd_same, rfl⟩ (fun i σ H' _ ⟨_, _, _, _, g, _⟩ => SqL.of g) ?_ ?_⟩
    · rintro i x σ H2 H' hi ⟨u1, u2, rfl, s2, g2, eq⟩ ⟨T, x1, x2, rfl, nT, rfl, e1, e2⟩
      rw [List.length_map] at hi
      cases e1
      replace e2 : (List.map V.str (Txt.split z (PySem.Str.ofString " ")))[i]? = some x2 := e2
      rw [List.getElem?_map, List.getElem?_eq_getElem hi] at e2
      cases e2
      refine ⟨T, _, rfl, .inl (.inl upd_same), rfl, _, _, rfl, _, _, rfl, rfl, ?_⟩
      refine ⟨_, rfl, aD, _, rfl, .inr (hD _), rfl, by decide +kernel, _, rfl, ?_⟩
      have ed : (Txt.split z (PySem.Str.ofString " ")).drop i = (Txt.split z (PySem.Str.ofString " "))[i] :: (Txt.split z (PySem.Str.ofString " ")).drop (i + 1) := List.drop_eq_getElem_cons hi
      rw [ed, bad_cons] at eq
      cases hb : inV (.str (Txt.split z (PySem.Str.ofString " "))[i]) digVs with
      | true =>
        rw [hb, if_pos rfl] at eq
        refine ⟨_, _, rfl, s2.trans (same_upd nT), (same_upd nT) _ _ g2, eq⟩
      | false =>
        rw [hb, if_neg Bool.false_ne_true] at eq
        rw [eq] at k
        exact ⟨_, rfl, k _ (s2.trans (same_upd nT))⟩
    · rintro σ H' ⟨u1, u2, rfl, s2, g2, eq⟩
      rw [List.length_map, List.drop_length] at eq
      rw [eq] at k
      exact k H' s2
end
end KL

set_option Elab.async false
set_option linter.all false
set_option maxRecDepth 100000
set_option maxHeartbeats 4000000
namespace KL
open PySem PySem.Spec PyProof.Rows L2 NdefX SX
section
variable {P : Program} {w : World} {K : PySem.W.Frag} {mg : Str → Option Value} {base : Heap} {f C fN : Addr} {fd dN : FuncData}
theorem scCheck : FnScope ["tops", "top", "count"] ["tops"] (defScope sCheck) := ⟨rfl, rfl, rfl, by decide +kernel, rfl, by decide +kernel, by decide +kernel⟩
theorem drop_cons {α : Type} {xs : List α} {i : Nat} {x : α} (h : xs[i]? = some x) : xs.drop i = x :: xs.drop (i + 1) := by
  obtain ⟨hi, e⟩ := List.getElem?_eq_some_iff.mp h
  rw [List.drop_eq_getElem_cons hi, e]
theorem at_int {xs : List Int} {i : Nat} {v : V} (h : (xs.map V.int)[i]? = some v) : ∃ n, v = .int n ∧ xs[i]? = some n := by
  rw [List.getElem?_map] at h
  cases e : xs[i]? with
  | none => rw [e] at h; cases h
  | some n => rw [e] at h; cases h; exact ⟨n, rfl, rfl⟩
theorem chk_len {ts : List Int} (h : ¬ (1 ≤ ts.length ∧ ts.length ≤ 3)) : chk ts = some (ts.length : Int) := by
  unfold chk
  rw [if_neg h]
theorem chk_top {ts : List Int} {t : Int} (h : 1 ≤ ts.length ∧ ts.length ≤ 3) (hb : badTop ts = some t) : chk ts = some t := by
  unfold chk
  rw [if_pos h, hb]
theorem chk_cnt {ts : List Int} (h : 1 ≤ ts.length ∧ ts.length ≤ 3) (hb : badTop ts = none) : chk ts = if 16 < cnt ts then some (cnt ts) else none := by
  unfold chk
  rw [if_pos h, hb]
theorem top_cons (t : Int) (r : List Int) : badTop (t :: r) = if 0 ≤ t ∧ t ≤ 9 then badTop r else some t := rfl
theorem top_all {ts : List Int} (h : badTop ts = none) : ∀ t ∈ ts, 0 ≤ t ∧ t ≤ 9 := by
  induction ts with
  | nil => exact fun t ht => by cases ht
  | cons x r ih =>
    rw [top_cons] at h
    by_cases hx : 0 ≤ x ∧ x ≤ 9
    · rw [if_pos hx] at h
      intro t ht
      rcases List.mem_cons.mp ht with rfl | ht
      · exact hx
      · exact ih h t ht
    · rw [if_neg hx] at h
      cases h
theorem cnt_take {ts : List Int} {i : Nat} {t : Int} (h : ts[i]? = some t) : cnt (ts.take (i + 1)) = cnt (ts.take i) * (t + 1) := by
  unfold cnt
  rw [List.take_add_one, h, List.foldl_append]
  rfl
theorem ok_check (F : Fun K "check_tops" "check_tops" sCheck f fd) (ml : mg "len" = none) (gN : mg "BadNumber" = some (.ref C)) (ox : OexC K C) (iC : PySem.W.findIn K (.ref C) "__init__" = some (some (.ref fN))) (tI : PySem.W.typeIn K (.ref fN) = some (.type "function"))
    (GN : ∀ base, FnOk P w K mg base CX0 1 fN dN ["self", "n"] (spI1 C "n")) (bN : Binds K dN ["self", "n"] [])
    {t1 t2 t3 : Tok} (g1 : mg "MOST_KNOBS" = some (.int 3 t1)) (g2 : mg "MOST_TOP" = some (.int 9 t2)) (g3 : mg "MOST_OPTIONS" = some (.int 16 t3)) : FnOk P w K mg base (L2.CX P w) 3 f fd ["tops"] (spCheck K C) := by
  refine F.okX scCheck (fun vs H Q E h => ?_) (fun cdv A outer s H vs Q E hr h => ?_)
  · obtain ⟨a, ts, rfl, _⟩ := h
    rfl
  · obtain ⟨a, ts, rfl, hS, q⟩ := h
    refine ⟨_, pss_cons (ps_if (pt_not (pt_chain op_le op_le pe_int (pe_callB call_len_seq (by rfl) ml PySem.boot_len (pa_cons (pv 0) pa_nil)) (pe_glob (v := .int 3) (by rfl) g1 ⟨_, rfl⟩)))
        (pss_one (ps_raise rfl (takes_of rfl rfl rfl rfl) (pmk_oex ox iC tI (GN base) (hr.mono (by decide)) bN .nil pass0 (by rfl) gN (pa_cons (pe_callB call_len_seq (by rfl) ml PySem.boot_len (pa_cons (pv 0) pa_nil)) pa_nil)))) pss_nil)
      (pss_cons (ps_for (passes_of rfl) rfl (pi_tup (pv 0)) (pg_name (i := 1) scCheck.nd rfl (Or.inl rfl))
        (pss_one (ps_if (pt_not (pt_chain op_le op_le pe_int (pv 1) (pe_glob (v := .int 9) (by rfl) g2 ⟨_, rfl⟩)))
          (pss_one (ps_raise rfl (takes_of rfl rfl rfl rfl) (pmk_oex ox iC tI (GN base) (hr.mono (by decide)) bN .nil pass0 (by rfl) gN (pa_cons (pv 1) pa_nil)))) pss_nil)))
      (pss_cons (ps_set (i := 2) scCheck.nd rfl (Or.inl rfl) pe_int)
      (pss_cons (ps_for (passes_of rfl) rfl (pi_tup (pv 0)) (pg_name (i := 1) scCheck.nd rfl (Or.inl rfl))
        (pss_one (ps_set (i := 2) scCheck.nd rfl (Or.inl rfl) (pe_op op_mul (pv 2) (pe_op op_add (pv 1) pe_int)))))
      (pss_one (ps_if (pt_cmpR op_gt (pv 2) (pe_glob (v := .int 16) (by rfl) g3 ⟨_, rfl⟩) (nomark _))
        (pss_one (ps_raise rfl (takes_of rfl rfl rfl rfl) (pmk_oex ox iC tI (GN base) (hr.mono (by decide)) bN .nil pass0 (by rfl) gN (pa_cons (pv 2) pa_nil)))) pss_nil))))), ?_⟩
    have thr : ∀ {n : Int}, chk ts = some n → Thrown C [("n", .int n)] H E := fun e => by rw [e] at q; exact q
    have len3 : (ts.map V.int).length = ts.length := List.length_map _
    -- the number of the tops
    have bad1 : ¬ (1 ≤ ts.length ∧ ts.length ≤ 3) → tMkO C (spI1 C "n") [] (tCons (tCB (fun xs H Q => ∃ p ys, xs = [.ref p] ∧ (SqL K H p ys ∨ SqT K H p ys) ∧ Q (.int ys.length) H) (tCons (tVar 0) tNil)) tNil) (start ["tops", "top", "count"] [.ref a]) H E := fun h1 => by
      refine ⟨_, rfl, a, _, rfl, .inr hS, mko1 ?_⟩
      rw [len3]
      exact thr (chk_len h1)
    refine ⟨_, rfl, a, _, rfl, .inr hS, _, _, rfl, rfl, _, rfl, ite2 (fun e1 => ?_) (fun e1 => ?_)⟩
    case refine_2 =>
      refine ⟨_, rfl, ?_⟩
      refine bad1 fun z => e1 (decide_eq_true (by rw [len3]; omega))
    have e1' := of_decide_eq_true e1
    rw [len3] at e1'
    refine ⟨_, _, rfl, rfl, _, rfl, ?_⟩
    refine ite2 (fun e2 => ?_) (fun e2 => ?_)
    · refine bad1 fun z => ?_
      have : decide (((ts.map V.int).length : Int) ≤ 3) = true := decide_eq_true (by rw [len3]; omega)
      rw [this] at e2
      cases e2
    have hL : 1 ≤ ts.length ∧ ts.length ≤ 3 := by
      have e3 : decide (((ts.map V.int).length : Int) ≤ 3) = true := by
        cases hd : decide (((ts.map V.int).length : Int) ≤ 3) with
        | true => rfl
        | false => exact absurd (by rw [hd]; rfl) e2
      have := of_decide_eq_true e3
      rw [len3] at this
      omega
    -- each of them
    refine ⟨_, rfl, a, rfl, ⟨_, hS⟩, for_tup (K := K) (a := a) (xs := ts.map V.int) (fun i σ H' => ∃ u1 : Option V, σ = [some (.ref a), u1, none] ∧ H' = H ∧ badTop ts = badTop (ts.drop i)) ⟨none, rfl, rfl, rfl⟩ (fun i σ H' _ ⟨_, _, eH, _⟩ => by rw [eH]; exact hS) ?_ ?_⟩
    · rintro i x σ H' hx ⟨u1, rfl, rfl, eb⟩
      obtain ⟨t, rfl, ht⟩ := at_int hx
      rw [drop_cons ht, top_cons] at eb
      have bad2 : ¬ (0 ≤ t ∧ t ≤ 9) → tMkO C (spI1 C "n") [] (tCons (tVar 1) tNil) [some (.ref a), some (.int t), none] H' E := fun h1 => by
        refine ⟨_, rfl, mko1 ?_⟩
        rw [if_neg h1] at eb
        exact thr (chk_top hL eb)
      refine ⟨_, rfl, _, _, rfl, rfl, _, rfl, ite2 (fun e4 => ?_) (fun e4 => ?_)⟩
      · refine ⟨_, _, rfl, rfl, _, rfl, ?_⟩
        refine ite2 (fun e5 => ?_) (fun e5 => ?_)
        · refine bad2 fun z => ?_
          rw [decide_eq_true z.2] at e5
          cases e5
        · have h9 : t ≤ 9 := by
            cases hd : decide (t ≤ 9) with
            | true => exact of_decide_eq_true hd
            | false => exact absurd (by rw [hd]; rfl) e5
          rw [if_pos ⟨of_decide_eq_true e4, h9⟩] at eb
          exact ⟨_, rfl, rfl, eb⟩
      · exact ⟨_, rfl, bad2 fun z => e4 (decide_eq_true z.1)⟩
    rintro σ H' ⟨u1, rfl, rfl, eb⟩
    rw [List.length_map, List.drop_length] at eb
    have eb : badTop ts = none := eb
    -- how many options
    refine ⟨_, rfl, a, rfl, ⟨_, hS⟩, for_tup (K := K) (a := a) (xs := ts.map V.int) (fun i σ H2 => ∃ u1 : Option V, σ = [some (.ref a), u1, some (.int (cnt (ts.take i)))] ∧ H2 = H') ⟨_, rfl, rfl⟩ (fun i σ H2 _ ⟨_, _, eH⟩ => by rw [eH]; exact hS) ?_ ?_⟩
    · rintro i x σ H2 hx ⟨u1, rfl, rfl⟩
      obtain ⟨t, rfl, ht⟩ := at_int hx
      have h9 := top_all eb t (List.mem_of_getElem? ht)
      refine ⟨_, rfl, _, rfl, _, _, rfl, rfl, _, _, rfl, rfl, .inr ⟨by omega, by omega⟩, ⟨some (.int t), ?_, rfl⟩⟩
      rw [cnt_take ht]
      rfl
    rintro σ H2 ⟨u1, rfl, rfl⟩
    rw [List.length_map, List.take_length]
    refine ⟨_, rfl, _, _, rfl, rfl, _, rfl, ite2 (fun e6 => ?_) (fun e6 => ?_)⟩
    · refine ⟨_, rfl, mko1 ?_⟩
      exact thr (by rw [chk_cnt hL eb, if_pos (of_decide_eq_true e6)])
    · have e7 : chk ts = none := by rw [chk_cnt hL eb, if_neg fun z => e6 (decide_eq_true z)]
      rw [e7] at q
      exact q
end
end KL

set_option Elab.async false
set_option linter.all false
set_option maxRecDepth 100000
set_option maxHeartbeats 4000000
namespace KL
open PySem PySem.Spec PyProof.Rows L2 NdefX SX
/-! ### a comprehension with two fors, by the walks of both -/
def inner2 (D : Addr) (wi1 : TI) (g1 : TG) (tt1 : TT) (te : TE) (vs1 : List Nat) (σ2 : L2.St) (H3 : Hp) (Nx : Hp → Prop) : Prop := wi1 σ2 H3 fun J1 H4 => ∃ W1 : Nat → Nat → Hp → Prop, (∃ m, W1 0 m H4) ∧ ∀ j k H, W1 j k H →
  (J1.stop j H ∧ Nx H) ∨ (J1.go j H ∧ ∃ Nx1 : Hp → Prop, (∀ H', Nx1 H' → ∃ k', k' < k ∧ W1 (j + 1) k' H') ∧ ∀ x H', J1.yld j H x H' → g1 x (wipe σ2 vs1) H' fun σ3 H5 => wipe σ3 vs1 = wipe σ2 vs1 ∧ tt1 σ3 H5 fun b H6 =>
    if b = true then te σ3 H6 fun y H7 => ∃ acc, H7 D = some (.lst acc) ∧ acc.length < sizeLine ∧ Nx1 (upd H7 D (.lst (acc ++ [y]))) else Nx1 H6)
theorem lc2_it {J : It} {n : Nat} {G : Hp → Prop} {Y : Nat → Hp → V → Hp → Prop} (w : Walk J n G Y) {wi1 : TI} {g g1 : TG} {tt tt1 : TT} {te : TE} {vs vs1 : List Nat} {σ : L2.St} {H1 : Hp} {D : Addr} {Qd : Hp → Prop} (Pv : Nat → Hp → Prop)
    (h0 : Pv 0 (upd H1 D (.lst []))) (hG : ∀ i H, i ≤ n → Pv i H → G H)
    (hs : ∀ i x H H', i < n → Pv i H → Y i H x H' → g x (wipe σ vs) H' fun σ2 H2 => wipe σ2 vs = wipe σ vs ∧ tt σ2 H2 fun b H3 => if b = true then inner2 D wi1 g1 tt1 te vs1 σ2 H3 (Pv (i + 1)) else Pv (i + 1) H3) (hd : ∀ H, Pv n H → Qd H) :
    ∃ W : Nat → Nat → Hp → Prop, (∃ m, W 0 m (upd H1 D (.lst []))) ∧ ∀ i m H, W i m H →
      (J.stop i H ∧ Qd H) ∨ (J.go i H ∧ ∃ Nx : Hp → Prop, (∀ H', Nx H' → ∃ m', m' < m ∧ W (i + 1) m' H') ∧ ∀ x H', J.yld i H x H' → g x (wipe σ vs) H' fun σ2 H2 => wipe σ2 vs = wipe σ vs ∧ tt σ2 H2 fun b H3 =>
        if b = true then inner2 D wi1 g1 tt1 te vs1 σ2 H3 Nx else Nx H3) := by
  refine ⟨fun i m H => m = n - i ∧ i ≤ n ∧ Pv i H, ⟨n, by simp, Nat.zero_le _, h0⟩, ?_⟩
  rintro i m H ⟨rfl, hi, p⟩
  by_cases hlt : i < n
  · exact .inr ⟨w.goes i H hlt (hG i H hi p), Pv (i + 1), fun H' p' => ⟨n - (i + 1), by omega, rfl, hlt, p'⟩, fun x H' y => hs i x H H' hlt p (w.yields i H x H' hlt (hG i H hi p) y)⟩
  · obtain rfl : i = n := by omega
    exact .inl ⟨w.stops H (hG i H hi p), hd H p⟩
theorem in2_it {J : It} {n : Nat} {G : Hp → Prop} {Y : Nat → Hp → V → Hp → Prop} (w : Walk J n G Y) {g1 : TG} {tt1 : TT} {te : TE} {vs1 : List Nat} {σ2 : L2.St} {H4 : Hp} {D : Addr} {Nx : Hp → Prop} (Pv : Nat → Hp → Prop)
    (h0 : Pv 0 H4) (hG : ∀ i H, i ≤ n → Pv i H → G H)
    (hs : ∀ i x H H', i < n → Pv i H → Y i H x H' → g1 x (wipe σ2 vs1) H' fun σ3 H5 => wipe σ3 vs1 = wipe σ2 vs1 ∧ tt1 σ3 H5 fun b H6 =>
      if b = true then te σ3 H6 fun y H7 => ∃ acc, H7 D = some (.lst acc) ∧ acc.length < sizeLine ∧ Pv (i + 1) (upd H7 D (.lst (acc ++ [y]))) else Pv (i + 1) H6) (hd : ∀ H, Pv n H → Nx H) :
    ∃ W1 : Nat → Nat → Hp → Prop, (∃ m, W1 0 m H4) ∧ ∀ j k H, W1 j k H →
      (J.stop j H ∧ Nx H) ∨ (J.go j H ∧ ∃ Nx1 : Hp → Prop, (∀ H', Nx1 H' → ∃ k', k' < k ∧ W1 (j + 1) k' H') ∧ ∀ x H', J.yld j H x H' → g1 x (wipe σ2 vs1) H' fun σ3 H5 => wipe σ3 vs1 = wipe σ2 vs1 ∧ tt1 σ3 H5 fun b H6 =>
        if b = true then te σ3 H6 fun y H7 => ∃ acc, H7 D = some (.lst acc) ∧ acc.length < sizeLine ∧ Nx1 (upd H7 D (.lst (acc ++ [y]))) else Nx1 H6) := by
  refine ⟨fun i m H => m = n - i ∧ i ≤ n ∧ Pv i H, ⟨n, by simp, Nat.zero_le _, h0⟩, ?_⟩
  rintro i m H ⟨rfl, hi, p⟩
  by_cases hlt : i < n
  · exact .inr ⟨w.goes i H hlt (hG i H hi p), Pv (i + 1), fun H' p' => ⟨n - (i + 1), by omega, rfl, hlt, p'⟩, fun x H' y => hs i x H H' hlt p (w.yields i H x H' hlt (hG i H hi p) y)⟩
  · obtain rfl : i = n := by omega
    exact .inl ⟨w.stops H (hG i H hi p), hd H p⟩

/-! ### digits -/
def digOf (w : Str) : Int := (PySem.intText? w).getD 0
theorem dig_ok {w : Str} (h : inV (.str w) digVs = true) : PySem.intText? w = some (digOf w) ∧ w.length ≤ 640 ∧ 0 ≤ digOf w ∧ digOf w ≤ 9 := by
  have hw : w = "0" ∨ w = "1" ∨ w = "2" ∨ w = "3" ∨ w = "4" ∨ w = "5" ∨ w = "6" ∨ w = "7" ∨ w = "8" ∨ w = "9" := by
    simp only [inV, digVs, List.map_cons, List.map_nil, List.any_cons, List.any_nil, eqV, Bool.or_false, Bool.or_eq_true, beq_iff_eq] at h
    rcases h with h | h | h | h | h | h | h | h | h | h <;> simp [h.symm]
  rcases hw with rfl | rfl | rfl | rfl | rfl | rfl | rfl | rfl | rfl | rfl <;> exact ⟨by decide +kernel, by decide +kernel, by decide +kernel, by decide +kernel⟩
theorem all_dig {ws : List Str} {i : Nat} (h : badFrom ws i = none) : ∀ w ∈ ws, inV (.str w) digVs = true := by
  induction ws generalizing i with
  | nil => exact fun w hw => by cases hw
  | cons x r ih =>
    rw [bad_cons] at h
    cases hb : inV (.str x) digVs with
    | true =>
      rw [hb, if_pos rfl] at h
      intro w hw
      rcases List.mem_cons.mp hw with rfl | hw
      · exact hb
      · exact ih h w hw
    | false =>
      rw [hb, if_neg Bool.false_ne_true] at h
      cases h
abbrev blank : Str := PySem.Str.ofString " "
def spLevels : Sp := fun vs H Q _ => ∃ z : Str, vs = [.str z] ∧ z.length ≤ 1000000 ∧ (Txt.split z blank).length ≤ 1000000 ∧ badFrom (Txt.split z blank) 0 = none ∧ ∀ p H', Same H H' → H p = none → H' p = some (.lst (((Txt.split z blank).map digOf).map V.int)) → Q (.ref p) H'
section
variable {P : Program} {w : World} {K : PySem.W.Frag} {mg : Str → Option Value} {base : Heap} {f : Addr} {fd : FuncData}
abbrev nLevels : List Str := ["text", "word"]
theorem scLevels : FnScope nLevels ["text"] (defScope sLevels) := ⟨rfl, rfl, rfl, by decide +kernel, rfl, by decide +kernel, by decide +kernel⟩
theorem ok_levels (F : Fun K "levels_of" "levels_of" sLevels f fd) (mi : mg "int" = none) : FnOk P w K mg base CX0 1 f fd ["text"] spLevels := by
  refine F.ok scLevels (fun vs H Q E h => ?_) (fun cdv A outer s H vs Q E hr h => ?_)
  · obtain ⟨z, rfl, _⟩ := h
    rfl
  · obtain ⟨z, rfl, hz, hl, hb, k⟩ := h
    refine ⟨_, pss_one (ps_ret (pe_lc (own := [("word", 1)]) (g := gName 1) (tt := tYes) rfl scLevels.nd (pi_list (pe_bm PySem.F.plainAttrs_str PySem.F.slot_str_split PySem.F.type_str_split mt_split (pv 0) (pa_cons pe_str pa_nil)))
      (blkOk_by (N := nLevels) (sc := defScope sLevels) (by decide +kernel)) (fun _ _ _ _ _ => pg_name (i := 1) scLevels.nd rfl (Or.inl rfl)) (fun _ _ _ _ _ => pts_nil) (fun _ _ _ _ _ => pe_callTy call_int_str (by rfl) mi (by decide +kernel) (pa_cons (pv 1) pa_nil)))), ?_⟩
    refine ⟨_, rfl, rfl, _, _, rfl, rfl, by decide +kernel, by rw [sizeLine_eq]; omega, fun l nl => ⟨l, rfl, ⟨_, SqL.of upd_same⟩, fun D nD => ?_⟩⟩
    have nlD : l ≠ D := fun e => by rw [← e, upd_same] at nD; cases nD
    have nD0 : H D = none := by rw [upd_ne nlD.symm] at nD; exact nD
    refine lc_list (K := K) (a := l) (xs := (Txt.split z blank).map V.str) (fun i H' => Same H H' ∧ H' l = some (.lst ((Txt.split z blank).map V.str)) ∧ H' D = some (.lst ((((Txt.split z blank).take i).map digOf).map V.int)))
      ⟨(same_upd nl).trans (same_upd nD), by rw [upd_ne nlD, upd_same], upd_same⟩ (fun i H' _ ⟨_, g, _⟩ => SqL.of g) ?_ ?_
    · rintro i x H' hx ⟨s2, g2, gD⟩
      rw [List.getElem?_map] at hx
      cases e : (Txt.split z blank)[i]? with
      | none => rw [e] at hx; cases hx
      | some wd =>
        rw [e] at hx
        cases hx
        have d := dig_ok (all_dig hb wd (List.mem_of_getElem? e))
        refine ⟨rfl, ?_⟩
        refine ⟨_, rfl, _, _, rfl, d.1, d.2.1, _, gD, ?_, fun b o eb => ?_, ?_, ?_⟩
        · rw [List.length_map, List.length_map, List.length_take, sizeLine_eq]
          omega
        · rw [upd_ne (ne_of_none eb nD0)]
          exact s2 b o eb
        · rw [upd_ne nlD]
          exact g2
        · rw [upd_same, List.take_add_one, e]
          simp
    · rintro H' ⟨s2, g2, gD⟩
      rw [List.length_map, List.take_length] at gD
      exact k D H' s2 nD0 gD
end
end KL

set_option Elab.async false
set_option linter.all false
set_option maxRecDepth 100000
set_option maxHeartbeats 4000000
namespace KL
open PySem PySem.Spec PyProof.Rows L2 NdefX SX
/-- tuples of ints, one at each address -/
inductive Each (K : PySem.W.Frag) (H : Hp) : List Addr → List (List Int) → Prop
  | nil : Each K H [] []
  | cons {r : Addr} {rs : List Addr} {o : List Int} {os : List (List Int)} : SqT K H r (o.map V.int) → Each K H rs os → Each K H (r :: rs) (o :: os)
theorem Each.same {K : PySem.W.Frag} {H H' : Hp} (s : Same H H') : ∀ {rs : List Addr} {os : List (List Int)}, Each K H rs os → Each K H' rs os
  | _, _, .nil => .nil
  | _, _, .cons h t => .cons (Same.sqt s h) (t.same s)
theorem Each.app {K : PySem.W.Frag} {H : Hp} : ∀ {rs rs' : List Addr} {os os' : List (List Int)}, Each K H rs os → Each K H rs' os' → Each K H (rs ++ rs') (os ++ os')
  | _, _, _, _, .nil, e => e
  | _, _, _, _, .cons h t, e => .cons h (t.app e)
theorem Each.get {K : PySem.W.Frag} {H : Hp} : ∀ {rs : List Addr} {os : List (List Int)} {i : Nat} {r : Addr}, Each K H rs os → rs[i]? = some r → ∃ o, os[i]? = some o ∧ SqT K H r (o.map V.int)
  | _, _, 0, _, .cons h t, e => by cases e; exact ⟨_, rfl, h⟩
  | _, _, i + 1, _, .cons h t, e => t.get (i := i) e
theorem Each.len {K : PySem.W.Frag} {H : Hp} : ∀ {rs : List Addr} {os : List (List Int)}, Each K H rs os → rs.length = os.length
  | _, _, .nil => rfl
  | _, _, .cons _ t => by simp [t.len]
theorem Each.upd {K : PySem.W.Frag} {H : Hp} {D : Addr} {xs ys : List V} (hD : H D = some (.lst xs)) : ∀ {rs : List Addr} {os : List (List Int)}, Each K H rs os → Each K (upd H D (.lst ys)) rs os
  | _, _, .nil => .nil
  | _, _, .cons h t => .cons (sqT_ne hD (fun _ z => nomatch z) (fun _ _ z => nomatch z) (fun b o e hb => by rw [upd_ne hb]; exact e) h) (t.upd hD)
def extOne (o : List Int) (n : Nat) : List (List Int) := (List.range n).map fun l : Nat => o ++ [(l : Int)]
theorem ext_take {os : List (List Int)} {t : Int} {i : Nat} {o : List Int} (h : os[i]? = some o) : ext (os.take (i + 1)) t = ext (os.take i) t ++ extOne o (t + 1).toNat := by
  unfold ext extOne
  rw [List.take_add_one, h, List.flatMap_append]
  simp
theorem extOne_succ (o : List Int) (n : Nat) : extOne o (n + 1) = extOne o n ++ [o ++ [(n : Int)]] := by
  unfold extOne
  rw [List.range_succ, List.map_append]
  rfl
/-- how many, where the tops are fit -/
theorem ext_len (os : List (List Int)) (t : Int) : (ext os t).length = os.length * (t + 1).toNat := by
  unfold ext
  induction os with
  | nil => simp
  | cons o r ih =>
    rw [List.flatMap_cons, List.length_append, ih, List.length_map, List.length_range, List.length_cons, Nat.succ_mul, Nat.add_comm]
theorem ext_bound {os : List (List Int)} {t : Int} {i j : Nat} {o : List Int} (h : os[i]? = some o) (hj : j ≤ (t + 1).toNat) : (ext (os.take i) t ++ extOne o j).length ≤ os.length * (t + 1).toNat := by
  have hi : i < os.length := (List.getElem?_eq_some_iff.mp h).1
  rw [List.length_append, ext_len, List.length_take, Nat.min_eq_left (by omega)]
  have : (extOne o j).length = j := by unfold extOne; simp
  rw [this]
  calc i * (t + 1).toNat + j ≤ i * (t + 1).toNat + (t + 1).toNat := by omega
    _ = (i + 1) * (t + 1).toNat := by rw [Nat.succ_mul]
    _ ≤ os.length * (t + 1).toNat := Nat.mul_le_mul_right _ (by omega)
/-- the options of the tops taken so far are few -/
def Few (ts : List Int) : Prop := ts.length ≤ 3 ∧ ∀ t ∈ ts, 0 ≤ t ∧ t ≤ 9
theorem below_take {ts : List Int} {i : Nat} {t : Int} (h : ts[i]? = some t) : below (ts.take (i + 1)) = ext (below (ts.take i)) t := by
  unfold below
  rw [List.take_add_one, h, List.foldl_append]
  rfl
theorem below_len {ts : List Int} (h : ∀ t ∈ ts, 0 ≤ t ∧ t ≤ 9) : ∀ i, (below (ts.take i)).length ≤ 10 ^ i
  | 0 => by simp [below]
  | i + 1 => by
    cases e : ts[i]? with
    | none =>
      have hl : ts.length ≤ i := List.getElem?_eq_none_iff.mp e
      rw [List.take_of_length_le (by omega), ← List.take_of_length_le hl]
      exact Nat.le_trans (below_len h i) (Nat.pow_le_pow_right (by decide) (by omega))
    | some t =>
      have b := below_len h i
      have ht := h t (List.mem_of_getElem? e)
      rw [below_take e, ext_len, Nat.pow_succ]
      exact Nat.mul_le_mul b (by omega)
theorem ext_mem {os : List (List Int)} {t : Int} {o : List Int} (h : o ∈ ext os t) : ∃ o0 ∈ os, ∃ l : Nat, l < (t + 1).toNat ∧ o = o0 ++ [(l : Int)] := by
  unfold ext at h
  obtain ⟨o0, h0, h1⟩ := List.mem_flatMap.mp h
  obtain ⟨l, h2, rfl⟩ := List.mem_map.mp h1
  exact ⟨o0, h0, l, List.mem_range.mp h2, rfl⟩
theorem below_mem {ts : List Int} : ∀ {i : Nat} {o : List Int}, i ≤ ts.length → o ∈ below (ts.take i) → o.length = i
  | 0, o, _, h => by
    have : o ∈ [[]] := h
    simp at this
    rw [this]
    rfl
  | i + 1, o, hi, h => by
    rw [below_take (List.getElem?_eq_getElem (by omega))] at h
    obtain ⟨o0, h0, l, _, rfl⟩ := ext_mem h
    rw [List.length_append, below_mem (by omega) h0]
    rfl
def spBelow (K : PySem.W.Frag) : Sp := fun vs H Q _ => ∃ (a : Addr) (ts : List Int), vs = [.ref a] ∧ SqT K H a (ts.map V.int) ∧ Few ts ∧ ∀ p rs H', Same H H' → SqT K H' p (rs.map V.ref) → Each K H' rs (below ts) → Q (.ref p) H'
section
variable {P : Program} {w : World} {K : PySem.W.Frag} {mg : Str → Option Value} {base : Heap} {f : Addr} {fd : FuncData}
abbrev nBelow : List Str := ["tops", "options", "top", "shorter", "level"]
theorem scBelow : FnScope nBelow ["tops"] (defScope sBelow) := ⟨rfl, rfl, rfl, by decide +kernel, rfl, by decide +kernel, by decide +kernel⟩
theorem ok_below (F : Fun K "options_below" "options_below" sBelow f fd) (mr : mg "range" = none) (mt : mg "tuple" = none) : FnOk P w K mg base CX0 1 f fd ["tops"] (spBelow K) := by
  refine F.ok scBelow (fun vs H Q E h => ?_) (fun cdv A outer s H vs Q E hr h => ?_)
  · obtain ⟨a, ts, rfl, _⟩ := h
    rfl
  · obtain ⟨a, ts, rfl, hS, hF, k⟩ := h
    refine ⟨_, pss_cons (ps_set (i := 1) scBelow.nd rfl (Or.inl rfl) (pe_newL (pa_cons (pe_newT pa_nil) pa_nil)))
      (pss_cons (ps_for PassesOwn.never rfl (pi_tup (pv 0)) (pg_name (i := 2) scBelow.nd rfl (Or.inr rfl))
        (pss_one (ps_setLc2 (i := 1) (te := tNewT (StX.tStar K (tVar 3) (tCons (tVar 4) tNil))) (own := [("shorter", 3), ("level", 4)]) (vs1 := [4]) (g := gName 3) (tt := tYes) (g1 := gName 4) (tt1 := tYes) rfl scBelow.nd rfl rfl (sw_true rfl rfl rfl (by decide +kernel)) (pi_list (pv 1))
          (blkOk_by (N := nBelow) (sc := defScope sBelow) (by decide +kernel)) (by decide) (fun _ _ _ _ _ => pg_name (i := 3) scBelow.nd rfl (Or.inl rfl)) (fun _ _ _ _ _ => pts_nil)
          (fun _ _ _ _ _ => pi_range1 rfl mr (pa_cons (pe_op op_add (pv 2) pe_int) pa_nil)) (fun _ _ _ _ _ => pg_name (i := 4) scBelow.nd rfl (Or.inl rfl)) (fun _ _ _ _ _ => pts_nil)
          (fun _ _ _ _ _ => pe_newT (StX.pa_star (pv 3) (pa_cons (pv 4) pa_nil))))))
      (pss_one (ps_ret (pe_callTy call_tup (by rfl) mt (by decide +kernel) (pa_cons (pv 1) pa_nil))))), ?_⟩
    refine ⟨Nat.zero_le _, fun t0 H1 s1 nt et => ⟨(by show 1 ≤ sizeLine; decide), fun l0 H2 s2 nl el => ?_⟩⟩
    have hS2 : SqT K H2 a (ts.map V.int) := Same.sqt (s1.trans s2) hS
    refine ⟨_, rfl, a, rfl, ⟨_, hS2⟩, for_tup (K := K) (a := a) (xs := ts.map V.int) (fun i σ H' => ∃ (l : Addr) (rs : List Addr) (u2 : Option V), σ = [some (.ref a), some (.ref l), u2, none, none] ∧ Same H H' ∧ H' l = some (.lst (rs.map V.ref)) ∧ Each K H' rs (below (ts.take i)))
      ⟨l0, [t0], none, rfl, s1.trans s2, el, .cons (.inl (.inl (s2 _ _ et))) .nil⟩ (fun i σ H' _ ⟨_, _, _, _, s, _⟩ => Same.sqt s hS) ?_ ?_⟩
    · rintro i x σ H' hx ⟨l, rs, u2, rfl, sH, hl, hE⟩
      obtain ⟨t, rfl, ht⟩ := at_int hx
      have ht9 := hF.2 t (List.mem_of_getElem? ht)
      have hi3 : i < 3 := Nat.lt_of_lt_of_le (List.getElem?_eq_some_iff.mp ht).1 hF.1
      have hb1 : (below (ts.take i)).length * (t + 1).toNat ≤ 10000 := by
        refine Nat.le_trans (Nat.mul_le_mul (below_len hF.2 i) (show (t + 1).toNat ≤ 10 by omega)) ?_
        have : 10 ^ i ≤ 10 ^ 2 := Nat.pow_le_pow_right (by decide) (by omega)
        omega
      refine ⟨_, rfl, l, rfl, ⟨_, SqL.of hl⟩, fun D nD => ?_⟩
      refine lc2_it (wi1 := iRng1 (tCons (tOp (rI0 fun i j => .int (i + j)) (tVar 2) (tC (.int 1))) tNil)) (g := gName 3) (g1 := gName 4) (tt := tYes) (tt1 := tYes) (te := tNewT (StX.tStar K (tVar 3) (tCons (tVar 4) tNil))) (vs := [3, 4]) (vs1 := [4]) (σ := [some (.ref a), some (.ref l), some (.int t), none, none]) (walk_list (K := K) (a := l) (xs := rs.map V.ref)) (fun j H3 => ∃ rs', Same H' H3 ∧ H3 D = some (.lst (rs'.map V.ref)) ∧ Each K H3 rs' (ext ((below (ts.take i)).take j) t))
        ⟨[], same_upd nD, upd_same, .nil⟩ (fun j H3 _ ⟨_, s3, _⟩ => SqL.of (s3 _ _ hl)) ?_ ?_
      · rintro j x H3 H3' hj ⟨rs', s3, gD, hE3⟩ ⟨rfl, ex⟩
        obtain ⟨r, rfl, hr'⟩ : ∃ r, x = .ref r ∧ rs[j]? = some r := by
          rw [List.getElem?_map] at ex
          cases e : rs[j]? with
          | none => rw [e] at ex; cases ex
          | some r => rw [e] at ex; cases ex; exact ⟨r, rfl, rfl⟩
        obtain ⟨o, ho, hro⟩ := hE.get hr'
        refine ⟨rfl, ?_⟩
        refine ⟨_, rfl, _, _, rfl, rfl, t + 1, rfl, by omega, by omega, ?_⟩
        refine in2_it (walk_range (lo := 0) (n := (t + 1).toNat)) (fun m H4 => ∃ rs'', Same H' H4 ∧ H4 D = some (.lst (rs''.map V.ref)) ∧ Each K H4 rs'' (ext ((below (ts.take i)).take j) t ++ extOne o m))
          ⟨rs', s3, gD, by rw [show extOne o 0 = [] from rfl, List.append_nil]; exact hE3⟩ (fun _ _ _ _ => trivial) ?_ ?_
        · rintro m y H4 H4' hm ⟨rs'', s4, gD4, hE4⟩ ⟨rfl, rfl⟩
          refine ⟨rfl, ?_⟩
          refine ⟨_, rfl, r, _, rfl, .inl (Same.sqt s4 hro), _, rfl, ?_, fun p H5 s5 np ep => ?_⟩
          · have hol := below_mem (Nat.le_of_lt (List.getElem?_eq_some_iff.mp ht).1) (List.mem_of_getElem? ho)
            rw [List.length_append, List.length_map, hol, sizeLine_eq]
            show i + 1 ≤ _
            omega
          · refine ⟨_, s5 _ _ gD4, ?_, rs'' ++ [p], ?_, ?_, ?_⟩
            · rw [List.length_map, hE4.len, sizeLine_eq]
              have := ext_bound (t := t) ho (Nat.le_of_lt hm)
              omega
            · intro b u e
              rw [upd_ne (ne_of_none e nD)]
              exact s5 _ _ (s4 _ _ e)
            · rw [upd_same, List.map_append]
              rfl
            · rw [extOne_succ, ← List.append_assoc]
              refine ((hE4.same s5).app (.cons ?_ .nil)).upd (s5 _ _ gD4)
              refine .inl (.inl ?_)
              rw [ep, List.map_append]
              show some (HO.tup (o.map V.int ++ [V.int (0 + (m : Int))])) = some (HO.tup (o.map V.int ++ [V.int (m : Int)]))
              rw [Int.zero_add]
        · rintro H4 ⟨rs'', s4, gD4, hE4⟩
          exact ⟨rs'', s4, gD4, by rw [ext_take ho]; exact hE4⟩
      · rintro H3 ⟨rs', s3, gD, hE3⟩
        refine ⟨D, rs', some (.int t), rfl, sH.trans s3, gD, ?_⟩
        rw [List.length_map, hE.len, List.take_length] at hE3
        rw [below_take ht]
        exact hE3
    · rintro σ H' ⟨l, rs, u2, rfl, sH, hl, hE⟩
      rw [List.length_map, List.take_length] at hE
      exact ⟨_, rfl, l, _, rfl, .inl (SqL.of hl), fun q H3 s3 hq => k q rs H3 (sH.trans s3) hq (hE.same s3)⟩
end
end KL

set_option Elab.async false
set_option linter.all false
set_option maxRecDepth 100000
set_option maxHeartbeats 4000000
namespace KL
open PySem PySem.Spec PyProof.Rows L2 NdefX SX
abbrev sGrid : Stmt := top 18
abbrev sGInit : Stmt := inClass sGrid 0
abbrev sGRead : Stmt := inClass sGrid 1
/-- a Grid of these tops stands at x -/
def GridAt (K : PySem.W.Frag) (C : Addr) (H : Hp) (x : Addr) (ts : List Int) : Prop := ∃ (dx t p : Addr) (rs : List Addr), H x = some (.ins C dx [("tops", .ref t), ("options", .ref p)]) ∧ SqT K H t (ts.map V.int) ∧ SqT K H p (rs.map V.ref) ∧ Each K H rs (below ts)
theorem Each.carry {K : PySem.W.Frag} {H H' : Hp} (c : ∀ r xs, SqT K H r xs → SqT K H' r xs) : ∀ {rs : List Addr} {os : List (List Int)}, Each K H rs os → Each K H' rs os
  | _, _, .nil => .nil
  | _, _, .cons h t => .cons (c _ _ h) (t.carry c)
theorem GridAt.same {K : PySem.W.Frag} {C x : Addr} {H H' : Hp} {ts : List Int} (s : Same H H') (g : GridAt K C H x ts) : GridAt K C H' x ts := by
  obtain ⟨dx, t, p, rs, h1, h2, h3, h4⟩ := g
  exact ⟨dx, t, p, rs, s _ _ h1, Same.sqt s h2, Same.sqt s h3, h4.same s⟩
theorem chk_few {ts : List Int} (h : chk ts = none) : Few ts := by
  unfold chk at h
  by_cases h1 : 1 ≤ ts.length ∧ ts.length ≤ 3
  · rw [if_pos h1] at h
    cases e : badTop ts with
    | none => exact ⟨h1.2, top_all e⟩
    | some t => rw [e] at h; cases h
  · rw [if_neg h1] at h
    cases h
theorem Thrown.back {C : Addr} {fs : List (Str × V)} {H H1 : Hp} {Q : XK} (s : Same H H1) (t : Thrown C fs H Q) : Thrown C fs H1 Q := fun d H' s' hn hd => t d H' (s.trans s') (s.free hn) hd
structure GTxt (K : PySem.W.Frag) (C : Addr) : Prop where
  cl : Cls K C
  nT : NoAttr K C "tops"
  nO : NoAttr K C "options"
  ha : PySem.W.findIn K (.ref C) "__class__" = some (some (.builtin "object.__class__"))
  hn : PySem.W.specialIn K (.builtin "object.__class__") "__get__" = some (some (.builtin "getset_descriptor.__get__"))
  ht : PySem.W.takesIn K (.builtin "object.__class__") = some true
  hm : PySem.W.mroIn K C (.type "object") = some true
theorem kTO : ¬ (("tops" : Str) = "options") := by decide +kernel
theorem put_two (t p : V) : putF "options" p (putF "tops" t []) = [(("tops" : Str), t), (("options" : Str), p)] := by
  show (if ("tops" : Str) = "options" then [(("tops" : Str), p)] else (("tops" : Str), t) :: putF "options" p []) = _
  rw [if_neg kTO]
  rfl
/-- of __init__'s body: the tops stand in a tuple -/
def spGBody (K : PySem.W.Frag) (C N : Addr) : Sp := fun vs H Q E => ∃ (x t dx : Addr) (ts : List Int), vs = [.ref x, .ref t] ∧ H x = some (.ins C dx []) ∧ SqT K H t (ts.map V.int) ∧ (match chk ts with
  | some n => Thrown N [("n", .int n)] H E
  | none => ∀ H', (∀ b o, H b = some o → b ≠ x → H' b = some o) → GridAt K C H' x ts → Q .non H')
def spGInit (K : PySem.W.Frag) (C N : Addr) : Sp := fun vs H Q E => ∃ ws rest, vs = ws ++ rest ∧ ws.length = (["self"] : List Str).length ∧ rest.length ≤ sizeLine ∧ ∀ p, H p = Option.none → spGBody K C N (ws ++ [V.ref p]) (upd H p (.tup rest)) Q E
section
variable {P : Program} {w : World} {K : PySem.W.Frag} {mg : Str → Option Value} {base : Heap} {f C N fC fB : Addr} {fd dC dB : FuncData}
theorem scGInit : FnScope ["self", "tops"] (([("self" : Str)] : List Str) ++ [("tops" : Str)]) (defScope sGInit) := ⟨rfl, rfl, rfl, by decide +kernel, rfl, by decide +kernel, by decide +kernel⟩
theorem ok_ginit (F : Fun K "__init__" "Grid.__init__" sGInit f fd) (T : GTxt K C) (FC : Fun K "check_tops" "check_tops" sCheck fC dC) (bC : Binds K dC ["tops"] []) (gC : mg "check_tops" = some (.ref fC)) (GC : FnOk P w K mg base (L2.CX P w) 3 fC dC ["tops"] (spCheck K N))
    (FB : Fun K "options_below" "options_below" sBelow fB dB) (bB : Binds K dB ["tops"] []) (gB : mg "options_below" = some (.ref fB)) (GB : FnOk P w K mg base CX0 1 fB dB ["tops"] (spBelow K)) : FnR P w K mg base (L2.CX P w) 4 f (spGInit K C N) := by
  obtain ⟨oc, od, kV, doc, pm, an, cdv, ct, osl, rfl, lk, hcd⟩ := F.ex
  refine StX.fn_star (ps := ["self"]) (pv := "tops") (sp := spGBody K C N) lk hcd scGInit StX.cxUp (fun us rest hu => ?_) (fun A outer s H vs Q E hr h => ?_)
  · exact StX.bind_star1 (B := fun l => bindArgs (PySem.W.fnOf "__init__" "Grid.__init__" (defArgs sGInit) (defBody sGInit) (defScope sGInit) .none kV doc pm an cdv ct) ⟨l, []⟩) (p1 := "self") (pv := "tops") (fun _ => rfl) (fun _ _ _ => rfl) us rest hu
  · obtain ⟨x, t, dx, ts, rfl, hx, ht, q⟩ := h
    refine ⟨_, pss_cons (ps_expr (pe_call GC hr (by rfl) gC FC.kp bC .nil (passes_call (takes_of rfl rfl rfl rfl) (fun _ _ _ _ h => h)) (pa_cons (pv 1) pa_nil)))
      (pss_cons (ps_fld (pv 0) (pv 1) rfl) (pss_one (ps_fld (pv 0) (pe_call GB (hr.mono (by decide)) (by rfl) gB FB.kp bB .nil pass0 (pa_cons (pv 1) pa_nil)) rfl))), ?_⟩
    refine ⟨_, rfl, t, ts, rfl, ht, ?_⟩
    cases hc : chk ts with
    | some n =>
      rw [hc] at q
      exact q
    | none =>
      rw [hc] at q
      refine ⟨_, rfl, _, rfl, x, C, dx, _, rfl, hx, T.cl, T.nT, (by show 0 < 1000; decide), ?_⟩
      have k1 : ∀ b o, H b = some o → b ≠ x → (upd H x (.ins C dx (putF "tops" (.ref t) []))) b = some o := fun b o e hb => by rw [upd_ne hb]; exact e
      have ht1 := sqT_ne hx (fun _ z => nomatch z) (fun _ _ z => nomatch z) k1 ht
      refine ⟨_, rfl, t, ts, rfl, ht1, chk_few hc, fun p rs H2 s2 hp hE => ?_⟩
      have hx2 := s2 _ _ (upd_same (H := H) (a := x) (o := HO.ins C dx (putF "tops" (.ref t) [])))
      refine ⟨_, rfl, x, C, dx, _, rfl, hx2, T.cl, T.nO, (by show 1 < 1000; decide), ?_⟩
      rw [put_two]
      have k2 : ∀ b o, H2 b = some o → b ≠ x → (upd H2 x (.ins C dx [("tops", .ref t), ("options", .ref p)])) b = some o := fun b o e hb => by rw [upd_ne hb]; exact e
      have tr : ∀ {r : Addr} {xs : List V}, SqT K H2 r xs → SqT K (upd H2 x (.ins C dx [("tops", .ref t), ("options", .ref p)])) r xs := fun h => sqT_ne hx2 (fun _ z => nomatch z) (fun _ _ z => nomatch z) k2 h
      refine q _ (fun b o e hb => k2 b o (s2 b o (k1 b o e hb)) hb) ⟨dx, t, p, rs, upd_same, tr (Same.sqt s2 ht1), tr hp, ?_⟩
      exact hE.carry (fun r xs h => tr h)
/-- what Grid.read makes of a text -/
inductive Rd3 where
  | text (i : Nat)
  | number (n : Int)
  | tops (ts : List Int)
def readG (z : Str) : Rd3 := match badFrom (Txt.split z blank) 0 with
  | some i => .text i
  | none => match chk ((Txt.split z blank).map digOf) with
    | some n => .number n
    | none => .tops ((Txt.split z blank).map digOf)
def spRead (K : PySem.W.Frag) (C N T : Addr) : Sp := fun vs H Q E => ∃ z : Str, vs = [.ref C, .str z] ∧ z.length ≤ 1000000 ∧ (Txt.split z blank).length ≤ 1000000 ∧ (match readG z with
  | .text i => Thrown T [("at", .int i)] H E
  | .number n => Thrown N [("n", .int n)] H E
  | .tops ts => ∀ x H', Same H H' → GridAt K C H' x ts → Q (.ref x) H')
abbrev nRead : List Str := ["cls", "text", "at", "tops"]
theorem scGRead : FnScope nRead ["cls", "text"] (defScope sGRead) := ⟨rfl, rfl, rfl, by decide +kernel, rfl, by decide +kernel, by decide +kernel⟩
variable {fW fL fI fT T : Addr} {dW dL dT : FuncData}
theorem ok_gread (F : Fun K "read" "Grid.read" sGRead f fd) (M : Mk K C fI) (GI : FnR P w K mg base (L2.CX P w) 4 fI (spGInit K C N))
    (FW : Fun K "bad_word" "bad_word" sWord fW dW) (bW : Binds K dW ["text"] []) (gW : mg "bad_word" = some (.ref fW)) (GW : FnOk P w K mg base CX0 1 fW dW ["text"] spWord)
    (FL : Fun K "levels_of" "levels_of" sLevels fL dL) (bL : Binds K dL ["text"] []) (gL : mg "levels_of" = some (.ref fL)) (GL : FnOk P w K mg base CX0 1 fL dL ["text"] spLevels)
    (gT : mg "BadText" = some (.ref T)) (ox : OexC K T) (iT : PySem.W.findIn K (.ref T) "__init__" = some (some (.ref fT))) (tT : PySem.W.typeIn K (.ref fT) = some (.type "function"))
    (GT : FnOk P w K mg base CX0 1 fT dT ["self", "at"] (spI1 T "at")) (bT : Binds K dT ["self", "at"] []) : FnOk P w K mg base (L2.CX P w) 6 f fd ["cls", "text"] (spRead K C N T) := by
  refine F.okX scGRead (fun vs H Q E h => ?_) (fun cdv A outer s H vs Q E hr h => ?_)
  · obtain ⟨z, rfl, _⟩ := h
    rfl
  · obtain ⟨z, rfl, hz, hl, q⟩ := h
    refine ⟨_, pss_cons (ps_set (i := 2) scGRead.nd rfl (Or.inl rfl) (pe_call GW (hr.mono (by decide)) (by rfl) gW FW.kp bW .nil pass0 (pa_cons (pv 1) pa_nil)))
      (pss_cons (ps_if (pt_cmpR op_notN (pv 2) pe_non (nomark _)) (pss_one (ps_raise rfl (takes_of rfl rfl rfl rfl) (pmk_oex ox iT tT GT (hr.mono (by decide)) bT .nil pass0 (by rfl) gT (pa_cons (pv 2) pa_nil)))) pss_nil)
      (pss_cons (ps_set (i := 3) scGRead.nd rfl (Or.inl rfl) (pe_call GL (hr.mono (by decide)) (by rfl) gL FL.kp bL .nil pass0 (pa_cons (pv 1) pa_nil)))
      (pss_one (ps_ret (pe_makeLS (i := 0) M GI (hr.mono (by decide)) rfl (Or.inl rfl) (passes_call (takes_of rfl rfl rfl rfl) (fun _ _ _ _ h => h)) (pv 3)))))), ?_⟩
    refine ⟨_, rfl, z, rfl, hz, fun H1 s1 => ?_⟩
    unfold readG at q
    cases hb : badFrom (Txt.split z blank) 0 with
    | some i =>
      rw [hb] at q
      refine ⟨_, rfl, rfl, true, rfl, ?_⟩
      exact ⟨_, rfl, mko1 (Thrown.back s1 q)⟩
    | none =>
      rw [hb] at q
      refine ⟨_, rfl, rfl, false, rfl, ?_⟩
      refine ⟨_, rfl, z, rfl, hz, hl, hb, fun p H2 s2 np ep => ?_⟩
      have s12 := s1.trans s2
      refine ⟨rfl, _, rfl, p, _, rfl, .inr (SqL.of ep), fun x dx nx ndx nex => ?_⟩
      refine ⟨[.ref x], _, rfl, rfl, ?_, fun t ht => ?_⟩
      · rw [List.length_map, List.length_map, sizeLine_eq]
        omega
      have nxt : x ≠ t := ne_of_none upd_same ht
      have s3 : Same H2 (upd (upd (upd H2 dx (.own x)) x (.ins C dx [])) t (.tup (((Txt.split z blank).map digOf).map V.int))) := fun b o e => by
        rw [upd_ne (ne_of_none (by rw [upd_ne (ne_of_none e nx), upd_ne (ne_of_none e ndx)]; exact e) ht), upd_ne (ne_of_none e nx), upd_ne (ne_of_none e ndx)]
        exact e
      refine ⟨x, t, dx, (Txt.split z blank).map digOf, rfl, by rw [upd_ne nxt, upd_same], .inl (.inl upd_same), ?_⟩
      cases hc : chk ((Txt.split z blank).map digOf) with
      | some n =>
        rw [hc] at q
        exact Thrown.back (s12.trans s3) q
      | none =>
        rw [hc] at q
        refine fun H4 k4 g4 => ⟨rfl, q x H4 (fun b o e => ?_) g4⟩
        exact k4 b o ((s12.trans s3) b o e) (ne_of_none (s12 b o e) nx)
end
end KL

set_option Elab.async false
set_option linter.all false
set_option maxRecDepth 100000
set_option maxHeartbeats 4000000
namespace KL
open PySem PySem.Spec PyProof.Rows L2 NdefX SX
abbrev sGStr : Stmt := inClass sGrid 2
abbrev sGEq : Stmt := inClass sGrid 3
/-- the text of some numbers -/
def toS (i : Int) : Str := toString i
def textOf (ts : List Int) : Str := Txt.join blank (ts.map toS)
def spGStr (K : PySem.W.Frag) (C : Addr) : Sp := fun vs H Q _ => ∃ (x : Addr) (ts : List Int), vs = [.ref x] ∧ GridAt K C H x ts ∧ Few ts ∧ ∀ H', Same H H' → Q (.str (textOf ts)) H'
def spGEq (K : PySem.W.Frag) (C : Addr) : Sp := fun vs H Q _ => ∃ (x y : Addr) (ts : List Int), vs = [.ref x, .ref y] ∧ GridAt K C H x ts ∧ GridAt K C H y ts ∧ ∀ H', Same H H' → Q (.bl true) H'
theorem small_str {t : Int} (h0 : 0 ≤ t) (h9 : t ≤ 9) : t.natAbs.log2 < 1920 ∧ (toS t).length ≤ 2 := by
  have : t = 0 ∨ t = 1 ∨ t = 2 ∨ t = 3 ∨ t = 4 ∨ t = 5 ∨ t = 6 ∨ t = 7 ∨ t = 8 ∨ t = 9 := by omega
  rcases this with rfl | rfl | rfl | rfl | rfl | rfl | rfl | rfl | rfl | rfl <;> exact ⟨by decide +kernel, by decide +kernel⟩
theorem strs_sum {ts : List Int} (h : ∀ t ∈ ts, 0 ≤ t ∧ t ≤ 9) : ((ts.map toS).map (·.length)).sum ≤ 2 * ts.length := by
  induction ts with
  | nil => simp
  | cons x r ih =>
    have h1 := (small_str (h x (List.mem_cons_self)).1 (h x (List.mem_cons_self)).2).2
    have h2 := ih fun t ht => h t (List.mem_cons_of_mem _ ht)
    simp only [List.map_cons, List.sum_cons, List.length_cons]
    omega
section
variable {P : Program} {w : World} {K : PySem.W.Frag} {mg : Str → Option Value} {base : Heap} {f C : Addr} {fd : FuncData}
abbrev nGStr : List Str := ["self", "top"]
theorem scGStr : FnScope nGStr ["self"] (defScope sGStr) := ⟨rfl, rfl, rfl, by decide +kernel, rfl, by decide +kernel, by decide +kernel⟩
theorem ok_gstr (F : Fun K "__str__" "Grid.__str__" sGStr f fd) (T : GTxt K C) (ms : mg "str" = none) : FnOk P w K mg base CX0 1 f fd ["self"] (spGStr K C) := by
  refine F.ok scGStr (fun vs H Q E h => ?_) (fun cdv A outer s H vs Q E hr h => ?_)
  · obtain ⟨x, ts, rfl, _⟩ := h
    rfl
  · obtain ⟨x, ts, rfl, ⟨dx, t, p, rs, hx, ht, hp, hE⟩, hF, k⟩ := h
    refine ⟨_, pss_one (ps_ret (pe_bm PySem.F.plainAttrs_str PySem.F.slot_str_join PySem.F.type_str_join mt_join pe_str (pa_cons
      (pe_lc (own := [("top", 1)]) (g := gName 1) (tt := tYes) rfl scGStr.nd (pi_tup (pe_fld (pv 0) rfl)) (blkOk_by (N := nGStr) (sc := defScope sGStr) (by decide +kernel)) (fun _ _ _ _ _ => pg_name (i := 1) scGStr.nd rfl (Or.inl rfl)) (fun _ _ _ _ _ => pts_nil)
        (fun _ _ _ _ _ => pe_callTy call_str_int (by rfl) ms (by decide +kernel) (pa_cons (pv 1) pa_nil))) pa_nil))), ?_⟩
    refine ⟨rfl, _, rfl, x, C, dx, _, _, rfl, hx, T.cl, T.nT, rfl, t, rfl, ⟨_, ht⟩, fun D nD => ?_⟩
    refine lc_tup (K := K) (a := t) (xs := ts.map V.int) (fun i H' => Same H H' ∧ H' D = some (.lst (((ts.take i).map toS).map V.str))) ⟨same_upd nD, upd_same⟩ (fun i H' _ ⟨s, _⟩ => Same.sqt s ht) ?_ ?_
    · rintro i y H' hy ⟨s2, gD⟩
      obtain ⟨n, rfl, hn⟩ := at_int hy
      have h9 := hF.2 n (List.mem_of_getElem? hn)
      refine ⟨rfl, ?_⟩
      refine ⟨_, rfl, _, rfl, (small_str h9.1 h9.2).1, _, gD, ?_, fun b o e => ?_, ?_⟩
      · rw [List.length_map, List.length_map, List.length_take, sizeLine_eq]
        have := hF.1
        omega
      · rw [upd_ne (ne_of_none e nD)]
        exact s2 b o e
      · rw [upd_same, List.take_add_one, hn, List.map_append, List.map_append]
        rfl
    · rintro H' ⟨s2, gD⟩
      rw [List.length_map, List.take_length] at gD
      refine ⟨_, D, _, rfl, rfl, .inl (SqL.of gD), ?_, k H' s2⟩
      have h1 := strs_sum hF.2
      have h2 := hF.1
      have h3 : blank.length = 1 := by decide +kernel
      show _ + _ * blank.length ≤ _
      rw [List.length_map, h3]
      omega
theorem scGEq : FnScope ["self", "other"] ["self", "other"] (defScope sGEq) := ⟨rfl, rfl, rfl, by decide +kernel, rfl, by decide +kernel, by decide +kernel⟩
theorem ok_geq (F : Fun K "__eq__" "Grid.__eq__" sGEq f fd) (T : GTxt K C) (mi : mg "isinstance" = none) (gG : mg "Grid" = some (.ref C)) : FnOk P w K mg base CX0 1 f fd ["self", "other"] (spGEq K C) := by
  refine F.ok scGEq (fun vs H Q E h => ?_) (fun cdv A outer s H vs Q E hr h => ?_)
  · obtain ⟨x, y, ts, rfl, _⟩ := h
    rfl
  · obtain ⟨x, y, ts, rfl, ⟨dx, t, p, rs, hx, ht, hp, hE⟩, ⟨dx', t', p', rs', hy, ht', hp', hE'⟩, k⟩ := h
    refine ⟨_, pss_one (ps_ret (pe_and (pe_callB call_isi (by rfl) mi (by decide +kernel) (pa_cons (pv 1) (pa_cons (pe_glob (v := .ref C) (by rfl) gG rfl) pa_nil))) (pe_one (pe_cmpR (op_eqD hr.units) (pe_fld (pv 0) rfl) (pe_fld (pv 1) rfl) (nomark _))))), ?_⟩
    refine ⟨_, rfl, _, _, .ref C, _, true, rfl, .own C, .base (.ins hy T.cl T.ha T.hn T.ht T.hm), by unfold PySem.W.kitOne; rw [if_pos (by simp)], true, rfl, ?_⟩
    refine ⟨_, rfl, x, C, dx, _, _, rfl, hx, T.cl, T.nT, rfl, _, rfl, y, C, dx', _, _, rfl, hy, T.cl, T.nT, rfl, _, _, .tup ht (dpInts ts), .tup ht' (dpInts ts), shapedT ts, shapedT ts, ?_⟩
    rw [eqvSelf (shapedT ts)]
    exact k H (Same.refl H)
end
end KL

set_option Elab.async false
set_option linter.all false
set_option maxRecDepth 100000
set_option maxHeartbeats 4000000
namespace KL
open PySem PySem.Spec PyProof.Rows L2 NdefX SX
abbrev sBag : Stmt := top 20
abbrev sDraw : Stmt := top 21
abbrev sAt : Stmt := top 22
abbrev sSpread : Stmt := top 23
abbrev sTopsOf : Stmt := top 27
theorem scBag : FnScope ["_law_cell"] ["_law_cell"] (defScope sBag) := ⟨rfl, rfl, rfl, by decide +kernel, rfl, by decide +kernel, by decide +kernel⟩
theorem scDraw : FnScope ["_law_pool", "_law_limit", "_law_drawn", "_law_mixed"] ["_law_pool", "_law_limit"] (defScope sDraw) := ⟨rfl, rfl, rfl, by decide +kernel, rfl, by decide +kernel, by decide +kernel⟩
theorem scAt : FnScope ["_law_script", "_law_k"] ["_law_script", "_law_k"] (defScope sAt) := ⟨rfl, rfl, rfl, by decide +kernel, rfl, by decide +kernel, by decide +kernel⟩
section
variable {P : Program} {w : World} {K : PySem.W.Frag} {mg : Str → Option Value} {base : Heap} {f : Addr} {fd : FuncData}
theorem ok_bag (F : Fun K "_law_bag" "_law_bag" sBag f fd) : FnOk P w K mg base CX0 1 f fd ["_law_cell"] spBag := by
  refine F.ok scBag (fun vs H Q E h => ?_) (fun cdv A outer s H vs Q E hr h => ?_)
  · obtain ⟨c, rfl, _⟩ := h
    rfl
  · obtain ⟨c, rfl, k⟩ := h
    refine ⟨_, pss_one (ps_ret (pe_newL (pa_cons (pv 0) (pa_cons pe_int (pa_cons (pe_cmpR op_ge (pv 0) (pe_op op_pow pe_int pe_int) (nomark _)) pa_nil))))), ?_⟩
    refine ⟨_, rfl, _, rfl, _, _, rfl, rfl, ⟨by decide, by decide, by decide⟩, _, _, rfl, rfl, by show 3 ≤ sizeLine; decide, fun p H2 s2 hp e2 => ?_⟩
    exact k p H2 _ s2 hp ⟨_, _, e2⟩
theorem ok_at (F : Fun K "_law_at_of" "_law_at_of" sAt f fd) (ml : mg "len" = none) : FnOk P w K mg base CX0 1 f fd ["_law_script", "_law_k"] (spAt K) := by
  refine F.ok scAt (fun vs H Q E h => ?_) (fun cdv A outer s H vs Q E hr h => ?_)
  · obtain ⟨a, ns, k, rfl, _⟩ := h
    rfl
  · obtain ⟨a, ns, k, rfl, hs, q⟩ := h
    refine ⟨_, pss_cons (ps_if (pt_cmpR op_lt (pv 1) (pe_callB call_len_seq (by rfl) ml PySem.boot_len (pa_cons (pv 0) pa_nil)) (nomark _)) (pss_one (ps_ret (pe_ix ix_list (pv 0) (pv 1) (fun _ _ => rfl)))) pss_nil) (pss_one (ps_ret pe_int)), ?_⟩
    refine ⟨_, rfl, _, rfl, a, _, rfl, .inl hs, _, _, rfl, rfl, _, rfl, ite2 (fun e => ?_) (fun e => q _)⟩
    have hk := of_decide_eq_true e
    rw [List.length_map] at hk
    have hk : k < ns.length := by omega
    exact ⟨_, rfl, _, rfl, a, _, _, _, rfl, rfl, hs, atI_nat (by rw [List.getElem?_map, List.getElem?_eq_getElem hk]; rfl), q _⟩
theorem ok_draw (F : Fun K "_law_draw" "_law_draw" sDraw f fd) (mi : mg "int" = none) : FnOk P w K mg base CX0 1 f fd ["_law_pool", "_law_limit"] spDraw := by
  refine F.ok scDraw (fun vs H Q E h => ?_) (fun cdv A outer s H vs Q E hr h => ?_)
  · obtain ⟨p, m, b, rfl, _⟩ := h
    rfl
  · obtain ⟨p, m, b, rfl, ⟨c, n, hp⟩, h0, h1, k⟩ := h
    refine ⟨_, pss_cons (ps_asg (pe_op op_add (pe_ix ix_list (pv 0) pe_int (fun _ _ => rfl)) pe_int) (pg_sub (pv 0) pe_int set_list))
      (pss_cons (ps_if (pt_truth (pe_ix ix_list (pv 0) pe_int (fun _ _ => rfl)) (by intro _; rfl))
        (pss_cons (ps_set (i := 2) scDraw.nd rfl (Or.inl rfl) (pe_op op_modN (pe_callTy call_int1 (by rfl) mi (by decide +kernel) (pa_cons (pe_ix ix_list (pv 0) pe_int (fun _ _ => rfl)) pa_nil)) (pv 1)))
        (pss_cons (ps_asg (pe_op op_fdivN (pe_callTy call_int1 (by rfl) mi (by decide +kernel) (pa_cons (pe_ix ix_list (pv 0) pe_int (fun _ _ => rfl)) pa_nil)) (pv 1)) (pg_sub (pv 0) pe_int set_list))
        (pss_one (ps_ret (pv 2))))) pss_nil)
      (pss_cons (ps_set (i := 3) scDraw.nd rfl (Or.inl rfl) (pe_op op_modN (pe_callTy call_int1 (by rfl) mi (by decide +kernel) (pa_cons
        (pe_op op_add (pe_op op_add (pe_op op_mul (pe_ix ix_list (pv 0) pe_int (fun _ _ => rfl)) pe_int) (pe_op op_mul (pe_ix ix_list (pv 0) pe_int (fun _ _ => rfl)) pe_int)) pe_int) pa_nil)) pe_int))
      (pss_one (ps_ret (pe_op op_modN (pe_op op_fdivN (pe_callTy call_int1 (by rfl) mi (by decide +kernel) (pa_cons (pe_op op_modN (pe_op op_pow (pv 3) pe_int) pe_int) pa_nil)) pe_int) (pv 1)))))), ?_⟩
    -- pool[1] = pool[1] + 1
    refine ⟨_, rfl, p, _, _, _, rfl, rfl, SqL.of hp, atI_nat (j := 1) rfl, _, _, rfl, rfl, _, rfl, p, _, _, 1, rfl, rfl, hp, rfl, ?_⟩
    have hp1 : (upd H p (.lst [.int c, .int (n + 1), .bl b])) p = some (.lst [.int c, .int (n + 1), .bl b]) := upd_same
    have hb1 : But p H (upd H p (.lst [.int c, .int (n + 1), .bl b])) := But.upd
    refine ⟨_, rfl, p, _, _, _, rfl, rfl, SqL.of hp1, atI_nat (j := 2) rfl, b, rfl, ?_⟩
    cases b with
    | true =>
      refine iteT ?_
      refine ⟨_, rfl, p, _, _, _, rfl, rfl, SqL.of hp1, atI_nat (j := 0) rfl, .inl ⟨_, rfl, ?_⟩⟩
      refine ⟨_, rfl, _, _, rfl, rfl, by omega, ?_⟩
      refine ⟨_, rfl, p, _, _, _, rfl, rfl, SqL.of hp1, atI_nat (j := 0) rfl, .inl ⟨_, rfl, ?_⟩⟩
      refine ⟨_, rfl, _, _, rfl, rfl, ⟨by omega, by omega⟩, _, rfl, p, _, _, 0, rfl, rfl, hp1, rfl, ?_⟩
      exact ⟨_, rfl, k _ _ (Int.fmod_nonneg_of_pos _ h0) (Int.fmod_lt_of_pos _ h0) (hb1.trans But.upd) ⟨_, _, upd_same⟩⟩
    | false =>
      refine iteF ?_
      refine ⟨_, rfl, p, _, _, _, rfl, rfl, SqL.of hp1, atI_nat (j := 0) rfl, _, _, rfl, rfl, .inr (by decide), ?_⟩
      refine ⟨_, rfl, p, _, _, _, rfl, rfl, SqL.of hp1, atI_nat (j := 1) rfl, _, _, rfl, rfl, .inr (by decide), _, _, rfl, rfl, _, _, rfl, rfl, .inl ⟨_, rfl, ?_⟩⟩
      refine ⟨_, _, rfl, rfl, (by show (2147483647 : Int) ≠ 0; decide), ?_⟩
      have g0 := Int.fmod_nonneg_of_pos (c * 7919 + (n + 1) * 104729 + 13) (show (0 : Int) < 2147483647 by decide)
      have g1 := Int.fmod_lt_of_pos (c * 7919 + (n + 1) * 104729 + 13) (show (0 : Int) < 2147483647 by decide)
      refine ⟨_, rfl, _, _, rfl, rfl, ⟨by decide, by decide, by omega⟩, _, _, rfl, rfl, (by show (2147483647 : Int) ≠ 0; decide), .inl ⟨_, rfl, ?_⟩⟩
      refine ⟨_, _, rfl, rfl, ⟨by decide, by decide⟩, _, rfl, _, _, rfl, rfl, by omega, ?_⟩
      exact k _ _ (Int.fmod_nonneg_of_pos _ h0) (Int.fmod_lt_of_pos _ h0) hb1 ⟨_, _, hp1⟩
end
end KL

set_option Elab.async false
set_option linter.all false
set_option maxRecDepth 100000
set_option maxHeartbeats 4000000
namespace KL
open PySem PySem.Spec PyProof.Rows L2 NdefX SX
section
variable {P : Program} {w : World} {K : PySem.W.Frag} {mg : Str → Option Value} {base : Heap} {f : Addr} {fd : FuncData}
def menu : List (List Int) := [[0], [1], [2], [4], [9], [1, 1], [1, 2], [2, 1], [2, 2], [0, 3], [3, 3], [1, 1, 1], [1, 2, 1], [0, 1, 2]]
def spTopsOf (K : PySem.W.Frag) : Sp := fun vs H Q _ => ∃ (p : Addr) (b : Bool), vs = [.ref p] ∧ Bag H p b ∧ ∀ (t : Addr) (i : Nat) (o : List Int) H', menu[i]? = some o → But p H H' → Bag H' p b → SqT K H' t (o.map V.int) → Q (.ref t) H'
theorem scTopsOf : FnScope ["_law_pool", "_law_menu"] ["_law_pool"] (defScope sTopsOf) := ⟨rfl, rfl, rfl, by decide +kernel, rfl, by decide +kernel, by decide +kernel⟩
theorem ok_topsOf {fD : Addr} {dD : FuncData} (F : Fun K "_law_tops_of" "_law_tops_of" sTopsOf f fd) (FD : Fun K "_law_draw" "_law_draw" sDraw fD dD) (bD : Binds K dD ["_law_pool", "_law_limit"] []) (gD : mg "_law_draw" = some (.ref fD)) (GD : FnOk P w K mg base CX0 1 fD dD ["_law_pool", "_law_limit"] spDraw) :
    FnOk P w K mg base CX0 2 f fd ["_law_pool"] (spTopsOf K) := by
  refine F.ok scTopsOf (fun vs H Q E h => ?_) (fun cdv A outer s H vs Q E hr h => ?_)
  · obtain ⟨p, b, rfl, _⟩ := h
    rfl
  · obtain ⟨p, b, rfl, hB, k⟩ := h
    refine ⟨_, (pss_cons (ps_set (i := 1) scTopsOf.nd rfl (Or.inl rfl) (pe_newL (pa_cons (pe_newT (pa_cons pe_int pa_nil)) (pa_cons (pe_newT (pa_cons pe_int pa_nil)) (pa_cons (pe_newT (pa_cons pe_int pa_nil)) (pa_cons (pe_newT (pa_cons pe_int pa_nil)) (pa_cons (pe_newT (pa_cons pe_int pa_nil)) (pa_cons (pe_newT (pa_cons pe_int (pa_cons pe_int pa_nil))) (pa_cons (pe_newT (pa_cons pe_int (pa_cons pe_int pa_nil))) (pa_cons (pe_newT (pa_cons pe_int (pa_cons pe_int pa_nil))) (pa_cons (pe_newT (pa_cons pe_int (pa_cons pe_int pa_nil))) pa_nil)))))))))))
      (pss_cons (ps_set (i := 1) scTopsOf.nd rfl (Or.inl rfl) (pe_op op_catW (pv 1) (pe_newL (pa_cons (pe_newT (pa_cons pe_int (pa_cons pe_int pa_nil))) (pa_cons (pe_newT (pa_cons pe_int (pa_cons pe_int pa_nil))) (pa_cons (pe_newT (pa_cons pe_int (pa_cons pe_int (pa_cons pe_int pa_nil)))) (pa_cons (pe_newT (pa_cons pe_int (pa_cons pe_int (pa_cons pe_int pa_nil)))) (pa_cons (pe_newT (pa_cons pe_int (pa_cons pe_int (pa_cons pe_int pa_nil)))) pa_nil))))))))
      (pss_one (ps_ret (pe_ix ix_list (pv 1) (pe_call GD (hr.mono (by decide)) (by rfl) gD FD.kp bD .nil pass0 (pa_cons (pv 0) (pa_cons pe_int pa_nil))) (fun _ _ => rfl)))))), ?_⟩
    refine ⟨(by show 1 ≤ sizeLine; decide), fun t1 H1 s1 n1 e1 => ?_⟩
    have E1 : Each K H1 [t1] [[0]] := .cons (.inl (.inl e1)) .nil
    refine ⟨(by show 1 ≤ sizeLine; decide), fun t2 H2 s2 n2 e2 => ?_⟩
    have E2 : Each K H2 ([t1] ++ [t2]) ([[0]] ++ [[1]]) := (E1.same s2).app (.cons (.inl (.inl e2)) .nil)
    refine ⟨(by show 1 ≤ sizeLine; decide), fun t3 H3 s3 n3 e3 => ?_⟩
    have E3 : Each K H3 ([t1, t2] ++ [t3]) ([[0], [1]] ++ [[2]]) := (E2.same s3).app (.cons (.inl (.inl e3)) .nil)
    refine ⟨(by show 1 ≤ sizeLine; decide), fun t4 H4 s4 n4 e4 => ?_⟩
    have E4 : Each K H4 ([t1, t2, t3] ++ [t4]) ([[0], [1], [2]] ++ [[4]]) := (E3.same s4).app (.cons (.inl (.inl e4)) .nil)
    refine ⟨(by show 1 ≤ sizeLine; decide), fun t5 H5 s5 n5 e5 => ?_⟩
    have E5 : Each K H5 ([t1, t2, t3, t4] ++ [t5]) ([[0], [1], [2], [4]] ++ [[9]]) := (E4.same s5).app (.cons (.inl (.inl e5)) .nil)
    refine ⟨(by show 2 ≤ sizeLine; decide), fun t6 H6 s6 n6 e6 => ?_⟩
    have E6 : Each K H6 ([t1, t2, t3, t4, t5] ++ [t6]) ([[0], [1], [2], [4], [9]] ++ [[1, 1]]) := (E5.same s6).app (.cons (.inl (.inl e6)) .nil)
    refine ⟨(by show 2 ≤ sizeLine; decide), fun t7 H7 s7 n7 e7 => ?_⟩
    have E7 : Each K H7 ([t1, t2, t3, t4, t5, t6] ++ [t7]) ([[0], [1], [2], [4], [9], [1, 1]] ++ [[1, 2]]) := (E6.same s7).app (.cons (.inl (.inl e7)) .nil)
    refine ⟨(by show 2 ≤ sizeLine; decide), fun t8 H8 s8 n8 e8 => ?_⟩
    have E8 : Each K H8 ([t1, t2, t3, t4, t5, t6, t7] ++ [t8]) ([[0], [1], [2], [4], [9], [1, 1], [1, 2]] ++ [[2, 1]]) := (E7.same s8).app (.cons (.inl (.inl e8)) .nil)
    refine ⟨(by show 2 ≤ sizeLine; decide), fun t9 H9 s9 n9 e9 => ?_⟩
    have E9 : Each K H9 ([t1, t2, t3, t4, t5, t6, t7, t8] ++ [t9]) ([[0], [1], [2], [4], [9], [1, 1], [1, 2], [2, 1]] ++ [[2, 2]]) := (E8.same s9).app (.cons (.inl (.inl e9)) .nil)
    refine ⟨(by show 9 ≤ sizeLine; decide), fun l1 K1 c1 nl1 el1 => ?_⟩
    refine ⟨_, rfl, ?_⟩
    refine ⟨(by show 2 ≤ sizeLine; decide), fun t10 H10 s10 n10 e10 => ?_⟩
    have E10 : Each K H10 [t10] [[0, 3]] := .cons (.inl (.inl e10)) .nil
    refine ⟨(by show 2 ≤ sizeLine; decide), fun t11 H11 s11 n11 e11 => ?_⟩
    have E11 : Each K H11 ([t10] ++ [t11]) ([[0, 3]] ++ [[3, 3]]) := (E10.same s11).app (.cons (.inl (.inl e11)) .nil)
    refine ⟨(by show 3 ≤ sizeLine; decide), fun t12 H12 s12 n12 e12 => ?_⟩
    have E12 : Each K H12 ([t10, t11] ++ [t12]) ([[0, 3], [3, 3]] ++ [[1, 1, 1]]) := (E11.same s12).app (.cons (.inl (.inl e12)) .nil)
    refine ⟨(by show 3 ≤ sizeLine; decide), fun t13 H13 s13 n13 e13 => ?_⟩
    have E13 : Each K H13 ([t10, t11, t12] ++ [t13]) ([[0, 3], [3, 3], [1, 1, 1]] ++ [[1, 2, 1]]) := (E12.same s13).app (.cons (.inl (.inl e13)) .nil)
    refine ⟨(by show 3 ≤ sizeLine; decide), fun t14 H14 s14 n14 e14 => ?_⟩
    have E14 : Each K H14 ([t10, t11, t12, t13] ++ [t14]) ([[0, 3], [3, 3], [1, 1, 1], [1, 2, 1]] ++ [[0, 1, 2]]) := (E13.same s14).app (.cons (.inl (.inl e14)) .nil)
    refine ⟨(by show 5 ≤ sizeLine; decide), fun l2 K2 c2 nl2 el2 => ?_⟩
    have sc : Same K1 K2 := (Same.trans s10 (Same.trans s11 (Same.trans s12 (Same.trans s13 (Same.trans s14 c2)))))
    refine ⟨l1, l2, _, _, rfl, rfl, sc _ _ el1, el2, (by show 14 ≤ sizeLine; decide), fun l3 K3 c3 nl3 el3 => ?_⟩
    have sh : Same H K3 := Same.trans (Same.trans s1 (Same.trans s2 (Same.trans s3 (Same.trans s4 (Same.trans s5 (Same.trans s6 (Same.trans s7 (Same.trans s8 (Same.trans s9 c1))))))))) (sc.trans c3)
    have EE : Each K K3 ([t1, t2, t3, t4, t5, t6, t7, t8, t9] ++ [t10, t11, t12, t13, t14]) menu := (E9.same (c1.trans (sc.trans c3))).app (E14.same (c2.trans c3))
    have el3' : K3 l3 = some (.lst (([t1, t2, t3, t4, t5, t6, t7, t8, t9] ++ [t10, t11, t12, t13, t14]).map V.ref)) := el3
    have nlp : l3 ≠ p := (hB.same (Same.trans (Same.trans s1 (Same.trans s2 (Same.trans s3 (Same.trans s4 (Same.trans s5 (Same.trans s6 (Same.trans s7 (Same.trans s8 (Same.trans s9 c1))))))))) sc)).ne nl3
    refine ⟨_, rfl, _, rfl, p, 14, b, rfl, hB.same sh, by decide, by decide, fun r K4 h0 h14 b4 hB4 => ?_⟩
    obtain ⟨i, rfl⟩ : ∃ i : Nat, r = (i : Int) := ⟨r.toNat, (Int.toNat_of_nonneg h0).symm⟩
    obtain ⟨o, ho⟩ : ∃ o, menu[i]? = some o := ⟨_, List.getElem?_eq_getElem (show i < 14 by omega)⟩
    obtain ⟨tt, htt⟩ : ∃ tt, ([t1, t2, t3, t4, t5, t6, t7, t8, t9] ++ [t10, t11, t12, t13, t14] : List Addr)[i]? = some tt := ⟨_, List.getElem?_eq_getElem (show i < 14 by omega)⟩
    obtain ⟨o', ho', hto⟩ := EE.get htt
    obtain rfl : o' = o := Option.some.inj (ho'.symm.trans ho)
    have hbag := fun q (hq : K3 q = none) => (hB.same sh).ne hq
    refine ⟨l3, _, _, _, rfl, rfl, SqL.of (b4 _ _ el3' nlp), atI_nat (by rw [List.getElem?_map, htt]; rfl), ?_⟩
    refine k tt i o' K4 ho (fun c u e n => b4 _ _ (sh _ _ e) n) hB4 ?_
    obtain ⟨c', n', eB⟩ := hB.same sh
    exact sqT_ne eB (fun _ z => nomatch z) (fun _ _ z => nomatch z) (fun c u e n => b4 _ _ e n) hto

end
end KL

set_option Elab.async false
set_option linter.all false
set_option maxRecDepth 100000
set_option maxHeartbeats 4000000
namespace KL
open PySem PySem.Spec PyProof.Rows L2 NdefX SX
/-- tuple + tuple, whatever they hold -/
def rCatU (K : PySem.W.Frag) : R2 := fun x y H Q => ∃ a b xs ys, x = .ref a ∧ y = .ref b ∧ SqT K H a xs ∧ SqT K H b ys ∧ xs.length + ys.length ≤ sizeLine ∧ ∀ p H2, Same H H2 → SqT K H2 p (xs ++ ys) → Q (.ref p) H2
theorem op_catU {X : Cx} : OpR X (binaryOp .Add) (rCatU X.K) := fun pins s σ H x y v u Q I rx ry ⟨a, b, xs, ys, e1, e2, h1, h2, hz, q⟩ =>
  op_catA pins s σ H x y v u Q I rx ry ⟨a, b, xs, ys, e1, e2, h1, h2, hz, fun z => q b H (Same.refl H) (by rw [z]; exact h2), fun _ z => q a H (Same.refl H) (by rw [z, List.append_nil]; exact h1),
    fun _ _ p hp => q p _ (same_upd hp) (.inl (.inl upd_same))⟩
def spSpread (K : PySem.W.Frag) : Sp := fun vs H Q _ => ∃ (a : Addr) (ts : List Int), vs = [.ref a] ∧ SqL K H a (ts.map V.int) ∧ Few ts ∧ ∀ p rs H', Same H H' → H' p = some (.lst (rs.map V.ref)) → Each K H' rs (below ts) → Q (.ref p) H'
section
variable {P : Program} {w : World} {K : PySem.W.Frag} {mg : Str → Option Value} {base : Heap} {f : Addr} {fd : FuncData}
abbrev nSpread : List Str := ["_law_tops", "_law_found", "_law_top", "_law_longer", "_law_row", "_law_level"]
theorem scSpread : FnScope nSpread ["_law_tops"] (defScope sSpread) := ⟨rfl, rfl, rfl, by decide +kernel, rfl, by decide +kernel, by decide +kernel⟩
theorem at_ref {rs : List Addr} {i : Nat} {v : V} (h : (rs.map V.ref)[i]? = some v) : ∃ r, v = .ref r ∧ rs[i]? = some r := by
  rw [List.getElem?_map] at h
  cases e : rs[i]? with
  | none => rw [e] at h; cases h
  | some r => rw [e] at h; cases h; exact ⟨r, rfl, rfl⟩
theorem ok_spread (F : Fun K "_law_spread" "_law_spread" sSpread f fd) (mr : mg "range" = none) : FnOk P w K mg base CX0 1 f fd ["_law_tops"] (spSpread K) := by
  refine F.ok scSpread (fun vs H Q E h => ?_) (fun cdv A outer s H vs Q E hr h => ?_)
  · obtain ⟨a, ts, rfl, _⟩ := h
    rfl
  · obtain ⟨a, ts, rfl, hS, hF, k⟩ := h
    refine ⟨_, pss_cons (ps_set (i := 1) scSpread.nd rfl (Or.inl rfl) (pe_newL (pa_cons (pe_newT pa_nil) pa_nil)))
      (pss_cons (ps_for PassesOwn.never rfl (pi_list (pv 0)) (pg_name (i := 2) scSpread.nd rfl (Or.inl rfl))
        (pss_cons (ps_set (i := 3) scSpread.nd rfl (Or.inl rfl) (pe_newL pa_nil))
        (pss_cons (ps_for PassesOwn.never rfl (pi_list (pv 1)) (pg_name (i := 4) scSpread.nd rfl (Or.inr rfl))
          (pss_one (ps_set (i := 3) scSpread.nd rfl (Or.inl rfl) (pe_op op_catW (pv 3) (pe_lc (own := [("_law_level", 5)]) (g := gName 5) (tt := tYes) (te := tOp (rCatU K) (tVar 4) (tNewT (tCons (tVar 5) tNil))) rfl scSpread.nd
            (pi_range1 rfl mr (pa_cons (pe_op op_add (pv 2) pe_int) pa_nil)) (blkOk_by (N := nSpread) (sc := defScope sSpread) (by decide +kernel)) (fun _ _ _ _ _ => pg_name (i := 5) scSpread.nd rfl (Or.inl rfl)) (fun _ _ _ _ _ => pts_nil)
            (fun _ _ _ _ _ => pe_op op_catU (pv 4) (pe_newT (pa_cons (pv 5) pa_nil))))))))
        (pss_one (ps_set (i := 1) scSpread.nd rfl (Or.inl rfl) (pv 3))))))
      (pss_one (ps_ret (pv 1)))), ?_⟩
    refine ⟨Nat.zero_le _, fun t0 H1 s1 nt et => ⟨(by show 1 ≤ sizeLine; decide), fun l0 H2 s2 nl el => ?_⟩⟩
    refine ⟨_, rfl, a, rfl, ⟨_, (s1.trans s2).seq hS⟩, for_list (K := K) (a := a) (xs := ts.map V.int) (fun i σ H' => ∃ (l : Addr) (rs : List Addr) (u2 u3 u4 : Option V), σ = [some (.ref a), some (.ref l), u2, u3, u4, none] ∧ Same H H' ∧ H' l = some (.lst (rs.map V.ref)) ∧ Each K H' rs (below (ts.take i)))
      ⟨l0, [t0], none, none, none, rfl, s1.trans s2, el, .cons (.inl (.inl (s2 _ _ et))) .nil⟩ (fun i σ H' _ ⟨_, _, _, _, _, _, s, _⟩ => s.seq hS) ?_ ?_⟩
    · rintro i x σ H' hx ⟨l, rs, u2, u3, u4, rfl, sH, hl, hE⟩
      obtain ⟨t, rfl, ht⟩ := at_int hx
      have ht9 := hF.2 t (List.mem_of_getElem? ht)
      have hi3 : i < 3 := Nat.lt_of_lt_of_le (List.getElem?_eq_some_iff.mp ht).1 hF.1
      have hb1 : (below (ts.take i)).length * (t + 1).toNat ≤ 10000 := by
        refine Nat.le_trans (Nat.mul_le_mul (below_len hF.2 i) (show (t + 1).toNat ≤ 10 by omega)) ?_
        have : 10 ^ i ≤ 10 ^ 2 := Nat.pow_le_pow_right (by decide) (by omega)
        omega
      refine ⟨Nat.zero_le _, fun l3 H3 s3 nl3 el3 => ?_⟩
      refine ⟨_, rfl, l, rfl, ⟨_, SqL.of (s3 _ _ hl)⟩, for_list (K := K) (a := l) (xs := rs.map V.ref) (fun j σ H4 => ∃ (l4 : Addr) (rs4 : List Addr) (u4 : Option V), σ = [some (.ref a), some (.ref l), some (.int t), some (.ref l4), u4, none] ∧ Same H' H4 ∧ H4 l4 = some (.lst (rs4.map V.ref)) ∧ Each K H4 rs4 (ext ((below (ts.take i)).take j) t))
        ⟨l3, [], u4, rfl, s3, el3, .nil⟩ (fun j σ H4 _ ⟨_, _, _, _, s, _⟩ => SqL.of (s _ _ hl)) ?_ ?_⟩
      · rintro j x σ H4 hx ⟨l4, rs4, u4, rfl, s4, h4, hE4⟩
        obtain ⟨r, rfl, hr'⟩ := at_ref hx
        obtain ⟨o, ho, hro⟩ := hE.get hr'
        have hol := below_mem (Nat.le_of_lt (List.getElem?_eq_some_iff.mp ht).1) (List.mem_of_getElem? ho)
        refine ⟨_, rfl, _, rfl, _, _, rfl, rfl, t + 1, rfl, by omega, by omega, fun D nD => ?_⟩
        refine lc_range (lo := 0) (n := (t + 1).toNat) (fun m H5 => ∃ rs5, Same H4 H5 ∧ H5 D = some (.lst (rs5.map V.ref)) ∧ Each K H5 rs5 (extOne o m)) ⟨[], same_upd nD, upd_same, .nil⟩ ?_ ?_
        · rintro m H5 hm ⟨rs5, s5, g5, hE5⟩
          refine ⟨rfl, ?_⟩
          refine ⟨_, rfl, _, rfl, (by show 1 ≤ sizeLine; decide), fun t6 H6 s6 n6 e6 => ?_⟩
          refine ⟨r, t6, _, _, rfl, rfl, Same.sqt (s4.trans (s5.trans s6)) hro, .inl (.inl e6), ?_, fun p H7 s7 hp => ?_⟩
          · rw [List.length_map, hol, sizeLine_eq]
            show i + 1 ≤ _
            omega
          refine ⟨_, (s6.trans s7) _ _ g5, ?_, rs5 ++ [p], ?_, ?_, ?_⟩
          · rw [List.length_map, hE5.len, sizeLine_eq]
            unfold extOne
            rw [List.length_map, List.length_range]
            omega
          · intro b u e
            rw [upd_ne (ne_of_none e nD)]
            exact (s5.trans (s6.trans s7)) _ _ e
          · rw [upd_same, List.map_append]
            rfl
          · rw [extOne_succ]
            refine ((hE5.same (s6.trans s7)).app (.cons ?_ .nil)).upd ((s6.trans s7) _ _ g5)
            rw [List.map_append]
            have hp' : SqT K H7 p (o.map V.int ++ [V.int (0 + (m : Int))]) := hp
            rw [Int.zero_add] at hp'
            exact hp'
        · rintro H5 ⟨rs5, s5, g5, hE5⟩
          refine ⟨l4, D, _, _, rfl, rfl, s5 _ _ h4, g5, ?_, fun q H6 s6 nq eq => ?_⟩
          · rw [List.length_map, List.length_map, hE4.len, hE5.len, sizeLine_eq]
            have := ext_bound (t := t) ho (Nat.le_refl _)
            rw [List.length_append] at this
            omega
          · refine ⟨q, rs4 ++ rs5, _, rfl, s4.trans (s5.trans s6), by rw [List.map_append]; exact eq, ?_⟩
            rw [ext_take ho]
            exact (hE4.same (s5.trans s6)).app (hE5.same s6)
      · rintro σ H4 ⟨l4, rs4, u4, rfl, s4, h4, hE4⟩
        refine ⟨_, rfl, l4, rs4, _, _, _, rfl, sH.trans s4, h4, ?_⟩
        rw [List.length_map, hE.len, List.take_length] at hE4
        rw [below_take ht]
        exact hE4
    · rintro σ H' ⟨l, rs, u2, u3, u4, rfl, sH, hl, hE⟩
      rw [List.length_map, List.take_length] at hE
      exact ⟨_, rfl, k l rs H' sH hl hE⟩
end
end KL

set_option Elab.async false
set_option linter.all false
set_option maxRecDepth 100000
set_option maxHeartbeats 4000000
namespace KL
open PySem PySem.Spec PyProof.Rows L2 NdefX SX
abbrev sDue : Stmt := top 28
/-- what a text comes to, as the law writes it down -/
def resD : Rd3 → PyData
  | .text i => .list [.str "text", .int (i : Int)]
  | .number n => .list [.str "number", .int n]
  | .tops ts => .list [.str "tops", .tuple (ts.map PyData.int)]
theorem ext_foldl : ∀ (ts : List Int) (os : List (List Int)) (c : Int), (∀ t ∈ ts, 0 ≤ t) → (os.length : Int) = c → ((ts.foldl ext os).length : Int) = ts.foldl (fun c t => c * (t + 1)) c
  | [], _, _, _, h => h
  | t :: r, os, c, h, e => by
    have ht := h t List.mem_cons_self
    refine ext_foldl r (ext os t) (c * (t + 1)) (fun x hx => h x (List.mem_cons_of_mem _ hx)) ?_
    rw [ext_len, ← e, Int.natCast_mul, Int.toNat_of_nonneg (by omega)]
theorem below_cnt {ts : List Int} (h : ∀ t ∈ ts, 0 ≤ t) : ((below ts).length : Int) = cnt ts := ext_foldl ts [[]] 1 h rfl
theorem digits_fit {ws : List Str} (h : badFrom ws 0 = none) : ∀ t ∈ ws.map digOf, 0 ≤ t ∧ t ≤ 9 := by
  intro t ht
  obtain ⟨w, hw, rfl⟩ := List.mem_map.mp ht
  exact (dig_ok (all_dig h w hw)).2.2
theorem top_none {ts : List Int} (h : ∀ t ∈ ts, 0 ≤ t ∧ t ≤ 9) : badTop ts = none := by
  induction ts with
  | nil => rfl
  | cons x r ih =>
    rw [top_cons, if_pos (h x List.mem_cons_self)]
    exact ih fun t ht => h t (List.mem_cons_of_mem _ ht)
theorem readG_text {z : Str} {i : Nat} (h : badFrom (Txt.split z blank) 0 = some i) : readG z = .text i := by
  unfold readG
  rw [h]
theorem readG_long {z : Str} (h : badFrom (Txt.split z blank) 0 = none) (hl : 3 < (Txt.split z blank).length) : readG z = .number ((Txt.split z blank).length : Int) := by
  unfold readG
  rw [h, chk_len (ts := (Txt.split z blank).map digOf) (by rw [List.length_map]; omega), List.length_map]
theorem split_pos' (z : Str) : 1 ≤ (Txt.split z blank).length := PyProof.Rows.split_pos z blank
theorem readG_rest {z : Str} (h : badFrom (Txt.split z blank) 0 = none) (hl : (Txt.split z blank).length ≤ 3) :
    readG z = if 16 < ((below ((Txt.split z blank).map digOf)).length : Int) then .number ((below ((Txt.split z blank).map digOf)).length : Int) else .tops ((Txt.split z blank).map digOf) := by
  have hf := digits_fit h
  have hp := split_pos' z
  unfold readG
  rw [h, chk_cnt (ts := (Txt.split z blank).map digOf) (by rw [List.length_map]; omega) (top_none hf), below_cnt fun t ht => (hf t ht).1]
  by_cases hc : 16 < cnt ((Txt.split z blank).map digOf)
  · rw [if_pos hc, if_pos hc]
  · rw [if_neg hc, if_neg hc]
abbrev tenDigits : Str := "0123456789"
theorem ten_cps : tenDigits.cps.toList = [48, 49, 50, 51, 52, 53, 54, 55, 56, 57] := by decide +kernel
theorem one_dig {w : Str} (h : inV (.str w) digVs = true) : ∃ c, w = ⟨#[c]⟩ ∧ c ∈ tenDigits.cps.toList := by
  have hw : w = "0" ∨ w = "1" ∨ w = "2" ∨ w = "3" ∨ w = "4" ∨ w = "5" ∨ w = "6" ∨ w = "7" ∨ w = "8" ∨ w = "9" := by
    simp only [inV, digVs, List.map_cons, List.map_nil, List.any_cons, List.any_nil, eqV, Bool.or_false, Bool.or_eq_true, beq_iff_eq] at h
    rcases h with h | h | h | h | h | h | h | h | h | h <;> simp [h.symm]
  rw [ten_cps]
  rcases hw with rfl | rfl | rfl | rfl | rfl | rfl | rfl | rfl | rfl | rfl
  · exact ⟨48, by decide +kernel, by decide⟩
  · exact ⟨49, by decide +kernel, by decide⟩
  · exact ⟨50, by decide +kernel, by decide⟩
  · exact ⟨51, by decide +kernel, by decide⟩
  · exact ⟨52, by decide +kernel, by decide⟩
  · exact ⟨53, by decide +kernel, by decide⟩
  · exact ⟨54, by decide +kernel, by decide⟩
  · exact ⟨55, by decide +kernel, by decide⟩
  · exact ⟨56, by decide +kernel, by decide⟩
  · exact ⟨57, by decide +kernel, by decide⟩
theorem dig_of {c : Nat} (h : c ∈ tenDigits.cps.toList) : inV (.str ⟨#[c]⟩) digVs = true := by
  rw [ten_cps] at h
  simp only [List.mem_cons, List.not_mem_nil, or_false] at h
  rcases h with rfl | rfl | rfl | rfl | rfl | rfl | rfl | rfl | rfl | rfl <;> decide +kernel
theorem len_one {w : Str} (h : w.length = 1) : ∃ c, w = ⟨#[c]⟩ := by
  obtain ⟨cps⟩ := w
  obtain ⟨l⟩ := cps
  match l, h with
  | [c], _ => exact ⟨c, rfl⟩
def spDue (K : PySem.W.Frag) : Sp := fun vs H Q _ => ∃ z : Str, vs = [.str z] ∧ z.length ≤ 900000 ∧ ∀ p H', Same H H' → Dp K H' (.ref p) (resD (readG z)) → Q (.ref p) H'
section
variable {P : Program} {w : World} {K : PySem.W.Frag} {mg : Str → Option Value} {base : Heap} {f fS : Addr} {fd dS : FuncData}
abbrev nDue : List Str := ["_law_text", "_law_words", "_law_at", "_law_tops", "_law_count", "_law_word"]
theorem scDue : FnScope nDue ["_law_text"] (defScope sDue) := ⟨rfl, rfl, rfl, by decide +kernel, rfl, by decide +kernel, by decide +kernel⟩
theorem ok_due (F : Fun K "_law_due" "_law_due" sDue f fd) (mr : mg "range" = none) (ml : mg "len" = none) (mi : mg "int" = none) (mt : mg "tuple" = none)
    (FS : Fun K "_law_spread" "_law_spread" sSpread fS dS) (bS : Binds K dS ["_law_tops"] []) (gS : mg "_law_spread" = some (.ref fS)) (GS : FnOk P w K mg base CX0 1 fS dS ["_law_tops"] (spSpread K)) : FnOk P w K mg base CX0 2 f fd ["_law_text"] (spDue K) := by
  refine F.ok scDue (fun vs H Q E h => ?_) (fun cdv A outer s H vs Q E hr h => ?_)
  · obtain ⟨z, rfl, _⟩ := h
    rfl
  · obtain ⟨z, rfl, hz, k⟩ := h
    refine ⟨_, pss_cons (ps_set (i := 1) scDue.nd rfl (Or.inl rfl) (pe_bm PySem.F.plainAttrs_str PySem.F.slot_str_split PySem.F.type_str_split mt_split (pv 0) (pa_cons pe_str pa_nil)))
      (pss_cons (ps_for PassesOwn.never rfl (pi_range1 rfl mr (pa_cons (pe_callB call_len_seq (by rfl) ml PySem.boot_len (pa_cons (pv 1) pa_nil)) pa_nil)) (pg_name (i := 2) scDue.nd rfl (Or.inl rfl))
        (pss_one (ps_if (PW.pt (pw_or (pt_cmpR op_ne (pe_callB call_len_str (by rfl) ml PySem.boot_len (pa_cons (pe_ix ix_list (pv 1) (pv 2) (fun _ _ => rfl)) pa_nil)) pe_int (nomark _))
            (pw_or1 (pt_cmpR op_notIn_sign (pe_ix ix_list (pv 1) (pv 2) (fun _ _ => rfl)) pe_str (by rfl)))))
          (pss_one (ps_ret (pe_newL (pa_cons pe_str (pa_cons (pv 2) pa_nil))))) pss_nil)))
      (pss_cons (ps_if (pt_cmpR op_gt (pe_callB call_len_seq (by rfl) ml PySem.boot_len (pa_cons (pv 1) pa_nil)) pe_int (nomark _))
        (pss_one (ps_ret (pe_newL (pa_cons pe_str (pa_cons (pe_callB call_len_seq (by rfl) ml PySem.boot_len (pa_cons (pv 1) pa_nil)) pa_nil))))) pss_nil)
      (pss_cons (ps_setLc (i := 3) (own := [("_law_word", 5)]) (g := gName 5) (tt := tYes) rfl scDue.nd rfl rfl (sw_true rfl rfl rfl (by decide +kernel)) (pi_list (pv 1)) (blkOk_by (N := nDue) (sc := defScope sDue) (by decide +kernel))
          (fun _ _ _ _ _ => pg_name (i := 5) scDue.nd rfl (Or.inl rfl)) (fun _ _ _ _ _ => pts_nil) (fun _ _ _ _ _ => pe_callTy call_int_str (by rfl) mi (by decide +kernel) (pa_cons (pv 5) pa_nil)))
      (pss_cons (ps_set (i := 4) scDue.nd rfl (Or.inl rfl) (pe_callB call_len_seq (by rfl) ml PySem.boot_len (pa_cons (pe_call GS hr (by rfl) gS FS.kp bS .nil pass0 (pa_cons (pv 3) pa_nil)) pa_nil)))
      (pss_one (ps_ret (pe_ifExp (pt_cmpR op_gt (pv 4) pe_int (nomark _)) (pe_newL (pa_cons pe_str (pa_cons (pv 4) pa_nil)))
        (pe_newL (pa_cons pe_str (pa_cons (pe_callTy call_tup (by rfl) mt (by decide +kernel) (pa_cons (pv 3) pa_nil)) pa_nil)))))))))), ?_⟩
    have hle := PyProof.Rows.split_le z blank
    refine ⟨_, rfl, rfl, _, _, rfl, rfl, by decide +kernel, by rw [sizeLine_eq]; omega, fun l hl => ?_⟩
    have s1 : Same H (upd H l (.lst ((Txt.split z blank).map V.str))) := same_upd hl
    have el : (upd H l (.lst ((Txt.split z blank).map V.str))) l = some (.lst ((Txt.split z blank).map V.str)) := upd_same
    refine ⟨_, rfl, l, _, rfl, .inl (SqL.of el), _, rfl, by omega, by rw [List.length_map]; omega, ?_⟩
    rw [List.length_map]
    refine for_range (lo := 0) (n := (Txt.split z blank).length) (fun i σ H' => ∃ u2 : Option V, σ = [some (.str z), some (.ref l), u2, none, none, none] ∧ H' = upd H l (.lst ((Txt.split z blank).map V.str)) ∧ badFrom (Txt.split z blank) 0 = badFrom ((Txt.split z blank).drop i) i) ⟨none, rfl, rfl, rfl⟩ ?_ ?_
    · rintro i σ H' hi ⟨u2, rfl, rfl, eq⟩
      rw [show (0 : Int) + (i : Int) = (i : Int) from Int.zero_add _]
      have hw : (Txt.split z blank)[i]? = some (Txt.split z blank)[i] := List.getElem?_eq_getElem hi
      have hat : atI ((Txt.split z blank).map V.str) (i : Int) = some (.str (Txt.split z blank)[i]) := atI_nat (by rw [List.getElem?_map, hw]; rfl)
      have hsh := PyProof.Rows.part_short (List.mem_of_getElem? hw)
      rw [drop_cons hw, bad_cons] at eq
      have out : inV (.str (Txt.split z blank)[i]) digVs = false → tNewL (tCons (tC (.str (PySem.Str.ofString "text"))) (tCons (tVar 2) tNil)) [some (.str z), some (.ref l), some (.int i), none, none, none] (upd H l (.lst ((Txt.split z blank).map V.str))) Q := fun hb => by
        rw [hb, if_neg Bool.false_ne_true] at eq
        refine ⟨_, rfl, (by show 2 ≤ sizeLine; decide), fun p H2 s2 np ep => k p H2 (s1.trans s2) ?_⟩
        rw [readG_text eq]
        exact .lst (SqL.of ep) (.cons (.str _) (.cons (.int _) .nil))
      have on : inV (.str (Txt.split z blank)[i]) digVs = true → ∃ u2 : Option V, [some (.str z), some (.ref l), some (.int i), none, none, none] = [some (V.str z), some (.ref l), u2, none, none, none] ∧ upd H l (.lst ((Txt.split z blank).map V.str)) = upd H l (.lst ((Txt.split z blank).map V.str)) ∧ badFrom (Txt.split z blank) 0 = badFrom ((Txt.split z blank).drop (i + 1)) (i + 1) := fun hb => by
        rw [hb, if_pos rfl] at eq
        exact ⟨_, rfl, rfl, eq⟩
      refine ⟨_, rfl, _, rfl, l, _, _, _, rfl, rfl, SqL.of el, hat, _, rfl, by rw [sizeLine_eq]; omega, rfl, _, rfl, ?_⟩
      by_cases h1 : (Txt.split z blank)[i].length = 1
      · rw [show decide (V.int (((Txt.split z blank)[i].length : Nat) : Int) = V.int 1) = true from decide_eq_true (by rw [h1]; rfl)]
        obtain ⟨c, hc⟩ := len_one h1
        refine ⟨_, rfl, _, rfl, l, _, _, _, rfl, rfl, SqL.of el, hat, c, tenDigits, by rw [hc], rfl, _, rfl, ?_⟩
        by_cases hm : c ∈ tenDigits.cps.toList
        · rw [decide_eq_true hm]
          exact on (by rw [hc]; exact dig_of hm)
        · rw [decide_eq_false hm]
          refine out ?_
          cases hb : inV (.str (Txt.split z blank)[i]) digVs with
          | false => rfl
          | true =>
            obtain ⟨c', e1, e2⟩ := one_dig hb
            rw [hc] at e1
            cases e1
            exact absurd e2 hm
      · rw [show decide (V.int (((Txt.split z blank)[i].length : Nat) : Int) = V.int 1) = false from decide_eq_false (fun z => h1 (by have := V.int.inj z; omega))]
        refine out ?_
        cases hb : inV (.str (Txt.split z blank)[i]) digVs with
        | false => rfl
        | true =>
          obtain ⟨c', e1, e2⟩ := one_dig hb
          rw [e1] at h1
          exact absurd rfl h1
    rintro σ H' ⟨u2, rfl, rfl, eq⟩
    rw [List.drop_length] at eq
    have eq : badFrom (Txt.split z blank) 0 = none := eq
    refine ⟨_, rfl, l, _, rfl, .inl (SqL.of el), _, _, rfl, rfl, _, rfl, ite2 (fun e3 => ?_) (fun e3 => ?_)⟩
    · have e3 := of_decide_eq_true e3
      rw [List.length_map] at e3
      refine ⟨_, rfl, l, _, rfl, .inl (SqL.of el), (by show 2 ≤ sizeLine; decide), fun p H2 s2 np ep => k p H2 (s1.trans s2) ?_⟩
      rw [readG_long eq (by omega)]
      rw [List.length_map] at ep
      exact .lst (SqL.of ep) (.cons (.str _) (.cons (.int _) .nil))
    have h3 : (Txt.split z blank).length ≤ 3 := by
      refine Nat.le_of_not_lt fun q => e3 (decide_eq_true ?_)
      rw [List.length_map]
      omega
    have hf := digits_fit eq
    have hFew : Few ((Txt.split z blank).map digOf) := ⟨by rw [List.length_map]; exact h3, hf⟩
    refine ⟨_, rfl, l, rfl, ⟨_, SqL.of el⟩, fun D nD => ?_⟩
    have nlD : l ≠ D := fun e => by rw [← e, upd_same] at nD; cases nD
    have nD0 : H D = none := by rw [upd_ne nlD.symm] at nD; exact nD
    refine lc_list (K := K) (a := l) (xs := (Txt.split z blank).map V.str) (fun i H' => Same H H' ∧ H' l = some (.lst ((Txt.split z blank).map V.str)) ∧ H' D = some (.lst ((((Txt.split z blank).take i).map digOf).map V.int)))
        ⟨s1.trans (same_upd nD), by rw [upd_ne nlD, upd_same], upd_same⟩ (fun i H' _ ⟨_, g, _⟩ => SqL.of g) ?_ ?_
    · rintro i x H' hx ⟨s2, g2, gD⟩
      rw [List.getElem?_map] at hx
      cases e : (Txt.split z blank)[i]? with
      | none => rw [e] at hx; cases hx
      | some wd =>
        rw [e] at hx
        cases hx
        have d := dig_ok (all_dig eq wd (List.mem_of_getElem? e))
        refine ⟨rfl, ?_⟩
        refine ⟨_, rfl, _, _, rfl, d.1, d.2.1, _, gD, ?_, fun b o eb => ?_, ?_, ?_⟩
        · rw [List.length_map, List.length_map, List.length_take, sizeLine_eq]
          omega
        · rw [upd_ne (ne_of_none eb nD0)]
          exact s2 b o eb
        · rw [upd_ne nlD]
          exact g2
        · rw [upd_same, List.take_add_one, e]
          simp
    · rintro H' ⟨s2, g2, gD⟩
      rw [List.length_map, List.take_length] at gD
      refine ⟨_, rfl, D, (Txt.split z blank).map digOf, rfl, SqL.of gD, hFew, fun p rs H2 s3 ep eps => ?_⟩
      refine ⟨p, rs.map V.ref, rfl, .inl (SqL.of ep), _, rfl, ?_⟩
      have el2 : rs.length = (below ((Txt.split z blank).map digOf)).length := eps.len
      have sg : Same H H2 := s2.trans s3
      have gD2 := s3 D _ gD
      rw [List.length_map, el2]
      refine ⟨_, _, rfl, rfl, _, rfl, ite2 (fun e3 => ?_) (fun e3 => ?_)⟩
      · have e3 := of_decide_eq_true e3
        refine ⟨_, rfl, (by show 2 ≤ sizeLine; decide), fun q H3 s4 nq eq2 => k q H3 (sg.trans s4) ?_⟩
        rw [readG_rest eq h3, if_pos e3]
        exact .lst (SqL.of eq2) (.cons (.str _) (.cons (.int _) .nil))
      · have e3 : ¬ 16 < ((below ((Txt.split z blank).map digOf)).length : Int) := fun q => e3 (decide_eq_true q)
        refine ⟨_, rfl, D, _, rfl, .inl (SqL.of gD2), fun t H3 s4 et => ⟨(by show 2 ≤ sizeLine; decide), fun q H4 s5 nq eq2 => k q H4 ((sg.trans s4).trans s5) ?_⟩⟩
        rw [readG_rest eq h3, if_neg e3]
        exact .lst (SqL.of eq2) (.cons (.str _) (.cons (.tup (et.ext s5) (dpInts _)) .nil))
end
end KL

set_option Elab.async false
set_option linter.all false
set_option maxRecDepth 100000
set_option maxHeartbeats 4000000
namespace KL
open PySem PySem.Spec PyProof.Rows L2 NdefX SX
abbrev sTold : Stmt := top 29
def spTold (K : PySem.W.Frag) : Sp := fun vs H Q _ => ∃ z : Str, vs = [.str z] ∧ z.length ≤ 900000 ∧ ∀ p H', Same H H' → Dp K H' (.ref p) (resD (readG z)) → Q (.ref p) H'
abbrev nTold : List Str := ["_law_text", "e"]
theorem scTold : FnScope nTold ["_law_text"] (defScope sTold) := ⟨rfl, rfl, rfl, by decide +kernel, rfl, by decide +kernel, by decide +kernel⟩
/-- what an `except` clause of the class C asks of K, and its reading of the field n -/
structure ClTxt (K : PySem.W.Frag) (mg : Str → Option Value) (nm n : Str) (C : Addr) : Prop where
  gC : mg nm = some (.ref C)
  xf : XfC K C
  no : PySem.W.findIn K (.ref C) n = some none
  ok : PySem.W.exmOne K (.ref C) (.ref C) = some true
theorem noOne {X : Cx} : L2.Takes X (fun _ _ _ _ => False) := fun _ _ x => by
  obtain ⟨_, _, _, _, _, _, _, _, _, _, _, _, _, _, _, _, z⟩ := x
  exact z.elim
section
variable {P : Program} {w : World} {K : PySem.W.Frag} {mg : Str → Option Value} {base : Heap} {f C N T p g : Addr} {mc : Value} {fd : FuncData}
theorem ok_told (F : Fun K "_law_told_of" "_law_told_of" sTold f fd) (GX : GTxt K C) (gG : mg "Grid" = some (.ref C)) (r : ClX.CRead K C mc) (c : ClX.CMet K C mc "read" p g) (GR : FnR P w K mg base (L2.CX P w) 6 g (spRead K C N T))
    (tT : ClTxt K mg "BadText" "at" T) (tN : ClTxt K mg "BadNumber" "n" N) (nt : PySem.W.exmOne K (.ref N) (.ref T) = some false) : FnOk P w K mg base CX0 7 f fd ["_law_text"] (spTold K) := by
  refine F.ok scTold (fun vs H Q E h => ?_) (fun cdv A outer s H vs Q E hr h => ?_)
  · obtain ⟨z, rfl, _⟩ := h
    rfl
  · obtain ⟨z, rfl, hz, k⟩ := h
    refine ⟨_, pss_one (ps_try_all (Wout := fun _ _ _ _ => False) (l := [(.ref T, 1, fun a cls d => _), (.ref N, 1, fun a cls d => _)])
      (tb := fun W => tRet (tNewL (tCons (tC (.str "tops")) (tCons (tFld K (tCMethS C (spRead K C N T) (WE W) (tC (.ref C)) (tCons (tVar 0) tNil)) "tops") tNil))))
      rfl rfl scTold.nd noOne
      (fun W pn xe tk _ => pss_one (ps_ret (pe_newL (pa_cons pe_str (pa_cons (pe_fld (pe_cmethS (pe_glob (v := .ref C) (by rfl) gG rfl) r c GR (hr.mono (by decide)) (fun σ => passAt tk σ) (pa_cons (pv 0) pa_nil)) rfl) pa_nil)))))
      (.cons ⟨rfl, by decide, Or.inl tT.gC⟩ rfl rfl (fun a oe cls d pn hz hf => pss_one (ps_ret (pe_newL (pa_cons pe_str (pa_cons (pe_xf tT.xf tT.no hz hf (pv 1)) pa_nil)))))
      (.cons ⟨rfl, by decide, Or.inl tN.gC⟩ rfl rfl (fun a oe cls d pn hz hf => pss_one (ps_ret (pe_newL (pa_cons pe_str (pa_cons (pe_xf tN.xf tN.no hz hf (pv 1)) pa_nil))))) .nil))), ?_⟩
    refine ⟨rfl, _, rfl, z, rfl, by omega, by have := PyProof.Rows.split_le z blank; omega, ?_⟩
    cases e : readG z with
    | text i =>
      refine fun d H' s nd ed => ⟨true, tT.ok, fun _ a na => ?_, fun h => nomatch h⟩
      refine ⟨_, rfl, rfl, rfl, d, _, _, rfl, ed, rfl, by show 2 ≤ sizeLine; decide, fun q H2 s2 nq eq => k q H2 (s.trans s2) ?_⟩
      rw [e]
      exact .lst (SqL.of eq) (.cons (.str _) (.cons (.int _) .nil))
    | number n =>
      refine fun d H' s nd ed => ⟨false, nt, (fun h => nomatch h), fun _ => ⟨true, tN.ok, fun _ a na => ?_, fun h => nomatch h⟩⟩
      refine ⟨_, rfl, rfl, rfl, d, _, _, rfl, ed, rfl, by show 2 ≤ sizeLine; decide, fun q H2 s2 nq eq => k q H2 (s.trans s2) ?_⟩
      rw [e]
      exact .lst (SqL.of eq) (.cons (.str _) (.cons (.int _) .nil))
    | tops ts =>
      rintro x H' s ⟨dx, t, p, rs, hx, ht, hp, hE⟩
      refine ⟨x, C, dx, _, _, rfl, hx, GX.cl, GX.nT, rfl, by show 2 ≤ sizeLine; decide, fun q H2 s2 nq eq => k q H2 (s.trans s2) ?_⟩
      rw [e]
      exact .lst (SqL.of eq) (.cons (.str _) (.cons (.tup (Same.sqt s2 ht) (dpInts _)) .nil))
end
end KL

set_option Elab.async false
set_option linter.all false
set_option maxRecDepth 100000
set_option maxHeartbeats 4000000
namespace KL
open PySem PySem.Spec PyProof.Rows L2 NdefX SX
theorem slice_le (z : Str) (lo hi : Option Int) : (Txt.slice z lo hi).length ≤ z.length := by
  rw [← C8.cutS_slice]
  unfold L2.cutS
  show (List.toArray _).size ≤ z.cps.size
  rw [List.size_toArray, List.length_take, List.length_drop]
  have : z.cps.toList.length = z.cps.size := Array.length_toList
  omega
/-- some texts of at most so many signs -/
def Wd (L : Nat) (xs : List V) : Prop := ∀ x ∈ xs, ∃ w : Str, x = .str w ∧ w.length ≤ L
theorem Wd.cut {L : Nat} {xs : List V} (h : Wd L xs) (lo hi : Option Int) : Wd L (cutV xs lo hi) := fun x hx => h x (List.mem_of_mem_drop (List.mem_of_mem_take hx))
theorem Wd.app {L : Nat} {xs ys : List V} (h : Wd L xs) (g : Wd L ys) : Wd L (xs ++ ys) := fun x hx => (List.mem_append.mp hx).elim (h x) (g x)
theorem Wd.one {L : Nat} {w : Str} (h : w.length ≤ L) : Wd L [.str w] := fun x hx => by
  rw [List.mem_singleton] at hx
  exact ⟨w, hx, h⟩
theorem Wd.set {L j : Nat} {xs : List V} {w : Str} (h : Wd L xs) (g : w.length ≤ L) : Wd L (xs.set j (.str w)) := fun x hx => (List.mem_or_eq_of_mem_set hx).elim (h x) fun e => ⟨w, e, g⟩
theorem Wd.strs {L : Nat} : ∀ {xs : List V}, Wd L xs → ∃ ws : List Str, xs = ws.map V.str ∧ (ws.map (·.length)).sum ≤ ws.length * L ∧ ws.length = xs.length
  | [], _ => ⟨[], rfl, Nat.zero_le _, rfl⟩
  | x :: r, h => by
    obtain ⟨w, rfl, hw⟩ := h x List.mem_cons_self
    obtain ⟨ws, rfl, g, e⟩ := Wd.strs (xs := r) fun y hy => h y (List.mem_cons_of_mem _ hy)
    refine ⟨w :: ws, rfl, ?_, by simp⟩
    rw [List.map_cons, List.sum_cons, List.length_cons, Nat.succ_mul]
    omega
theorem Wd.split {L : Nat} {z : Str} (h : z.length ≤ L) : Wd L ((Txt.split z blank).map V.str) := fun x hx => by
  obtain ⟨w, hw, rfl⟩ := List.mem_map.mp hx
  exact ⟨w, rfl, Nat.le_trans (PyProof.Rows.part_short hw) h⟩
theorem Wd.mono {L M : Nat} {xs : List V} (h : Wd L xs) (g : L ≤ M) : Wd M xs := fun x hx => by
  obtain ⟨w, e, hw⟩ := h x hx
  exact ⟨w, e, Nat.le_trans hw g⟩
theorem join_le (ws : List Str) : (Txt.join blank ws).length ≤ (ws.map (·.length)).sum + ws.length := by
  have h := StrLaws.join_length_le blank ws
  have h3 : blank.length = 1 := by decide +kernel
  rw [← TL.join_eq, h3, Nat.mul_one] at h
  exact h
def isTops : Rd3 → List Int → Bool
  | .tops a, b => a == b
  | _, _ => false
theorem isTops_eq {r : Rd3} {b : List Int} (h : isTops r b = true) : r = .tops b := by
  cases r with
  | tops a => rw [eq_of_beq (α := List Int) h]
  | text i => cases h
  | number n => cases h
theorem menu_all : menu.all (fun o => isTops (readG (textOf o)) o && (decide ((textOf o).length ≤ 5) && (decide (o.length ≤ 3) && o.all fun t => decide (0 ≤ t) && decide (t ≤ 9)))) = true := by decide +kernel
theorem menu_ok {i : Nat} {o : List Int} (h : menu[i]? = some o) : readG (textOf o) = .tops o ∧ (textOf o).length ≤ 5 ∧ Few o := by
  have g := List.all_eq_true.mp menu_all o (List.mem_of_getElem? h)
  obtain ⟨g1, g⟩ := Bool.and_eq_true_iff.mp g
  obtain ⟨g2, g⟩ := Bool.and_eq_true_iff.mp g
  obtain ⟨g3, g4⟩ := Bool.and_eq_true_iff.mp g
  refine ⟨isTops_eq g1, of_decide_eq_true g2, of_decide_eq_true g3, fun t ht => ?_⟩
  obtain ⟨h1, h2⟩ := Bool.and_eq_true_iff.mp (List.all_eq_true.mp g4 t ht)
  exact ⟨of_decide_eq_true h1, of_decide_eq_true h2⟩
theorem none_reads : isTops (readG "") [] = false ∧ (match readG "" with | .text i => i == 0 | _ => false) = true := by decide +kernel
theorem read_none : readG "" = .text 0 := by
  have h := none_reads.2
  cases e : readG "" with
  | text i =>
    rw [e] at h
    rw [eq_of_beq (α := Nat) h]
  | number n => rw [e] at h; cases h
  | tops ts => rw [e] at h; cases h
theorem ok_words : PyData.strOk "text" = true ∧ PyData.strOk "number" = true ∧ PyData.strOk "tops" = true := by decide +kernel
theorem shaped2 (x : Str) (d : PyData) (hx : PyData.strOk x = true) (hd : d.canLay0 = true) (hp : d.depth ≤ 1) : SeqAt.shaped (.list [.str x, d]) = true := by
  unfold SeqAt.shaped
  rw [show PyData.canLay0 (.list [.str x, d]) = (PyData.strOk x && (d.canLay0 && true)) from rfl, hx, hd,
    show PyData.depth (.list [.str x, d]) = max 0 (max d.depth 0) + 1 from rfl]
  exact decide_eq_true (by omega)
theorem shapedR (r : Rd3) : SeqAt.shaped (resD r) = true := by
  cases r with
  | text i => exact shaped2 _ _ ok_words.1 rfl (Nat.zero_le _)
  | number n => exact shaped2 _ _ ok_words.2.1 rfl (Nat.zero_le _)
  | tops ts =>
    refine shaped2 _ _ ok_words.2.2 (layInts ts) ?_
    show PyData.depthAll (ts.map PyData.int) + 1 ≤ 1
    rw [depInts]
    exact Nat.le_refl _
mutual
theorem dpS {K : PySem.W.Frag} {H H' : Hp} (s : Same H H') : ∀ {v : V} {d : PyData}, Dp K H v d → Dp K H' v d
  | _, _, .non => .non
  | _, _, .bl b => .bl b
  | _, _, .int i => .int i
  | _, _, .str x => .str x
  | _, _, .lst h g => .lst (s.seq h) (dpSAll s g)
  | _, _, .tup h g => .tup (Same.sqt s h) (dpSAll s g)
theorem dpSAll {K : PySem.W.Frag} {H H' : Hp} (s : Same H H') : ∀ {vs : List V} {ds : List PyData}, DpAll K H vs ds → DpAll K H' vs ds
  | _, _, .nil => .nil
  | _, _, .cons h g => .cons (dpS s h) (dpSAll s g)
end
def Bd : Nat → Nat
  | 0 => 5
  | 1 => 241
  | _ => 237657
theorem grow {i : Nat} (hi : i < 2) : 2 * ((2 * Bd i + 5) * (Bd i + 3)) + 1 ≤ Bd (i + 1) := by
  have : i = 0 ∨ i = 1 := by omega
  rcases this with rfl | rfl <;> decide
theorem Bd_le (i : Nat) : Bd i ≤ 237657 := by
  match i with
  | 0 => decide
  | 1 => decide
  | _ + 2 => exact Nat.le_refl _
abbrev tens : List V := [.str "", .str "0", .str "9", .str "10", .str "-1", .str "x", .str "00", .str "+1", .str "1.", .str "7"]
theorem tens_ok : (tens.all fun v => match v with | .str w => decide (w.length ≤ 2) | _ => false) = true := by decide +kernel
theorem pick_tens {r : Int} (h0 : 0 ≤ r) (h1 : r < 10) : ∃ w : Str, atI tens r = some (.str w) ∧ w.length ≤ 2 := by
  obtain ⟨k, rfl⟩ := Int.eq_ofNat_of_zero_le h0
  have hk : k < tens.length := by show k < 10; omega
  have e : tens[k]? = some tens[k] := List.getElem?_eq_getElem hk
  have g := List.all_eq_true.mp tens_ok _ (List.mem_of_getElem? e)
  cases q : tens[k] with
  | str w =>
    rw [q] at g e
    exact ⟨w, atI_nat e, of_decide_eq_true g⟩
  | _ => rw [q] at g; cases g
theorem pick_six {r : Int} (h0 : 0 ≤ r) (h1 : r < 6) : ∃ c : Nat, atI (" 0;-1x" : Str).cps.toList r = some c := by
  obtain ⟨k, rfl⟩ := Int.eq_ofNat_of_zero_le h0
  have hk : k < (" 0;-1x" : Str).cps.toList.length := by
    rw [show (" 0;-1x" : Str).cps.toList.length = 6 from by decide +kernel]
    omega
  exact ⟨_, atI_nat (List.getElem?_eq_getElem hk)⟩
theorem ixNat {n j : Nat} (hj : j < n) : ixN n (j : Int) = some j := by
  unfold ixN
  rw [if_pos (Int.natCast_nonneg j), if_pos (by omega)]
  rfl
theorem ne0 {H H' : Hp} {p : Addr} (s : Same H H') (h : H' p = none) : H p = none := by
  cases e : H p with
  | none => rfl
  | some o =>
    rw [s _ _ e] at h
    cases h
theorem bag_keep {H : Hp} {p l : Addr} {b : Bool} {o : HO} (h : Bag H p b) (n : l ≠ p) : Bag (upd H l o) p b := by
  obtain ⟨x, y, e⟩ := h
  exact ⟨x, y, by rw [upd_ne n.symm]; exact e⟩
theorem same_new {H0 H : Hp} {l : Addr} {o : HO} (s : Same H0 H) (n : H0 l = none) : Same H0 (upd H l o) := fun c u e => by
  rw [upd_ne (ne_of_none e n)]
  exact s _ _ e
theorem same_but {H0 H H' : Hp} {p : Addr} (s : Same H0 H) (n : H0 p = none) (b : But p H H') : Same H0 H' := fun c u e => b c u (s c u e) (ne_of_none e n)
/-- within a word's turn: the list of the words -/
def MidW (σb : Addr → L2.St) (H0 : Hp) (p : Addr) (b : Bool) (M c : Nat) (G : Nat → Prop) : L2.St → Hp → Prop := fun σ H => ∃ (l : Addr) (xs : List V), σ = σb l ∧ Same H0 H ∧ Bag H p b ∧ H0 l = none ∧ l ≠ p ∧ H l = some (.lst xs) ∧ Wd M xs ∧ xs.length ≤ c ∧ G xs.length
theorem cut_ints {z : Int} {ns : List Int} {lo hi : Option Int} {x : V} (h : x ∈ [V.int z] ++ cutV (ns.map V.int) lo hi) : ∃ c, x = .int c := by
  rcases List.mem_append.mp h with h | h
  · exact ⟨z, List.mem_singleton.mp h⟩
  · obtain ⟨c, _, e⟩ := List.mem_map.mp (List.mem_of_mem_drop (List.mem_of_mem_take h))
    exact ⟨c, e.symm⟩
end KL

set_option Elab.async false
set_option linter.all false
set_option maxRecDepth 100000
set_option maxHeartbeats 4000000
namespace KL
open PySem PySem.Spec PyProof.Rows L2 NdefX SX
abbrev sLaw : Stmt := top 30
abbrev nLaw : List Str := ["_law_script", "_law_pool", "_law_tops", "_law_text", "_law_cell", "_law_tried", "_law_count", "_law_words", "_law_at", "_law_which", "_law_top"]
theorem scLaw : FnScope nLaw ["_law_script"] (defScope sLaw) := ⟨rfl, rfl, rfl, by decide +kernel, rfl, by decide +kernel, by decide +kernel⟩
section
variable {P : Program} {w : World} {K : PySem.W.Frag} {mg : Str → Option Value} {base : Heap} {f fB fD fA fO fU fT fS fE C N T p0 g : Addr} {mc : Value} {fd dB dD dA dO dU dT dS dE : FuncData}
theorem ok_law (F : Fun K "law" "law" sLaw f fd)
    (FB : Fun K "_law_bag" "_law_bag" sBag fB dB) (bB : Binds K dB ["_law_cell"] []) (gB : mg "_law_bag" = some (.ref fB)) (GB : FnOk P w K mg base CX0 1 fB dB ["_law_cell"] spBag)
    (FD : Fun K "_law_draw" "_law_draw" sDraw fD dD) (bD : Binds K dD ["_law_pool", "_law_limit"] []) (gD : mg "_law_draw" = some (.ref fD)) (GD : FnOk P w K mg base CX0 1 fD dD ["_law_pool", "_law_limit"] spDraw)
    (FA : Fun K "_law_at_of" "_law_at_of" sAt fA dA) (bA : Binds K dA ["_law_script", "_law_k"] []) (gA : mg "_law_at_of" = some (.ref fA)) (GA : FnOk P w K mg base CX0 1 fA dA ["_law_script", "_law_k"] (spAt K))
    (FO : Fun K "_law_tops_of" "_law_tops_of" sTopsOf fO dO) (bO : Binds K dO ["_law_pool"] []) (gO : mg "_law_tops_of" = some (.ref fO)) (GO : FnOk P w K mg base CX0 2 fO dO ["_law_pool"] (spTopsOf K))
    (FU : Fun K "_law_due" "_law_due" sDue fU dU) (bU : Binds K dU ["_law_text"] []) (gU : mg "_law_due" = some (.ref fU)) (GU : FnOk P w K mg base CX0 2 fU dU ["_law_text"] (spDue K))
    (FT : Fun K "_law_told_of" "_law_told_of" sTold fT dT) (bT : Binds K dT ["_law_text"] []) (gT : mg "_law_told_of" = some (.ref fT)) (GT : FnOk P w K mg base CX0 7 fT dT ["_law_text"] (spTold K))
    (mr : mg "range" = none) (ml : mg "list" = none) (ms : mg "str" = none) (mn : mg "len" = none) (gG : mg "Grid" = some (.ref C)) (r : ClX.CRead K C mc) (c : ClX.CMet K C mc "read" p0 g) (GR : FnR P w K mg base (L2.CX P w) 6 g (spRead K C N T))
    (DS : Dun K C "__str__" fS) (GS : FnOk P w K mg base CX0 1 fS dS ["self"] (spGStr K C)) (bS : Binds K dS ["self"] [])
    (DE : Dun K C "__eq__" fE) (GE : FnOk P w K mg base CX0 1 fE dE ["self", "other"] (spGEq K C)) (bE : Binds K dE ["self", "other"] []) :
    FnOk P w K mg base CX0 8 f fd ["_law_script"] (spLaw K) := by
  refine F.ok scLaw (fun vs H Q E h => ?_) (fun cdv A outer s H vs Q E hr h => ?_)
  · obtain ⟨a, ns, rfl, _⟩ := h
    rfl
  · obtain ⟨a, ns, rfl, hS, hlen, k⟩ := h
    have hr1 : Room 1 _ := hr.mono (j := 1) (by decide)
    have hr2 : Room 2 _ := hr.mono (j := 2) (by decide)
    have hr3 : Room 3 _ := hr.mono (j := 3) (by decide)
    have hr6 : Room 6 _ := hr.mono (j := 6) (by decide)
    have hr7 : Room 7 _ := hr.mono (j := 7) (by decide)
    refine ⟨_, pss_cons (ps_set (i := 1) scLaw.nd rfl (Or.inl rfl) (pe_call GB hr1 (by rfl) gB FB.kp bB .nil pass0 (pa_cons (pe_call GA hr1 (by rfl) gA FA.kp bA .nil pass0 (pa_cons (pv 0) (pa_cons pe_int pa_nil))) pa_nil)))
      (pss_cons (ps_set (i := 2) scLaw.nd rfl (Or.inl rfl) (pe_call GO hr2 (by rfl) gO FO.kp bO .nil pass0 (pa_cons (pv 1) pa_nil)))
      (pss_cons (ps_set (i := 3) scLaw.nd rfl (Or.inl rfl) (pe_bm PySem.F.plainAttrs_str PySem.F.slot_str_join PySem.F.type_str_join mt_join pe_str (pa_cons
        (pe_lc (own := [("_law_top", 10)]) (g := gName 10) (tt := tYes) (te := tCB (fun xs H Q => ∃ i, xs = [.int i] ∧ i.natAbs.log2 < 1920 ∧ Q (.str (toString i)) H) (tCons (tVar 10) tNil)) rfl scLaw.nd (pi_tup (pv 2)) (blkOk_by (N := nLaw) (sc := defScope sLaw) (by decide +kernel)) (fun _ _ _ _ _ => pg_name (i := 10) scLaw.nd rfl (Or.inl rfl)) (fun _ _ _ _ _ => pts_nil)
          (fun _ _ _ _ _ => pe_callTy call_str_int (by rfl) ms (by decide +kernel) (pa_cons (pv 10) pa_nil))) pa_nil)))
      (pss_cons (ps_if (PW.pt (pw_or (pt_cmpR (op_neD hr.units) (pe_call GT hr7 (by rfl) gT FT.kp bT .nil pass0 (pa_cons (pv 3) pa_nil)) (pe_newL (pa_cons pe_str (pa_cons (pv 2) pa_nil))) (nomark _))
          (pw_or1 (pt_cmpR op_ne (pe_callTy (call_strO DS GS bS pass0 hr3) (by rfl) ms (by decide +kernel) (pa_cons (pe_cmethS (pe_glob (v := .ref C) (by rfl) gG rfl) r c GR hr6 (fun σ => passAt noOne σ) (pa_cons (pv 3) pa_nil)) pa_nil)) (pv 3) (nomark _)))))
          (pss_one (ps_ret pe_bl)) pss_nil)
      (pss_cons (ps_if (pt_not (pt_cmpR (op_eqO DE GE bE pass0 hr1) (pe_cmethS (pe_glob (v := .ref C) (by rfl) gG rfl) r c GR hr6 (fun σ => passAt noOne σ) (pa_cons (pv 3) pa_nil))
          (pe_cmethS (pe_glob (v := .ref C) (by rfl) gG rfl) r c GR hr6 (fun σ => passAt noOne σ) (pa_cons (pv 3) pa_nil)) (nomark _))) (pss_one (ps_ret pe_bl)) pss_nil)
      (pss_cons (ps_for PassesOwn.never rfl (pi_list (pe_op op_catW (pe_newL (pa_cons (pe_call GA hr1 (by rfl) gA FA.kp bA .nil pass0 (pa_cons (pv 0) (pa_cons pe_int pa_nil))) pa_nil))
            (pe_callTy call_listW (by rfl) ml (by decide +kernel) (pa_cons (pe_slice sl_list (pv 0) (po_some pe_int) (po_some pe_int)) pa_nil)))) (pg_name (i := 4) scLaw.nd rfl (Or.inl rfl))
        (pss_cons (ps_set (i := 1) scLaw.nd rfl (Or.inl rfl) (pe_call GB hr1 (by rfl) gB FB.kp bB .nil pass0 (pa_cons (pv 4) pa_nil)))
        (pss_cons (ps_set (i := 5) scLaw.nd rfl (Or.inl rfl) (pv 3))
        (pss_cons (ps_for PassesOwn.never rfl (pi_range1 rfl mr (pa_cons (pe_op op_add pe_int (pe_call GD hr1 (by rfl) gD FD.kp bD .nil pass0 (pa_cons (pv 1) (pa_cons pe_int pa_nil)))) pa_nil)) (pg_name (i := 6) scLaw.nd rfl (Or.inl rfl))
          (pss_cons (ps_set (i := 7) scLaw.nd rfl (Or.inl rfl) (pe_bm PySem.F.plainAttrs_str PySem.F.slot_str_split PySem.F.type_str_split mt_split (pv 5) (pa_cons pe_str pa_nil)))
          (pss_cons (ps_set (i := 8) scLaw.nd rfl (Or.inl rfl) (pe_call GD hr1 (by rfl) gD FD.kp bD .nil pass0 (pa_cons (pv 1) (pa_cons (pe_callB call_len_seq (by rfl) mn PySem.boot_len (pa_cons (pv 7) pa_nil)) pa_nil))))
          (pss_cons (ps_set (i := 9) scLaw.nd rfl (Or.inl rfl) (pe_call GD hr1 (by rfl) gD FD.kp bD .nil pass0 (pa_cons (pv 1) (pa_cons pe_int pa_nil))))
          (C8.pss_cut (ps_if (pt_cmpR op_eq (pv 9) pe_int (nomark _)) (pss_one (ps_set (i := 7) scLaw.nd rfl (Or.inl rfl) (pe_op op_catW (pe_slice sl_list (pv 7) po_none (po_some (pv 8))) (pe_slice sl_list (pv 7) (po_some (pe_op op_add (pv 8) pe_int)) po_none)))) pss_nil)
          (C8.pss_cut (ps_if (pt_cmpR op_eq (pv 9) pe_int (nomark _)) (pss_one (ps_set (i := 7) scLaw.nd rfl (Or.inl rfl) (pe_op op_catW (pe_op op_catW (pe_slice sl_list (pv 7) po_none (po_some (pv 8))) (pe_newL (pa_cons (pe_ix ix_list (pv 7) (pv 8) (fun _ _ => rfl)) pa_nil))) (pe_slice sl_list (pv 7) (po_some (pv 8)) po_none)))) pss_nil)
          (C8.pss_cut (ps_if (pt_cmpR op_eq (pv 9) pe_int (nomark _)) (pss_one (ps_asg (pe_ix ix_list (pe_newL (pa_cons pe_str (pa_cons pe_str (pa_cons pe_str (pa_cons pe_str (pa_cons pe_str (pa_cons pe_str (pa_cons pe_str (pa_cons pe_str (pa_cons pe_str (pa_cons pe_str pa_nil)))))))))))
              (pe_call GD hr1 (by rfl) gD FD.kp bD .nil pass0 (pa_cons (pv 1) (pa_cons pe_int pa_nil))) (fun _ _ => rfl)) (pg_sub (pv 7) (pv 8) set_list))) pss_nil)
          (pss_cons (ps_set (i := 5) scLaw.nd rfl (Or.inl rfl) (pe_bm PySem.F.plainAttrs_str PySem.F.slot_str_join PySem.F.type_str_join mt_join pe_str (pa_cons (pv 7) pa_nil)))
          (pss_one (ps_if (pt_cmpR op_eq (pv 9) pe_int (nomark _))
            (pss_cons (ps_set (i := 8) scLaw.nd rfl (Or.inl rfl) (pe_call GD hr1 (by rfl) gD FD.kp bD .nil pass0 (pa_cons (pv 1) (pa_cons (pe_op op_add (pe_callB call_len_str (by rfl) mn PySem.boot_len (pa_cons (pv 5) pa_nil)) pe_int) pa_nil))))
            (pss_one (ps_set (i := 5) scLaw.nd rfl (Or.inl rfl) (pe_op op_add_str (pe_op op_add_str (pe_slice C8.sl_txt (pv 5) po_none (po_some (pv 8))) (pe_ix ix_str pe_str (pe_call GD hr1 (by rfl) gD FD.kp bD .nil pass0 (pa_cons (pv 1) (pa_cons pe_int pa_nil))) (fun _ _ => rfl))) (pe_slice C8.sl_txt (pv 5) (po_some (pv 8)) po_none)))))
            pss_nil))))))))))
        (pss_one (ps_if (pt_cmpR (op_neD hr.units) (pe_call GT hr7 (by rfl) gT FT.kp bT .nil pass0 (pa_cons (pv 5) pa_nil)) (pe_call GU hr2 (by rfl) gU FU.kp bU .nil pass0 (pa_cons (pv 5) pa_nil)) (nomark _)) (pss_one (ps_ret pe_bl)) pss_nil))))))
      (pss_one (ps_ret (pe_cmpR (op_eqD hr.units) (pe_call GT hr7 (by rfl) gT FT.kp bT .nil pass0 (pa_cons pe_str pa_nil)) (pe_newL (pa_cons pe_str (pa_cons pe_int pa_nil))) (nomark _))))))))), ?_⟩
    -- the pool, the tops
    refine ⟨_, rfl, a, ns, 0, rfl, hS, fun z0 => ⟨z0, rfl, fun p H1 b s1 np hB1 => ?_⟩⟩
    refine ⟨_, rfl, p, b, rfl, hB1, fun t i o H2 hi b2 hB2 ht => ?_⟩
    obtain ⟨hread, htxt, hF⟩ := menu_ok hi
    have s2 : Same H H2 := fun c o e => b2 c o (s1 c o e) (ne_of_none e np)
    -- the text
    refine ⟨rfl, _, rfl, t, rfl, ⟨_, ht⟩, fun D nD => ?_⟩
    refine lc_tup (K := K) (a := t) (xs := o.map V.int) (fun i H' => Same H2 H' ∧ H' D = some (.lst (((o.take i).map toS).map V.str))) ⟨same_upd nD, upd_same⟩ (fun i H' _ ⟨s, _⟩ => Same.sqt s ht) ?_ ?_
    · rintro i y H' hy ⟨s3, gD⟩
      obtain ⟨n, rfl, hn⟩ := at_int hy
      have h9 := hF.2 n (List.mem_of_getElem? hn)
      refine ⟨rfl, ?_⟩
      refine ⟨_, rfl, _, rfl, (small_str h9.1 h9.2).1, _, gD, ?_, fun b o e => ?_, ?_⟩
      · rw [List.length_map, List.length_map, List.length_take, sizeLine_eq]
        have := hF.1
        omega
      · rw [upd_ne (ne_of_none e nD)]
        exact s3 b o e
      · rw [upd_same, List.take_add_one, hn, List.map_append, List.map_append]
        rfl
    rintro H3 ⟨s3, gD⟩
    rw [List.length_map, List.take_length] at gD
    refine ⟨_, D, _, rfl, rfl, .inl (SqL.of gD), ?_, ?_⟩
    · have h1 := strs_sum hF.2
      have h2 := hF.1
      have h3 : blank.length = 1 := by decide +kernel
      show _ + _ * blank.length ≤ _
      rw [List.length_map, h3]
      omega
    have ht3 := Same.sqt s3 ht
    -- told once, read and written
    refine ⟨_, rfl, textOf o, rfl, by omega, fun q4 H4 s4 d4 => ?_⟩
    refine ⟨_, rfl, (by show 2 ≤ sizeLine; decide), fun l5 H5 s5 n5 e5 => ?_⟩
    rw [hread] at d4
    refine ⟨resD (.tops o), resD (.tops o), dpS s5 d4, .lst (SqL.of e5) (.cons (.str _) (.cons (.tup (Same.sqt (s4.trans s5) ht3) (dpInts o)) .nil)), shapedR _, shapedR _, ?_⟩
    rw [eqvSelf (shapedR _)]
    refine ⟨false, rfl, ?_⟩
    have lz : (textOf o).length ≤ 1000000 ∧ (Txt.split (textOf o) blank).length ≤ 1000000 := ⟨by omega, by have := PyProof.Rows.split_le (textOf o) blank; omega⟩
    refine ⟨rfl, _, rfl, textOf o, rfl, lz.1, lz.2, ?_⟩
    rw [hread]
    rintro x6 H6 s6 ⟨dx6, t6, p6, rs6, h6, i6, j6, k6⟩
    refine ⟨x6, dx6, _, rfl, h6, x6, o, rfl, ⟨dx6, t6, p6, rs6, h6, i6, j6, k6⟩, hF, fun H7 s7 => ⟨_, rfl, _, rfl, rfl, false, ?_, ?_⟩⟩
    · show V.bl (!decide (V.str (textOf o) = V.str (textOf o))) = V.bl false
      rw [decide_eq_true rfl]
      rfl
    -- two are the same
    refine ⟨rfl, _, rfl, textOf o, rfl, lz.1, lz.2, ?_⟩
    rw [hread]
    intro x8 H8 s8 g8
    refine ⟨rfl, _, rfl, textOf o, rfl, lz.1, lz.2, ?_⟩
    rw [hread]
    intro x9 H9 s9 g9
    have g8' := g8.same s9
    obtain ⟨dx8, t8, p8, rs8, h8, _⟩ := id g8'
    obtain ⟨dx9, t9, p9, rs9, h9, _⟩ := id g9
    refine ⟨x8, dx8, _, rfl, h8, .inl ⟨x9, dx9, _, rfl, h9⟩, x8, x9, o, rfl, g8', g9, fun HA sA => ⟨true, rfl, true, rfl, ?_⟩⟩
    have sAll : Same H HA := s2.trans (s3.trans (s4.trans (s5.trans (s6.trans (s7.trans (s8.trans (s9.trans sA)))))))
    -- the cells
    refine ⟨_, rfl, a, ns, 1, rfl, sAll.seq hS, fun z1 => ⟨(by show 1 ≤ sizeLine; decide), fun lB HB sB nB eB => ?_⟩⟩
    refine ⟨_, rfl, _, rfl, _, rfl, a, ns.map V.int, rfl, (sAll.trans sB).seq hS, fun lC nC => ?_⟩
    refine ⟨lC, _, rfl, .inl (SqL.of upd_same), fun lE HE sE nE eE => ?_⟩
    refine ⟨lB, lE, _, _, rfl, rfl, (Same.trans (same_upd nC) sE) _ _ eB, eE, ?_, fun l0 H0 s0 n0 e0 => ?_⟩
    · have := cutV_length (ns.map V.int) (some 2) (some 8)
      rw [List.length_map] at this
      rw [sizeLine_eq]
      show 1 + _ ≤ _
      omega
    refine ⟨l0, rfl, ⟨_, SqL.of e0⟩, for_list (K := K) (a := l0) (fun j σ H' => ∃ u1 u4 u5 u6 u7 u8 u9 : Option V, σ = [some (.ref a), u1, some (.ref t), some (.str (textOf o)), u4, u5, u6, u7, u8, u9, none] ∧ Same H0 H')
      ⟨_, _, _, _, _, _, _, rfl, Same.refl _⟩ (fun j σ H' _ ⟨_, _, _, _, _, _, _, _, g⟩ => SqL.of (g _ _ e0)) ?_ ?_⟩
    · rintro j x σ H' hx ⟨u1, u4, u5, u6, u7, u8, u9, rfl, sH⟩
      obtain ⟨cc, rfl⟩ := cut_ints (List.mem_of_getElem? hx)
      refine ⟨_, rfl, cc, rfl, fun p K1 b t1 np hB1 => ?_⟩
      have np0 : H0 p = none := ne0 sH np
      have sK1 : Same H0 K1 := sH.trans t1
      refine ⟨_, rfl, _, rfl, p, 2, b, rfl, hB1, by decide, by decide, fun rr K2 r0 r2 bt2 hB2 => ⟨_, _, rfl, rfl, _, rfl, by omega, by omega, for_range (lo := 0) (n := (1 + rr).toNat)
        (fun i σ H' => ∃ (z : Str) (v6 v7 v8 v9 : Option V), σ = [some (.ref a), some (.ref p), some (.ref t), some (.str (textOf o)), some (.int cc), some (.str z), v6, v7, v8, v9, none] ∧ Same H0 H' ∧ Bag H' p b ∧ z.length ≤ Bd i)
        ⟨_, _, _, _, _, rfl, same_but sK1 np0 bt2, hB2, htxt⟩ ?_ ?_⟩⟩
      · rintro i σ H' hi ⟨z, v6, v7, v8, v9, rfl, sZ, hBz, hz⟩
        have hi2 : i < 2 := by omega
        have hb := Bd_le i
        have hsp := PyProof.Rows.split_le z blank
        have hpp := split_pos' z
        rw [show (0 : Int) + (i : Int) = (i : Int) from Int.zero_add _]
        refine ⟨_, rfl, rfl, _, _, rfl, rfl, by decide +kernel, by rw [sizeLine_eq]; omega, fun l nl => ?_⟩
        have sl0 : Same H0 (upd H' l (.lst ((Txt.split z blank).map V.str))) := sZ.trans (same_upd nl)
        have nl0 : H0 l = none := ne0 sZ nl
        have nlp : l ≠ p := hBz.ne nl
        refine ⟨_, rfl, _, rfl, l, _, rfl, .inl (SqL.of upd_same), p, _, b, rfl, bag_keep hBz nlp, by rw [List.length_map]; show (0 : Int) < ((Txt.split z blank).length : Int); omega, by rw [List.length_map]; show ((Txt.split z blank).length : Int) < 1000000; omega, fun at1 K3 a0 a1 bt3 hB3 => ?_⟩
        rw [List.length_map] at a1
        obtain ⟨at1, rfl⟩ := Int.eq_ofNat_of_zero_le a0
        have a1 : (at1 : Int) < ((Txt.split z blank).length : Int) := a1
        have e3 := bt3 _ _ (upd_same (H := H') (a := l) (o := HO.lst ((Txt.split z blank).map V.str))) nlp
        refine ⟨_, rfl, p, 4, b, rfl, hB3, by decide, by decide, fun wh K4 w0 w4 bt4 hB4 => ?_⟩
        have e4 := bt4 _ _ e3 nlp
        have s4 : Same H0 K4 := same_but (same_but sl0 np0 bt3) np0 bt4
        refine ⟨MidW (fun l => [some (.ref a), some (.ref p), some (.ref t), some (.str (textOf o)), some (.int cc), some (.str z), some (.int i), some (.ref l), some (.int at1), some (.int wh), none]) H0 p b (Bd i + 2) (2 * (Txt.split z blank).length)
          (fun m => wh ≠ 0 → at1 < m ∧ m ≤ (Txt.split z blank).length), ?_, ?_⟩
        · refine ⟨_, rfl, rfl, _, rfl, ite2 (fun q => ?_) (fun q => ?_)⟩
          · refine ⟨_, rfl, _, rfl, _, rfl, l, _, rfl, SqL.of e4, fun q1 nq1 => ?_⟩
            have c1 := same_upd (o := HO.lst (cutV ((Txt.split z blank).map V.str) none (some (at1 : Int)))) nq1
            refine ⟨_, rfl, _, rfl, _, _, rfl, rfl, _, rfl, l, _, rfl, SqL.of (c1 _ _ e4), fun q2 nq2 => ?_⟩
            have c2 := same_upd (o := HO.lst (cutV ((Txt.split z blank).map V.str) (some ((at1 : Int) + 1)) none)) nq2
            have w1 := cutV_length ((Txt.split z blank).map V.str) none (some (at1 : Int))
            have w2 := cutV_length ((Txt.split z blank).map V.str) (some ((at1 : Int) + 1)) none
            rw [List.length_map] at w1 w2
            refine ⟨q1, q2, _, _, rfl, rfl, c2 _ _ upd_same, upd_same, by rw [sizeLine_eq]; omega, fun q3 K5 c3 n3 e5 => ?_⟩
            have c123 := c1.trans (c2.trans c3)
            have hW := Wd.split hz
            refine ⟨q3, _, rfl, s4.trans c123, hB4.same c123, ne0 (s4.trans (c1.trans c2)) n3, (hB4.same (c1.trans c2)).ne n3, e5, (Wd.app (hW.cut _ _) (hW.cut _ _)).mono (by omega), by rw [List.length_append]; omega, fun g => ?_⟩
            have := of_decide_eq_true q
            have := V.int.inj this
            omega
          · refine ⟨l, _, rfl, s4, hB4, nl0, nlp, e4, (Wd.split hz).mono (by omega), by rw [List.length_map]; omega, fun g => by rw [List.length_map]; omega⟩
        rintro _ K5 ⟨l, xs, rfl, s5, hB5, l0n, lp, e5, hW, hc, hg⟩
        refine ⟨MidW (fun l => [some (.ref a), some (.ref p), some (.ref t), some (.str (textOf o)), some (.int cc), some (.str z), some (.int i), some (.ref l), some (.int at1), some (.int wh), none]) H0 p b (Bd i + 2) (2 * (Txt.split z blank).length + 1)
          (fun m => wh ≠ 0 → wh ≠ 1 → at1 < m), ?_, ?_⟩
        · refine ⟨_, rfl, rfl, _, rfl, ite2 (fun q => ?_) (fun q => ?_)⟩
          · have q : wh = 1 := V.int.inj (of_decide_eq_true q)
            obtain ⟨g1, g2⟩ := hg (by omega)
            have ex : xs[at1]? = some xs[at1] := List.getElem?_eq_getElem g1
            obtain ⟨wd, hwd, hwl⟩ := hW _ (List.mem_of_getElem? ex)
            rw [hwd] at ex
            refine ⟨_, rfl, _, rfl, _, rfl, l, _, rfl, SqL.of e5, fun q1 nq1 => ?_⟩
            have c1 := same_upd (o := HO.lst (cutV xs none (some (at1 : Int)))) nq1
            refine ⟨_, rfl, _, rfl, l, _, _, _, rfl, rfl, SqL.of (c1 _ _ e5), atI_nat ex, (by show 1 ≤ sizeLine; decide), fun q2 K6 c2 n2 e6 => ?_⟩
            have w1 := cutV_length xs none (some (at1 : Int))
            have w2 := cutV_length xs (some (at1 : Int)) none
            refine ⟨q1, q2, _, _, rfl, rfl, c2 _ _ upd_same, e6, by rw [sizeLine_eq]; show _ + 1 ≤ _; omega, fun q3 K7 c3 n3 e7 => ?_⟩
            refine ⟨_, rfl, _, rfl, _, rfl, l, _, rfl, SqL.of ((c1.trans (c2.trans c3)) _ _ e5), fun q4 nq4 => ?_⟩
            have c4 := same_upd (o := HO.lst (cutV xs (some (at1 : Int)) none)) nq4
            refine ⟨q3, q4, _, _, rfl, rfl, c4 _ _ e7, upd_same, by rw [sizeLine_eq, List.length_append]; show _ + 1 + _ ≤ _; omega, fun q5 K8 c5 n5 e8 => ?_⟩
            have c1234 := c1.trans (c2.trans (c3.trans c4))
            have c15 := c1234.trans c5
            refine ⟨q5, _, rfl, s5.trans c15, hB5.same c15, ne0 (s5.trans c1234) n5, (hB5.same c1234).ne n5, e8, Wd.app (Wd.app (hW.cut _ _) (Wd.one hwl)) (hW.cut _ _), by rw [List.length_append, List.length_append]; show _ + 1 + _ ≤ _; omega, fun g g' => absurd q g'⟩
          · exact ⟨l, xs, rfl, s5, hB5, l0n, lp, e5, hW, by omega, fun g g' => (hg g).1⟩
        rintro _ K6 ⟨l, xs, rfl, s6, hB6, l0n, lp, e6, hW, hc, hg⟩
        refine ⟨MidW (fun l => [some (.ref a), some (.ref p), some (.ref t), some (.str (textOf o)), some (.int cc), some (.str z), some (.int i), some (.ref l), some (.int at1), some (.int wh), none]) H0 p b (Bd i + 2) (2 * (Txt.split z blank).length + 1)
          (fun _ => True), ?_, ?_⟩
        · refine ⟨_, rfl, rfl, _, rfl, ite2 (fun q => ?_) (fun q => ?_)⟩
          · have q : wh = 2 := V.int.inj (of_decide_eq_true q)
            have g1 := hg (by omega) (by omega)
            refine ⟨(by show 10 ≤ sizeLine; decide), fun q1 K7 c1 n1 e7 => ?_⟩
            refine ⟨_, rfl, p, 10, b, rfl, hB6.same c1, by decide, by decide, fun rd K8 d0 d1 bt8 hB8 => ?_⟩
            obtain ⟨wd, hwd, hwl⟩ := pick_tens d0 d1
            refine ⟨q1, _, _, _, rfl, rfl, SqL.of (bt8 _ _ e7 (hB6.ne n1)), hwd, ?_⟩
            have s8 := same_but (s6.trans c1) np0 bt8
            refine ⟨_, rfl, _, rfl, l, xs, _, at1, rfl, rfl, bt8 _ _ (c1 _ _ e6) lp, ixNat g1, ?_⟩
            exact ⟨l, _, rfl, same_new s8 l0n, bag_keep hB8 lp, l0n, lp, upd_same, hW.set (by omega), by rw [List.length_set]; exact hc, trivial⟩
          · exact ⟨l, xs, rfl, s6, hB6, l0n, lp, e6, hW, hc, trivial⟩
        rintro _ K7 ⟨l, xs, rfl, s7, hB7, l0n, lp, e7, hW, hc, _⟩
        obtain ⟨ws, rfl, hsum, hwl⟩ := hW.strs
        rw [List.length_map] at hc
        have hcw : ws.length ≤ 2 * Bd i + 5 := by omega
        have hmul := Nat.mul_le_mul_right (Bd i + 3) hcw
        rw [show ws.length * (Bd i + 3) = ws.length * (Bd i + 2) + ws.length from Nat.mul_succ _ _] at hmul
        have hgr := grow hi2
        have hb1 := Bd_le (i + 1)
        refine ⟨rfl, _, rfl, _, l, ws, rfl, rfl, .inl (SqL.of e7), ?_, ?_⟩
        · have h3 : blank.length = 1 := by decide +kernel
          show _ + _ * blank.length ≤ _
          rw [h3]
          omega
        have hjl := join_le ws
        generalize hq : Txt.join (Str.ofString " ") ws = zj
        have hjl : zj.length ≤ (ws.map (·.length)).sum + ws.length := by
          rw [← hq]
          exact hjl
        refine ⟨_, rfl, rfl, _, rfl, ite2 (fun q => ?_) (fun q => ?_)⟩
        · refine ⟨_, rfl, _, rfl, _, rfl, by rw [sizeLine_eq]; omega, _, _, rfl, rfl, p, _, b, rfl, hB7, by omega, by omega, fun at2 K8 a20 a21 bt8 hB8 => ?_⟩
          have x1 := slice_le zj none (some at2)
          have x2 := slice_le zj (some at2) none
          refine ⟨_, rfl, _, rfl, _, rfl, zj, rfl, by rw [sizeLine_eq]; omega, _, rfl, p, 6, b, rfl, hB8, by decide, by decide, fun rd K9 d0 d1 bt9 hB9 => ?_⟩
          obtain ⟨c6, hc6⟩ := pick_six d0 d1
          refine ⟨_, _, c6, rfl, rfl, by decide +kernel, hc6, _, _, rfl, rfl, by rw [sizeLine_eq]; show _ + 1 ≤ _; omega, ?_⟩
          refine ⟨_, rfl, _, rfl, _, rfl, zj, rfl, by rw [sizeLine_eq]; omega, _, _, rfl, rfl, ?_, ?_⟩
          · rw [sizeLine_eq, Str.length_append]
            show _ + 1 + _ ≤ _
            omega
          · refine ⟨_, _, _, _, _, rfl, same_but (same_but s7 np0 bt8) np0 bt9, hB9, ?_⟩
            rw [Str.length_append, Str.length_append]
            show _ + 1 + _ ≤ _
            omega
        · exact ⟨_, _, _, _, _, rfl, s7, hB7, by omega⟩
      · rintro σ H' ⟨z, v6, v7, v8, v9, rfl, sZ, hBz, hz⟩
        have hb := Bd_le (1 + rr).toNat
        refine ⟨_, rfl, z, rfl, by omega, fun q1 M1 m1 d1 => ⟨_, rfl, z, rfl, by omega, fun q2 M2 m2 d2 => ⟨resD (readG z), resD (readG z), dpS m2 d1, d2, shapedR _, shapedR _, ?_⟩⟩⟩
        rw [eqvSelf (shapedR _)]
        exact ⟨false, rfl, _, _, _, _, _, _, _, rfl, sZ.trans (m1.trans m2)⟩
    · rintro σ H' ⟨u1, u4, u5, u6, u7, u8, u9, rfl, sH⟩
      refine ⟨"", rfl, (by decide +kernel), fun q4 M4 m4 d4 => ⟨(by show 2 ≤ sizeLine; decide), fun l5 M5 m5 n5 e5 => ⟨resD (.text 0), resD (.text 0), dpS m5 (read_none ▸ d4), .lst (SqL.of e5) (.cons (.str _) (.cons (.int _) .nil)), shapedR _, shapedR _, ?_⟩⟩⟩
      rw [eqvSelf (shapedR _)]
      exact k M5
end
end KL

set_option Elab.async false
set_option linter.all false
set_option maxRecDepth 100000
set_option maxHeartbeats 4000000
namespace KL
open PySem PySem.Spec PyProof.Rows L2 NdefX SX
theorem exm_own {P : Program} {K : PySem.W.Frag} {mg : Str → Option Value} {x qual f1 f2 : Str} {st : Stmt} {C fI cc c R : Addr} {fd : FuncData} (E : ErrPack P K mg x qual st f1 f2 C fI cc c fd R) : PySem.W.exmOne K (.ref C) (.ref C) = some true := by
  obtain ⟨cd, hc, hm, hn⟩ := E.mro
  have e1 : (PySem.W.subIn K (.ref C) (.type "BaseException") == some true) = true := by rw [E.xf.exC] <;> rfl
  have e2 : ((PySem.W.clsIn K C).isSome && PySem.W.typeIn K (.ref C) == some (.type "type")) = true := by rw [hc, E.T.ox.tyC] <;> rfl
  show (if (PySem.W.subIn K (.ref C) (.type "BaseException") == some true) = true then (if ((PySem.W.clsIn K C).isSome && PySem.W.typeIn K (.ref C) == some (.type "type")) = true then PySem.W.subIn K (.ref C) (.ref C) else none) else none) = some true
  rw [if_pos e1, if_pos e2]
  exact E.T.sub
theorem exm_other {P : Program} {K : PySem.W.Frag} {mg : Str → Option Value} {x x' qual qual' f1 f2 f1' f2' : Str} {st st' : Stmt} {C fI cc c R C' fI' cc' c' R' : Addr} {fd fd' : FuncData}
    (E : ErrPack P K mg x qual st f1 f2 C fI cc c fd R) (E' : ErrPack P K mg x' qual' st' f1' f2' C' fI' cc' c' fd' R') (hx : x ≠ x') (hx' : ("RiseError" : Str) ≠ x') : PySem.W.exmOne K (.ref C) (.ref C') = some false := by
  have k := kit_other E E' hx hx'
  have e1 : (PySem.W.subIn K (.ref C') (.type "BaseException") == some true) = true := by rw [E'.xf.exC] <;> rfl
  unfold PySem.W.exmOne
  rw [if_pos e1]
  unfold PySem.W.kitOne at k
  split at k
  · cases k
  · exact k
/-- the class Grid, as far as the texts of grids ask -/
structure GPack (K : PySem.W.Frag) (mg : Str → Option Value) (C fI fR fS fE p : Addr) (dI dR dS dE : FuncData) : Prop where
  gm : mg "Grid" = some (.ref C)
  T : GTxt K C
  M : Mk K C fI
  rd : ClX.CRead K C (.type "type")
  cm : ClX.CMet K C (.type "type") "read" p fR
  ds : Dun K C "__str__" fS
  de : Dun K C "__eq__" fE
  FI : Fun K "__init__" "Grid.__init__" sGInit fI dI
  FR : Fun K "read" "Grid.read" sGRead fR dR
  FS : Fun K "__str__" "Grid.__str__" sGStr fS dS
  FE : Fun K "__eq__" "Grid.__eq__" sGEq fE dE
theorem meth_pack {K : PySem.W.Frag} {x q : Str} {st : Stmt} {f : Addr} {oc kV doc pm cdv ct : Value} {od an : Option Addr} {osl : Array (Option Value)}
    (l : K.lookup f = some ⟨oc, od, .func (PySem.W.fnOf x q (defArgs st) (defBody st) (defScope st) .none kV doc pm an cdv ct), osl⟩)
    (c : PySem.W.codeIn K cdv q = true) (k : PySem.W.keepIn K (.ref f) = true) : ∃ fd, Fun K x q st f fd := ⟨_, fun_mk l c k⟩
theorem grid_mk {K : PySem.W.Frag} {h : Heap} {mg : Str → Option Value} (X : K.In h) (G : h.Ns mainGlobals mg) {C fI fR fS fE p : Addr} {rest : List Value}
    (aC : PySem.W.nsIn K mainGlobals "Grid" = some (some (.ref C)))
    (pg : PySem.W.plainGet K C Str.empty = true) (hd : PySem.W.hasDictIn K C = true) (po : PySem.W.plainOver K C = true)
    (sa : PySem.W.findIn K (.ref C) "__setattr__" = some (some (.builtin "object.__setattr__")))
    (nT : PySem.W.findIn K (.ref C) "tops" = some none) (nO : PySem.W.findIn K (.ref C) "options" = some none)
    (ha : PySem.W.findIn K (.ref C) "__class__" = some (some (.builtin "object.__class__")))
    (hn : PySem.W.specialIn K (.builtin "object.__class__") "__get__" = some (some (.builtin "getset_descriptor.__get__")))
    (ht : PySem.W.takesIn K (.builtin "object.__class__") = some true)
    (hm : PySem.W.mroIn K C (.type "object") = some true)
    (mk : PySem.W.makesIn K C = true) (iC : PySem.W.findIn K (.ref C) "__init__" = some (some (.ref fI))) (iF : PySem.W.isFn K (.ref fI) = true) (kC : PySem.W.keepIn K (.ref C) = true)
    (rd : PySem.W.readsIn K C (.type "type") = true) (gC : PySem.W.specialIn K (.ref C) "__getattribute__" = some (some (.builtin "type.__getattribute__")))
    (at_ : PySem.W.findCls K (.ref C) (.type "type") "read" = some (.get (.builtin "classmethod.__get__") (.ref p) .none (.ref C))) (rc : PySem.W.recIn K p "classmethod" = some (.ref fR :: rest)) (fR1 : PySem.W.fnIn K fR = true)
    (sC : PySem.W.findIn K (.ref C) "__str__" = some (some (.ref fS))) (sF : PySem.W.isFn K (.ref fS) = true)
    (eC : PySem.W.findIn K (.ref C) "__eq__" = some (some (.ref fE))) (eF : PySem.W.isFn K (.ref fE) = true)
    (FI : ∃ d, Fun K "__init__" "Grid.__init__" sGInit fI d) (FR : ∃ d, Fun K "read" "Grid.read" sGRead fR d) (FS : ∃ d, Fun K "__str__" "Grid.__str__" sGStr fS d) (FE : ∃ d, Fun K "__eq__" "Grid.__eq__" sGEq fE d) :
    ∃ C fI fR fS fE p dI dR dS dE, GPack K mg C fI fR fS fE p dI dR dS dE := by
  obtain ⟨dI, FI⟩ := FI
  obtain ⟨dR, FR⟩ := FR
  obtain ⟨dS, FS⟩ := FS
  obtain ⟨dE, FE⟩ := FE
  exact ⟨C, fI, fR, fS, fE, p, dI, dR, dS, dE,
    { gm := PySem.W.mg_of X G aC, T := ⟨⟨pg, hd, po, sa⟩, nT, nO, ha, hn, ht, hm⟩, M := ⟨mk, iC, iF, kC⟩, rd := ⟨rd, gC⟩, cm := ⟨at_, ⟨rest, rc⟩, fR1⟩, ds := ⟨sC, sF⟩, de := ⟨eC, eF⟩, FI := FI, FR := FR, FS := FS, FE := FE }⟩
/-- the module's constants -/
structure CPack (K : PySem.W.Frag) (mg : Str → Option Value) (aD : Addr) (t1 t2 t3 : Tok) : Prop where
  m1 : mg "MOST_KNOBS" = some (.int 3 t1)
  m2 : mg "MOST_TOP" = some (.int 9 t2)
  m3 : mg "MOST_OPTIONS" = some (.int 16 t3)
  md : mg "DIGITS" = some (.ref aD)
  hD : ∀ H, SqT K H aD digVs
theorem cons_mk {K : PySem.W.Frag} {h : Heap} {mg : Str → Option Value} (X : K.In h) (G : h.Ns mainGlobals mg) {aD : Addr} {t1 t2 t3 : Tok} {od : Option Addr} {its : Array Value} {n : Nat} {sl : Array (Option Value)}
    (a1 : PySem.W.nsIn K mainGlobals "MOST_KNOBS" = some (some (.int 3 t1))) (a2 : PySem.W.nsIn K mainGlobals "MOST_TOP" = some (some (.int 9 t2))) (a3 : PySem.W.nsIn K mainGlobals "MOST_OPTIONS" = some (some (.int 16 t3)))
    (aD' : PySem.W.nsIn K mainGlobals "DIGITS" = some (some (.ref aD))) (l : K.lookup aD = some ⟨.type "tuple", od, .seq its n, sl⟩) (v : Vals digVs its.toList) : ∃ aD t1 t2 t3, CPack K mg aD t1 t2 t3 :=
  ⟨aD, t1, t2, t3, PySem.W.mg_of X G a1, PySem.W.mg_of X G a2, PySem.W.mg_of X G a3, PySem.W.mg_of X G aD', fun H => .inr ⟨_, its, n, l, rfl, rfl, by
    have e : digVs.length = its.toList.length := v.length
    have e2 : its.toList.length = its.size := Array.length_toList
    rw [show its.size = 10 from e2.symm.trans e.symm]
    decide, v⟩⟩
theorem all_of {P : Program} {w : World} {K : PySem.W.Frag} {mg : Str → Option Value} {fa : Addr} (hfa : mg "law" = some (.ref fa))
    (EN : ∃ (C fI cc c : Addr) (fd : FuncData) (R : Addr), ErrPack P K mg "BadNumber" "BadNumber.__init__" iNum "n" "n" C fI cc c fd R)
    (ET : ∃ (C fI cc c : Addr) (fd : FuncData) (R : Addr), ErrPack P K mg "BadText" "BadText.__init__" iTxt "at" "at" C fI cc c fd R)
    (GG : ∃ C fI fR fS fE p dI dR dS dE, GPack K mg C fI fR fS fE p dI dR dS dE) (CC : ∃ aD t1 t2 t3, CPack K mg aD t1 t2 t3)
    (W1 : ∃ f fd, mg "bad_word" = some (.ref f) ∧ Fun K "bad_word" "bad_word" sWord f fd) (W2 : ∃ f fd, mg "levels_of" = some (.ref f) ∧ Fun K "levels_of" "levels_of" sLevels f fd)
    (W3 : ∃ f fd, mg "check_tops" = some (.ref f) ∧ Fun K "check_tops" "check_tops" sCheck f fd) (W4 : ∃ f fd, mg "options_below" = some (.ref f) ∧ Fun K "options_below" "options_below" sBelow f fd)
    (B : ∃ f fd, mg "_law_bag" = some (.ref f) ∧ Fun K "_law_bag" "_law_bag" sBag f fd) (D : ∃ f fd, mg "_law_draw" = some (.ref f) ∧ Fun K "_law_draw" "_law_draw" sDraw f fd)
    (A : ∃ f fd, mg "_law_at_of" = some (.ref f) ∧ Fun K "_law_at_of" "_law_at_of" sAt f fd) (S : ∃ f fd, mg "_law_spread" = some (.ref f) ∧ Fun K "_law_spread" "_law_spread" sSpread f fd)
    (O : ∃ f fd, mg "_law_tops_of" = some (.ref f) ∧ Fun K "_law_tops_of" "_law_tops_of" sTopsOf f fd) (U : ∃ f fd, mg "_law_due" = some (.ref f) ∧ Fun K "_law_due" "_law_due" sDue f fd)
    (T : ∃ f fd, mg "_law_told_of" = some (.ref f) ∧ Fun K "_law_told_of" "_law_told_of" sTold f fd) (L : ∃ f fd, mg "law" = some (.ref f) ∧ Fun K "law" "law" sLaw f fd)
    (mi : mg "int" = none) (mr : mg "range" = none) (mt : mg "tuple" = none) (ml : mg "list" = none) (ms : mg "isinstance" = none) (me : mg "len" = none) (mn : mg "enumerate" = none) (mx : mg "str" = none) :
    ∃ fd : FuncData, (∀ (s : Shared) (v : Value), BindsTo s fd ⟨[v], []⟩ [("_law_script", v)]) ∧ ∀ base : Heap, FnOk P w K mg base CX0 8 fa fd ["_law_script"] (spLaw K) := by
  obtain ⟨C0, i0, cc0, c0, d0, R0, EN⟩ := EN
  obtain ⟨C1, i1, cc1, c1, d1, R1, ET⟩ := ET
  obtain ⟨C, fI, fR, fS, fE, p, dI, dR, dS, dE, GP⟩ := GG
  obtain ⟨aD, t1, t2, t3, CP⟩ := CC
  obtain ⟨f1, x1, g1, F1⟩ := W1
  obtain ⟨f2, x2, g2, F2⟩ := W2
  obtain ⟨f3, x3, g3, F3⟩ := W3
  obtain ⟨f4, x4, g4, F4⟩ := W4
  obtain ⟨fB, dB, gB, FB⟩ := B
  obtain ⟨fD, dD, gD, FD⟩ := D
  obtain ⟨fA, dA, gA, FA⟩ := A
  obtain ⟨fP, dP, gP, FP⟩ := S
  obtain ⟨fO, dO, gO, FO⟩ := O
  obtain ⟨fU, dU, gU, FU⟩ := U
  obtain ⟨fT, dT, gT, FT⟩ := T
  obtain ⟨fL, dL, gL, FL⟩ := L
  obtain rfl : fa = fL := by
    have z := hfa.symm.trans gL
    cases z
    rfl
  have b1 := F1.binds (ps := ["text"]) fun _ _ _ _ _ _ us hl => match us, hl with | [_], _ => rfl
  have b2 := F2.binds (ps := ["text"]) fun _ _ _ _ _ _ us hl => match us, hl with | [_], _ => rfl
  have b3 := F3.binds (ps := ["tops"]) fun _ _ _ _ _ _ us hl => match us, hl with | [_], _ => rfl
  have b4 := F4.binds (ps := ["tops"]) fun _ _ _ _ _ _ us hl => match us, hl with | [_], _ => rfl
  have bB := FB.binds (ps := ["_law_cell"]) fun _ _ _ _ _ _ us hl => match us, hl with | [_], _ => rfl
  have bD := FD.binds (ps := ["_law_pool", "_law_limit"]) fun _ _ _ _ _ _ us hl => match us, hl with | [_, _], _ => rfl
  have bA := FA.binds (ps := ["_law_script", "_law_k"]) fun _ _ _ _ _ _ us hl => match us, hl with | [_, _], _ => rfl
  have bP := FP.binds (ps := ["_law_tops"]) fun _ _ _ _ _ _ us hl => match us, hl with | [_], _ => rfl
  have bO := FO.binds (ps := ["_law_pool"]) fun _ _ _ _ _ _ us hl => match us, hl with | [_], _ => rfl
  have bU := FU.binds (ps := ["_law_text"]) fun _ _ _ _ _ _ us hl => match us, hl with | [_], _ => rfl
  have bT := FT.binds (ps := ["_law_text"]) fun _ _ _ _ _ _ us hl => match us, hl with | [_], _ => rfl
  have bR := GP.FR.binds (ps := ["cls", "text"]) fun _ _ _ _ _ _ us hl => match us, hl with | [_, _], _ => rfl
  have bS := GP.FS.binds (ps := ["self"]) fun _ _ _ _ _ _ us hl => match us, hl with | [_], _ => rfl
  have bE := GP.FE.binds (ps := ["self", "other"]) fun _ _ _ _ _ _ us hl => match us, hl with | [_, _], _ => rfl
  have bN := init_binds (ps := ["self", "n"]) EN.I fun _ _ _ _ _ us hl => match us, hl with | [_, _], _ => rfl
  have bX := init_binds (ps := ["self", "at"]) ET.I fun _ _ _ _ _ us hl => match us, hl with | [_, _], _ => rfl
  obtain ⟨oc, od, kV', doc, pm, an, cdv, ct, osl, rfl, lk, hcd⟩ := id FL.ex
  refine ⟨PySem.W.fnOf "law" "law" (defArgs sLaw) (defBody sLaw) (defScope sLaw) .none kV' doc pm an cdv ct, fun s v => .of_eq rfl, fun base => ?_⟩
  have G3 : FnOk P w K mg base (L2.CX P w) 3 f3 x3 ["tops"] (spCheck K C0) := ok_check F3 me EN.gm EN.T.ox EN.iC EN.tI (fun base => ok_num EN.T EN.n1 EN.I) bN CP.m1 CP.m2 CP.m3
  have GI : FnR P w K mg base (L2.CX P w) 4 fI (spGInit K C C0) := ok_ginit GP.FI GP.T F3 b3 g3 G3 F4 b4 g4 (ok_below F4 mr mt)
  have GR : FnOk P w K mg base (L2.CX P w) 6 fR dR ["cls", "text"] (spRead K C C0 C1) := ok_gread GP.FR GP.M GI F1 b1 g1 (ok_word F1 mn CP.md CP.hD) F2 b2 g2 (ok_levels F2 mi) ET.gm ET.T.ox ET.iC ET.tI (ok_txt ET.T ET.n1 ET.I) bX
  have GRr : FnR P w K mg base (L2.CX P w) 6 fR (spRead K C C0 C1) := (GR.raw bR .nil).imp fun vs H Q E h => by rw [List.append_nil]; exact h
  have GD := ok_draw (P := P) (w := w) (base := base) FD mi
  have GT := ok_told (P := P) (w := w) (base := base) FT GP.T GP.gm GP.rd GP.cm GRr ⟨ET.gm, ET.xf, ET.n1, exm_own ET⟩ ⟨EN.gm, EN.xf, EN.n1, exm_own EN⟩ (exm_other EN ET (by decide +kernel) (by decide +kernel))
  have GU := ok_due (P := P) (w := w) (base := base) FU mr me mi mt FP bP gP (ok_spread FP mr)
  exact ok_law FL FB bB gB (ok_bag FB) FD bD gD GD FA bA gA (ok_at FA me) FO bO gO (ok_topsOf FO FD bD gD GD) FU bU gU GU FT bT gT GT mr ml mx me GP.gm GP.rd GP.cm GRr
    GP.ds (ok_gstr GP.FS GP.T mx) bS GP.de (ok_geq GP.FE GP.T ms GP.gm) bE
end KL

set_option Elab.async false
set_option linter.all false
open PySem PySem.W PyProof.Rows
set_option maxRecDepth 100000 in
set_option maxHeartbeats 0 in
theorem PySem.Challenge.cw_risingknobs_k12_texts_of_grids_holds : PySem.Challenge.rw_risingknobs_k12_texts_of_grids.Holds := by
  w_on; o_law; k_head; (case hw => w_witness2)
  k_fill
  refine L2.walk_of (l := PySem.Challenge.rw_risingknobs_k12_texts_of_grids) (n := 63) (k := 8) (x := "_law_script") (CX := fun _ => L2.CX0) (sp := fun w => SX.spLaw _) rfl (by decide) rfl ⟨rfl, by decide, by decide⟩ (fun w h Y => PySem.W.kIn_of Y) ?F (fun _ _ a ns hl _ hS => ⟨a, ns, rfl, hS, hl, fun _ => rfl⟩) (fun _ _ _ _ _ h => h)
  case F =>
    intro w mg fa h KX G hmg
    refine' SX.use_all (KL.all_of (w := w) hmg ?pE0 ?pE1 ?pG ?pC ?pf0 ?pf1 ?pf2 ?pf3 ?pf4 ?pf5 ?pf6 ?pf7 ?pf8 ?pf9 ?pf10 ?pf11 (mg_none_of KX G ?pz1) (mg_none_of KX G ?pz2) (mg_none_of KX G ?pz3) (mg_none_of KX G ?pz4) (mg_none_of KX G ?pz5) (mg_none_of KX G ?pz6) (mg_none_of KX G ?pz7) (mg_none_of KX G ?pz8))
    case pE0 =>
      refine' SX.err_mk KX G ?aR ?tR ?xR ?aC ?xL ?xc ?iC ?tI ?lI ?cI ?lc ?lo ?su ?sa ?exC ?tyC ?kC ?ga ?gg ?hd ?ha ?hn ?ht ?hm ?sc ?ve ?op ?gs ?n1 ?n2 ?hbm ?hvs ?hfile ?htop ?hmro ?hname ?hnameR
      (case aR => k_is); (case tR => k_is); (case xR => k_is); (case aC => k_is); (case xL => k_is); (case xc => k_is); (case iC => k_is); (case tI => k_is); (case lI => k_is); (case cI => k_is); (case lc => k_is); (case lo => k_is); (case su => ks_is); (case sa => k_is); (case exC => k_is); (case tyC => k_is); (case kC => k_is); (case ga => k_is); (case gg => k_is); (case hd => k_is); (case ha => k_is); (case hn => k_is); (case ht => k_is); (case hm => k_is); (case sc => k_is); (case ve => k_is); (case op => k_is); (case gs => k_is); (case n1 => k_is); (case n2 => k_is); (case hbm => decide +kernel); (case hvs => rfl); (case hfile => decide +kernel); (case htop => decide +kernel); (case hmro => rfl); (case hname => rfl); (case hnameR => rfl)
    case pE1 =>
      refine' SX.err_mk KX G ?aR ?tR ?xR ?aC ?xL ?xc ?iC ?tI ?lI ?cI ?lc ?lo ?su ?sa ?exC ?tyC ?kC ?ga ?gg ?hd ?ha ?hn ?ht ?hm ?sc ?ve ?op ?gs ?n1 ?n2 ?hbm ?hvs ?hfile ?htop ?hmro ?hname ?hnameR
      (case aR => k_is); (case tR => k_is); (case xR => k_is); (case aC => k_is); (case xL => k_is); (case xc => k_is); (case iC => k_is); (case tI => k_is); (case lI => k_is); (case cI => k_is); (case lc => k_is); (case lo => k_is); (case su => ks_is); (case sa => k_is); (case exC => k_is); (case tyC => k_is); (case kC => k_is); (case ga => k_is); (case gg => k_is); (case hd => k_is); (case ha => k_is); (case hn => k_is); (case ht => k_is); (case hm => k_is); (case sc => k_is); (case ve => k_is); (case op => k_is); (case gs => k_is); (case n1 => k_is); (case n2 => k_is); (case hbm => decide +kernel); (case hvs => rfl); (case hfile => decide +kernel); (case htop => decide +kernel); (case hmro => rfl); (case hname => rfl); (case hnameR => rfl)
    case pG =>
      refine' KL.grid_mk KX G ?gaC ?gpg ?ghd ?gpo ?gsa ?gnT ?gnO ?gha ?ghn ?ght ?ghm ?gmk ?giC ?giF ?gkC ?grd ?ggC ?gat_ ?grc ?gfR1 ?gsC ?gsF ?geC ?geF (KL.meth_pack ?l1 ?c1 ?k1) (KL.meth_pack ?l2 ?c2 ?k2) (KL.meth_pack ?l3 ?c3 ?k3) (KL.meth_pack ?l4 ?c4 ?k4)
      (case gaC => k_is); (case gpg => k_is); (case ghd => k_is); (case gpo => k_is); (case gsa => k_is); (case gnT => k_is); (case gnO => k_is); (case gha => k_is); (case ghn => k_is); (case ght => k_is); (case ghm => k_is); (case gmk => k_is); (case giC => k_is); (case giF => k_is); (case gkC => k_is); (case grd => k_is); (case ggC => k_is); (case gat_ => k_is); (case grc => k_is); (case gfR1 => k_is); (case gsC => k_is); (case gsF => k_is); (case geC => k_is); (case geF => k_is)
      (case l1 => k_is); (case c1 => k_is); (case k1 => k_is); (case l2 => k_is); (case c2 => k_is); (case k2 => k_is); (case l3 => k_is); (case c3 => k_is); (case k3 => k_is); (case l4 => k_is); (case c4 => k_is); (case k4 => k_is)
    case pC =>
      refine' KL.cons_mk KX G ?a1 ?a2 ?a3 ?aD ?l ?v
      (case a1 => k_is); (case a2 => k_is); (case a3 => k_is); (case aD => k_is); (case l => k_is); (case v => exact (.cons ⟨_, rfl⟩ (.cons ⟨_, rfl⟩ (.cons ⟨_, rfl⟩ (.cons ⟨_, rfl⟩ (.cons ⟨_, rfl⟩ (.cons ⟨_, rfl⟩ (.cons ⟨_, rfl⟩ (.cons ⟨_, rfl⟩ (.cons ⟨_, rfl⟩ (.cons ⟨_, rfl⟩ .nil)))))))))))
    case pf0 => refine' SX.fun_pack KX G ?a ?l ?c ?k; (case a => k_is); (case l => k_is); (case c => k_is); (case k => k_is)
    case pf1 => refine' SX.fun_pack KX G ?a ?l ?c ?k; (case a => k_is); (case l => k_is); (case c => k_is); (case k => k_is)
    case pf2 => refine' SX.fun_pack KX G ?a ?l ?c ?k; (case a => k_is); (case l => k_is); (case c => k_is); (case k => k_is)
    case pf3 => refine' SX.fun_pack KX G ?a ?l ?c ?k; (case a => k_is); (case l => k_is); (case c => k_is); (case k => k_is)
    case pf4 => refine' SX.fun_pack KX G ?a ?l ?c ?k; (case a => k_is); (case l => k_is); (case c => k_is); (case k => k_is)
    case pf5 => refine' SX.fun_pack KX G ?a ?l ?c ?k; (case a => k_is); (case l => k_is); (case c => k_is); (case k => k_is)
    case pf6 => refine' SX.fun_pack KX G ?a ?l ?c ?k; (case a => k_is); (case l => k_is); (case c => k_is); (case k => k_is)
    case pf7 => refine' SX.fun_pack KX G ?a ?l ?c ?k; (case a => k_is); (case l => k_is); (case c => k_is); (case k => k_is)
    case pf8 => refine' SX.fun_pack KX G ?a ?l ?c ?k; (case a => k_is); (case l => k_is); (case c => k_is); (case k => k_is)
    case pf9 => refine' SX.fun_pack KX G ?a ?l ?c ?k; (case a => k_is); (case l => k_is); (case c => k_is); (case k => k_is)
    case pf10 => refine' SX.fun_pack KX G ?a ?l ?c ?k; (case a => k_is); (case l => k_is); (case c => k_is); (case k => k_is)
    case pf11 => refine' SX.fun_pack KX G ?a ?l ?c ?k; (case a => k_is); (case l => k_is); (case c => k_is); (case k => k_is)
    (case pz1 => k_is)
    (case pz2 => k_is)
    (case pz3 => k_is)
    (case pz4 => k_is)
    (case pz5 => k_is)
    (case pz6 => k_is)
    (case pz7 => k_is)
    (case pz8 => k_is)

