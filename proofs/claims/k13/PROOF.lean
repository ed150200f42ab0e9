import PyProof.Rows.All
import Wide.All
import OpenK.AllK
import Wide.FinOn
import KE.KExcSuper
import HandS.ForExc
import HandS.ExcSuper
import HandS.ExcInit
import HandS.Nested
import HandS.ExcField
import HandS.ExcIs
import HandS.IsInst
import KE.KExcIs
import HandS.ForMost
import HandS.NoneIn
import HandS.Zip
import HandS.Walk
import HandS.Comp
import HandS.Exc
import KE.KCallOwn
import HandS.OwnEq
import HandS.Star
import HandS.ClsMeth
import HandS.TryMany
import HandS.IterVal
import HandS.OwnIter
import HandS.CallSlots
import HandS.Deep
import HandS.TupAny
import HandS.TupSets
import PyProof.Rows.InDataRows
import HandS.Codes
import PyProof.StrLawsChain
import PySem.Challenge.RW_risingknobs_k13_regions
set_option Elab.async false
set_option linter.all false
set_option maxRecDepth 100000
set_option maxHeartbeats 4000000
/-! own exceptions whose __init__ opens with super().__init__('..') -/
namespace SX
open PySem PySem.W PySem.Calls PyProof.Rows

section
variable {prog : Program} {w : World} {A : Around} {E : Value → Shared → Prop} {h : Heap} {g : Array GenState} {d : Drawn} {t : Nat} {os : OsState}
variable {nm q : Str} {C N : Addr} {bs bm : List Value} {hdct : Bool} {sn : List Str} {sub : List Value} {ab : Bool} {col : Option Bool} {dd : Option Addr} {k0 k1 k2 k3 k5 : Option Value}

/-- the bound ValueError.__init__ called -/
theorem mw_call {u e t0 : Addr} {args : List Value} {Q : Value → Shared → Prop}
    (hC : h.get? C = some (excClassObj nm q C N bs bm hdct sn sub ab col dd k0 k1 k2 k3 k5 "ValueError.__new__"))
    (he : h.get? e = some (HandSPX.excO C t0)) (hu : h.get? u = some (kxs_mw "ValueError.__init__" e)) (hl : args.length ≤ sizeLine)
    (done : ∀ h1 t1, (∀ b o, b ≠ e → h.get? b = some o → h1.get? b = some o) → h1.get? e = some (HandSPX.excO C t1) → Q .none ⟨h1, g, d, t, os⟩) :
    wpAny (model prog w) A (call (.ref u) args) Q E ⟨h, g, d, t, os⟩ := by
  refine wpAny_call (codeAny_of_tree ?_)
  show wpAny (model prog w) A.in1 (callAny (.ref u) ⟨args, []⟩) _ _ _
  simp only [callAny]
  refine wpAny_bind (wpAny_load hu ?_)
  have d1 : (Value.type "method-wrapper" == Value.type "method" || Value.type "method-wrapper" == Value.type "builtin_function_or_method" || Value.type "method-wrapper" == Value.type "method-wrapper") = true := by decide
  simp only [kxs_mw, d1, if_true]
  refine W.KFB.if_so (by decide) (wpAny_bind ?_)
  refine ESX.check_bound F.excBase_ValueError hC he rfl (wpAny_bind (wpAny_pure ?_))
  refine wpAny_pure ?_
  refine ⟨plainId_quiet F.excBase_ValueError.init.plain _, ?_⟩
  refine codeAny_builtin F.excBase_ValueError.initEntry ?_
  refine exc_init_tree (cls := .ref C) (t0 := t0) (dv := none) (c2 := .none) (c3 := .none) (b4 := .bool false) he hl ?_
  intro h1 keep at1 _
  exact done h1 _ keep at1

/-- the whole of super().__init__('..') in the frame of the class's own __init__ -/
theorem super_init {pl : Sem Bool} {body : List Stmt} {env : Env} {p0 p1 p2 p3 pos : Pos} {txt : Str} {j : Nat} {Q : Value → Shared → Prop} {K : Frag} {fI x cda cc : Addr} {fd : FuncData} {ar : Arg} {vs : Array Value} {file : Str} {tf : Tok}
    {o1 : Obj} {ccl cl : Value} {cdd cld : Option Addr} {ccs csl : Array (Option Value)} {cd : ClassData} {t0 : Addr} {mg mb m : Str → Option Value}
    (X : K.In h) (hf : K.lookup fI = some o1) (hfd : o1.data = .func fd) (hp : (fd.params.posonlyargs ++ fd.params.args).head? = some ar)
    (hcode : K.lookup cda = some ⟨ccl, cdd, .fields vs, ccs⟩) (hvs : vs[2]? = some (.str file tf)) (hfile : ((prog.main.file : Str) == file) = true)
    (hcell : K.lookup cc = some ⟨cl, cld, .cell (some (.ref C)), csl⟩) (hcd : clsIn K C = some cd) (hsub : mroIn K C (.ref C) = some true)
    (hso : ks_superIn K C C "__init__" = some (some (.builtin "ValueError.__init__"))) (hVE : subIn K (.ref C) (.type "ValueError") = some true) (hop : nsIn K cStatics "thirdparty.any" = some none)
    (hlk : K.lookup C = some (excClassObj nm q C N bs bm hdct sn sub ab col dd k0 k1 k2 k3 k5 "ValueError.__new__"))
    (efu : env.func = some fI) (eco : env.code = .ref cda) (ek : env.scope.kind = .function) (ecl : env.cells.lookup ("__class__" : Str) = some cc)
    (hks : env.kindOf "super" = some .globalImplicit) (hkc : env.kindOf "__class__" = some .free) (hka : env.kindOf ar.arg = some .local)
    (eg : h.Ns env.globals mg) (hmg : mg "super" = none) (eb : h.Ns env.builtins mb) (hmb : mb "super" = some (.type "super")) (el : h.Ns env.locals m) (hself : m ar.arg = some (.ref x))
    (htop : (prog.main.scope.names.lookup ("super" : Str)).isSome = false)
    (hx : h.get? x = some (HandSPX.excO C t0))
    (done : ∀ h1 t1 tk, (∀ b o, b ≠ x → h.get? b = some o → h1.get? b = some o) → h1.get? x = some (HandSPX.excO C t1) → Q .none ⟨h1, g, d, tk, os⟩)
    (he : eval (.Call (.Attribute (.Call (.Name "super" p0) [] [] p1) "__init__" p2) [.Constant (.str txt) j p3] [] pos) env = (do
      let ov ← attributeBase (.Call (.Name "super" p0) [] [] p1) "__init__" env (eval (.Call (.Name "super" p0) [] [] p1) env)
      standAt p2.atName
      let (f, first) ← holding [ov] (getMethod ov "__init__" pl)
      callWith pos f first (backTo pos (starEach [.Constant (.str txt) j p3] env)) []) := by rfl) :
    _root_.PySem.wpAt (model prog w) A (.func body env) (eval (.Call (.Attribute (.Call (.Name "super" p0) [] [] p1) "__init__" p2) [.Constant (.str txt) j p3] [] pos) env) Q E ⟨h, g, d, t, os⟩ := by
  have I : InstAt h x (HandSPX.excO C t0) C none := ⟨hx, rfl, rfl, trivial⟩
  obtain ⟨oD, hD1, hD2⟩ : ∃ oD, h.get? C = some oD ∧ oD.data = .cls cd := by
    unfold clsIn at hcd
    split at hcd
    · rename_i c' d' cd' sl ho
      cases hcd
      exact ⟨_, X _ _ ho, rfl⟩
    · cases hcd
  have hm : alongIn K "__init__" ((cd.mro.dropWhile (· != .ref C)).drop 1) = some (some (.builtin "ValueError.__init__")) := by
    unfold ks_superIn at hso
    rw [hcd] at hso
    exact hso
  refine ks_wpAt_MethodCall (pl := pl) ?_ he
  refine ks_wpAt_super_base (env := env) hks hkc (by decide) efu (X _ _ hf) hfd hp eco (X _ _ hcode) rfl hvs hfile htop ?_
  refine ks_loadName_global ek hks (loadGlobal_builtin eg hmg eb hmb ⟨rfl, ?_⟩)
  refine wpAny_loadName_free ek hkc ecl ⟨_, X _ _ hcell, rfl⟩ ?_
  refine wpAny_loadName_local ek hka el hself ?_
  refine ks_wpAny_isType_cls hD1 hD2 ⟨rfl, ?_⟩
  refine ks_wpAny_call_super hD1 hD2 hx rfl (fun c e => by cases e) (looks_mroIn X hsub) (fun h2 e2 k2 => ?_)
  have X2 : K.In h2 := X.keeps k2
  have hx2 := k2 _ _ hx
  have I2 : InstAt h2 x (HandSPX.excO C t0) C none := ⟨hx2, rfl, rfl, trivial⟩
  refine kxs_getMethod kxs_ValueError e2 (looks_opaque X2 hop) (l₀ := cd.mro) (fun A Q E s k q => wpAny_bind ((looks_clsIn X2 hcd) A _ E s k (wpAny_pure q))) rfl X2 hm (I2.type.andThen (looks_subIn X2 hVE)) (ks_ne X2 I2 hcd) (by decide) ?_
  have hu : (h2.push (kxs_mw "ValueError.__init__" x)).get? h2.objs.size = some (kxs_mw "ValueError.__init__" x) := Heap.get?_push_at rfl rfl
  show wpAny _ _ (callWith pos (Value.ref h2.objs.size) [] ((false, eval (.Constant (.str txt) j p3) env) :: []) []) _ _ _
  refine kxs_callWith (i := "ValueError.__init__") (x := x) rfl (evalArgs_plain (Calls.spliced_cons (Calls.Constant_str (Calls.spliced_nil ⟨hu, ?_⟩))))
  refine mw_call (Heap.get?_push_of_some _ (X2 _ _ hlk)) (Heap.get?_push_of_some _ hx2) hu (by show 1 ≤ sizeLine; rw [sizeLine_eq]; omega) fun h3 t3 k3 at3 => ?_
  exact done h3 t3 _ (fun b o hb e => k3 b o hb (Heap.get?_push_of_some _ (k2 b o e))) at3
end
end SX

set_option Elab.async false
set_option linter.all false
set_option maxRecDepth 100000
set_option maxHeartbeats 4000000
namespace SX
open PySem PySem.Spec PyProof.Rows L2 NdefX

/-- what the written part says of an error class at C, its __init__ at fI, its cell at cc, the code object at c -/
structure ErrTxt (P : Program) (K : PySem.W.Frag) (mg : Str → Option Value) (C cc c : Addr) : Prop where
  ox : OexC K C
  cell : ∃ cl cld csl, K.lookup cc = some ⟨cl, cld, .cell (some (.ref C)), csl⟩
  code : ∃ (ccl : Value) (cdd : Option Addr) (vs : Array Value) (ccs : Array (Option Value)) (file : Str) (tf : Tok), K.lookup c = some ⟨ccl, cdd, .fields vs, ccs⟩ ∧ vs[2]? = some (.str file tf) ∧ ((P.main.file : Str) == file) = true
  cls : ∃ cd, PySem.W.clsIn K C = some cd
  sub : PySem.W.mroIn K C (.ref C) = some true
  sup : PySem.W.ks_superIn K C C "__init__" = some (some (.builtin "ValueError.__init__"))
  ve : PySem.W.subIn K (.ref C) (.type "ValueError") = some true
  op : PySem.W.nsIn K cStatics "thirdparty.any" = some none
  mgs : mg "super" = none
  top : (P.main.scope.names.lookup ("super" : Str)).isSome = false

section
variable {CX : CXT} {P : Program} {w : World} {K : PySem.W.Frag} {mg : Str → Option Value} {base : Heap} {N ps : List Str} {fI C cc c : Addr} {k : Nat} {sp : Sp}
  {qual : Str} {params : Arguments} {rest : List Stmt} {scope : Scope} {dV kV doc pm ct oc : Value} {an od : Option Addr} {osl : Array (Option Value)} {q0 q1 q2 q3 q4 q5 : Pos} {txt : Str} {jt : Nat}

abbrev supS (txt : Str) (jt : Nat) (q0 q1 q2 q3 q4 q5 : Pos) : Stmt := .Expr (.Call (.Attribute (.Call (.Name "super" q0) [] [] q1) "__init__" q2) [.Constant (.str txt) jt q3] [] q4) q5
abbrev nfI (qual : Str) (params : Arguments) (body : List Stmt) (scope : Scope) (cc c : Addr) : NF := ⟨"__init__", qual, params, body, scope, [("__class__", cc)], c⟩

theorem init_of {pl : Env → Sem Bool} (T : ErrTxt P K mg C cc c)
    (lk : K.lookup fI = some ⟨oc, od, .func (PySem.W.fnX "__init__" qual params (supS txt jt q0 q1 q2 q3 q4 q5 :: rest) scope [("__class__", cc)] dV kV doc pm an (.ref c) ct), osl⟩)
    (hcd : PySem.W.codeIn K (.ref c) qual = true) (S : NScope N ps ["__class__"] scope) (hs0 : ps[0]? = some ("self" : Str)) (hpar : ∃ ar : Arg, (params.posonlyargs ++ params.args).head? = some ar ∧ ar.arg = ("self" : Str))
    (hks : scope.names.lookup ("super" : Str) = some .globalImplicit)
    (he : ∀ env : Env, eval (.Call (.Attribute (.Call (.Name "super" q0) [] [] q1) "__init__" q2) [.Constant (.str txt) jt q3] [] q4) env = (do
      let ov ← attributeBase (.Call (.Name "super" q0) [] [] q1) "__init__" env (eval (.Call (.Name "super" q0) [] [] q1) env)
      standAt q2.atName
      let (f, first) ← holding [ov] (getMethod ov "__init__" (pl env))
      callWith q4 f first (backTo q4 (starEach [.Constant (.str txt) jt q3] env)) []))
    (len : ∀ vs H Q E, sp vs H Q E → vs.length = ps.length)
    (hbody : ∀ (A : Around) (outer : List Env) (s : Shared) (H : Hp) (vs : List V) (Q : VK) (E : XK), Room k (A.deeper (envF (nfI qual params (supS txt jt q0 q1 q2 q3 q4 q5 :: rest) scope cc c) fI s.heap.objs.size)) → sp vs H Q E →
      ∃ a t, vs[0]? = some (.ref a) ∧ H a = some (exo a C none) ∧ PSs (ncx CX P w K mg base N (nfI qual params (supS txt jt q0 q1 q2 q3 q4 q5 :: rest) scope cc c) fI A outer s H E) rest t ∧
        t { nx := fun _ H' => Q .non H', rt := Q } (startF N vs [none]) H) :
    FnOk P w K mg base CX (k + 1) fI (PySem.W.fnX "__init__" qual params (supS txt jt q0 q1 q2 q3 q4 q5 :: rest) scope [("__class__", cc)] dV kV doc pm an (.ref c) ct) ps sp := by
  refine ⟨len, fun A outer s H args us vs Q E hr e0 hb r hsp => ?_⟩
  have hl := len _ _ _ _ hsp
  have KX : K.In s.heap := e0.mod.kin.keeps fun b o e => (e0.bs b o e).1
  have lim : s.heap.NoLimit := e0.mod.nolimit.keeps fun b o e => (e0.bs b o e).1
  obtain ⟨cl, cld, csl, hcell⟩ := T.cell
  obtain ⟨ccl, cdd, cvs, ccs, file, tf, hcode, hvs, hfile⟩ := T.code
  obtain ⟨cd, hcls⟩ := T.cls
  obtain ⟨ar, har, hself⟩ := hpar
  obtain ⟨nm, q, Nn, bs, bm, sn, sub, ab, col, dd, k0, k1, k2, k3, k5, hC, hbm⟩ := T.ox.cls
  refine codeAny_call_function hr.depth (KX _ _ lk) rfl S.co S.gen rfl (PySem.W.codeRec_of KX hcd) (hb _ _ _ _ ?_)
  refine wpAny_newFunctionEnv S.nocell (fun ⟨n, _⟩ hy => S.par n (List.of_mem_zip hy).1) (fun h1 hns hsb => ⟨lim.fresh _ hsb, ?_⟩) S.kind
  obtain ⟨a, t, ha, hH, ht, hq⟩ := hbody A outer s H vs Q E (hr.deeper _) hsp
  have kp : ∀ b o, s.heap.get? b = some o → h1.get? b = some o := fun b o e => hsb.extBut b o (Nat.ne_of_lt (Heap.lt_size e)) (Heap.get?_push_of_some _ e)
  have C0 : CellsAt [("__class__", cc)] ["__class__"] [none] s.heap H := by
    refine ⟨rfl, fun y c e => ?_, fun x y c e1 e2 => ?_, fun i y e => ?_⟩
    · have z : c = cc := by
        simp only [List.lookup] at e
        split at e
        · exact (Option.some.inj e).symm
        · cases e
      subst z
      exact ⟨(e0.bs _ _ (e0.mod.kin _ _ hcell)).2, _, _, KX _ _ hcell, rfl⟩
    · have z : ∀ y : Str, List.lookup y [(("__class__" : Str), cc)] = some c → y = "__class__" := fun y e => by
        simp only [List.lookup] at e
        split at e
        · rename_i z
          exact eq_of_beq z
        · cases e
      rw [z x e1, z y e2]
    · cases i with
      | zero =>
        cases e
        exact ⟨cc, by simp [List.lookup], fun v z => by cases z⟩
      | succ i => cases e
  have I : Inv (ncx CX P w K mg base N (nfI qual params (supS txt jt q0 q1 q2 q3 q4 q5 :: rest) scope cc c) fI A outer s H E) [] (startF N vs [none]) H { s with heap := h1, toks := s.toks + (ps.zip us).length } := inv_startN S hr.hd e0 hl r C0 hns kp
  obtain ⟨t1, hx⟩ := exo_at I.hok hH
  obtain ⟨mb, hb1, hb2⟩ := I.mod.blt
  have hu0 : us[0]? = some (.ref a) := by
    obtain ⟨u, e, rv⟩ := r.get ha
    rw [e]
    obtain rfl : u = Value.ref a := rv
    rfl
  have hlook : (ps.zip us).reverse.lookup ("self" : Str) = some (.ref a) := zip_look (by
    have q : (N.take (ps.length + ([("__class__" : Str)]).length)).Nodup := S.nd.sublist (List.take_sublist _ N)
    rw [S.pre] at q
    exact (List.nodup_append.mp q).1) hs0 hu0
  refine ks_codeAny_funcAt ?_
  refine ks_wpAt_execs_cons (ks_wpAt_Expr_any ?_ I.quiet rfl)
  obtain ⟨hp, g, d, tk, os⟩ := s
  refine super_init (K := K) (fI := fI) (x := a) (cda := c) (cc := cc) (C := C) (ar := ar) (t0 := t1) (mg := mg) (mb := mb) I.kIn lk rfl har hcode hvs hfile hcell hcls T.sub T.sup T.ve T.op hC rfl rfl S.kind rfl hks
    (S.frk _ (List.mem_cons_self)) (by rw [hself]; exact S.par _ (List.mem_of_getElem? hs0)) (I.mod.glob.keeps I.bk) T.mgs (hb1.keeps I.bk) ((hb2 _ (by decide)).trans (by decide +kernel)) hns (by rw [hself]; exact hlook) T.top hx (fun h2 t2 tk2 k2 at2 => ?_) (he _)
  have J0 := I.write (t' := tk2) (x := a) (e := a) (o := exo a C none) (by rw [hH]; exact True.intro) (.inl rfl) k2 ⟨_, at2⟩ (exo_ok at2)
  have eu : upd H a (exo a C none) = H := by
    funext b
    by_cases hb : b = a
    · rw [hb, upd_same, hH]
    · rw [upd_ne hb]
  rw [eu] at J0
  refine wpAt_of_wpAny (wpAny_mono (ht.run [] _ (startF N vs [none]) H _ J0 hq) (fun fl s' hs => ?_) fun e s' hs => hs)
  have fin : ∀ {σ' : L2.St} {H' : Hp} {v : V} {u : Value}, Inv (ncx CX P w K mg base N (nfI qual params (supS txt jt q0 q1 q2 q3 q4 q5 :: rest) scope cc c) fI A outer ⟨hp, g, d, tk, os⟩ H E) [] σ' H' s' → L2.RelV v u → Q v H' → CE outer P w H ⟨hp, g, d, tk, os⟩ Q u s' :=
    fun {σ' H' v u} J rv q => ⟨v, H', J.os, J.bare, J.base, J.hok, rv, q⟩
  cases fl with
  | ret u =>
    obtain ⟨v, σ', H', J, rv, q⟩ := hs
    exact fin J rv q
  | next =>
    obtain ⟨σ', H', J, q⟩ := hs
    exact fin (v := V.non) (u := Value.none) J rfl q
  | brk =>
    obtain ⟨_, _, _, q⟩ := hs
    exact False.elim q
  | cont =>
    obtain ⟨_, _, _, q⟩ := hs
    exact False.elim q
end
end SX

set_option Elab.async false
set_option linter.all false
set_option maxRecDepth 100000
set_option maxHeartbeats 4000000
namespace SX
open PySem PySem.Spec PyProof.Rows L2 NdefX

/-- an own exception made and kept: its own __init__ keeps sp -/
def tMkE (C : Addr) (sp : Sp) (dvs : List V) (ta : TA) : TE := fun σ H Q => ta σ H fun vs H1 => vs.length ≤ 1000 ∧ ∀ a, H1 a = none →
  sp (.ref a :: (vs ++ dvs)) (upd H1 a (exo a C none)) (fun v H2 => v = .non ∧ Q (.ref a) H2) (fun _ _ _ => False)

section
variable {X : Cx} {e : Expr} {es : List Expr} {ta : TA} {p pos : Pos}
theorem run_mkE {CX : CXT} {C fI : Addr} {k : Nat} {fd : FuncData} {ps : List Str} {sp : Sp} {ds : List Value} {dvs : List V} {pins : List (Addr × Obj)} {σ : L2.St} {H1 : Hp} {s1 : Shared} {Q : VK} {us : List Value} {vs : List V}
    (T : OexC X.K C) (iC : PySem.W.findIn X.K (.ref C) "__init__" = some (some (.ref fI))) (tI : PySem.W.typeIn X.K (.ref fI) = some (.type "function"))
    (F1 : FnOk X.prog X.w X.K X.mg X.base CX k fI fd ps sp) (hr : Room (k + 1) X.A) (hb : Binds X.K fd ps ds) (hd : Vals dvs ds) (hx : Passes CX X (fun _ _ _ => False))
    (I1 : Inv X pins σ H1 s1) (r1 : Vals vs us) (hz : vs.length ≤ 1000)
    (q1 : ∀ a, H1 a = none → sp (.ref a :: (vs ++ dvs)) (upd H1 a (exo a C none)) (fun v H2 => v = .non ∧ Q (.ref a) H2) (fun _ _ _ => False)) :
    wpAny (model X.prog X.w) X.A (call (.ref C) us) (EP X pins σ Q) X.xe s1 := by
  obtain ⟨nm, q, N, bs, bm, sn, sub, ab, col, dd, k0, k1, k2, k3, k5, hC, hbm⟩ := T.cls
  obtain ⟨hp, g, dr, tk, os⟩ := s1
  have hsz : hp.objs.size ≤ hp.objs.size + 1 := Nat.le_succ _
  have hn : H1 (hp.objs.size + 1) = none := I1.hok.fresh hsz
  have hq := q1 (hp.objs.size + 1) hn
  have keep : ∀ b o, hp.get? b = some o → ((hp.push (PySem.W.kdv_tup us)).push (PySem.HandSPX.excO C hp.objs.size)).get? b = some o := fun b o e =>
    Heap.get?_push_of_some _ (Heap.get?_push_of_some _ e)
  have hat : ((hp.push (PySem.W.kdv_tup us)).push (PySem.HandSPX.excO C hp.objs.size)).get? (hp.objs.size + 1) = some (PySem.HandSPX.excO C hp.objs.size) := by heap_get
  have I2 := I1.laid (t' := tk) (a := hp.objs.size + 1) (o := exo (hp.objs.size + 1) C none) (h' := (hp.push (PySem.W.kdv_tup us)).push (PySem.HandSPX.excO C hp.objs.size)) keep hsz (exo_ok hat)
  have r2 : Vals (V.ref (hp.objs.size + 1) :: (vs ++ dvs)) (Value.ref (hp.objs.size + 1) :: (us ++ ds)) := .cons rfl (r1.append hd)
  have hl : (Value.ref (hp.objs.size + 1) :: us ++ ds).length = ps.length := by
    have e := r2.length
    rw [F1.len _ _ _ _ hq] at e
    exact e.symm
  have hus : us.length ≤ sizeLine := by
    rw [← Paired.length r1, sizeLine_eq]
    omega
  have kin : X.K.In hp := I1.kIn
  refine wpAny_call (PySem.HandSPX.call_own F.excBase_ValueError (fun Y => PySem.HandSPX.refsVE_contains Y bm hbm) (kin _ _ hC) (PySem.W.looks_findIn kin iC) (fun self => PySem.W.bind_fn kin self tI) hus ?_)
  refine codeAny_mono (F1.run _ X.stack _ _ ⟨Value.ref (hp.objs.size + 1) :: us, []⟩ (Value.ref (hp.objs.size + 1) :: (us ++ ds)) _ _ (fun _ _ _ => False) (hr.make C us []) (I2.env0.make C us []) (hb _ (Value.ref (hp.objs.size + 1) :: us) I2.kIn hl) r2 hq) fun r s' hq' => ?_
  cases r with
  | error er => exact hx pins σ _ _ er s' I2 hq'
  | ok fl =>
    cases fl with
    | ret u =>
      obtain ⟨v, H2, J, rv, ev, q2⟩ := I2.after hq'
      subst ev
      exact ⟨rv, .ref (hp.objs.size + 1), H2, J, rfl, q2⟩
    | next => exact False.elim hq'
    | brk => exact False.elim hq'
    | cont => exact False.elim hq'

theorem pe_mkE {CX : CXT} {x : Str} {C fI : Addr} {k : Nat} {fd : FuncData} {ps : List Str} {sp : Sp} {ds : List Value} {dvs : List V} (T : OexC X.K C) (iC : PySem.W.findIn X.K (.ref C) "__init__" = some (some (.ref fI)))
    (tI : PySem.W.typeIn X.K (.ref fI) = some (.type "function")) (F1 : FnOk X.prog X.w X.K X.mg X.base CX k fI fd ps sp) (hr : Room (k + 1) X.A) (hb : Binds X.K fd ps ds) (hd : Vals dvs ds) (hx : Passes CX X (fun _ _ _ => False))
    (hg : Gl X x) (hm : X.mg x = some (.ref C)) (ha : PA X (e :: es) ta)
    (hdb : (x == ("__debug__" : Str)) = false := by decide) (he : starEach (e :: es) X.env = (false, eval e X.env) :: starEach es X.env := by rfl) (hpl : (backTo pos (starEach es X.env)).any (·.1) = false := by rfl) :
    PE X (.Call (.Name x p) (e :: es) [] pos) (tMkE C sp dvs ta) := by
  refine ⟨fun pins s σ H Q I h => ?_⟩
  refine wpAny_Call_Name_kw (ld_glob I hg hm ?_ hdb)
  refine PySem.W.callWith_K (h₀ := X.base) I.ok.mod.kin T.kC (thn (ha.run pos pins s σ H _ I h) fun us s1 ⟨vs, H1, I1, r1, hz, q1⟩ => ⟨I1.kIn, ?_⟩) he hpl
  exact run_mkE T iC tI F1 hr hb hd hx I1 r1 hz q1
theorem pe_mkE0 {CX : CXT} {x : Str} {C fI : Addr} {k : Nat} {fd : FuncData} {ps : List Str} {sp : Sp} {ds : List Value} {dvs : List V} (T : OexC X.K C) (iC : PySem.W.findIn X.K (.ref C) "__init__" = some (some (.ref fI)))
    (tI : PySem.W.typeIn X.K (.ref fI) = some (.type "function")) (F1 : FnOk X.prog X.w X.K X.mg X.base CX k fI fd ps sp) (hr : Room (k + 1) X.A) (hb : Binds X.K fd ps ds) (hd : Vals dvs ds) (hx : Passes CX X (fun _ _ _ => False))
    (hg : Gl X x) (hm : X.mg x = some (.ref C)) (hdb : (x == ("__debug__" : Str)) = false := by decide) :
    PE X (.Call (.Name x p) [] [] pos) (tMkE C sp dvs tNil) := by
  refine ⟨fun pins s σ H Q I h => ?_⟩
  refine wpAny_Call_Name_kw (ld_glob I hg hm ?_ hdb)
  exact PySem.W.callWith_K0 I.kIn T.kC (run_mkE (us := []) (vs := []) T iC tI F1 hr hb hd hx I .nil (Nat.zero_le _) h.2)

/-- e.f of such an exception -/
def tEf (K : PySem.W.Frag) (f : Str) (te : TE) : TE := fun σ H Q => te σ H fun x H1 => ∃ (a C dx : Addr) (fs : List (Str × V)) (v : V), x = .ref a ∧ H1 a = some (exo a C (some dx)) ∧ H1 dx = some (exd dx fs) ∧ XfC K C ∧
  PySem.W.findIn K (.ref C) f = some none ∧ fs.lookup f = some v ∧ Q v H1
theorem pe_ef {te : TE} {n : Str} (he : PE X e te) (hb : attributeBase e n X.env (eval e X.env) = eval e X.env := by rfl) : PE X (.Attribute e n pos) (tEf X.K n te) := by
  refine ⟨fun pins s σ H Q I h => ?_⟩
  refine attr_of hb (thn (he.run pins s σ H _ I h) fun u s1 hh => ?_)
  obtain ⟨x, H1, I1, rx, a, C, dd, fs, v, ex, ea, ed, T, hno, l, q⟩ := hh
  subst ex
  obtain rfl : u = Value.ref a := rx
  obtain ⟨t1, hx⟩ := exo_at I1.hok ea
  obtain ⟨mA, hns, hr⟩ := exd_at I1.hok ed
  obtain ⟨od, ho, hl⟩ := lookIn_ns hns
  obtain ⟨u, hu, ru⟩ := RelO.some_of (v := v) (o := mA n) (by rw [← l]; exact hr n)
  have J : PySem.W.InstAt s1.heap a { cls := .ref C, dict := some dd, data := .fields #[.ref t1, .none, .none, .none, .bool false, .none] } C (some od) := ⟨hx, rfl, rfl, ho⟩
  exact HandSPX.exc_get I1.kIn J T.ga T.gg T.exC (PySem.W.findObj_own T.hdC hno rfl (by rw [hl, hu])) (handed_of ru) ⟨v, H1, I1.tok _, ru, q⟩

/-- isinstance(e, c) of such an exception -/
def rIsX (K : PySem.W.Frag) : List V → Hp → VK → Prop := fun xs H Q => ∃ (a C : Addr) (od : Option Addr) (fs : List (Str × V)) (c : V) (u : Value) (b : Bool), xs = [.ref a, c] ∧ ClsV c u ∧ H a = some (exo a C od) ∧ (∀ d, od = some d → H d = some (exd d fs)) ∧
  ExcC K C ∧ PySem.W.kitOne K (.ref C) u = some b ∧ Q (.bl b) H
theorem call_isX : CallR X (.builtin "isinstance") (rIsX X.K) := by
  intro pins s σ H xs us Q I r h
  obtain ⟨a, C, od, fs, c, u, b, rfl, k, ea, ed, T, e, q⟩ := h
  obtain ⟨u1, u2, rfl, r1, r2⟩ := vals2 r
  have e2 := k.eq r2
  subst e2
  obtain rfl : u1 = Value.ref a := r1
  obtain ⟨t1, hx⟩ := exo_at I.hok ea
  obtain ⟨odx, J⟩ : ∃ odx, PySem.W.InstAt s.heap a { cls := .ref C, dict := od, data := .fields #[.ref t1, .none, .none, .none, .bool false, .none] } C odx := by
    cases od with
    | none => exact ⟨none, hx, rfl, rfl, trivial⟩
    | some d =>
      obtain ⟨mA, hns, _⟩ := exd_at I.hok (ed d rfl)
      obtain ⟨od, ho, _⟩ := lookIn_ns hns
      exact ⟨some od, hx, rfl, rfl, ho⟩
  exact PySem.W.kia_one (PySem.W.kitx_exc (by obtain ⟨cd, hc, _⟩ := PySem.W.any_some T.hd; rw [hc]; rfl) T.hg T.hk T.hs T.ha T.hn T.ht T.hm) I.kIn J e (fun z => nomatch z) fun tk => ⟨.bl b, H, I.tok tk, rfl, q⟩
end
end SX

set_option Elab.async false
set_option linter.all false
set_option maxRecDepth 100000
set_option maxHeartbeats 4000000
namespace SX
open PySem PySem.Spec PyProof.Rows L2 NdefX
/-- K says: at fI the __init__ of the class at C -/
def InitAt (K : PySem.W.Frag) (qual : Str) (st : Stmt) (fI cc c : Addr) (fd : FuncData) : Prop := ∃ (oc : Value) (od : Option Addr) (kV doc pm : Value) (an : Option Addr) (ct : Value) (osl : Array (Option Value)),
  fd = PySem.W.fnX "__init__" qual (defArgs st) (defBody st) (defScope st) [("__class__", cc)] .none kV doc pm an (.ref c) ct ∧ K.lookup fI = some ⟨oc, od, .func fd, osl⟩ ∧ PySem.W.codeIn K (.ref c) qual = true

/-- H' is H but at a, where an exception stands with its own dict at d, new -/
structure Filled (H H' : Hp) (a C d : Addr) (fs : List (Str × V)) : Prop where
  ob : H' a = some (exo a C (some d))
  dc : H' d = some (exd d fs)
  nw : H d = none
  ne : d ≠ a
  kp : ∀ b o, H b = some o → b ≠ a → H' b = some o

def spI1 (C : Addr) (f : Str) : Sp := fun vs H Q _ => ∃ (a : Addr) (v : V), vs = [.ref a, v] ∧ H a = some (exo a C none) ∧ ∀ d H', Filled H H' a C d [(f, v)] → Q .non H'
def spI2 (C : Addr) (f g : Str) : Sp := fun vs H Q _ => ∃ (a : Addr) (v u : V), vs = [.ref a, v, u] ∧ H a = some (exo a C none) ∧ ∀ d H', Filled H H' a C d [(g, u), (f, v)] → Q .non H'
def spI0 (C : Addr) : Sp := fun vs H Q _ => ∃ (a : Addr), vs = [.ref a] ∧ H a = some (exo a C none) ∧ Q .non H
/-- a list or a tuple -/
def SqA (K : PySem.W.Frag) (H : Hp) (a : Addr) (xs : List V) : Prop := SqL K H a xs ∨ SqT K H a xs
def spT1 (K : PySem.W.Frag) (C : Addr) (f : Str) : Sp := fun vs H Q _ => ∃ (a p : Addr) (xs : List V), vs = [.ref a, .ref p] ∧ H a = some (exo a C none) ∧ SqA K H p xs ∧
  ∀ d q H', Filled H H' a C d [(f, .ref q)] → SqT K H' q xs → Q .non H'
def spT2 (K : PySem.W.Frag) (C : Addr) (f g : Str) : Sp := fun vs H Q _ => ∃ (a p p2 : Addr) (xs ys : List V), vs = [.ref a, .ref p, .ref p2] ∧ H a = some (exo a C none) ∧ SqA K H p xs ∧ SqA K H p2 ys ∧
  ∀ d q q2 H', Filled H H' a C d [(g, .ref q2), (f, .ref q)] → SqT K H' q xs → SqT K H' q2 ys → Q .non H'

theorem fill1 {H : Hp} {a C d : Addr} {fs : List (Str × V)} (hd : H d = none) (hne : d ≠ a) : Filled H (upd (upd H d (exd d fs)) a (exo a C (some d))) a C d fs where
  ob := upd_same
  dc := by rw [upd_ne hne, upd_same]
  nw := hd
  ne := hne
  kp := fun b o e hb => by rw [upd_ne hb, upd_ne (ne_of_none e hd)]; exact e


theorem Filled.more {H H' : Hp} {a C d : Addr} {fs : List (Str × V)} {y : Str × V} (f : Filled H H' a C d fs) (hne : d ≠ a) : Filled H (upd H' d (exd d (y :: fs))) a C d (y :: fs) where
  ob := by rw [upd_ne hne.symm]; exact f.ob
  dc := upd_same
  nw := f.nw
  ne := hne
  kp := fun b o e hb => by rw [upd_ne (ne_of_none e f.nw)]; exact f.kp b o e hb
theorem Filled.pre' {H H1 H' : Hp} {a C d : Addr} {fs : List (Str × V)} (f : Filled H1 H' a C d fs) (s : Same H H1) : Filled H H' a C d fs where
  ob := f.ob
  dc := f.dc
  nw := s.free f.nw
  ne := f.ne
  kp := fun b o e hb => f.kp b o (s b o e) hb
theorem same_upd {H : Hp} {p : Addr} {o : HO} (h : H p = none) : Same H (upd H p o) := fun b x e => by
  rw [upd_ne (ne_of_none e h)]
  exact e
theorem Filled.pre {H H' : Hp} {a C d q : Addr} {fs : List (Str × V)} {o : HO} (hq : H q = none) (f : Filled (upd H q o) H' a C d fs) : Filled H H' a C d fs := f.pre' (same_upd hq)
theorem Filled.after {H H' H2 : Hp} {a C d : Addr} {fs : List (Str × V)} (f : Filled H H' a C d fs) (s : Same H' H2) : Filled H H2 a C d fs where
  ob := s _ _ f.ob
  dc := s _ _ f.dc
  nw := f.nw
  ne := f.ne
  kp := fun b o e hb => s _ _ (f.kp b o e hb)
theorem sqT_ne {K : PySem.W.Frag} {H H' : Hp} {a p : Addr} {xs : List V} {o : HO} (ha : H a = some o) (n1 : ∀ ys, o ≠ .tup ys) (n2 : ∀ u z, o ≠ .frz u z) (kp : ∀ b o, H b = some o → b ≠ a → H' b = some o) (h : SqT K H p xs) : SqT K H' p xs := by
  rcases h with (h | ⟨u, h⟩) | h
  · exact .inl (.inl (kp _ _ h fun z => by rw [z, ha] at h; exact n1 _ (Option.some.inj h)))
  · exact .inl (.inr ⟨u, kp _ _ h fun z => by rw [z, ha] at h; exact n2 _ _ (Option.some.inj h)⟩)
  · exact .inr h
theorem sqL_ne {K : PySem.W.Frag} {H H' : Hp} {a p : Addr} {xs : List V} {o : HO} (ha : H a = some o) (n1 : ∀ ys, o ≠ .lst ys) (n2 : ∀ u z, o ≠ .frz u z) (kp : ∀ b o, H b = some o → b ≠ a → H' b = some o) (h : SqL K H p xs) : SqL K H' p xs := by
  rcases h with (h | ⟨u, h⟩) | h
  · exact .inl (.inl (kp _ _ h fun z => by rw [z, ha] at h; exact n1 _ (Option.some.inj h)))
  · exact .inl (.inr ⟨u, kp _ _ h fun z => by rw [z, ha] at h; exact n2 _ _ (Option.some.inj h)⟩)
  · exact .inr h
theorem exo_lst {e C : Addr} {d : Option Addr} {xs : List V} : exo e C d ≠ .lst xs := fun z => by
  unfold exo at z
  cases z
theorem Filled.sqT {K : PySem.W.Frag} {H H' : Hp} {a C d p : Addr} {fs : List (Str × V)} {xs : List V} (f : Filled H H' a C d fs) (ha : H a = some (exo a C none)) (h : SqT K H p xs) : SqT K H' p xs :=
  sqT_ne ha (fun _ => exo_tup) (fun _ _ => exo_frz) f.kp h
theorem Filled.sqA {K : PySem.W.Frag} {H H' : Hp} {a C d p : Addr} {fs : List (Str × V)} {xs : List V} (f : Filled H H' a C d fs) (ha : H a = some (exo a C none)) (h : SqA K H p xs) : SqA K H' p xs :=
  h.imp (sqL_ne ha (fun _ => exo_lst) (fun _ _ => exo_frz) f.kp) (f.sqT ha)
theorem Same.sqt {K : PySem.W.Frag} {H H' : Hp} {a : Addr} {xs : List V} (e : Same H H') (h : SqT K H a xs) : SqT K H' a xs := by
  rcases h with (h | ⟨o, h⟩) | h
  · exact .inl (.inl (e _ _ h))
  · exact .inl (.inr ⟨o, e _ _ h⟩)
  · exact .inr h
theorem sqA_same {K : PySem.W.Frag} {H H' : Hp} {a : Addr} {xs : List V} (e : Same H H') (h : SqA K H a xs) : SqA K H' a xs := h.imp e.seq (Same.sqt e)
theorem exd_frz {e : Addr} {fs : List (Str × V)} {o : Obj} {u : HO} : exd e fs ≠ .frz o u := fun z => by
  unfold exd at z
  cases z
theorem Filled.sqU {K : PySem.W.Frag} {H H' : Hp} {a C d p : Addr} {fs gs : List (Str × V)} {xs : List V} (f : Filled H H' a C d fs) (hne : d ≠ a) (h : SqT K H' p xs) : SqT K (upd H' d (exd d gs)) p xs :=
  sqT_ne f.dc (fun _ => exd_tup) (fun _ _ => exd_frz) (fun b o e hb => by rw [upd_ne hb]; exact e) h
/-- tuple(x), x a list or a tuple: the tuple, new or the same -/
def rTup (K : PySem.W.Frag) : List V → Hp → VK → Prop := fun vs H Q => ∃ (p : Addr) (xs : List V), vs = [.ref p] ∧ SqA K H p xs ∧ ∀ q H2, Same H H2 → SqT K H2 q xs → Q (.ref q) H2
theorem call_tup {X : Cx} : CallR X (.type "tuple") (rTup X.K) := fun pins s σ H vs us Q I r ⟨p, xs, e, h, k⟩ => call_tuple_of pins s σ H vs us Q I r ⟨p, xs, e, h.elim
  (fun h => .inl ⟨h, fun q hq => k q _ (same_upd hq) (.inl (.inl upd_same))⟩) (fun h => .inr ⟨h, k p H (Same.refl H) h⟩)⟩
/-! displays, weakened -/
theorem PA.clo {X : Cx} {es : List Expr} {t : TA} (h : PA X es t) : PA X es (fun σ H R => ∃ A : List V → Hp → Prop, (∀ xs H1, A xs H1 → R xs H1) ∧ t σ H A) :=
  ⟨fun pos pins s σ H R I ⟨A, k, q⟩ => thn (h.run pos pins s σ H A I q) fun us s1 ⟨xs, H1, I1, r, q1⟩ => ⟨xs, H1, I1, r, k _ _ q1⟩⟩
def tNewL (t : TA) : TE := fun σ H Q => t σ H fun xs H1 => xs.length ≤ sizeLine ∧ ∀ p H2, Same H1 H2 → H1 p = none → H2 p = some (.lst xs) → Q (.ref p) H2
def tNewT (t : TA) : TE := fun σ H Q => t σ H fun xs H1 => xs.length ≤ sizeLine ∧ ∀ p H2, Same H1 H2 → H1 p = none → H2 p = some (.tup xs) → Q (.ref p) H2
theorem pe_newL {X : Cx} {es : List Expr} {pos : Pos} {t : TA} (h : PA X es t) : PE X (.List es pos) (tNewL t) := ⟨fun pins s σ H Q I q => (pe_lst (PA.clo h)).run pins s σ H Q I ⟨_, fun xs H1 z => ⟨z.1, fun p hp => z.2 p _ (same_upd hp) hp upd_same⟩, q⟩⟩
theorem pe_newT {X : Cx} {es : List Expr} {pos : Pos} {x1} {t : TA} (h : PA X es t) : PE X (.Tuple es x1 pos) (tNewT t) := ⟨fun pins s σ H Q I q => (pe_tup (PA.clo h)).run pins s σ H Q I ⟨_, fun xs H1 z => ⟨z.1, fun p hp => z.2 p _ (same_upd hp) hp upd_same⟩, q⟩⟩

/-- the pool of a law -/
def Bag (H : Hp) (p : Addr) (b : Bool) : Prop := ∃ c n : Int, H p = some (.lst [.int c, .int n, .bl b])
/-- all but the object at p is as it was -/
def But (p : Addr) (H H' : Hp) : Prop := ∀ b o, H b = some o → b ≠ p → H' b = some o
theorem But.trans {p : Addr} {H H1 H2 : Hp} (a : But p H H1) (b : But p H1 H2) : But p H H2 := fun c o e n => b c o (a c o e n) n
theorem But.refl (p : Addr) (H : Hp) : But p H H := fun _ _ e _ => e
theorem But.upd {p : Addr} {H : Hp} {o : HO} : But p H (upd H p o) := fun c u e n => by rw [upd_ne n]; exact e
def spBag : Sp := fun vs H Q _ => ∃ c : Int, vs = [.int c] ∧ ∀ p H' b, Same H H' → H p = none → Bag H' p b → Q (.ref p) H'
def spDraw : Sp := fun vs H Q _ => ∃ (p : Addr) (m : Int) (b : Bool), vs = [.ref p, .int m] ∧ Bag H p b ∧ 0 < m ∧ m < 1000000 ∧ ∀ (r : Int) H', 0 ≤ r → r < m → But p H H' → Bag H' p b → Q (.int r) H'
def spAt (K : PySem.W.Frag) : Sp := fun vs H Q _ => ∃ (a : Addr) (ns : List Int) (k : Nat), vs = [.ref a, .int k] ∧ SqL K H a (ns.map V.int) ∧ ∀ z, Q (.int z) H

/-! more weakened rules -/
def rCatW : R2 := fun x y H Q => ∃ l b xs zs, x = .ref l ∧ y = .ref b ∧ H l = some (.lst xs) ∧ H b = some (.lst zs) ∧ xs.length + zs.length ≤ sizeLine ∧ ∀ p H2, Same H H2 → H p = none → H2 p = some (.lst (xs ++ zs)) → Q (.ref p) H2
theorem op_catW {X : Cx} : OpR X (binaryOp .Add) rCatW := fun pins s σ H x y v u Q I rx ry ⟨l, b, xs, zs, e1, e2, h1, h2, hz, q⟩ =>
  op_cat pins s σ H x y v u Q I rx ry ⟨l, b, xs, zs, e1, e2, h1, h2, hz, fun p hp => q p _ (same_upd hp) hp upd_same⟩

/-! data of ints -/
theorem dpInts {K : PySem.W.Frag} {H : Hp} : ∀ xs : List Int, DpAll K H (xs.map V.int) (xs.map PyData.int)
  | [] => .nil
  | x :: xs => .cons (.int x) (dpInts xs)
theorem layInts : ∀ xs : List Int, PyData.canLayAll0 (xs.map PyData.int) = true
  | [] => rfl
  | x :: xs => by
    show (PyData.canLay0 (.int x) && PyData.canLayAll0 (xs.map PyData.int)) = true
    rw [layInts xs]
    rfl
theorem depInts : ∀ xs : List Int, PyData.depthAll (xs.map PyData.int) = 0
  | [] => rfl
  | x :: xs => by
    show max (PyData.depth (.int x)) (PyData.depthAll (xs.map PyData.int)) = 0
    rw [depInts xs]
    rfl
theorem shapedT (xs : List Int) : SeqAt.shaped (.tuple (xs.map PyData.int)) = true := by
  unfold SeqAt.shaped
  rw [show PyData.canLay0 (.tuple (xs.map PyData.int)) = PyData.canLayAll0 (xs.map PyData.int) from rfl, layInts,
    show PyData.depth (.tuple (xs.map PyData.int)) = PyData.depthAll (xs.map PyData.int) + 1 from rfl, depInts]
  rfl
theorem shapedLT (xs ys : List Int) : SeqAt.shaped (.list [.tuple (xs.map PyData.int), .tuple (ys.map PyData.int)]) = true := by
  unfold SeqAt.shaped
  rw [show PyData.canLay0 (.list [.tuple (xs.map PyData.int), .tuple (ys.map PyData.int)]) = (PyData.canLayAll0 (xs.map PyData.int) && (PyData.canLayAll0 (ys.map PyData.int) && true)) from rfl, layInts, layInts,
    show PyData.depth (.list [.tuple (xs.map PyData.int), .tuple (ys.map PyData.int)]) = max (PyData.depthAll (xs.map PyData.int) + 1) (max (PyData.depthAll (ys.map PyData.int) + 1) 0) + 1 from rfl, depInts, depInts]
  rfl
theorem eqvSelf {d : PyData} (h : SeqAt.shaped d = true) : PyData.eqv d d = true := SeqAt.eqv_refl d (SeqAt.canLay_of_shaped h)

theorem made_same {H H' : Hp} {a C d : Addr} {fs : List (Str × V)} (ha : H a = none) (f : Filled (upd H a (exo a C none)) H' a C d fs) : Same H H' := fun b o e =>
  f.kp b o (by rw [upd_ne (ne_of_none e ha)]; exact e) (ne_of_none e ha)
def rListW (K : PySem.W.Frag) : List V → Hp → VK → Prop := fun vs H Q => ∃ (p : Addr) (xs : List V), vs = [.ref p] ∧ SqA K H p xs ∧ ∀ q H2, Same H H2 → H q = none → H2 q = some (.lst xs) → Q (.ref q) H2
theorem call_listW {X : Cx} : CallR X (.type "list") (rListW X.K) := fun pins s σ H vs us Q I r ⟨p, xs, e, h, k⟩ => call_list_of pins s σ H vs us Q I r ⟨p, xs, e, h, fun q hq => k q _ (same_upd hq) hq upd_same⟩
theorem Bag.same {H H' : Hp} {p : Addr} {b : Bool} (h : Bag H p b) (s : Same H H') : Bag H' p b := by
  obtain ⟨c, n, e⟩ := h
  exact ⟨c, n, s _ _ e⟩
theorem Same.but {p : Addr} {H H' : Hp} (s : Same H H') : But p H H' := fun b o e _ => s b o e
theorem Bag.ne {H : Hp} {p q : Addr} {b : Bool} (h : Bag H p b) (hq : H q = none) : q ≠ p := fun z => by
  obtain ⟨c, n, e⟩ := h
  rw [← z, hq] at e
  cases e
theorem But.lst {H H' : Hp} {p q : Addr} {o : HO} (s : But p H H') (hq : q ≠ p) (h : H q = some o) : H' q = some o := s _ _ h hq
/-- the same of an object that was new -/
def spLaw (K : PySem.W.Frag) : Sp := fun vs H Q _ => ∃ (a : Addr) (ns : List Int), vs = [.ref a] ∧ SqL K H a (ns.map V.int) ∧ ns.length ≤ 63 ∧ ∀ H', Q (.bl true) H'
theorem flags_dp {K : PySem.W.Frag} {H : Hp} (bs : List Bool) : DpAll K H (bs.map V.bl) (bs.map PyData.bool) := by
  induction bs with
  | nil => exact .nil
  | cons b bs ih => exact .cons (.bl b) ih
theorem layBools : ∀ xs : List Bool, PyData.canLayAll0 (xs.map PyData.bool) = true
  | [] => rfl
  | x :: xs => by
    show (PyData.canLay0 (.bool x) && PyData.canLayAll0 (xs.map PyData.bool)) = true
    rw [layBools xs]
    rfl
theorem depBools : ∀ xs : List Bool, PyData.depthAll (xs.map PyData.bool) = 0
  | [] => rfl
  | x :: xs => by
    show max (PyData.depth (.bool x)) (PyData.depthAll (xs.map PyData.bool)) = 0
    rw [depBools xs]
    rfl
theorem shapedB (xs : List Bool) : SeqAt.shaped (.list (xs.map PyData.bool)) = true := by
  unfold SeqAt.shaped
  rw [show PyData.canLay0 (.list (xs.map PyData.bool)) = PyData.canLayAll0 (xs.map PyData.bool) from rfl, layBools,
    show PyData.depth (.list (xs.map PyData.bool)) = PyData.depthAll (xs.map PyData.bool) + 1 from rfl, depBools]
  rfl
/-- what stands through the law: the pool's list is not asked any more, the two options -/
structure ErrPack (P : Program) (K : PySem.W.Frag) (mg : Str → Option Value) (x qual : Str) (st : Stmt) (f1 f2 : Str) (C fI cc c : Addr) (fd : FuncData) (R : Addr) : Prop where
  T : ErrTxt P K mg C cc c
  I : InitAt K qual st fI cc c fd
  xf : XfC K C
  ec : ExcC K C
  gm : mg x = some (.ref C)
  iC : PySem.W.findIn K (.ref C) "__init__" = some (some (.ref fI))
  tI : PySem.W.typeIn K (.ref fI) = some (.type "function")
  mro : ∃ cd, PySem.W.clsIn K C = some cd ∧ cd.mro = .ref C :: .ref R :: PySem.HandSPX.veTail ∧ cd.name = x
  n1 : PySem.W.findIn K (.ref C) f1 = some none
  n2 : PySem.W.findIn K (.ref C) f2 = some none
  gR : mg "RiseError" = some (.ref R)
  tR : PySem.W.typeIn K (.ref R) = some (.type "type")
  cR : ∃ cd, PySem.W.clsIn K R = some cd ∧ cd.name = "RiseError"

theorem err_mk {P : Program} {K : PySem.W.Frag} {h : Heap} {mg : Str → Option Value} (X : K.In h) (G : h.Ns mainGlobals mg) {x qual f1 f2 : Str} {st : Stmt} {C fI cc c R : Addr}
    {nm q : Str} {N : Addr} {bs bm : List Value} {sn : List Str} {sub : List Value} {ab : Bool} {col : Option Bool} {dd : Option Addr} {m0 m1 m2 m3 m5 : Option Value} {cd cdR : ClassData}
    {oc kV doc pm ct ccl cl : Value} {od an cdd cld : Option Addr} {osl ccs csl : Array (Option Value)} {vs : Array Value} {file : Str} {tf : Tok}
    (aR : PySem.W.nsIn K mainGlobals "RiseError" = some (some (.ref R)))
    (tR : PySem.W.typeIn K (.ref R) = some (.type "type"))
    (xR : PySem.W.clsIn K R = some cdR)
    (aC : PySem.W.nsIn K mainGlobals x = some (some (.ref C)))
    (xL : K.lookup C = some (excClassObj nm q C N bs bm true sn sub ab col dd m0 m1 m2 m3 m5 "ValueError.__new__"))
    (xc : PySem.W.clsIn K C = some cd)
    (iC : PySem.W.findIn K (.ref C) "__init__" = some (some (.ref fI)))
    (tI : PySem.W.typeIn K (.ref fI) = some (.type "function"))
    (lI : K.lookup fI = some ⟨oc, od, .func (PySem.W.fnX "__init__" qual (defArgs st) (defBody st) (defScope st) [("__class__", cc)] .none kV doc pm an (.ref c) ct), osl⟩)
    (cI : PySem.W.codeIn K (.ref c) qual = true)
    (lc : K.lookup cc = some ⟨cl, cld, .cell (some (.ref C)), csl⟩)
    (lo : K.lookup c = some ⟨ccl, cdd, .fields vs, ccs⟩)
    (su : PySem.W.ks_superIn K C C "__init__" = some (some (.builtin "ValueError.__init__")))
    (sa : PySem.W.findIn K (.ref C) "__setattr__" = some (some (.builtin "object.__setattr__")))
    (exC : PySem.W.subIn K (.ref C) (.type "BaseException") = some true)
    (tyC : PySem.W.typeIn K (.ref C) = some (.type "type"))
    (kC : PySem.W.keepIn K (.ref C) = true)
    (ga : PySem.W.findIn K (.ref C) "__getattribute__" = some (some (.builtin "BaseException.__getattribute__")))
    (gg : PySem.W.findIn K (.ref C) "__getattr__" = some none)
    (hd : PySem.W.hasDictIn K C = true)
    (ha : PySem.W.findIn K (.ref C) "__class__" = some (some (.builtin "object.__class__")))
    (hn : PySem.W.specialIn K (.builtin "object.__class__") "__get__" = some (some (.builtin "getset_descriptor.__get__")))
    (ht : PySem.W.takesIn K (.builtin "object.__class__") = some true)
    (hm : PySem.W.mroIn K C (.type "object") = some true)
    (sc : PySem.W.mroIn K C (.ref C) = some true)
    (ve : PySem.W.subIn K (.ref C) (.type "ValueError") = some true)
    (op : PySem.W.nsIn K cStatics "thirdparty.any" = some none)
    (gs : PySem.W.nsIn K mainGlobals "super" = some none)
    (n1 : PySem.W.findIn K (.ref C) f1 = some none)
    (n2 : PySem.W.findIn K (.ref C) f2 = some none)
    (hbm : PySem.HandSPX.refsVE bm = true) (hvs : vs[2]? = some (.str file tf)) (hfile : ((P.main.file : Str) == file) = true) (htop : (P.main.scope.names.lookup ("super" : Str)).isSome = false)
    (hmro : cd.mro = .ref C :: .ref R :: PySem.HandSPX.veTail) (hname : cd.name = x) (hnameR : cdR.name = "RiseError") :
    ∃ (C fI cc c : Addr) (fd : FuncData) (R : Addr), ErrPack P K mg x qual st f1 f2 C fI cc c fd R :=
  ⟨C, fI, cc, c, _, R,
    { T := { ox := ⟨⟨nm, q, N, bs, bm, sn, sub, ab, col, dd, m0, m1, m2, m3, m5, xL, hbm⟩, sa, exC, tyC, kC⟩, cell := ⟨_, _, _, lc⟩, code := ⟨_, _, _, _, _, _, lo, hvs, hfile⟩, cls := ⟨_, xc⟩, sub := sc, sup := su, ve := ve, op := op, mgs := PySem.W.mg_none_of X G gs, top := htop }
      I := ⟨_, _, _, _, _, _, _, _, rfl, lI, cI⟩
      xf := ⟨ga, gg, exC, hd⟩
      ec := ⟨ga, gg, exC, hd, ha, hn, ht, hm⟩
      gm := PySem.W.mg_of X G aC
      iC := iC
      tI := tI
      mro := ⟨_, xc, hmro, hname⟩
      n1 := n1
      n2 := n2
      gR := PySem.W.mg_of X G aR
      tR := tR
      cR := ⟨_, xR, hnameR⟩ }⟩
theorem kit_sub {K : PySem.W.Frag} {C D : Addr} {cd : ClassData} {x : Value} (hc : PySem.W.clsIn K C = some cd) (ne : cd.mro ≠ []) : PySem.W.mroIn K C x = some (cd.mro.contains x) := by
  unfold PySem.W.mroIn
  rw [hc, Option.bind_some, if_neg (by rw [List.isEmpty_iff]; exact ne)]
section
variable {P P' : Program} {K : PySem.W.Frag} {mg : Str → Option Value} {x x' qual qual' f1 f2 f1' f2' : Str} {st st' : Stmt} {C fI cc c R C' fI' cc' c' R' : Addr} {fd fd' : FuncData}
theorem kit_own (E : ErrPack P K mg x qual st f1 f2 C fI cc c fd R) : PySem.W.kitOne K (.ref C) (.ref C) = some true := by
  unfold PySem.W.kitOne
  rw [if_pos (by simp)]
theorem kit_other (E : ErrPack P K mg x qual st f1 f2 C fI cc c fd R) (E' : ErrPack P K mg x' qual' st' f1' f2' C' fI' cc' c' fd' R') (hx : x ≠ x') (hx' : ("RiseError" : Str) ≠ x') : PySem.W.kitOne K (.ref C) (.ref C') = some false := by
  obtain ⟨cd, hc, hm, hn⟩ := E.mro
  obtain ⟨cd', hc', hm', hn'⟩ := E'.mro
  have ne : C ≠ C' := fun z => by
    subst z
    rw [hc] at hc'
    cases hc'
    exact hx (hn.symm.trans hn')
  have neR : R ≠ C' := fun z => by
    subst z
    obtain ⟨cR, h1, h2⟩ := E.cR
    rw [hc'] at h1
    cases h1
    exact hx' (h2.symm.trans hn')
  unfold PySem.W.kitOne
  rw [if_neg (by simp [ne])]
  unfold PySem.W.kitCls
  have e1 : ((PySem.W.clsIn K C').isSome && PySem.W.typeIn K (.ref C') == some (.type "type")) = true := by rw [hc', E'.T.ox.tyC] <;> rfl
  show (if ((PySem.W.clsIn K C').isSome && PySem.W.typeIn K (.ref C') == some (.type "type")) = true then PySem.W.subIn K (.ref C) (.ref C') else none) = some false
  rw [if_pos e1]
  show PySem.W.mroIn K C (.ref C') = some false
  rw [kit_sub (D := C') hc (by rw [hm]; exact fun z => nomatch z), hm]
  have n1 : ((Value.ref C') == Value.ref C) = false := by simp; exact fun z => ne z.symm
  have n2 : ((Value.ref C') == Value.ref R) = false := by simp; exact fun z => neR z.symm
  simp only [List.contains_cons, n1, n2, Bool.false_or]
  rfl
theorem kit_rise (E : ErrPack P K mg x qual st f1 f2 C fI cc c fd R) : PySem.W.kitOne K (.ref C) (.ref R) = some true := by
  obtain ⟨cd, hc, hm, hn⟩ := E.mro
  unfold PySem.W.kitOne
  split
  · rfl
  · unfold PySem.W.kitCls
    have e1 : ((PySem.W.clsIn K R).isSome && PySem.W.typeIn K (.ref R) == some (.type "type")) = true := by
      obtain ⟨cR, h1, _⟩ := E.cR
      rw [h1, E.tR] <;> rfl
    show (if ((PySem.W.clsIn K R).isSome && PySem.W.typeIn K (.ref R) == some (.type "type")) = true then PySem.W.subIn K (.ref C) (.ref R) else none) = some true
    rw [if_pos e1]
    show PySem.W.mroIn K C (.ref R) = some true
    rw [kit_sub (D := R) hc (by rw [hm]; exact fun z => nomatch z), hm]
    simp
theorem kit_ve (E : ErrPack P K mg x qual st f1 f2 C fI cc c fd R) : PySem.W.kitOne K (.ref C) (.type "ValueError") = some true := by
  have e : (Value.ref C == Value.type "ValueError") = false := rfl
  unfold PySem.W.kitOne
  rw [e, if_neg Bool.false_ne_true]
  show (if PySem.W.kitMeta "ValueError" = true then PySem.W.subIn K (.ref C) (.type "ValueError") else none) = some true
  rw [if_pos (by decide +kernel)]
  exact E.T.ve
end
theorem init_binds {K : PySem.W.Frag} {qual : Str} {st : Stmt} {fI cc c : Addr} {fd : FuncData} {ps : List Str} (I : InitAt K qual st fI cc c fd)
    (h : ∀ (kV doc pm : Value) (an : Option Addr) (ct : Value) (us : List Value), us.length = ps.length → bindArgs (PySem.W.fnX "__init__" qual (defArgs st) (defBody st) (defScope st) [("__class__", cc)] .none kV doc pm an (.ref c) ct) ⟨us, []⟩ = pure (ps.zip us)) : Binds K fd ps [] := by
  obtain ⟨oc, od, kV, doc, pm, an, ct, osl, rfl, lk, hcd⟩ := I
  exact .all (h kV doc pm an ct)
theorem fun_pack {K : PySem.W.Frag} {h : Heap} {mg : Str → Option Value} (X : K.In h) (G : h.Ns mainGlobals mg) {x : Str} {st : Stmt} {f : Addr} {oc kV doc pm cdv ct : Value} {od an : Option Addr} {osl : Array (Option Value)}
    (a : PySem.W.nsIn K mainGlobals x = some (some (.ref f))) (l : K.lookup f = some ⟨oc, od, .func (PySem.W.fnOf x x (defArgs st) (defBody st) (defScope st) .none kV doc pm an cdv ct), osl⟩)
    (c : PySem.W.codeIn K cdv x = true) (k : PySem.W.keepIn K (.ref f) = true) : ∃ f fd, mg x = some (.ref f) ∧ Fun K x x st f fd := ⟨f, _, PySem.W.mg_of X G a, fun_mk l c k⟩
theorem use_all {P : Program} {w : World} {K : PySem.W.Frag} {mg : Str → Option Value} {fa : Addr} {k : Nat} {x : Str} {sp : Sp}
    (h : ∃ fd : FuncData, (∀ (s : Shared) (v : Value), BindsTo s fd ⟨[v], []⟩ [(x, v)]) ∧ ∀ base : Heap, FnOk P w K mg base CX0 k fa fd [x] sp) :
    ∃ fd : FuncData, (∀ (s : Shared) (v : Value), BindsTo s fd ⟨[v], []⟩ [(x, v)]) ∧ ∀ base : Heap, K.In base → base.Ns mainGlobals mg → FnOk P w K mg base CX0 k fa fd [x] sp := by
  obtain ⟨fd, h1, h2⟩ := h
  exact ⟨fd, h1, fun base _ _ => h2 base⟩
end SX

set_option Elab.async false
set_option linter.all false
set_option maxRecDepth 100000
set_option maxHeartbeats 2000000
/-! zip of any two of lists and tuples -/
namespace SX
open PySem PySem.Spec PyProof.Rows L2
/-- an iterator over a list (true) or a tuple (false) -/
def AIt (h : Heap) (b : Bool) (i l : Addr) (k : Nat) : Prop := if b = true then h.IsListIter i l k else h.IsTupleIter i l k
def ASq (h : Heap) (b : Bool) (l : Addr) (its : Array Value) : Prop := if b = true then h.IsList l its else h.IsTuple l its
def aCls (b : Bool) : String := if b = true then "list_iterator" else "tuple_iterator"
section
variable {h h' : Heap} {b : Bool} {i l c : Addr} {k : Nat} {its : Array Value}
theorem AIt.ext (x : AIt h b i l k) (e : Heap.ExtBut c h h') (ne : i ≠ c) : AIt h' b i l k := by
  cases b
  · exact Heap.IsTupleIter.extBut x e ne
  · exact Heap.IsListIter.extBut x e ne
theorem ASq.ext (x : ASq h b l its) (e : Heap.ExtBut c h h') (ne : l ≠ c) : ASq h' b l its := by
  cases b
  · exact Heap.IsTuple.extBut x e ne
  · exact Heap.IsList.extBut x e ne
theorem AIt.at (x : AIt h b i l k) (e : ∀ o, h.get? i = some o → h'.get? i = some o) : AIt h' b i l k := by
  cases b
  · exact Heap.IsTupleIter.at x e
  · exact Heap.IsListIter.at x e
theorem AIt.obj (x : AIt h b i l k) : ∃ o fs, h.get? i = some o ∧ o.data = .fields fs := by
  cases b
  · obtain ⟨o, e, _, d⟩ := x; exact ⟨o, _, e, d⟩
  · obtain ⟨o, e, _, d⟩ := x; exact ⟨o, _, e, d⟩
theorem ASq.lt (x : ASq h b l its) : l < h.objs.size := by
  cases b
  · obtain ⟨o, e, _⟩ := x; exact Heap.lt_size e
  · obtain ⟨o, e, _⟩ := x; exact Heap.lt_size e
theorem AIt.lt (x : AIt h b i l k) : i < h.objs.size := by
  obtain ⟨o, fs, e, _⟩ := x.obj
  exact Heap.lt_size e
theorem ASq.push' (x : ASq h b l its) (o : Obj) : ASq (h.push o) b l its := by
  cases b
  · exact Heap.IsTuple.push x o
  · exact Heap.IsList.push x o
end
section
variable {prog : Program} {w : World} {A : Around} {E : Value → Shared → Prop} {s : Shared} {b b' : Bool}
theorem aNext {i l : Addr} {k : Nat} {its : Array Value} {x : Value} {Q : Value → Shared → Prop} (hi : AIt s.heap b i l k) (hl : ASq s.heap b l its) (hx : its[k]? = some x)
    (q : ∀ h', AIt h' b i l (k + 1) → Heap.SameBut i s.heap h' → Q x { s with heap := h' }) : wpAny (model prog w) A (Builtin.SmallTypes.nextOf (.ref i)) Q E s := by
  cases b
  · exact RZ.nextOf_tuple_item hi hl hx q
  · exact wpAny_nextOf_list_item hi hl hx q
theorem aStop {i l : Addr} {k : Nat} {its : Array Value} {Q : Value → Shared → Prop} (hh : A.handled = none) (hi : AIt s.heap b i l k) (hl : ASq s.heap b l its) (hx : its[k]? = none)
    (q : ∀ h' e, Heap.ExtBut i s.heap h' → (∃ o, h'.get? e = some o ∧ o.cls = .type "StopIteration") → E (.ref e) { s with heap := h' }) : wpAny (model prog w) A (Builtin.SmallTypes.nextOf (.ref i)) Q E s := by
  cases b
  · exact RZ.nextOf_tuple_end hh hi hl hx q
  · exact wpAny_nextOf_list_end hh hi hl hx q
def aObj (b : Bool) (l : Addr) : Obj := { cls := .type (aCls b), data := .fields #[.ref l, .int 0 0] }
theorem aObj_it {h : Heap} {l : Addr} {a : Addr} (e : h.get? a = some (aObj b l)) : AIt h b a l 0 := by
  cases b
  · exact ⟨_, e, rfl, rfl⟩
  · exact ⟨_, e, rfl, rfl⟩
theorem aIter {l : Addr} {its : Array Value} {Q : Value → Shared → Prop} (hl : ASq s.heap b l its) (q : Q (.ref s.heap.objs.size) { s with heap := s.heap.push (aObj b l) }) :
    wpAny (model prog w) A (pyIter (.ref l)) Q E s := by
  cases b
  · exact wpAny_pyIter_tuple hl q
  · exact wpAny_pyIter_list hl q

/-- a turn of zip that gives a pair -/
theorem zipA_item {z TI TO i1 i2 l1 l2 : Addr} {k1 k2 : Nat} {xs ys : Array Value} {x y a c : Value} {Q : Value → Shared → Prop} (D : ZipApart z TI TO i1 i2 l1 l2)
    (hz : IsZip s.heap z TI TO .none) (hTI : IsPair s.heap TI (.ref i1) (.ref i2)) (hTO : IsPair s.heap TO a c)
    (h1 : AIt s.heap b i1 l1 k1) (h2 : AIt s.heap b' i2 l2 k2) (hl1 : ASq s.heap b l1 xs) (hl2 : ASq s.heap b' l2 ys) (hx : xs[k1]? = some x) (hy : ys[k2]? = some y)
    (q : ∀ h', IsZip h' z TI TO (rawInt s.heap.objs.size) → IsPair h' TO x y → AIt h' b i1 l1 (k1 + 1) → AIt h' b' i2 l2 (k2 + 1) → IsPair h' s.heap.objs.size x y → h'.objs.size = s.heap.objs.size + 1 →
      (∀ d o, d ≠ z → d ≠ TO → d ≠ i1 → d ≠ i2 → s.heap.get? d = some o → h'.get? d = some o) → Q (.ref s.heap.objs.size) { s with heap := h' }) :
    wpAny (model prog w) A (Builtin.«zip.__next__» ⟨[.ref z], []⟩) (fun fin s' => ∃ v, fin = .done (.ret v) ∧ Q v s') E s := by
  show wpAny _ _ (field (.ref z) 2 >>= _) _ _ _
  refine wpAny_bind (wpAny_field hz rfl (x := .bool false) rfl (show wpAny _ _ (field (.ref z) 3 >>= _) _ _ _ from ?_))
  refine wpAny_bind (wpAny_field hz rfl (x := .ref TI) rfl (wpAny_bind (wpAny_seqItems hTI rfl ?_)))
  show wpAny _ _ (Builtin.SmallTypes.ownedTupleIsFree (.ref z) >>= _) _ _ _
  refine wpAny_bind ?_
  unfold Builtin.SmallTypes.ownedTupleIsFree
  refine wpAny_bind (wpAny_field hz rfl (x := .none) rfl (wpAny_pure ?_))
  simp only [if_true]
  refine wpAny_bind (wpAny_rule (wpAny_bind (wpAny_field hz rfl (x := .ref TO) rfl (wpAny_bind (wpAny_setField_rec hz (by simp) fun g1 zg1 sg1 => ?_)))))
  have zg1' : IsZip g1 z TI TO .ellipsis := zg1
  refine wpAny_bind ?_
  simp only [List.zipIdx_cons, List.zipIdx_nil, List.forIn_cons, List.forIn_nil]
  refine wpAny_bind (wpAny_bind (wpAny_onRaise (show wpAny _ _ (Builtin.SmallTypes.nextOf (.ref i1) >>= _) _ _ _ from ?_)))
  refine wpAny_bind (aNext (s := { s with heap := g1 }) (h1.ext sg1.extBut D.i1z) (hl1.ext sg1.extBut D.l1z) hx fun g2 n1 sg2 => wpAny_pure ?_)
  have to2 : IsPair g2 TO a c := sg2.extBut _ _ D.TOi1 (sg1.extBut _ _ D.TOz hTO)
  refine wpAny_bind (wpAny_seqItems to2 rfl (wpAny_bind (wpAny_updateSeq_pair to2 fun g3 to3 sg3 => ?_)))
  have to3' : IsPair g3 TO x c := to3
  refine wpAny_bind (wpAny_letGo (wpAny_pure (wpAny_bind (wpAny_bind (wpAny_onRaise (show wpAny _ _ (Builtin.SmallTypes.nextOf (.ref i2) >>= _) _ _ _ from ?_))))))
  refine wpAny_bind (aNext (s := { s with heap := g3 }) (((h2.ext sg1.extBut D.i2z).ext sg2.extBut D.i12.symm).ext sg3.extBut D.TOi2.symm) (((hl2.ext sg1.extBut D.l2z).ext sg2.extBut D.l2i1).ext sg3.extBut D.l2TO) hy fun g4 n2 sg4 => wpAny_pure ?_)
  have to4 : IsPair g4 TO x c := sg4.extBut _ _ D.TOi2 to3'
  refine wpAny_bind (wpAny_seqItems to4 rfl (wpAny_bind (wpAny_updateSeq_pair to4 fun g5 to5 sg5 => ?_)))
  have to5' : IsPair g5 TO x y := to5
  refine wpAny_bind (wpAny_letGo (wpAny_pure (wpAny_pure (wpAny_bind (wpAny_seqItems to5' rfl (wpAny_bind (wpAny_newTuple ?_)))))))
  have size5 : g5.objs.size = s.heap.objs.size := by rw [sg5.1, sg4.1, sg3.1, sg2.1, sg1.1]
  have zg5 : IsZip g5 z TI TO .ellipsis := sg5.extBut _ _ D.TOz.symm (sg4.extBut _ _ D.i2z.symm (sg3.extBut _ _ D.TOz.symm (sg2.extBut _ _ D.i1z.symm zg1')))
  have kp5 : ∀ d o, d ≠ z → d ≠ TO → d ≠ i1 → d ≠ i2 → s.heap.get? d = some o → g5.get? d = some o := fun d o d1 d2 d3 d4 e =>
    sg5.extBut _ _ d2 (sg4.extBut _ _ d4 (sg3.extBut _ _ d2 (sg2.extBut _ _ d3 (sg1.extBut _ _ d1 e))))
  have it1 : AIt g5 b i1 l1 (k1 + 1) := ((n1.ext sg3.extBut D.TOi1.symm).ext sg4.extBut D.i12).ext sg5.extBut D.TOi1.symm
  have it2 : AIt g5 b' i2 l2 (k2 + 1) := n2.ext sg5.extBut D.TOi2.symm
  have zlt : z < g5.objs.size := Heap.lt_size zg5
  show wpAny _ _ (Builtin.SmallTypes.ownedTupleHandOut (.ref z) (.ref g5.objs.size) >>= _) _ _ _
  refine wpAny_bind ?_
  unfold Builtin.SmallTypes.ownedTupleHandOut
  have zg6 : IsZip (g5.push { cls := .type "tuple", data := .seq #[x, y] }) z TI TO .ellipsis := Heap.get?_push_of_some _ zg5
  refine wpAny_bind (wpAny_setField_rec zg6 (by simp) fun g7 zg7 sg7 => ?_)
  have zg7' : IsZip g7 z TI TO (rawInt g5.objs.size) := zg7
  refine wpAny_setField_rec zg7' (by simp) fun g8 zg8 sg8 => ?_
  have zg8' : IsZip g8 z TI TO (rawInt g5.objs.size) := zg8
  have lift : ∀ d o, d ≠ z → g5.get? d = some o → g8.get? d = some o := fun d o d1 e => sg8.extBut _ _ d1 (sg7.extBut _ _ d1 (Heap.get?_push_of_some _ e))
  have new8 : IsPair g8 g5.objs.size x y := sg8.extBut _ _ (Nat.ne_of_gt zlt) (sg7.extBut _ _ (Nat.ne_of_gt zlt) (Heap.get?_push_size _ rfl))
  have size8 : g8.objs.size = g5.objs.size + 1 := by rw [sg8.1, sg7.1, Heap.size_push]
  rw [size5] at zg8' new8 size8
  refine wpAny_pure ⟨_, rfl, show Q (.ref g5.objs.size) _ from ?_⟩
  rw [size5]
  exact q g8 zg8' (lift _ _ D.TOz to5') (it1.at fun o e => lift _ o D.i1z e) (it2.at fun o e => lift _ o D.i2z e) new8 size8 fun d o d1 d2 d3 d4 e => lift d o d1 (kp5 d o d1 d2 d3 d4 e)
/-- a turn of zip at which one of the two has come to its end -/
theorem zipA_end {z TI TO i1 i2 l1 l2 : Addr} {k1 k2 : Nat} {xs ys : Array Value} {a c : Value} {Q : Fin → Shared → Prop} (hh : A.handled = none) (D : ZipApart z TI TO i1 i2 l1 l2)
    (hz : IsZip s.heap z TI TO .none) (hTI : IsPair s.heap TI (.ref i1) (.ref i2)) (hTO : IsPair s.heap TO a c)
    (h1 : AIt s.heap b i1 l1 k1) (h2 : AIt s.heap b' i2 l2 k2) (hl1 : ASq s.heap b l1 xs) (hl2 : ASq s.heap b' l2 ys) (out : xs[k1]? = none ∨ ys[k2]? = none)
    (q : ∀ h' e, (∀ d o, d ≠ z → d ≠ TO → d ≠ i1 → d ≠ i2 → s.heap.get? d = some o → h'.get? d = some o) → (∃ o, h'.get? e = some o ∧ o.cls = .type "StopIteration") → E (.ref e) { s with heap := h' }) :
    wpAny (model prog w) A (Builtin.«zip.__next__» ⟨[.ref z], []⟩) Q E s := by
  show wpAny _ _ (field (.ref z) 2 >>= _) _ _ _
  refine wpAny_bind (wpAny_field hz rfl (x := .bool false) rfl (show wpAny _ _ (field (.ref z) 3 >>= _) _ _ _ from ?_))
  refine wpAny_bind (wpAny_field hz rfl (x := .ref TI) rfl (wpAny_bind (wpAny_seqItems hTI rfl ?_)))
  show wpAny _ _ (Builtin.SmallTypes.ownedTupleIsFree (.ref z) >>= _) _ _ _
  refine wpAny_bind ?_
  unfold Builtin.SmallTypes.ownedTupleIsFree
  refine wpAny_bind (wpAny_field hz rfl (x := .none) rfl (wpAny_pure ?_))
  simp only [if_true]
  refine wpAny_bind (wpAny_rule (wpAny_bind (wpAny_field hz rfl (x := .ref TO) rfl (wpAny_bind (wpAny_setField_rec hz (by simp) fun g1 zg1 sg1 => ?_)))))
  have zg1' : IsZip g1 z TI TO .ellipsis := zg1
  refine wpAny_bind ?_
  simp only [List.zipIdx_cons, List.zipIdx_nil, List.forIn_cons, List.forIn_nil]
  refine wpAny_bind (wpAny_bind (wpAny_onRaise (show wpAny _ _ (Builtin.SmallTypes.nextOf (.ref i1) >>= _) _ _ _ from ?_)))
  cases hx : xs[k1]? with
  | none =>
    refine wpAny_bind (aStop (s := { s with heap := g1 }) hh (h1.ext sg1.extBut D.i1z) (hl1.ext sg1.extBut D.l1z) hx fun g2 e sg2 he => ?_)
    obtain ⟨oe, eo, ec⟩ := he
    have zg2 : IsZip g2 z TI TO .ellipsis := sg2 _ _ D.i1z.symm zg1'
    have nez : e ≠ z := fun w => by
      subst w
      rw [zg2] at eo
      cases eo
      simp at ec
    exact wpAny_setField_rec zg2 (by simp) fun g3 _ sg3 => q g3 e (fun d o d1 _ d3 _ w => sg3.extBut _ _ d1 (sg2 _ _ d3 (sg1.extBut _ _ d1 w))) ⟨oe, sg3.extBut _ _ nez eo, ec⟩
  | some x =>
    have hy : ys[k2]? = none := out.elim (fun w => by rw [hx] at w; cases w) id
    refine wpAny_bind (aNext (s := { s with heap := g1 }) (h1.ext sg1.extBut D.i1z) (hl1.ext sg1.extBut D.l1z) hx fun g2 n1 sg2 => wpAny_pure ?_)
    have to2 : IsPair g2 TO a c := sg2.extBut _ _ D.TOi1 (sg1.extBut _ _ D.TOz hTO)
    refine wpAny_bind (wpAny_seqItems to2 rfl (wpAny_bind (wpAny_updateSeq_pair to2 fun g3 to3 sg3 => ?_)))
    refine wpAny_bind (wpAny_letGo (wpAny_pure (wpAny_bind (wpAny_bind (wpAny_onRaise (show wpAny _ _ (Builtin.SmallTypes.nextOf (.ref i2) >>= _) _ _ _ from ?_))))))
    refine wpAny_bind (aStop (s := { s with heap := g3 }) hh (((h2.ext sg1.extBut D.i2z).ext sg2.extBut D.i12.symm).ext sg3.extBut D.TOi2.symm) (((hl2.ext sg1.extBut D.l2z).ext sg2.extBut D.l2i1).ext sg3.extBut D.l2TO) hy fun g4 e sg4 he => ?_)
    obtain ⟨oe, eo, ec⟩ := he
    have zg4 : IsZip g4 z TI TO .ellipsis := sg4 _ _ D.i2z.symm (sg3.extBut _ _ D.TOz.symm (sg2.extBut _ _ D.i1z.symm zg1'))
    have nez : e ≠ z := fun w => by
      subst w
      rw [zg4] at eo
      cases eo
      simp at ec
    exact wpAny_setField_rec zg4 (by simp) fun g5 _ sg5 => q g5 e (fun d o d1 d2 d3 d4 w => sg5.extBut _ _ d1 (sg4 _ _ d4 (sg3.extBut _ _ d2 (sg2.extBut _ _ d3 (sg1.extBut _ _ d1 w))))) ⟨oe, sg5.extBut _ _ nez eo, ec⟩
theorem pyNextZ {z TI TO i1 i2 l1 l2 : Addr} {k1 k2 : Nat} {xs ys : Array Value} {x y a c : Value} {Q : Option Value → Shared → Prop} (D : ZipApart z TI TO i1 i2 l1 l2)
    (hz : IsZip s.heap z TI TO .none) (hTI : IsPair s.heap TI (.ref i1) (.ref i2)) (hTO : IsPair s.heap TO a c)
    (h1 : AIt s.heap b i1 l1 k1) (h2 : AIt s.heap b' i2 l2 k2) (hl1 : ASq s.heap b l1 xs) (hl2 : ASq s.heap b' l2 ys) (hx : xs[k1]? = some x) (hy : ys[k2]? = some y)
    (q : ∀ h', IsZip h' z TI TO (rawInt s.heap.objs.size) → IsPair h' TO x y → AIt h' b i1 l1 (k1 + 1) → AIt h' b' i2 l2 (k2 + 1) → IsPair h' s.heap.objs.size x y → h'.objs.size = s.heap.objs.size + 1 →
      (∀ d o, d ≠ z → d ≠ TO → d ≠ i1 → d ≠ i2 → s.heap.get? d = some o → h'.get? d = some o) → Q (some (.ref s.heap.objs.size)) { s with heap := h' }) :
    wpAny (model prog w) A (pyNext (.ref z)) Q E s := by
  have ty : s.TypeIs (.ref z) "zip" := ⟨_, hz, rfl⟩
  unfold pyNext
  exact wpAny_bind (wpAny_attempt (wpAny_callSpecial?_slot (name := Str.ofString "__next__") ty F.slot_zip_next (wpAny_call_entry F.slot_zip_next ty F.entry_zip_next
      (zipA_item D hz hTI hTO h1 h2 hl1 hl2 hx hy fun h' a1 a2 a3 a4 a5 a6 a7 => wpAny_pure (q h' a1 a2 a3 a4 a5 a6 a7)) (F.args_zip_next_1 _))))
theorem pyStopZ {z TI TO i1 i2 l1 l2 : Addr} {k1 k2 : Nat} {xs ys : Array Value} {a c : Value} {Q : Option Value → Shared → Prop} (hh : A.handled = none) (D : ZipApart z TI TO i1 i2 l1 l2)
    (hz : IsZip s.heap z TI TO .none) (hTI : IsPair s.heap TI (.ref i1) (.ref i2)) (hTO : IsPair s.heap TO a c)
    (h1 : AIt s.heap b i1 l1 k1) (h2 : AIt s.heap b' i2 l2 k2) (hl1 : ASq s.heap b l1 xs) (hl2 : ASq s.heap b' l2 ys) (out : xs[k1]? = none ∨ ys[k2]? = none)
    (q : ∀ h', (∀ d o, d ≠ z → d ≠ TO → d ≠ i1 → d ≠ i2 → s.heap.get? d = some o → h'.get? d = some o) → Q none { s with heap := h' }) : wpAny (model prog w) A (pyNext (.ref z)) Q E s := by
  have ty : s.TypeIs (.ref z) "zip" := ⟨_, hz, rfl⟩
  unfold pyNext
  refine wpAny_bind (wpAny_attempt (wpAny_callSpecial?_slot (name := Str.ofString "__next__") ty F.slot_zip_next (wpAny_call_entry F.slot_zip_next ty F.entry_zip_next
      (zipA_end hh D hz hTI hTO h1 h2 hl1 hl2 out fun h' e hk he => ?_) (F.args_zip_next_1 _))))
  obtain ⟨o, ho, hc⟩ := he
  exact wpAny_bind (wpAny_isInstance (T := "StopIteration") (b := true) ⟨o, ho, hc⟩ isSubtype_stop (wpAny_pure (q _ hk)))
end
/-! zip(a, b) made -/
abbrev zA1 (h : Heap) (b : Bool) (l1 : Addr) : Heap := h.push (aObj b l1)
abbrev zA2 (h : Heap) (b b' : Bool) (l1 l2 : Addr) : Heap := (zA1 h b l1).push (aObj b' l2)
abbrev zA3 (h : Heap) (b b' : Bool) (l1 l2 : Addr) : Heap := (zA2 h b b' l1 l2).push { cls := .type "tuple", data := .seq #[.ref h.objs.size, .ref (zA1 h b l1).objs.size] }
abbrev zA4 (h : Heap) (b b' : Bool) (l1 l2 : Addr) : Heap := (zA3 h b b' l1 l2).push { cls := .type "tuple", data := .seq #[.none, .none] }
abbrev zA5 (h : Heap) (b b' : Bool) (l1 l2 : Addr) : Heap := (zA4 h b b' l1 l2).push { cls := .type "zip", data := .fields #[.none, .bool false, .bool false, .ref (zA2 h b b' l1 l2).objs.size, .ref (zA3 h b b' l1 l2).objs.size] }
theorem zipA_new (b b' : Bool) (l1 l2 : Addr) (xs ys : Array Value) :
    Meets (Builtin.«zip.__new__» ⟨[.type "zip", .ref l1, .ref l2], []⟩) (fun _ R s => ASq s.heap b l1 xs ∧ ASq s.heap b' l2 ys ∧ R (.ok (.ret (.ref (zA4 s.heap b b' l1 l2).objs.size))) { s with heap := zA5 s.heap b b' l1 l2 }) :=
  .of_wp fun prog w A R s h => by
    obtain ⟨hp, g, d, tk, os⟩ := s
    obtain ⟨q1, q2, h⟩ := h
    have hsub := sub_zip
    have e1 : ASq (Shared.heap ⟨hp, g, d, tk, os⟩) b l1 xs := q1
    have e2 : ASq (Shared.heap ⟨hp.push (aObj b l1), g, d, tk, os⟩) b' l2 ys := ASq.push' q2 _
    wp_walk using aIter e1, aIter e2
    exact ⟨_, rfl, h⟩
section
variable {prog : Program} {w : World} {A : Around} {E : Value → Shared → Prop} {s : Shared} {b b' : Bool}
theorem zipA_call {l1 l2 : Addr} {xs ys : Array Value} {Q : Value → Shared → Prop} (q1 : ASq s.heap b l1 xs) (q2 : ASq s.heap b' l2 ys)
    (h : ∀ h', IsZip h' (s.heap.objs.size + 4) (s.heap.objs.size + 2) (s.heap.objs.size + 3) .none → IsPair h' (s.heap.objs.size + 2) (.ref s.heap.objs.size) (.ref (s.heap.objs.size + 1)) →
      IsPair h' (s.heap.objs.size + 3) .none .none → AIt h' b s.heap.objs.size l1 0 → AIt h' b' (s.heap.objs.size + 1) l2 0 →
      (∀ c o, s.heap.get? c = some o → h'.get? c = some o) → Q (.ref (s.heap.objs.size + 4)) { s with heap := h' }) :
    wpAny (model prog w) A (call (.type "zip") [.ref l1, .ref l2]) Q E s := by
  refine callType_new F.called_zip (by decide) (F.typeCall_zip_2 _ _) (F.newCall_zip_2 _ _) (fun obj => F.args_object_init_3 obj _ _) F.entry_zip_new (zipA_new b b' l1 l2 xs ys) ⟨q1, q2, ?_⟩
  have s1 : (zA1 s.heap b l1).objs.size = s.heap.objs.size + 1 := Heap.size_push ..
  have s2 : (zA2 s.heap b b' l1 l2).objs.size = s.heap.objs.size + 2 := by rw [Heap.size_push, s1]
  have s3 : (zA3 s.heap b b' l1 l2).objs.size = s.heap.objs.size + 3 := by rw [Heap.size_push, s2]
  have s4 : (zA4 s.heap b b' l1 l2).objs.size = s.heap.objs.size + 4 := by rw [Heap.size_push, s3]
  have a5 : (zA5 s.heap b b' l1 l2).get? (zA4 s.heap b b' l1 l2).objs.size = some _ := Heap.get?_push_size _ rfl
  have a4 : (zA5 s.heap b b' l1 l2).get? (zA3 s.heap b b' l1 l2).objs.size = some _ := Heap.get?_push_of_some _ (Heap.get?_push_size _ rfl)
  have a3 : (zA5 s.heap b b' l1 l2).get? (zA2 s.heap b b' l1 l2).objs.size = some _ := Heap.get?_push_of_some _ (Heap.get?_push_of_some _ (Heap.get?_push_size _ rfl))
  have a2 : (zA5 s.heap b b' l1 l2).get? (zA1 s.heap b l1).objs.size = some (aObj b' l2) := Heap.get?_push_of_some _ (Heap.get?_push_of_some _ (Heap.get?_push_of_some _ (Heap.get?_push_size _ rfl)))
  have a1 : (zA5 s.heap b b' l1 l2).get? s.heap.objs.size = some (aObj b l1) := Heap.get?_push_of_some _ (Heap.get?_push_of_some _ (Heap.get?_push_of_some _ (Heap.get?_push_of_some _ (Heap.get?_push_size _ rfl))))
  show _ ∧ _
  rw [s2, s3, s4] at a5
  rw [s1, s2] at a3
  rw [s3] at a4
  rw [s1] at a2
  rw [s4]
  exact ⟨⟨_, a5, rfl⟩, h _ a5 a3 a4 (aObj_it a1) (aObj_it a2) fun c o x => Heap.get?_push_of_some _ (Heap.get?_push_of_some _ (Heap.get?_push_of_some _ (Heap.get?_push_of_some _ (Heap.get?_push_of_some _ x))))⟩
end
end SX

set_option Elab.async false
set_option linter.all false
set_option maxRecDepth 100000
set_option maxHeartbeats 2000000
namespace SX
open PySem PySem.Spec PyProof.Rows L2
/-- a list (true) or a tuple (false) -/
def SqB (K : PySem.W.Frag) (b : Bool) (H : Hp) (a : Addr) (xs : List V) : Prop := if b = true then SqL K H a xs else SqT K H a xs
section
variable {K : PySem.W.Frag} {b : Bool} {H H' : Hp} {a : Addr} {xs ys : List V}
theorem SqA.kind (h : SqA K H a xs) : ∃ b, SqB K b H a xs := h.elim (fun h => ⟨true, h⟩) (fun h => ⟨false, h⟩)
theorem SqB.any (h : SqB K b H a xs) : SqA K H a xs := by
  cases b
  · exact .inr h
  · exact .inl h
theorem SqB.same (e : Same H H') (h : SqB K b H a xs) : SqB K b H' a xs := by
  cases b
  · exact Same.sqt e h
  · exact e.seq h
theorem SqB.T (h : SqT K H a xs) : SqB K false H a xs := h
theorem SqB.L (h : SqL K H a xs) : SqB K true H a xs := h
end
theorem sqB_at {X : Cx} {pins : List (Addr × Obj)} {σ : L2.St} {H : Hp} {s : Shared} {b : Bool} {a : Addr} {xs : List V} (I : Inv X pins σ H s) (h : SqB X.K b H a xs) : ∃ its : List Value, Vals xs its ∧ ASq s.heap b a its.toArray := by
  cases b
  · obtain ⟨its, r, p, _⟩ := I.tuple h
    exact ⟨its, r, p⟩
  · obtain ⟨its, r, p, _⟩ := I.list h
    exact ⟨its, r, p.isList⟩
theorem sqB_inj {X : Cx} {pins : List (Addr × Obj)} {σ : L2.St} {H : Hp} {s : Shared} {b : Bool} {a : Addr} {xs ys : List V} (I : Inv X pins σ H s) (h : SqB X.K b H a xs) (h' : SqB X.K b H a ys) : xs = ys := by
  cases b
  · exact I.tuple_inj h h'
  · exact I.list_inj h h'
/-- zip of what stands at a and b, the kinds told -/
def ItzB (K : PySem.W.Frag) (p q : Bool) (a b : Addr) : It :=
  ⟨fun i H => ∃ (xs ys : List V) (x y : V), SqB K p H a xs ∧ SqB K q H b ys ∧ xs[i]? = some x ∧ ys[i]? = some y,
    fun i H v H' => ∃ T x y, v = .ref T ∧ H T = none ∧ H' = upd H T (.tup [x, y]) ∧ (∀ xs, SqB K p H a xs → xs[i]? = some x) ∧ ∀ ys, SqB K q H b ys → ys[i]? = some y,
    fun i H => ∃ xs ys : List V, SqB K p H a xs ∧ SqB K q H b ys ∧ (xs.length ≤ i ∨ ys.length ≤ i)⟩
theorem mem5 {c z TI TO i1 i2 : Addr} (h : c ∈ [z, TI, TO, i1, i2]) : c = z ∨ c = TI ∨ c = TO ∨ c = i1 ∨ c = i2 := by simpa using h
theorem turn_zB {P : Program} {w : World} {K : PySem.W.Frag} {elts : List Expr} {kk : Nat} {tpos : Pos} {p q : Bool} {a b z TI TO i1 i2 : Addr} (D : ZipApart z TI TO i1 i2 a b) :
    Turn P w K (.Tuple elts kk tpos) (ItzB K p q a b) [z, TI, TO, i1, i2] z (fun i h => IsZip h z TI TO .none ∧ IsPair h TI (.ref i1) (.ref i2) ∧ (∃ x y, IsPair h TO x y) ∧ AIt h p i1 a i ∧ AIt h q i2 b i) where
  mem := by simp
  obj := fun i h st c hc => by
    obtain ⟨s1, s2, ⟨x, y, s3⟩, s4, s5⟩ := st
    obtain ⟨o1, f1, e1, d1⟩ := s4.obj
    obtain ⟨o2, f2, e2, d2⟩ := s5.obj
    rcases mem5 hc with rfl | rfl | rfl | rfl | rfl
    · exact ⟨_, s1, fun v q => nomatch q⟩
    · exact ⟨_, s2, fun v q => nomatch q⟩
    · exact ⟨_, s3, fun v q => nomatch q⟩
    · exact ⟨o1, e1, fun v q => by rw [d1] at q; cases q⟩
    · exact ⟨o2, e2, fun v q => by rw [d2] at q; cases q⟩
  keep := fun i h h' st k => by
    obtain ⟨s1, s2, ⟨x, y, s3⟩, s4, s5⟩ := st
    exact ⟨k z (by simp) _ s1, k TI (by simp) _ s2, ⟨x, y, k TO (by simp) _ s3⟩, s4.at fun o => k i1 (by simp) o, s5.at fun o => k i2 (by simp) o⟩
  item := by
    intro X eP ew eK calm i pins s σ H E I free st goes
    subst eP ew eK
    obtain ⟨s1, s2, ⟨x0, y0, s3⟩, s4, s5⟩ := st
    obtain ⟨xs, ys, x, y, qa, qb, ex, ey⟩ := goes
    obtain ⟨as, ra, pa⟩ := sqB_at I qa
    obtain ⟨bs, rb, pb⟩ := sqB_at I qb
    obtain ⟨u, hu, ru⟩ := ra.get ex
    obtain ⟨v, hv, rv⟩ := rb.get ey
    have zl : z < s.heap.objs.size := Heap.lt_size s1
    refine pyNextZ D s1 s2 s3 s4 s5 pa pb (x := u) (y := v) (by simpa using hu) (by simpa using hv) fun g z' TO' j1 j2 pr sz kp => ?_
    refine ⟨_, rfl, wpAny_letOwnedTupleGo_zip (s := { s with heap := g }) z' fun g' z'' sb => ?_⟩
    have new : g'.get? s.heap.objs.size = some { cls := .type "tuple", data := .seq #[u, v] } := (sb.2 _ (Nat.ne_of_gt zl)).trans pr
    have kp' : ∀ c o, c ∉ [z, TI, TO, i1, i2] → s.heap.get? c = some o → g'.get? c = some o := fun c o nc e =>
      (sb.2 c (fun w => nc (by simp [w]))).trans (kp c o (fun w => nc (by simp [w])) (fun w => nc (by simp [w])) (fun w => nc (by simp [w])) (fun w => nc (by simp [w])) e)
    have I2 : Inv X pins σ (upd H s.heap.objs.size (.tup [x, y])) { s with heap := g' } := I.turnedNew (t' := s.toks) (ch := [z, TI, TO, i1, i2]) kp' free (Nat.le_refl _)
      ⟨by show 2 ≤ sizeLine; decide, [u, v], .cons ru (.cons rv .nil), ⟨_, new, rfl, _, rfl⟩⟩
    refine ⟨.ref s.heap.objs.size, _, I2, rfl, ⟨_, x, y, rfl, I.hok.fresh (Nat.le_refl _), rfl, fun l hl => by rw [sqB_inj I hl qa]; exact ex, fun l hl => by rw [sqB_inj I hl qb]; exact ey⟩, ⟨z'', ?_, ⟨u, v, ?_⟩, ?_, ?_⟩, fun c hc => ?_⟩
    · exact (sb.2 _ D.TIz).trans (kp _ _ D.TIz D.TITO D.TIi1 D.TIi2 s2)
    · exact (sb.2 _ D.TOz).trans TO'
    · exact j1.at fun o w => (sb.2 _ D.i1z).trans w
    · exact j2.at fun o w => (sb.2 _ D.i2z).trans w
    · have small : c < s.heap.objs.size := by
        rcases mem5 hc with rfl | rfl | rfl | rfl | rfl
        · exact zl
        · exact Heap.lt_size s2
        · exact Heap.lt_size s3
        · exact s4.lt
        · exact s5.lt
      rw [upd_ne (Nat.ne_of_lt small)]
      exact (free c hc).1
  done := by
    intro X eP ew eK calm i pins s σ H E I free st stop
    subst eP ew eK
    obtain ⟨s1, s2, ⟨x0, y0, s3⟩, s4, s5⟩ := st
    obtain ⟨xs, ys, qa, qb, over⟩ := stop
    obtain ⟨as, ra, pa⟩ := sqB_at I qa
    obtain ⟨bs, rb, pb⟩ := sqB_at I qb
    have la := ra.length
    have lb := rb.length
    have none2 : as.toArray[i]? = none ∨ bs.toArray[i]? = none := over.imp (fun w => by simp; omega) (fun w => by simp; omega)
    exact pyStopZ (I.ok.hd calm) D s1 s2 s3 s4 s5 pa pb none2 fun g kp => ⟨rfl, I.turnedL (t' := s.toks) (ch := [z, TI, TO, i1, i2]) (fun c o nc e =>
      kp c o (fun w => nc (by simp [w])) (fun w => nc (by simp [w])) (fun w => nc (by simp [w])) (fun w => nc (by simp [w])) e) free⟩
  self := fun A i s Q E st h => wpAny_pyIter_zip st.1 h
def iZipB (K : PySem.W.Frag) (ta : TA) : TI := fun σ H R => ta σ H fun vs H1 => ∃ a b p q xs ys, vs = [.ref a, .ref b] ∧ SqB K p H1 a xs ∧ SqB K q H1 b ys ∧ R (ItzB K p q a b) H1
theorem pi_zipB {X : Cx} {e e2 : Expr} {ta : TA} {p pos tpos : Pos} {elts : List Expr} {kk : Nat} (hg : Gl X "zip") (hm : X.mg "zip" = none) (ha : PA X [e, e2] ta)
    (hs : starEach [e, e2] X.env = (false, eval e X.env) :: starEach [e2] X.env := by rfl)
    (hpl : (backTo pos (starEach [e2] X.env)).any (·.1) = false := by rfl) :
    PI X (.Tuple elts kk tpos) (.Call (.Name "zip" p) [e, e2] [] pos) (iZipB X.K ta) := by
  refine ⟨fun pins s σ H R I h => Call_ (ld_blt I hg hm PyProof.Rows.boot_zip (PyProof.Rows.callWith_type1 (thn (ha.run pos pins s σ H _ I h) fun us s1 hh => ?_) hs hpl))⟩
  obtain ⟨vs, H1, I1, r1, a, b, k1, k2, xs, ys, rfl, qa, qb, rr⟩ := hh
  obtain ⟨u, v, rfl, ru, rv⟩ := vals2 r1
  cases ru
  cases rv
  obtain ⟨as, ra, pa⟩ := sqB_at I1 qa
  obtain ⟨bs, rb, pb⟩ := sqB_at I1 qb
  refine zipA_call pa pb fun g z1 z2 z3 z4 z5 kp => wpAny_pyIter_zip z1 ?_
  have I2 : Inv X pins σ H1 { s1 with heap := g } := I1.kept (t' := s1.toks) kp
  refine ⟨s1.heap.objs.size + 4, [s1.heap.objs.size + 4, s1.heap.objs.size + 2, s1.heap.objs.size + 3, s1.heap.objs.size, s1.heap.objs.size + 1], _, _, H1, rfl, I2, turn_zB (PySem.W.ktu_apart s1.heap.objs.size a b pa.lt pb.lt), ⟨z1, z2, ⟨_, _, z3⟩, z4, z5⟩, fun c hc => ?_, rr⟩
  have big : s1.heap.objs.size ≤ c := by rcases mem5 hc with rfl | rfl | rfl | rfl | rfl <;> omega
  exact I1.fpOk big (I1.hok.fresh big)
theorem walk_zB {K : PySem.W.Frag} {p q : Bool} {a b : Addr} {xs ys : List V} {n : Nat} (hn : n = min xs.length ys.length) :
    Walk (ItzB K p q a b) n (fun H => SqB K p H a xs ∧ SqB K q H b ys) (YPair (fun i => xs[i]?) (fun i => ys[i]?)) where
  goes := fun i _ hi g => by
    have h1 : i < xs.length := by omega
    have h2 : i < ys.length := by omega
    exact ⟨xs, ys, xs[i], ys[i], g.1, g.2, List.getElem?_eq_getElem h1, List.getElem?_eq_getElem h2⟩
  stops := fun _ g => ⟨xs, ys, g.1, g.2, by omega⟩
  yields := fun i H v H' _ g y => by
    obtain ⟨T, x, u, e1, e2, e3, f1, f2⟩ := y
    exact ⟨T, x, u, e1, e2, e3, f1 xs g.1, f2 ys g.2⟩
end SX

set_option Elab.async false
set_option linter.all false
set_option maxRecDepth 100000
set_option maxHeartbeats 2000000
/-! a list comprehension whose element may raise -/
namespace SX
open PySem PySem.Spec PyProof.Rows L2
theorem note_frame {x : Value} {e1 e2 : Env} (h : e1.frame = e2.frame) : noteFrame x e1 = noteFrame x e2 := by
  unfold noteFrame PySem.frameOf
  rw [h]
theorem passOn_frame {α : Type} {m : String} {x : Value} {e1 e2 : Env} (h : e1.frame = e2.frame) : (PySem.passOn m x e1 : Sem α) = PySem.passOn m x e2 := by
  unfold PySem.passOn
  rw [h]
section
variable {M : Model} {A : Around} {E : Value → Shared → Prop} {s : Shared} {env : Env}
/-- what a comprehension's block comes to; the frame of an exception is told -/
def postX (M : Model) (A : Around) (E : Value → Shared → Prop) (use : Option (Value → Sem Unit)) (Q : Value → Shared → Prop) (acc : Value) (C : Addr) (env : Env) (r : Result) (s' : Shared) : Prop :=
  match r, use with
  | .ok _, some u => wpAny M A (u acc) (fun _ t => ∃ m, t.heap.Ns C m ∧ ∀ h', Heap.SameBut C t.heap h' → Q .none { t with heap := h' }) E s'
  | .ok _, none => ∃ m, s'.heap.Ns C m ∧ ∀ h', Heap.SameBut C s'.heap h' → Q acc { s' with heap := h' }
  | .error x, _ => ∃ m, s'.heap.Ns C m ∧ ∀ h', Heap.SameBut C s'.heap h' → wpAny M A (PySem.passOn "comprehension.variables-let-go" x env : Sem Value) (fun _ _ => False) E { s' with heap := h' }
theorem compX {e : Expr} {scope : Scope} {pos : Pos} {newAcc first : Sem Value} {g : Comprehension} {gs : List Comprehension} {cl : List (Str × Addr)} {use : Option (Value → Sem Unit)} {Q : Value → Shared → Prop}
    (hcl : clausesOf e = g :: gs) (hs : ∀ x, foldedSetIterable g.iter env x = pure x) (hclos : closureFor scope env = pure cl)
    (hkind : scope.kind = .function) (names : ∀ x ∈ scope.names, x.2 = .local → scope.names.lookup x.1 = some .local)
    (h : wpAny M A first (fun x s1 => wpAny M A (pyIter x) (fun it s2 => wpAny M A newAcc (fun acc s3 =>
      wpAny M A (newFunctionEnv scope env.globals cl [] env.qual none .none (some env)) (fun cenv s4 => cenv.frame = env.frame ∧ codeAny M A (.compStart e 0 it acc { cenv with scope := relabel scope env }) (postX M A E use Q acc cenv.locals env) s4) E s3) E s2) E s1) E s) :
    wpAny M A (comprehension e scope env pos newAcc false first use) Q E s := by
  unfold comprehension
  rw [hclos, hcl]
  refine wpAny_bind (wpAny_mono h (fun x s1 h1 => wpAny_bind (wpAny_standAt (wpAny_bind (wpAny_of_eq (hs x) (wpAny_bind (wpAny_holding (wpAny_mono h1 (fun it s2 h2 =>
    wpAny_standIf (wpAny_bind (wpAny_mono h2 (fun acc s3 h3 => wpAny_bind (wpAny_pure (wpAny_bind (wpAny_mono h3 (fun cenv s4 h4 => ?_) fun _ _ y => y)))) fun _ _ y => y))) fun _ _ y => y))))))) fun _ _ y => y)
  dsimp only
  obtain ⟨hf, h4⟩ := h4
  have loc : ∀ x ∈ (scope.names.filter fun x => (x.2 == .local || x.2 == .cell) && x.1 != (".0" : Str)).reverse, x.2 = .local → Env.kindOf { cenv with scope := relabel scope env } x.1 = some .local := fun x hx hl =>
    lookup_relabel_local (names x (List.mem_filter.mp (List.mem_reverse.mp hx)).1 hl)
  refine wpAny_holding (wpAny_bind (wpAny_attempt (wpAny_holding (wpAny_run (codeAny_mono h4 fun r s' hr => ?_)))))
  cases r with
  | ok f =>
    cases use with
    | some u =>
      have loc' : ∀ x ∈ (scope.names.filter fun x => (x.2 == .local || x.2 == .cell) && x.1 != (".0" : Str)).reverse.drop 1 ++ (scope.names.filter fun x => (x.2 == .local || x.2 == .cell) && x.1 != (".0" : Str)).reverse.take 1,
          x.2 = .local → Env.kindOf { cenv with scope := relabel scope env } x.1 = some .local := fun x hx hl => (List.mem_append.mp hx).elim (fun z => loc x (List.mem_of_mem_drop z) hl) (fun z => loc x (List.mem_of_mem_take z) hl)
      refine wpAny_bind (wpAny_rule (wpAny_bind (wpAny_holding (wpAny_mono hr (fun _ t ht => ?_) fun _ _ y => y))))
      obtain ⟨m, hn, k⟩ := ht
      exact wpAny_bind (wpAny_comp_letGo (cenv := { cenv with scope := relabel scope env }) hkind _ t m loc' hn fun h' m' _ sb => wpAny_pure (k h' sb))
    | none =>
    obtain ⟨m, hn, k⟩ := hr
    exact wpAny_bind (wpAny_holding (wpAny_comp_letGo (cenv := { cenv with scope := relabel scope env }) hkind _ s' m loc hn fun h' m' _ sb => wpAny_pure (k h' sb)))
  | error x =>
    have hr' : ∃ m, s'.heap.Ns cenv.locals m ∧ ∀ h', Heap.SameBut cenv.locals s'.heap h' → wpAny M A (PySem.passOn "comprehension.variables-let-go" x env : Sem Value) (fun _ _ => False) E { s' with heap := h' } := by cases use <;> exact hr
    obtain ⟨m, hn, k⟩ := hr'
    refine wpAny_bind (wpAny_holding (wpAny_comp_letGo (cenv := { cenv with scope := relabel scope env }) hkind _ s' m loc hn fun h' m' _ sb => ?_))
    have z := k h' sb
    rw [passOn_frame (e2 := { cenv with scope := relabel scope env }) hf.symm] at z
    exact wpAny_mono z (fun _ _ f => f.elim) fun _ _ y => y
end

section
variable {X : Cx} {pins : List (Addr × Obj)} {σ : L2.St} {H : Hp} {s s' : Shared} {C : Addr} {W : WX} {E : XK}
theorem traced_less {h h' B B' : Heap} {e C : Addr} {Z : Obj → Prop} {fl : Value} (t : HandSPX.TracedZ h B e Z fl) (sub : ∀ b o, B'.get? b = some o → B.get? b = some o) (dict : ∃ o es ep, h.get? C = some o ∧ o.data = .dict es ep) (k : ∀ b, b ≠ C → h'.get? b = h.get? b) :
    HandSPX.TracedZ h' B' e Z fl := by
  obtain ⟨oe, vs, T, oT, ts, he, hz, hd, h1, hnT, hTe, hT, hdT, h3⟩ := t
  obtain ⟨oC, es, ep, hC, dC⟩ := dict
  have n1 : e ≠ C := fun z => by
    rw [z, hC] at he
    cases he
    rw [dC] at hd
    cases hd
  have n2 : T ≠ C := fun z => by
    rw [z, hC] at hT
    cases hT
    rw [dC] at hdT
    cases hdT
  refine ⟨oe, vs, T, oT, ts, (k e n1).trans he, hz, hd, h1, ?_, hTe, (k T n2).trans hT, hdT, h3⟩
  cases q : B'.get? T with
  | none => rfl
  | some o => rw [sub _ _ q] at hnT; cases hnT
theorem frames_but {h h' base base' : Heap} {C : Addr} (k : ∀ b, b ≠ C → h'.get? b = h.get? b) (sub : ∀ b, base.get? b = none → base'.get? b = none) : ∀ {l : List Env}, h.FunFrames base l → C ∉ frs l → h'.FunFrames base' l
  | [], _, _ => trivial
  | env :: l, ⟨hk, ⟨L, o, hf, hb, ho, hd⟩, hr⟩, n => ⟨hk, ⟨L, o, hf, sub L hb, (k L fun z => n (List.mem_filterMap.mpr ⟨env, List.mem_cons_self, z ▸ hf⟩)).trans ho, hd⟩, frames_but k sub hr fun q => n (by
      obtain ⟨e, he, q⟩ := List.mem_filterMap.mp q
      exact List.mem_filterMap.mpr ⟨e, List.mem_cons_of_mem _ he, q⟩)⟩
/-- an exception out of a call in a comprehension's block: noted, the block's variables let go, passed on -/
theorem block_raise {u : Value} {env' : Env} {use : Option (Value → Sem Unit)} {Q : Value → Shared → Prop} {acc : Value} (hst : X.stack = X.env :: X.outer) (hfr : X.env.frame = some X.env.locals) (tk : Takes X W) (I : Inv X pins σ H s) (c : CX X.prog X.w X.stack H s E u s')
    (hW : ∀ cls d H', E cls d H' → W cls d σ H') (fC : FpOk X [] H C) (dC : ∃ m, s.heap.Ns C m) (henv : env'.frame = X.env.frame) :
    notedBy (model X.prog X.w) X.A env' (fun e t => postX (model X.prog X.w) X.A X.xe use Q acc C X.env (.error e) t) u s' := by
  obtain ⟨a, B, H', cls, d, rfl, fl, hok, ub, na, os, ag, hE⟩ := id c
  obtain ⟨fC0, fC1, fC2, fC3, fC4, fC5⟩ := fC
  have frames : X.A.frames = some (X.env :: X.outer) := I.ok.frames.trans (by rw [hst])
  have nst : C ∉ frs X.stack := fun hm => (List.mem_cons.mp (I.stkSub C hm)).elim fC1 fC2
  obtain ⟨m0, oC, es, ep, hC, dat, sk, find⟩ := dC
  have hC' : s'.heap.get? C = some oC := fl.1 _ _ (ub.keep _ _ hC fC0 nst)
  have HC' : H' C = none := ub.free _ _ hC fC0
  obtain ⟨a2, B2, sI, pins2, σ2, H2, cls2, d2, ea, I2, nb, up, sky, na2, os2, ag2, w2, hc2⟩ := XE.of_call (W := fun c d s h => W c d s h ∧ h C = none) (E := fun c d h => E c d h ∧ h C = none) I (fun c d h z => ⟨hW c d h z.1, z.2⟩) ⟨a, B, H', cls, d, rfl, fl, hok, ub, na, os, ag, hE, HC'⟩
  cases ea
  -- noted
  unfold notedBy
  rw [note_frame (e2 := X.env) henv]
  have held : ∀ h1, HandSPX.HeldZ B2 (X.env :: X.outer) a (Zc cls2 d2) X.env.locals h1 → s'.heap.UpToSlots h1 → postX (model X.prog X.w) X.A X.xe use Q acc C X.env (.error (.ref a)) { s' with heap := h1 } := by
    intro h1 hh up1
    obtain ⟨sl, hC1⟩ := up1 C oC hC' (fun vs z => by rw [dat] at z; cases z)
    suffices zz : ∃ m, h1.Ns C m ∧ ∀ h2, Heap.SameBut C h1 h2 → wpAny (model X.prog X.w) X.A (PySem.passOn "comprehension.variables-let-go" (.ref a) X.env : Sem Value) (fun _ _ => False) X.xe { s' with heap := h2 } by cases use <;> exact zz
    refine ⟨m0, ⟨_, es, ep, hC1, dat, sk, find⟩, fun h2 sb => ?_⟩
    obtain ⟨k1, k2, k3, k4⟩ := hh
    have sub : ∀ b o, (PySem.W.hideAll B2 [C]).get? b = some o → B2.get? b = some o ∧ b ≠ C := fun b o q => ⟨PySem.W.of_hideAll _ q, fun z => by rw [PySem.W.hideAll_none _ (by simp [z])] at q; cases q⟩
    have less : ∀ b, B2.get? b = none → (PySem.W.hideAll B2 [C]).get? b = none := fun b e => by
      cases q : (PySem.W.hideAll B2 [C]).get? b with
      | none => rfl
      | some o => rw [(sub b o q).1] at e; cases e
    have nC : C ∉ frs (X.env :: X.outer) := by rw [← hst]; exact nst
    have g1 : (PySem.W.hideAll B2 [C]).StaysIn h2 := fun b o q => (sb.2 b (sub b o q).2).trans (k1 b o (sub b o q).1)
    have g2 : h2.FunFrames (PySem.W.hideAll B2 [C]) (X.env :: X.outer) := frames_but sb.2 less k3 nC
    have g4 : HandSPX.TracedZ h2 (PySem.W.hideAll B2 [C]) a (Zc cls2 d2) (rawInt X.env.locals) := traced_less k4 (fun b o q => (sub b o q).1) ⟨_, es, ep, hC1, dat⟩ sb.2
    obtain ⟨oe, vs, T, oT, ts, he, hz, hd, h1', _⟩ := id g4
    unfold PySem.passOn
    refine wpAny_bind (wpAny_field he hd h1' ?_)
    rw [if_neg (show ¬ ((Value.ref T == Value.none) = true) by simp)]
    refine wpAny_bind ?_
    rw [hfr]
    refine HandSPX.setFlight_anyZ g1 g2 g4 fun h3 q1 q2 q3 up3 => wpAny_throw (tk _ _ ?_)
    have I3 := (I2.pins_of (pins' := []) fun p hp => I2.pin p (List.mem_append_left _ (by simpa using hp)))
    have kp : ∀ b o, b ≠ C → sI.heap.get? b = some o → (PySem.W.hideAll sI.heap [C]).get? b = some o := fun b o n e => PySem.W.hideAll_get _ e (by simpa using n)
    have I4 : L2.Inv X [] σ2 H2 { sI with heap := PySem.W.hideAll sI.heap [C] } := by
      refine I3.call' (ch := [C]) rfl ⟨fun b o e _ _ n => kp b o (by simpa using n) e, fun b o e _ _ n => ⟨o.slots, kp b _ (by simpa using n) e⟩, fun b o e n _ => n, fun b o e n => ⟨o, kp b o (by simpa using n) e⟩, fun _ _ e => e, fun _ _ _ e => e, fun b ps e => ⟨#[], by rw [e]; simp⟩⟩
        (fun b o q => (I2.hok b o q).stay (fun c u hc r => kp c u (fun z => ?_) r) (fun _ r => r) fun _ _ r => r) I2.bare (fun b hb => ?_)
      · rcases hc with hc | hc
        · rw [← hc, z, hc2] at q; cases q
        · rw [z, hc2] at hc; cases hc
      · obtain rfl : b = C := by simpa using hb
        exact ⟨fC3, fC1, fC4, fC5⟩
    refine ⟨a, PySem.W.hideAll B2 [C], { sI with heap := PySem.W.hideAll sI.heap [C] }, [], σ2, H2, cls2, d2, rfl, I4, fun b o e hb => ?_, fun b o e hf => ?_, .inr (.inr ?_), na2, os2, ag2, w2⟩
    · have ne : b ≠ C := fun z => by
        have e : (PySem.W.hideAll sI.heap [C]).get? b = some o := e
        rw [PySem.W.hideAll_none _ (by simp [z])] at e
        cases e
      exact PySem.W.hideAll_get _ (nb b o (PySem.W.of_hideAll _ e) hb) (by simpa using ne)
    · have ne : b ≠ C := fun z => by
        have e : (PySem.W.hideAll sI.heap [C]).get? b = some o := e
        rw [PySem.W.hideAll_none _ (by simp [z])] at e
        cases e
      obtain ⟨s1, e1⟩ := up b o (PySem.W.of_hideAll _ e) hf
      obtain ⟨s2, e2⟩ := up1 b _ e1 hf
      obtain ⟨s3, e3⟩ := up3 b _ ((sb.2 b ne).trans e2) hf
      exact ⟨s3, e3⟩
    · rw [hst]
      exact ⟨q1, less _ k2, q2, q3⟩
  rw [hst] at sky
  rcases sky with ⟨hB, hn, hl, oe, vs, he, hz, hd, h1⟩ | fl | hd
  · exact HandSPX.look_newZ Zc.steady frames hl hfr he hB hn hd h1 hz held
  · exact HandSPX.looks_onZ Zc.steady frames hfr fl held
  · exact HandSPX.againZ hfr hd.2.2.2 (held s'.heap hd (Heap.UpToSlots.refl _))
end
end SX

set_option Elab.async false
set_option linter.all false
set_option maxRecDepth 100000
set_option maxHeartbeats 2000000
namespace SX
open PySem PySem.Spec PyProof.Rows L2
/-- the block's context, with what may leave it -/
abbrev bX (X : Cx) (s : Shared) (H : Hp) (scope : Scope) (ce : Env) (fp : List Addr) (xe : Value → Shared → Prop) : Cx := (X.blk s H scope ce fp).tr [] xe
section
variable {X : Cx} {W : WX}
/-- [elt for target in iter if ..], the element may raise: the wish of an exception is W at the slots as they stand -/
def tLcX (wi : TI) (g : TG) (tt : XK → TT) (te : XK → TE) (W : WX) (vs : List Nat) : TE := fun σ H Q => tLc wi g (tt fun c d h => W c d σ h) (te fun c d h => W c d σ h) vs σ H Q
theorem lcX_core {pins : List (Addr × Obj)} {s : Shared} {σ : L2.St} {H : Hp} {Q : VK} {elt tg iter : Expr} {ifs : List Expr} {scope : Scope} {own : List (Str × Nat)} {pos pos' : Pos} {wi : TI} {g : TG} {tt : XK → TT} {te : XK → TE} {use : Option (Value → Sem Unit)} {Qf : Value → Shared → Prop}
    (hst : X.stack = X.env :: X.outer) (hfr : X.env.frame = some X.env.locals) (tk : Takes X W) (hc : X.calm = true) (hN : X.N.Nodup) (I : Inv X pins σ H s) (hi : PI X tg iter wi) (ok : BlkOk X.N X.env.scope scope own)
    (hg : ∀ (s : Shared) (H : Hp) (C : Addr) (cl : List (Str × Addr)) (fp : List Addr) (xe : Value → Shared → Prop), PG (bX X s H scope (compEnvC scope cl C X.env) fp xe) tg g)
    (ht : ∀ (s : Shared) (H : Hp) (C : Addr) (cl : List (Str × Addr)) (fp : List Addr) (xe : Value → Shared → Prop) (E : XK), Passes (L2.CX X.prog X.w) (bX X s H scope (compEnvC scope cl C X.env) fp xe) E → PTs (bX X s H scope (compEnvC scope cl C X.env) fp xe) ifs (tt E))
    (he : ∀ (s : Shared) (H : Hp) (C : Addr) (cl : List (Str × Addr)) (fp : List Addr) (xe : Value → Shared → Prop) (E : XK), Passes (L2.CX X.prog X.w) (bX X s H scope (compEnvC scope cl C X.env) fp xe) E → PE (bX X s H scope (compEnvC scope cl C X.env) fp xe) elt (te E))
    (hs : ∀ x, foldedSetIterable iter X.env x = pure x) (h : tLcX wi g tt te W (own.map (·.2)) σ H Q)
    (done : ∀ D C s' m H', Inv X pins σ H' s' → Q (.ref D) H' → s'.heap.Ns C m → FpOk X pins H' C → postX (model X.prog X.w) X.A X.xe use Qf (.ref D) C X.env (.ok .next) s') :
    wpAny (model X.prog X.w) X.A (comprehension (.ListComp elt [⟨tg, iter, ifs, 0⟩] scope pos) scope X.env pos' (newList []) false (eval iter X.env) use) Qf X.xe s := by
  have frees : ∀ y ∈ scope.names, y.2 = .free → ∃ c, X.env.cells.lookup y.1 = some c := fun y hy e => (ok.free y hy e).elim (fun k => I.ok.has _ (.inl k)) (fun k => I.ok.has _ (.inr k))
  refine compX rfl hs (closure_ok frees) ok.kind (fun y hy e => by rw [ok.uniq y hy, e]) (thn (hi.run pins s σ H _ I h) fun xv s1 h1 => thn h1 fun itv s2 h2 => ?_)
  obtain ⟨it, fp, tn, J, H2, e, I2, T, st2, f2, q⟩ := h2
  subst e
  refine wpAny_newObj_type (newEnv_comp ⟨rfl, ?_⟩) (by show 0 ≤ sizeLine; decide)
  generalize eD : s2.heap.objs.size = D
  obtain ⟨M, ⟨m0, w0⟩, turn⟩ := q D (I2.hok.fresh (Nat.le_of_eq eD))
  generalize e3 : ({ s2 with heap := s2.heap.push { cls := .type "list", data := .seq ([] : List Value).toArray } } : Shared) = s3
  have I3 : Inv X pins σ (upd H2 D (.lst [])) s3 := by
    rw [← e3]
    refine I2.laid (t' := s2.toks) (fun b o e => Heap.get?_push_of_some _ e) (Nat.le_of_eq eD) ⟨Nat.zero_le _, [], 0, .nil, ?_⟩
    rw [← eD]
    exact Heap.get?_push_size _ rfl
  have hp3 : s3.heap = s2.heap.push { cls := .type "list", data := .seq ([] : List Value).toArray } := by rw [← e3]
  have low : ∀ b ∈ fp, b < s2.heap.objs.size := fun b hb => by
    obtain ⟨o, e, _⟩ := T.obj _ _ st2 b hb
    exact Heap.lt_size e
  have f3 : ∀ b ∈ fp, FpOk X pins (upd H2 D (.lst [])) b ∧ b < s3.heap.objs.size := fun b hb => by
    have lb := low b hb
    refine ⟨⟨?_, (f2 b hb).2⟩, by rw [hp3, Heap.size_push]; exact Nat.lt_succ_of_lt lb⟩
    rw [upd_ne (by rw [← eD]; exact Nat.ne_of_lt lb)]
    exact (f2 b hb).1
  have st3 : tn 0 s3.heap := T.keep _ _ _ st2 fun b _ o e => by rw [hp3]; exact Heap.get?_push_of_some _ e
  have I4 := block_start I3 ok hN f3
  generalize eH : upd H2 D (.lst []) = H3 at I3 I4 w0 f3
  generalize ec : cellsFrom (s3.heap.objs.size + 1) scope.names (cloFrom X.env.cells scope.names []) = cl at I4
  show codeAny _ _ (.compStart (.ListComp elt [⟨tg, iter, ifs, 0⟩] scope pos) 0 (.ref it) (.ref D) (compEnvC scope cl s3.heap.objs.size X.env)) (postX (model X.prog X.w) X.A X.xe use Qf (.ref D) s3.heap.objs.size X.env) { s3 with heap := pushCells (s3.heap.push { cls := .type "dict", data := .dict #[] }) scope.names }
  generalize e4 : ({ s3 with heap := pushCells (s3.heap.push { cls := .type "dict", data := .dict #[] }) scope.names } : Shared) = s4 at I4 ⊢
  have st4 : tn 0 s4.heap := T.keep _ _ _ st3 fun b _ o e => by rw [← e4]; exact pushCells_keeps _ _ _ _ (Heap.get?_push_of_some _ e)
  let ce := compEnvC scope cl s3.heap.objs.size X.env
  -- what leaves the block
  let W0 : XK := fun c d h => W c d σ h
  let xe : Value → Shared → Prop := fun u t => ∃ (ps : List (Addr × Obj)) (σ' : L2.St) (H' : Hp) (s' : Shared), Inv (X.blk s3 H3 scope ce fp) ps σ' H' s' ∧ L2.CX X.prog X.w X.stack H' s' W0 u t
  have ps0 : Passes (L2.CX X.prog X.w) (bX X s3 H3 scope ce fp xe) W0 := fun ps σ' H' s' u t I' c => ⟨ps, σ', H', s', ⟨I'.ok.ofTry, I'.os, I'.bare, I'.base, I'.loc, I'.cell, I'.free, I'.freeC, I'.pin, I'.hok, I'.len⟩, c⟩
  have pg := hg s3 H3 s3.heap.objs.size cl fp xe
  have pt := ht s3 H3 s3.heap.objs.size cl fp xe W0 ps0
  have pe := he s3 H3 s3.heap.objs.size cl fp xe W0 ps0
  have J4 : Inv (bX X s3 H3 scope ce fp xe) [] (wipe σ (own.map (·.2))) H3 s4 := I4.toTry xe
  -- back to the def
  have back : ∀ {ps : List (Addr × Obj)} {σ' : L2.St} {H' : Hp} {s' : Shared}, Inv (X.blk s3 H3 scope ce fp) ps σ' H' s' → Inv X pins σ H' s' := fun I' =>
    I3.call' (ch := fp) I'.os I'.base I'.hok I'.bare fun b hb => ⟨(f3 b hb).1.2.2.2.1, (f3 b hb).1.2.1, (f3 b hb).1.2.2.2.2.1, (f3 b hb).1.2.2.2.2.2⟩
  have FP : ∀ {ps : List (Addr × Obj)} {σ' : L2.St} {H' : Hp} {s' : Shared}, Inv (X.blk s3 H3 scope ce fp) ps σ' H' s' → FpOk X pins H' s3.heap.objs.size ∧ ∃ m, s'.heap.Ns s3.heap.objs.size m := fun I' => by
    obtain ⟨m, hn, _⟩ := I'.loc
    exact ⟨I3.fpOk (Nat.le_refl _) I'.free, m, hn⟩
  have out : ∀ u t, xe u t → notedBy (model X.prog X.w) X.A ce (fun e t => postX (model X.prog X.w) X.A X.xe use Qf (.ref D) s3.heap.objs.size X.env (.error e) t) u t := by
    rintro u t ⟨ps, σ', H', s', I', c⟩
    obtain ⟨a0, a1, a2, a3, a4, a5⟩ := (FP I').1
    exact block_raise hst hfr tk (back I') c (fun _ _ _ z => z) ⟨a0, a1, a2, a3, a4, fun p hp => a5 p (List.mem_append_left _ (by simpa using hp))⟩ (FP I').2 rfl
  have stat : ∀ {σ' : L2.St} {H' : Hp} {s' : Shared}, Inv (bX X s3 H3 scope ce fp xe) [] σ' H' s' → (∀ b ∈ fp, H' b = none) → ∀ b ∈ fp, FpOk (bX X s3 H3 scope ce fp xe) [] H' b := fun {σ' H' s'} I' hn b hb =>
    ⟨hn b hb, (I'.ok.exf b hb).1, I'.ok.exfs b hb, .inl hb, fun x c e => (I'.ok.exf b hb).2 x c e, fun p hp => absurd (show p ∈ ([] : List (Addr × Obj)) ++ [] from hp) (by simp)⟩
  have thX : ∀ {α : Type} {t : Sem α} {P P' : α → Shared → Prop} {s : Shared}, wpAny (model X.prog X.w) X.A t P xe s → (∀ a s, P a s → P' a s) →
      wpAny (model X.prog X.w) X.A t P' (notedBy (model X.prog X.w) X.A ce fun e t => postX (model X.prog X.w) X.A X.xe use Qf (.ref D) s3.heap.objs.size X.env (.error e) t) s := fun h k => wpAny_mono h k out
  have loop : codeAny (model X.prog X.w) X.A (.compLoop (.ListComp elt [⟨tg, iter, ifs, 0⟩] scope pos) 0 (.ref it) (.ref D) ce) (postX (model X.prog X.w) X.A X.xe use Qf (.ref D) s3.heap.objs.size X.env) s4 := by
    refine compLoop_any (fun n s' => ∃ i H', Inv (bX X s3 H3 scope ce fp xe) [] (wipe σ (own.map (·.2))) H' s' ∧ tn i s'.heap ∧ (∀ b ∈ fp, H' b = none) ∧ M i n H') ?_ m0 ⟨0, H3, J4, st4, fun b hb => (f3 b hb).1.1, w0⟩
    rintro n s5 ⟨i, H5, I5, st5, n5, w5⟩
    rcases turn i n H5 w5 with ⟨stop, qq⟩ | ⟨go, Nx, hNx, step⟩
    · refine thnF (T.done (bX X s3 H3 scope ce fp xe) rfl rfl rfl hc i [] s5 _ H5 (fun _ _ => False) I5 (stat I5 n5) st5 stop) fun r s6 ⟨hr, I6⟩ => ?_
      subst hr
      have I6' : Inv (X.blk s3 H3 scope ce fp) [] (wipe σ (own.map (·.2))) H5 s6 := I6.ofTry I6.ok.ofTry
      have J6 := back I6'
      obtain ⟨⟨a0, a1, a2, a3, a4, a5⟩, m, hn⟩ := FP I6'
      exact done D s3.heap.objs.size s6 m H5 J6 qq hn ⟨a0, a1, a2, a3, a4, a5⟩
    · refine thnF (T.item (bX X s3 H3 scope ce fp xe) rfl rfl rfl hc i [] s5 _ H5 (fun _ _ => False) I5 (stat I5 n5) st5 go) fun r s6 ⟨u, hr, h6⟩ => ?_
      subst hr
      refine thnF h6 fun _ s7 ⟨x, H7, I7, r7, y7, st7, n7⟩ => ?_
      have I7' := I7.pinned (stat I7 n7) (T.obj _ _ st7)
      refine thX (pg.run _ s7 _ H7 x u _ I7' r7 (step x H7 y7)) fun _ s8 ⟨σ8, H8, I8, hw8, q8⟩ => ?_
      refine thX (pt.run _ s8 σ8 H8 _ I8 q8) fun b s9 ⟨H9, I9, q9⟩ => ?_
      have fin : ∀ {s' : Shared} {H' : Hp}, Inv (bX X s3 H3 scope ce fp xe) ([] ++ pinsAt fp s7.heap) σ8 H' s' → Nx H' →
          ∃ m, m < n ∧ ∃ i H', Inv (bX X s3 H3 scope ce fp xe) [] (wipe σ (own.map (·.2))) H' s' ∧ tn i s'.heap ∧ (∀ b ∈ fp, H' b = none) ∧ M i m H' := fun {s' H'} I' nx => by
        obtain ⟨m', lt, w'⟩ := hNx H' nx
        have held : ∀ b ∈ fp, ∀ o, s7.heap.get? b = some o → s'.heap.get? b = some o ∧ H' b = none := fun b hb o e =>
          let z := I'.pin (b, o) (List.mem_append_right _ (List.mem_append_right _ (mem_pinsAt hb e)))
          ⟨z.1, z.2.1⟩
        refine ⟨m', lt, i + 1, H', (I'.unpinned (pins := [])).weak (by rw [← hw8, wipe_length]) (fun j v e => ?_), T.keep _ _ _ st7 fun b hb o e => (held b hb o e).1, fun b hb => ?_, w'⟩
        · rw [← hw8] at e
          exact (wipe_some e).1
        · obtain ⟨o, e, _⟩ := T.obj _ _ st7 b hb
          exact (held b hb o e).2
      cases b with
      | false =>
        simp only [Bool.false_eq_true, if_false] at q9 ⊢
        exact fin I9 q9
      | true =>
        simp only [if_true] at q9 ⊢
        refine thX (pe.run _ s9 σ8 H9 _ I9 q9) fun z s10 ⟨yv, H10, I10, r10, acc, hD10, hz10, nx⟩ => ?_
        exact app_ok (X := bX X s3 H3 scope ce fp xe) I10 hD10 hz10 r10 fun s11 I11 => fin I11 nx
  exact codeAny_compStart_list loop (T.self X.A 0 _ _ _ st4 loop)
variable {elt tg iter : Expr} {ifs : List Expr} {scope : Scope} {own : List (Str × Nat)} {pos : Pos} {wi : TI} {g : TG} {tt : XK → TT} {te : XK → TE}
theorem pe_lcX (hst : X.stack = X.env :: X.outer) (hfr : X.env.frame = some X.env.locals) (tk : Takes X W) (hc : X.calm = true) (hN : X.N.Nodup) (hi : PI X tg iter wi) (ok : BlkOk X.N X.env.scope scope own)
    (hg : ∀ (s : Shared) (H : Hp) (C : Addr) (cl : List (Str × Addr)) (fp : List Addr) (xe : Value → Shared → Prop), PG (bX X s H scope (compEnvC scope cl C X.env) fp xe) tg g)
    (ht : ∀ (s : Shared) (H : Hp) (C : Addr) (cl : List (Str × Addr)) (fp : List Addr) (xe : Value → Shared → Prop) (E : XK), Passes (L2.CX X.prog X.w) (bX X s H scope (compEnvC scope cl C X.env) fp xe) E → PTs (bX X s H scope (compEnvC scope cl C X.env) fp xe) ifs (tt E))
    (he : ∀ (s : Shared) (H : Hp) (C : Addr) (cl : List (Str × Addr)) (fp : List Addr) (xe : Value → Shared → Prop) (E : XK), Passes (L2.CX X.prog X.w) (bX X s H scope (compEnvC scope cl C X.env) fp xe) E → PE (bX X s H scope (compEnvC scope cl C X.env) fp xe) elt (te E))
    (hs : ∀ x, foldedSetIterable iter X.env x = pure x := by intro _; rfl) :
    PE X (.ListComp elt [⟨tg, iter, ifs, 0⟩] scope pos) (tLcX wi g tt te W (own.map (·.2))) := by
  refine ⟨fun pins s σ H Q I h => ?_⟩
  rw [eval_ListComp]
  refine lcX_core (use := none) hst hfr tk hc hN I hi ok hg ht he hs h fun D C s' m H' I' q hn f => ⟨m, hn, fun h'' sb => ?_⟩
  obtain ⟨a0, a1, a2, a3, a4, a5⟩ := f
  exact ⟨.ref D, H', I'.turned (t' := s'.toks) (fun b o hb e => (sb.2 b hb).trans e) a0 a1 a3 a4 a5, rfl, q⟩
theorem ps_setLcX {i : Nat} {y : Str} {py spos : Pos} (hst : X.stack = X.env :: X.outer) (hfr : X.env.frame = some X.env.locals) (tk : Takes X W) (hc : X.calm = true) (hN : X.N.Nodup) (hy : X.N[i]? = some y) (hyl : X.env.scope.names.lookup y = some .local)
    (sw : swapsWith (.ListComp elt [⟨tg, iter, ifs, 0⟩] scope pos) (some (.Name y py)) spos.line X.env = pure true) (hi : PI X tg iter wi) (ok : BlkOk X.N X.env.scope scope own)
    (hg : ∀ (s : Shared) (H : Hp) (C : Addr) (cl : List (Str × Addr)) (fp : List Addr) (xe : Value → Shared → Prop), PG (bX X s H scope (compEnvC scope cl C X.env) fp xe) tg g)
    (ht : ∀ (s : Shared) (H : Hp) (C : Addr) (cl : List (Str × Addr)) (fp : List Addr) (xe : Value → Shared → Prop) (E : XK), Passes (L2.CX X.prog X.w) (bX X s H scope (compEnvC scope cl C X.env) fp xe) E → PTs (bX X s H scope (compEnvC scope cl C X.env) fp xe) ifs (tt E))
    (he : ∀ (s : Shared) (H : Hp) (C : Addr) (cl : List (Str × Addr)) (fp : List Addr) (xe : Value → Shared → Prop) (E : XK), Passes (L2.CX X.prog X.w) (bX X s H scope (compEnvC scope cl C X.env) fp xe) E → PE (bX X s H scope (compEnvC scope cl C X.env) fp xe) elt (te E))
    (hs : ∀ x, foldedSetIterable iter X.env x = pure x := by intro _; rfl) :
    PS X (.Assign [.Name y py] (.ListComp elt [⟨tg, iter, ifs, 0⟩] scope pos) spos) (tAsg (tLcX wi g tt te W (own.map (·.2))) (gName i)) := by
  refine ⟨fun pins s σ H D I h => ?_⟩
  rw [exec_Assign_Name_used _ _ _ _ sw]
  refine wpAny_bind (wpAny_standAt (wpAny_bind (show wpAny _ X.A (do let _ ← comprehension (.ListComp elt [⟨tg, iter, ifs, 0⟩] scope pos) scope X.env (firstIterPos [⟨tg, iter, ifs, 0⟩] pos) (newList []) false (eval iter X.env) (some (assign (.Name y py) X.env))) _ _ s from ?_)))
  have h' : tLcX wi g tt te W (own.map (·.2)) σ H (fun x H1 => gName i x σ H1 D.nx) := h
  refine wpAny_bind (thn (lcX_core (Qf := fun _ t => SP X pins D .next t) hst hfr tk hc hN I hi ok hg ht he hs h' fun L C t m H' I' q hn f => ?_) fun _ t ht => wpAny_pure (wpAny_pure ht))
  obtain ⟨a0, a1, a2, a3, a4, a5⟩ := f
  refine show wpAny _ _ (assign (.Name y py) X.env (.ref L)) _ _ _ from wpAny_assign_Name (store_ok2 (v := V.ref L) I' hN hy (.inl hyl) rfl (fun t2 I2 ⟨a, sb, ha⟩ => ?_) (.inr hyl))
  have neC : C ≠ a := ha.elim (fun z => by rw [z]; exact a1) (fun z e => a4 y a z e.symm)
  exact ⟨m, hn.sameBut sb neC, fun h3 sb3 => ⟨_, H', I2.turned (t' := t2.toks) (fun b o hb e => (sb3.2 b hb).trans e) a0 a1 a3 a4 a5, q⟩⟩
end
end SX

set_option Elab.async false
set_option linter.all false
set_option maxRecDepth 100000
set_option maxHeartbeats 4000000
/-! str(o), x in o, x not in o, len(o), o == x by a class's own methods -/
namespace SX
open PySem PySem.Spec PyProof.Rows L2 NdefX
structure Dun (K : PySem.W.Frag) (C : Addr) (m : Str) (f : Addr) : Prop where
  at_ : PySem.W.findIn K (.ref C) m = some (some (.ref f))
  fn : PySem.W.isFn K (.ref f) = true
section
variable {X : Cx} {CX : CXT} {k : Nat} {C f : Addr} {fd : FuncData} {ps : List Str} {sp : Sp} {E : XK}
theorem inst_of {pins : List (Addr × Obj)} {σ : L2.St} {H : Hp} {s : Shared} {a dx : Addr} {fs : List (Str × V)} (I : Inv X pins σ H s) (h : H a = some (.ins C dx fs)) : ∃ ox od, PySem.W.InstAt s.heap a ox C (some od) := by
  obtain ⟨mA, J, _⟩ := ins_get I.hok h
  obtain ⟨od, J, _⟩ := J.look
  exact ⟨_, od, J⟩
theorem run_sub {A : Around} {pins : List (Addr × Obj)} {σ : L2.St} {H : Hp} {s : Shared} {Q : VK} {us : List Value} {vs : List V} (F : FnOk X.prog X.w X.K X.mg X.base CX k f fd ps sp) (hb : Binds X.K fd ps []) (hx : Passes CX X E) (sb : Sub X k A)
    (I : Inv X pins σ H s) (r : Vals vs us) (h : sp vs H Q E) : wpAny (model X.prog X.w) A (call (.ref f) us) (EP X pins σ Q) X.xe s := by
  have e0 : Env0 X.prog X.w X.K X.mg X.base A X.stack s H := by
    have e := I.env0
    exact ⟨by rw [sb.fr]; exact e.frames, e.mod, e.bs, e.bsz, e.funs, e.frf, e.hok, e.bare⟩
  have hl : us.length = ps.length := by rw [← r.length]; exact F.len _ _ _ _ h
  have bnd : BindsTo s fd ⟨us, []⟩ (ps.zip us) := by
    have z := hb s us I.kIn (by simpa using hl)
    simpa using z
  refine wpAny_call (codeAny_mono (F.run A X.stack s H ⟨us, []⟩ us vs Q E sb.room e0 bnd r h) fun r s' hq => ?_)
  cases r with
  | error e => exact hx pins σ H s e s' I hq
  | ok fl => cases fl <;> first | exact I.after hq | exact False.elim hq

/-- str(o) -/
def rStrO (C : Addr) (sp : Sp) (E : XK) : List V → Hp → VK → Prop := fun xs H Q => ∃ (a dx : Addr) (fs : List (Str × V)), xs = [.ref a] ∧ H a = some (.ins C dx fs) ∧ sp [.ref a] H (fun v H' => ∃ z, v = .str z ∧ Q v H') E
theorem call_strO (D : Dun X.K C "__str__" f) (F : FnOk X.prog X.w X.K X.mg X.base CX k f fd ps sp) (hb : Binds X.K fd ps []) (hx : Passes CX X E) (hr : Room (k + 2) X.A) : CallR X (.type "str") (rStrO C sp E) := by
  intro pins s σ H xs us Q I r ⟨a, dx, fs, e, ha, q⟩
  subst e
  obtain ⟨u, rfl, ru⟩ := vals1 r
  obtain rfl : u = Value.ref a := ru
  obtain ⟨ox, od, J⟩ := inst_of I ha
  have sb : Sub X (k + 2) X.A := ⟨hr, rfl⟩
  refine PySem.W.kso_call sb.in1.in1.room.units0 I.kIn J D.at_ D.fn (wpAny_mono (run_sub (vs := [.ref a]) F hb hx sb.in1.in1 I (.cons rfl .nil) q) (fun v s' h => ?_) fun _ _ x => x)
  obtain ⟨y, H', I', ry, z, rfl, q'⟩ := h
  obtain ⟨t, rfl⟩ := ry
  exact ⟨.str z, H', I', ⟨t, rfl⟩, q'⟩
/-- len(o) -/
def rLenO (C : Addr) (sp : Sp) (E : XK) : List V → Hp → VK → Prop := fun xs H Q => ∃ (a dx : Addr) (fs : List (Str × V)), xs = [.ref a] ∧ H a = some (.ins C dx fs) ∧ sp [.ref a] H (fun v H' => ∃ n : Int, v = .int n ∧ 0 ≤ n ∧ n < 2 ^ 63 ∧ Q v H') E
theorem call_lenO (D : Dun X.K C "__len__" f) (F : FnOk X.prog X.w X.K X.mg X.base CX k f fd ps sp) (hb : Binds X.K fd ps []) (hx : Passes CX X E) (hr : Room (k + 1) X.A) : CallR X (.builtin "len") (rLenO C sp E) := by
  intro pins s σ H xs us Q I r ⟨a, dx, fs, e, ha, q⟩
  subst e
  obtain ⟨u, rfl, ru⟩ := vals1 r
  obtain rfl : u = Value.ref a := ru
  obtain ⟨ox, od, J⟩ := inst_of I ha
  obtain ⟨m, hF⟩ := I.fr
  have sb : Sub X (k + 1) X.A := ⟨hr, rfl⟩
  refine PySem.W.len_K hF I.ok.mod.kin J D.at_ D.fn (wpAny_mono (run_sub (vs := [.ref a]) F hb hx sb.in1 I (.cons rfl .nil) q) (fun v s' h => ?_) fun _ _ x => x)
  obtain ⟨y, H', I', ry, n, rfl, h0, h1, q'⟩ := h
  obtain ⟨t, rfl⟩ := ry
  exact ⟨⟨h0, h1⟩, .int n, H', I'.tok _, ⟨_, rfl⟩, q'⟩
/-- x in o, x not in o -/
def rInO (C : Addr) (neg : Bool) (sp : Sp) (E : XK) : R2 := fun x y H Q => ∃ (a dx : Addr) (fs : List (Str × V)), y = .ref a ∧ H a = some (.ins C dx fs) ∧ sp [.ref a, x] H (fun v H' => ∃ b, v = .bl b ∧ Q (.bl (if neg then !b else b)) H') E
theorem op_inO (D : Dun X.K C "__contains__" f) (F : FnOk X.prog X.w X.K X.mg X.base CX k f fd ps sp) (hb : Binds X.K fd ps []) (hx : Passes CX X E) (hr : Room k X.A) : OpR X (compareOp .In) (rInO C false sp E) := by
  intro pins s σ H x y v u Q I rx ry ⟨a, dx, fs, e, ha, q⟩
  subst e
  obtain rfl : u = Value.ref a := ry
  obtain ⟨ox, od, J⟩ := inst_of I ha
  obtain ⟨m, hF⟩ := I.fr
  refine PySem.W.in_K hF I.ok.mod.kin J D.at_ D.fn (wpAny_mono (run_sub (vs := [.ref a, x]) F hb hx ⟨hr, rfl⟩ I (.cons rfl (.cons rx .nil)) q) (fun w s' h => ?_) fun _ _ x => x)
  obtain ⟨y, H', I', ry, b, rfl, q'⟩ := h
  refine wpAny_mono (tru_ok pins s' σ H' (.bl b) w (fun c H2 => c = b ∧ H2 = H') I' ry ⟨b, rfl, rfl, rfl⟩) (fun c s2 h2 => ?_) fun _ _ x => x
  obtain ⟨H2, I2, rfl, rfl⟩ := h2
  exact ⟨.bl c, _, I2, rfl, q'⟩
theorem op_notInO (D : Dun X.K C "__contains__" f) (F : FnOk X.prog X.w X.K X.mg X.base CX k f fd ps sp) (hb : Binds X.K fd ps []) (hx : Passes CX X E) (hr : Room k X.A) : OpR X (compareOp .NotIn) (rInO C true sp E) := by
  intro pins s σ H x y v u Q I rx ry ⟨a, dx, fs, e, ha, q⟩
  subst e
  obtain rfl : u = Value.ref a := ry
  obtain ⟨ox, od, J⟩ := inst_of I ha
  obtain ⟨m, hF⟩ := I.fr
  refine PySem.W.notIn_K hF I.ok.mod.kin J D.at_ D.fn (wpAny_mono (run_sub (vs := [.ref a, x]) F hb hx ⟨hr, rfl⟩ I (.cons rfl (.cons rx .nil)) q) (fun w s' h => ?_) fun _ _ x => x)
  obtain ⟨y, H', I', ry, b, rfl, q'⟩ := h
  refine wpAny_mono (tru_ok pins s' σ H' (.bl b) w (fun c H2 => c = b ∧ H2 = H') I' ry ⟨b, rfl, rfl, rfl⟩) (fun c s2 h2 => ?_) fun _ _ x => x
  obtain ⟨H2, I2, rfl, rfl⟩ := h2
  exact ⟨.bl (!c), _, I2, rfl, q'⟩
/-- the class of a value, as == asks it: an instance of the same class, a list, a tuple, None, an int, a text -/
def OtherV (K : PySem.W.Frag) (C : Addr) (H : Hp) (y : V) : Prop := (∃ b dx fs, y = .ref b ∧ H b = some (.ins C dx fs)) ∨ (∃ b xs, y = .ref b ∧ SqT K H b xs ∧ PySem.W.subIn K (.type "tuple") (.ref C) = some false)
def rEqO (K : PySem.W.Frag) (C : Addr) (sp : Sp) (E : XK) : R2 := fun x y H Q => ∃ (a dx : Addr) (fs : List (Str × V)), x = .ref a ∧ H a = some (.ins C dx fs) ∧ OtherV K C H y ∧ sp [.ref a, y] H (fun v H' => ∃ b, v = .bl b ∧ Q v H') E
theorem op_eqO (D : Dun X.K C "__eq__" f) (F : FnOk X.prog X.w X.K X.mg X.base CX k f fd ps sp) (hb : Binds X.K fd ps []) (hx : Passes CX X E) (hr : Room k X.A) : OpR X (compareOp .Eq) (rEqO X.K C sp E) := by
  intro pins s σ H x y v u Q I rx ry ⟨a, dx, fs, e, ha, ho, q⟩
  subst e
  obtain rfl : v = Value.ref a := rx
  obtain ⟨ox, od, J⟩ := inst_of I ha
  obtain ⟨m, hF⟩ := I.fr
  have run := run_sub (A := X.A) (vs := [.ref a, y]) (us := [.ref a, u]) F hb hx ⟨hr, rfl⟩ I (.cons rfl (.cons ry .nil)) q
  have back : wpAny (model X.prog X.w) X.A (call (.ref f) [.ref a, u]) (PySem.W.CmpBack (EP X pins σ Q)) X.xe s := by
    refine wpAny_mono run (fun w s' h => ?_) fun _ _ x => x
    obtain ⟨y, H', I', ry, b, rfl, q'⟩ := h
    obtain rfl : w = Value.bool b := ry
    exact ⟨.bl b, H', I', rfl, q'⟩
  show wpAny (model X.prog X.w) X.A (richCompare .Eq (.ref a) u) (EP X pins σ Q) X.xe s
  rcases ho with ⟨b, dx', fs', rfl, hb'⟩ | ⟨b, xs, rfl, hT, hn⟩
  · obtain rfl : u = Value.ref b := ry
    obtain ⟨ox', od', J'⟩ := inst_of I hb'
    exact PySem.W.cmp_K (op := .Eq) (tb := .ref C) hr.units0 hF I.ok.mod.kin J J'.type (by simp [PySem.W.notFirst]) D.at_ D.fn back
  · obtain rfl : u = Value.ref b := ry
    obtain ⟨its, _, ⟨o, ho, hc, _⟩, _⟩ := I.tuple hT
    refine PySem.W.cmp_K (op := .Eq) (tb := .type "tuple") hr.units0 hF I.ok.mod.kin J (fun A Q E s' k q => wpAny_typeOf (T := "tuple") ⟨o, k _ _ ho, hc⟩ q) ?_ D.at_ D.fn back
    unfold PySem.W.notFirst
    rw [hn]
    rfl
end
end SX

set_option Elab.async false
set_option linter.all false
set_option maxRecDepth 100000
set_option maxHeartbeats 4000000
namespace SX
open PySem PySem.Spec PyProof.Rows L2 NdefX
section
variable {X : Cx} {CX : CXT} {k i : Nat} {f C : Addr} {sp : Sp} {E : XK} {x : Str} {e : Expr} {te : TE} {p q pos : Pos}
/-- x(*y), the local x holds the class C -/
def tMakeLS (K : PySem.W.Frag) (i : Nat) (C : Addr) (sp : Sp) (E : XK) (te : TE) : TE := fun σ H Q => σ[i]? = some (some (.ref C)) ∧ te σ H fun y H1 => ∃ a xs, y = V.ref a ∧ (SqT K H1 a xs ∨ SqL K H1 a xs) ∧
  ∀ z dx, H1 z = none → H1 dx = none → dx ≠ z → sp (V.ref z :: xs) (upd (upd H1 dx (.own z)) z (.ins C dx [])) (fun v H2 => v = .non ∧ Q (.ref z) H2) E
theorem pe_makeLS (M : Mk X.K C f) (F : FnR X.prog X.w X.K X.mg X.base CX k f sp) (hr : Room (k + 1) X.A) (hN : X.N[i]? = some x) (hv : Vis X.env.scope x) (hx : Passes CX X E) (he : PE X e te)
    (hdb : (x == ("__debug__" : Str)) = false := by decide) (hcd : (x == ("__classdict__" : Str)) = false := by decide) (hst : starEach [.Starred e q] X.env = [(true, eval e X.env)] := by rfl) :
    PE X (.Call (.Name x p) [.Starred e q] [] pos) (tMakeLS X.K i C sp E te) := by
  refine ⟨fun pins s σ H Q I ⟨hs, h⟩ => ?_⟩
  refine wpAny_Call_Name_kw (thn ((pe_var (pos := p) hN hv hdb hcd).run pins s σ H (fun v H1 => v = .ref C ∧ H1 = H) I ⟨.ref C, hs, rfl, rfl⟩) fun u s1 ⟨v, H1, I1, r1, e1, e2⟩ => ?_)
  subst e1 e2
  obtain rfl : u = Value.ref C := r1
  refine PySem.W.callWith_S (h₀ := X.base) I.ok.mod.kin M.kp (thn (he.run pins s1 σ _ _ I1 h) fun v s2 ⟨y, H2, I2, ry, a, xs, ey, hxs, q⟩ => ?_) hst
  subst ey
  obtain rfl : v = Value.ref a := ry
  exact StX.star_any I2 hxs fun us s3 I3 rv => ⟨I3.kIn, StX.run_makeR M F hr hx I3 rv q⟩
end
/-! raising -/
theorem gone_same {H1 H2 : Hp} {a C d : Addr} {fs : List (Str × V)} (ha : H1 a = none) (f : Filled (upd H1 a (exo a C none)) H2 a C d fs) : Same H1 (upd (L2.del H2 a) d (.xd fs)) ∧ H1 d = none := by
  have hd : H1 d = none := by
    have z := f.nw
    rw [upd_ne f.ne] at z
    exact z
  refine ⟨fun b o e => ?_, hd⟩
  have nb : b ≠ a := ne_of_none e ha
  rw [upd_ne (ne_of_none e hd), L2.del_ne nb]
  exact f.kp b o (by rw [upd_ne nb]; exact e) nb
/-- C('f' = v) raised: what is asked behind -/
def Thrown (C : Addr) (fs : List (Str × V)) (H : Hp) (Q : XK) : Prop := ∀ d H', Same H H' → H d = none → H' d = some (.xd fs) → Q (.ref C) (some d) H'
theorem mko1 {C : Addr} {f : Str} {v : V} {H1 : Hp} {Q : XK} (h : Thrown C [(f, v)] H1 Q) : [v].length ≤ 1000 ∧ ∀ a, H1 a = none → spI1 C f (.ref a :: ([v] ++ [])) (upd H1 a (exo a C none))
    (fun w H2 => w = .non ∧ ∃ (d : Addr) (fs : List (Str × V)), H2 a = some (exo a C (some d)) ∧ H2 d = some (exd d fs) ∧ H1 d = none ∧ Q (.ref C) (some d) (upd (L2.del H2 a) d (.xd fs))) (fun _ _ _ => False) := by
  refine ⟨by show 1 ≤ 1000; decide, fun a ha => ⟨a, v, rfl, upd_same, fun d H2 fl => ⟨rfl, d, _, fl.ob, fl.dc, (gone_same ha fl).2, ?_⟩⟩⟩
  exact h d _ (gone_same ha fl).1 (gone_same ha fl).2 upd_same
end SX

set_option Elab.async false
set_option linter.all false
set_option maxRecDepth 100000
set_option maxHeartbeats 2000000
/-! a class whose __iter__ gives the iterator of a tuple that it keeps -/
namespace SX
open PySem PySem.Spec PyProof.Rows L2 NdefX
abbrev tiObj (t : Addr) (i : Nat) : Obj := { cls := .type "tuple_iterator", data := .fields #[.ref t, .int i 0] }
/-- at it the iterator of the tuple at t -/
def ItT (t it : Addr) (i : Nat) : HO := .ext fun h => h.get? it = some (tiObj t i)
theorem itT_ok {P : Program} {w : World} {H : Hp} {h : Heap} {t it : Addr} {i : Nat} (e : h.get? it = some (tiObj t i)) : ObjOk P w H h it (ItT t it i) := ⟨e, ⟨_, e⟩, fun _ _ q k => k _ q⟩
section
variable {prog : Program} {w : World} {A : Around} {E : Value → Shared → Prop} {s : Shared}
theorem iter_tuple {l : Addr} {its : Array Value} {Q : Value → Shared → Prop} (hl : s.heap.IsTuple l its) (q : Q (.ref s.heap.objs.size) { s with heap := s.heap.push (tiObj l 0) }) :
    wpAny (model prog w) A (call (.builtin "iter") [.ref l]) Q E s := by
  refine Calls.call_function_entry (by decide +kernel) (by decide +kernel) PySem.W.kdk_entry_iter (PySem.W.kdk_args_iter _) ?_
  unfold Builtin.«iter»
  refine wpAny_bind (m := someArgs "iter" 1 2 _) (wpAny_of_eq (a := [Value.ref l]) (by first | rfl | kernel_rfl!) ?_)
  exact show wpAny _ _ (pyIter (.ref l) >>= _) _ _ _ from wpAny_bind (wpAny_pyIter_tuple hl (wpAny_pure ⟨_, rfl, q⟩))
end
/-- iter(t), t a tuple; n: what stood when the def was called -/
def rIterT (K : PySem.W.Frag) (n : Nat) : List V → Hp → VK → Prop := fun xs H Q => ∃ (t : Addr) (zs : List V), xs = [.ref t] ∧ SqT K H t zs ∧ ∀ it, H it = none → n ≤ it → Q (.ref it) (upd H it (ItT t it 0))
theorem call_iterT {X : Cx} : CallR X (.builtin "iter") (rIterT X.K X.s_0.heap.objs.size) := by
  intro pins s σ H xs us Q I r h
  obtain ⟨t, zs, rfl, hq, q⟩ := h
  obtain ⟨u, rfl, ru⟩ := vals1 r
  cases ru
  obtain ⟨its, rv, pl, _⟩ := I.tuple hq
  exact iter_tuple (its := its.toArray) pl ⟨.ref s.heap.objs.size, _, I.laid (t' := s.toks) (fun b u e => Heap.get?_push_of_some _ e) (Nat.le_refl _) (itT_ok (Heap.get?_push_size _ rfl)), rfl, q _ (I.hok.fresh (Nat.le_refl _)) I.sz⟩
/-- a def that keeps a promise which knows how much stood when it was called -/
def FnN (P : Program) (w : World) (K : PySem.W.Frag) (mg : Str → Option Value) (base : Heap) (k : Nat) (f : Addr) (sp : Nat → Sp) : Prop :=
  ∀ (A : Around) (outer : List Env) (s : Shared) (H : Hp) (us : List Value) (vs : List V) (Q : VK) (E : XK), Room k A → Env0 P w K mg base A outer s H → Vals vs us → sp s.heap.objs.size vs H Q E →
    codeAny (model P w) A (.call (.ref f) ⟨us, []⟩) (CR CX0 outer P w H s Q E) s
/-- what __iter__ of such a class promises -/
def spIterT (K : PySem.W.Frag) (C : Addr) (fl : Str) (n : Nat) : Sp := fun vs H Q _ => ∃ (x dx p : Addr) (fs : List (Str × V)) (xs : List V), vs = [.ref x] ∧ H x = some (.ins C dx fs) ∧ fs.lookup fl = some (.ref p) ∧ SqT K H p xs ∧
  ∀ it, H it = none → n ≤ it → Q (.ref it) (upd H it (ItT p it 0))
section
variable {P : Program} {w : World} {K : PySem.W.Frag} {mg : Str → Option Value} {base : Heap} {f C : Addr} {fd : FuncData} {qual : Str} {st : Stmt}
theorem fn_iter {fl : Str} (F : Fun K "__iter__" qual st f fd) (cl : Cls K C) (na : NoAttr K C fl) (S : FnScope ["self"] ["self"] (defScope st)) (hbind : ∀ (s : Shared) (u : Value), BindsTo s fd ⟨[u], []⟩ [("self", u)])
    (body : ∀ (cdv : Value) (A : Around) (outer : List Env) (s : Shared) (H : Hp) (E : XK), Room 1 (A.deeper (envOfC qual (defScope st) s.heap.objs.size f cdv)) →
      PSs (cxOf CX0 P w K mg base ["self"] qual (defScope st) f cdv A outer s H E) (defBody st) (tRet (tCB (rIterT K s.heap.objs.size) (tCons (tFld K (tVar 0) fl) tNil)))) :
    FnN P w K mg base 2 f (spIterT K C fl) := by
  intro A outer s H us vs Q E hr e0 rv hsp
  obtain ⟨x, dx, p, fs, xs, rfl, hx, hl, hp, q⟩ := hsp
  obtain ⟨oc, od, kV, doc, pm, an, cdv, ct, osl, rfl, lk, hcd⟩ := F.ex
  have KX : K.In s.heap := e0.mod.kin.keeps fun b o e => (e0.bs b o e).1
  have lim : s.heap.NoLimit := e0.mod.nolimit.keeps fun b o e => (e0.bs b o e).1
  have rl := rv.length
  obtain ⟨u, rfl, ru⟩ := vals1 rv
  have par : ∀ y ∈ [("self" : Str)].zip [u], (defScope st).names.lookup y.1 = some .local ∨ ((defScope st).names.lookup y.1 = some .cell ∧ ((cellsFrom (s.heap.objs.size + 1) (defScope st).names []).lookup y.1).isSome = true) := fun ⟨n, v⟩ hy =>
    (S.par n (List.of_mem_zip hy).1).imp id (fun q => ⟨q, PySem.W.cellsFrom_some _ _ _ (.inl q)⟩)
  refine codeAny_call_function hr.depth (KX _ _ lk) rfl S.co S.gen rfl (PySem.W.codeRec_of KX hcd) (hbind s u _ _ _ _ ?_)
  refine wpAny_newFunctionEnv_cells S.kind par fun env he s1 x1 => ?_
  subst he
  refine ⟨lim.keeps x1.toInCall.keep, codeAny_func ?_⟩
  have I : Inv (cxOf CX0 P w K mg base ["self"] qual (defScope st) f cdv A outer s H E) [] (start ["self"] [.ref x]) H s1 := inv_start S hr.hd e0 (by rfl) rv x1
  have hq : tRet (tCB (rIterT K s.heap.objs.size) (tCons (tFld K (tVar 0) fl) tNil)) { nx := fun _ H' => Q .non H', rt := Q } (start ["self"] [.ref x]) H :=
    ⟨_, rfl, x, C, dx, _, _, rfl, hx, cl, na, hl, p, xs, rfl, hp, q⟩
  refine wpAny_mono ((body cdv A outer s H E (hr.deeper _)).run [] s1 _ H _ I hq) (fun g s' hs => ?_) fun e s' hs => hs
  have fin : ∀ {σ' : L2.St} {H' : Hp} {v : V} {u : Value}, Inv (cxOf CX0 P w K mg base ["self"] qual (defScope st) f cdv A outer s H E) [] σ' H' s' → RelV v u → Q v H' → CE outer P w H s Q u s' :=
    fun J r2 q2 => ⟨_, _, J.os, J.bare, J.base, J.hok, r2, q2⟩
  cases g with
  | ret u =>
    obtain ⟨v, σ', H', J, r2, q2⟩ := hs
    exact fin J r2 q2
  | next =>
    obtain ⟨σ', H', J, q2⟩ := hs
    exact fin (v := V.non) (u := Value.none) J rfl q2
  | brk => exact hs.choose_spec.choose_spec.2.elim
  | cont => exact hs.choose_spec.choose_spec.2.elim
end
/-- what a class of this kind tells: its __iter__ at fi -/
structure ItO (P : Program) (w : World) (K : PySem.W.Frag) (mg : Str → Option Value) (base : Heap) (C fi : Addr) (fl : Str) : Prop where
  at_ : PySem.W.findIn K (.ref C) "__iter__" = some (some (.ref fi))
  fn : PySem.W.isFn K (.ref fi) = true
  run : FnN P w K mg base 2 fi (spIterT K C fl)
section
variable {X : Cx} {C fi : Addr} {fl : Str}
/-- iter of such an object -/
theorem own_iter {A : Around} {pins : List (Addr × Obj)} {σ : L2.St} {H : Hp} {s : Shared} {x dx p : Addr} {fs : List (Str × V)} {xs : List V} {Q : Value → Shared → Prop} {E : Value → Shared → Prop} (T : ItO X.prog X.w X.K X.mg X.base C fi fl) (hr : Room 2 A) (fr : A.frames = X.A.frames)
    (I : Inv X pins σ H s) (hx : H x = some (.ins C dx fs)) (hl : fs.lookup fl = some (.ref p)) (hp : SqT X.K H p xs)
    (q : ∀ it s', H it = none → X.s_0.heap.objs.size ≤ it → Inv X pins σ (upd H it (ItT p it 0)) s' → Q (.ref it) s') : wpAny (model X.prog X.w) A (pyIter (.ref x)) Q E s := by
  obtain ⟨ox, od, J⟩ := inst_of I hx
  obtain ⟨m, hF⟩ := I.fr
  refine PySem.W.owit_iter hF I.ok.mod.kin J T.at_ T.fn ?_
  have e0 : Env0 X.prog X.w X.K X.mg X.base A X.stack s H := by
    have e := I.env0
    exact ⟨fr.trans e.frames, e.mod, e.bs, e.bsz, e.funs, e.frf, e.hok, e.bare⟩
  refine wpAny_call (codeAny_mono (T.run A X.stack s H [.ref x] [.ref x] (fun v H' => ∃ it, v = .ref it ∧ H it = none ∧ s.heap.objs.size ≤ it ∧ H' = upd H it (ItT p it 0)) (fun _ _ _ => False) hr e0 (.cons rfl .nil)
    ⟨x, dx, p, fs, xs, rfl, hx, hl, hp, fun it n1 n2 => ⟨it, rfl, n1, n2, rfl⟩⟩) fun r s' hq => ?_)
  cases r with
  | error e => exact (show False from hq).elim
  | ok g =>
    cases g with
    | next => exact False.elim hq
    | brk => exact False.elim hq
    | cont => exact False.elim hq
    | ret u =>
      obtain ⟨v, H', I', rv, it, rfl, n1, n2, rfl⟩ := I.after hq
      cases rv
      have e := (I'.hok it _ upd_same).1
      show PySem.W.OwitIt _ _ _ _ _ _
      unfold PySem.W.OwitIt
      exact wpAny_specialOf (name := Str.ofString "__next__") (T := "tuple_iterator") ⟨_, e, rfl⟩ F.slot_tuple_iterator_next.lookup (q it s' n1 (Nat.le_trans I.sz n2) I')
/-- a walk over such an object -/
def iOwn (K : PySem.W.Frag) (C : Addr) (fl : Str) (te : TE) : TI := fun σ H R => te σ H fun v H1 => ∃ (x dx p : Addr) (fs : List (Str × V)) (xs : List V), v = .ref x ∧ H1 x = some (.ins C dx fs) ∧ fs.lookup fl = some (.ref p) ∧ SqT K H1 p xs ∧ R (Itt K p) H1
theorem pi_own {tg e : Expr} {te : TE} (T : ItO X.prog X.w X.K X.mg X.base C fi fl) (hr : Room 2 X.A) (he : PE X e te) : PI X tg e (iOwn X.K C fl te) := by
  refine ⟨fun pins s σ H R I h => thn (he.run pins s σ H _ I h) fun u s1 hh => ?_⟩
  obtain ⟨v, H1, I1, rv, x, dx, p, fs, xs, rfl, hx, hl, hp, q⟩ := hh
  cases rv
  refine own_iter T hr rfl I1 hx hl hp fun it s' n1 n2 I' => ?_
  have e := (I'.hok it _ upd_same).1
  have hu : upd H1 it (ItT p it 0) it = some (.ext fun h => h.get? it = some (tiObj p 0)) := upd_same
  have J := ItX.inv_drop I' hu
  have fp := ItX.inv_fp I' hu n2
  rw [ItX.dropH_upd n1] at J fp
  exact ⟨it, [it], _, _, H1, rfl, J, turn_tuple p it, ⟨_, e, rfl, rfl⟩, fun b hb => by
    obtain rfl : b = it := by simpa using hb
    exact fp, q⟩
end
end SX

set_option Elab.async false
set_option linter.all false
set_option maxRecDepth 100000
set_option maxHeartbeats 2000000
/-! list(o), o of a class with such an __iter__, and a __len__ -/
namespace SX
open PySem PySem.Spec PyProof.Rows L2 NdefX
section
variable {X : Cx} {pins : List (Addr × Obj)} {σ : L2.St}
/-- filling a list from a tuple's iterator -/
theorem fill_loop {A1 : Around} {p it q : Addr} {xs : List V} {H0 : Hp} {Rs : Result → Shared → Prop} (hh : A1.in1.handled = none) (z : xs.length ≤ sizeLine) (ne : it ≠ q) (hp : SqT X.K H0 p xs) (nq : H0 q = none) (fp : FpOk X pins H0 it)
    (done : ∀ s, Inv X pins σ (upd H0 q (.lst xs)) s → Rs (.ok (.ret .none)) s) :
    ∀ (n i : Nat) (s : Shared), xs.length - i = n → i ≤ xs.length → Inv X pins σ (upd H0 q (.lst (xs.take i))) s → s.heap.IsTupleIter it p i → codeAny (model X.prog X.w) A1 (.builtin "list.extend.loop" ⟨[.ref q, .ref it, .none], []⟩) Rs s := by
  intro n
  induction n with
  | zero =>
    intro i s hn hi I hit
    have e : i = xs.length := by omega
    subst e
    obtain ⟨its, rv, pl, _⟩ := I.tuple (Same.sqt (same_upd nq) hp)
    obtain ⟨f0, f1, f2, f3, f4, f5⟩ := fp
    have l := rv.length
    refine codeAny_builtin PySem.F.entry_extend_loop ?_
    rw [Around.under_plainId PySem.F.plain_extend_loop _]
    refine show wpAny _ A1.in1 (pyNext (.ref it) >>= _) _ _ s from wpAny_bind (wpAny_pyNext_tuple_end hh hit (show s.heap.IsTuple p its.toArray from pl) (by simp; omega) fun h' eb => wpAny_pure (done _ ?_))
    rw [List.take_length] at I
    exact I.turned (t' := s.toks) (fun b o hb e => eb b o hb e) (by rw [upd_ne ne]; exact f0) f1 f3 f4 f5
  | succ n ih =>
    intro i s hn hi I hit
    have lt : i < xs.length := by omega
    obtain ⟨its, rv, pl, _⟩ := I.tuple (Same.sqt (same_upd nq) hp)
    obtain ⟨u, hu, ru⟩ := rv.get (List.getElem?_eq_getElem lt)
    obtain ⟨f0, f1, f2, f3, f4, f5⟩ := id fp
    refine codeAny_builtin PySem.F.entry_extend_loop ?_
    rw [Around.under_plainId PySem.F.plain_extend_loop _]
    refine show wpAny _ A1.in1 (pyNext (.ref it) >>= _) _ _ s from wpAny_bind (wpAny_pyNext_tuple_item hit (show s.heap.IsTuple p its.toArray from pl) (x := u) (by simpa using hu) fun h' st sb => ?_)
    have I1 : Inv X pins σ (upd H0 q (.lst (xs.take i))) { s with heap := h' } := I.turned (t' := s.toks) (fun b o hb e => (sb.2 b hb).trans e) (by rw [upd_ne ne]; exact f0) f1 f3 f4 f5
    show wpAny _ A1.in1 (updateSeq q (·.push u) >>= _) _ _ _
    obtain ⟨zl, js, m, r2, hl, e⟩ := I1.lstM upd_same
    have tl : (xs.take i).length = i := by rw [List.length_take]; omega
    refine wpAny_bind (wpAny_updateSeq e rfl (wpAny_pure ⟨plainId_quiet PySem.F.plain_extend_loop _, ?_⟩) (by rw [List.size_toArray]; omega) (by show (js.toArray.push u).size ≤ sizeLine + 1; rw [Array.size_push, List.size_toArray]; omega))
    have I2 := I1.lset (its' := js ++ [u]) (ys := xs.take (i + 1)) (f := (·.push u)) (t' := s.toks) upd_same e (by simp) (by rw [List.take_add_one, List.getElem?_eq_getElem lt]; exact r2.append (.cons ru .nil)) (by rw [List.length_take]; omega)
    rw [upd_upd] at I2
    exact ih (i + 1) _ (by omega) lt I2 (st.at fun o w => (Heap.get?_update_other _ _ (Ne.symm ne)).trans w)
theorem len_at {A : Around} {C f a dx : Addr} {CL : CXT} {k : Nat} {fd : FuncData} {ps : List Str} {sp : Sp} {E : XK} {H : Hp} {s : Shared} {fs : List (Str × V)} {Q : VK} (D : Dun X.K C "__len__" f) (F : FnOk X.prog X.w X.K X.mg X.base CL k f fd ps sp) (hb : Binds X.K fd ps [])
    (hx : Passes CL X E) (sb : Sub X (k + 1) A) (I : Inv X pins σ H s) (ha : H a = some (.ins C dx fs)) (q : sp [.ref a] H (fun v H' => ∃ n : Int, v = .int n ∧ 0 ≤ n ∧ n < 2 ^ 63 ∧ Q v H') E) :
    wpAny (model X.prog X.w) A (call (.builtin "len") [.ref a]) (EP X pins σ Q) X.xe s := by
  obtain ⟨ox, od, J⟩ := inst_of I ha
  obtain ⟨m, hF⟩ := I.fr
  refine PySem.W.len_K hF I.ok.mod.kin J D.at_ D.fn (wpAny_mono (run_sub (vs := [.ref a]) F hb hx sb.in1 I (.cons rfl .nil) q) (fun v s' h => ?_) fun _ _ x => x)
  obtain ⟨y, H', I', ry, n, rfl, h0, h1, q'⟩ := h
  obtain ⟨t, rfl⟩ := ry
  exact ⟨⟨h0, h1⟩, .int n, H', I'.tok _, ⟨_, rfl⟩, q'⟩
/-- the length is asked first -/
theorem hint_at {A : Around} {C f a dx : Addr} {k : Nat} {fd : FuncData} {ps : List Str} {sp : Sp} {H : Hp} {s : Shared} {fs : List (Str × V)} {Q : Bool → Shared → Prop} {E : Value → Shared → Prop} (D : Dun X.K C "__len__" f) (F : FnOk X.prog X.w X.K X.mg X.base CX0 k f fd ps sp) (hb : Binds X.K fd ps [])
    (sb : Sub X (k + 1) A) (I : Inv X pins σ H s) (ha : H a = some (.ins C dx fs)) (q : sp [.ref a] H (fun v H' => ∃ n : Int, v = .int n ∧ 0 ≤ n ∧ n < 2 ^ 63 ∧ (∃ m : Int, v = .int m ∧ m ≤ 1000) ∧ H' = H) (fun _ _ _ => False))
    (done : ∀ b s', Inv X pins σ H s' → Q b s') : wpAny (model X.prog X.w) A (Builtin.List.listLengthHint (.ref a)) Q E s := by
  obtain ⟨ox, od, J⟩ := inst_of I ha
  unfold Builtin.List.listLengthHint
  refine wpAny_bind (wpAny_bind (J.type.here ((PySem.W.looks_findIn I.kIn D.at_).here ?_)))
  refine PySem.W.KFB.if_not rfl ?_
  refine PySem.W.KFB.if_so rfl ?_
  have L := len_at (X := X.tr (X.pn ++ pins) (fun _ _ => False)) (pins := []) (Q := fun v H' => (∃ m : Int, v = .int m ∧ m ≤ 1000) ∧ H' = H) D F hb (E := fun _ _ _ => False) pass0 (A := A) ⟨sb.room, sb.fr⟩ (I.toTry _) ha q
  refine wpAny_bind (wpAny_rule (wpAny_bind (wpAny_attempt (wpAny_mono L (fun v s' h => ?_) fun _ _ z => z.elim))))
  obtain ⟨y, H', I', ry, ⟨m, rfl, hm⟩, rfl⟩ := h
  obtain ⟨t, rfl⟩ := ry
  refine wpAny_bind (wpAny_pure ?_)
  refine PySem.W.KFB.if_not ?_ (wpAny_pure (done _ s' (I'.ofTry I.ok)))
  show decide (m.toNat > sizeLine) = false
  rw [sizeLine_eq]
  exact decide_eq_false (by omega)
end
/-- what is asked of list(o) -/
def rListO (K : PySem.W.Frag) (C : Addr) (fl : Str) (sp : Sp) : List V → Hp → VK → Prop := fun vs H Q => ∃ (a dx p : Addr) (fs : List (Str × V)) (xs : List V), vs = [.ref a] ∧ H a = some (.ins C dx fs) ∧ fs.lookup fl = some (.ref p) ∧ SqT K H p xs ∧
  (∀ H2, Same H H2 → sp [.ref a] H2 (fun v H' => ∃ n : Int, v = .int n ∧ 0 ≤ n ∧ n < 2 ^ 63 ∧ (∃ m : Int, v = .int m ∧ m ≤ 1000) ∧ H' = H2) (fun _ _ _ => False)) ∧ ∀ q, H q = none → Q (.ref q) (upd H q (.lst xs))
section
variable {X : Cx} {C fi fl : Addr} {at_ : Str} {k : Nat} {fd : FuncData} {ps : List Str} {sp : Sp}
theorem call_listO (T : ItO X.prog X.w X.K X.mg X.base C fi at_) (D : Dun X.K C "__len__" fl) (F : FnOk X.prog X.w X.K X.mg X.base CX0 k fl fd ps sp) (hb : Binds X.K fd ps []) (hr : Room (k + 5) X.A) : CallR X (.type "list") (rListO X.K C at_ sp) := by
  intro pins s σ H vs us Q I rv h
  obtain ⟨a, dx, p, fs, xs, rfl, ha, hl, hp, hsp, q⟩ := h
  obtain ⟨u, rfl, ru⟩ := rv.one
  cases ru
  have sb : Sub X (k + 3) X.A.in1.in1 := Sub.in1 (Sub.in1 (⟨hr, rfl⟩ : Sub X (k + 5) X.A))
  refine callType_codes (Q₁ := fun obj s1 => obj = .ref s.heap.objs.size ∧ s1 = { s with heap := s.heap.push { cls := .type "list", data := .seq #[] } }) PySem.F.called_list (PySem.F.typeCall_list_1 _) PySem.F.entry_list_init
    (code_list_new _ ⟨rfl, rfl⟩) fun obj s1 h1 => ?_
  obtain ⟨rfl, rfl⟩ := h1
  have hS : (s.heap.push { cls := .type "list", data := .seq #[] }).get? s.heap.objs.size = some { cls := .type "list", data := .seq #[] } := Heap.get?_push_size _ rfl
  refine ⟨⟨_, hS, rfl⟩, PySem.F.args_list_init_2 _ _, ?_⟩
  have nq : H s.heap.objs.size = none := I.hok.fresh (Nat.le_refl _)
  have I1 : Inv X pins σ (upd H s.heap.objs.size (.lst [])) { s with heap := s.heap.push { cls := .type "list", data := .seq #[] } } := I.lnew (its := []) (t' := s.toks) .nil (Nat.zero_le _)
  refine show wpAny _ _ (do let old ← Builtin.List.listItems (.ref s.heap.objs.size); Builtin.List.listUpdate (.ref s.heap.objs.size) (fun _ => #[]); letGo old.toList.reverse; Builtin.List.listExtendWith (.ref s.heap.objs.size) (.ref a) .none) _ _ _ from wpAny_bind ?_
  unfold Builtin.List.listItems
  refine wpAny_bind (wpAny_seqItems hS rfl (wpAny_pure ?_))
  refine show wpAny _ _ (updateSeq s.heap.objs.size (fun _ => #[]) >>= fun _ => letGo (#[] : Array Value).toList.reverse >>= fun _ => Builtin.List.listExtendWith (.ref s.heap.objs.size) (.ref a) .none) _ _ _ from wpAny_bind (wpAny_updateSeq hS rfl ?_)
  have I2 := I1.lset (f := fun _ => #[]) (its := []) (its' := []) (ys := []) (t' := s.toks) upd_same hS rfl .nil (Nat.zero_le _)
  rw [upd_upd] at I2
  refine wpAny_bind (wpAny_letGo ?_)
  generalize s.heap.objs.size = q0 at *
  have ha2 : upd H q0 (.lst []) a = some (.ins C dx fs) := by rw [upd_ne (ne_of_none ha nq)]; exact ha
  have hp2 : SqT X.K (upd H q0 (.lst [])) p xs := Same.sqt (same_upd nq) hp
  obtain ⟨ox, od, J⟩ := inst_of I2 ha2
  unfold Builtin.List.listExtendWith
  refine wpAny_bind (J.type.here ?_)
  have e1 : Builtin.List.listSameRef (.ref q0) (.ref a) = false := by
    have : q0 ≠ a := fun z => by rw [z, ha] at nq; cases nq
    simp [Builtin.List.listSameRef, this]
  have e2 : (Value.ref C == Value.type "list") = false := rfl
  have e3 : (Value.ref C == Value.type "tuple") = false := rfl
  simp only [e1, e2, e3, Bool.or_false, Bool.false_eq_true, if_false]
  refine wpAny_bind (own_iter T (sb.room.mono (by omega)) sb.fr I2 ha2 hl hp2 fun it s3 n1 n2 I3 => ?_)
  have nit : it ≠ q0 := fun z => by rw [z, upd_same] at n1; cases n1
  have ha3 : upd (upd H q0 (.lst [])) it (ItT p it 0) a = some (.ins C dx fs) := by rw [upd_ne (ne_of_none ha2 n1)]; exact ha2
  refine wpAny_bind (wpAny_holding (hint_at D F hb (sb.mono (by omega)) I3 ha3 (hsp _ ((same_upd nq).trans (same_upd n1))) fun b s4 I4 => ?_))
  have fin : ∀ s5, Inv X pins σ (upd (upd H q0 (.lst [])) it (ItT p it 0)) s5 → codeAny (model X.prog X.w) X.A.in1 (.builtin "list.extend.loop" ⟨[.ref q0, .ref it, .none], []⟩) (wants (fun r s2 => r = .none ∧ EP X pins σ Q (.ref q0) s2) X.xe) s5 := by
    intro s5 I5
    have e := (I5.hok it _ upd_same).1
    have hu : upd (upd H q0 (.lst [])) it (ItT p it 0) it = some (.ext fun h => h.get? it = some (tiObj p 0)) := upd_same
    have J5 := ItX.inv_drop I5 hu
    have fp := ItX.inv_fp I5 hu n2
    rw [ItX.dropH_upd n1] at J5 fp
    obtain ⟨f0, f1⟩ := fp
    rw [upd_ne nit] at f0
    have zx : xs.length ≤ sizeLine := by
      obtain ⟨_, _, _, z⟩ := I2.tuple hp2
      exact z
    exact fill_loop (A1 := X.A.in1) (Rs := wants (fun r s2 => r = .none ∧ EP X pins σ Q (.ref q0) s2) X.xe) (p := p) (it := it) (q := q0) (xs := xs) (H0 := H) (show X.A.in1.in1.handled = none from hr.hd) zx nit hp nq ⟨f0, f1⟩ (fun s6 I6 => ⟨rfl, .ref q0, _, I6, rfl, q q0 nq⟩) xs.length 0 s5 (by omega) (Nat.zero_le _) (by rw [List.take_zero]; exact J5) ⟨_, e, rfl, rfl⟩
  refine wpAny_ite_split (fun _ => ?_) (fun _ => wpAny_pure ⟨plainId_quiet PySem.F.plain_extend_loop _, fin s4 I4⟩)
  have hq4 : upd (upd H q0 (.lst [])) it (ItT p it 0) q0 = some (.lst []) := by rw [upd_ne nit.symm, upd_same]
  obtain ⟨z, its, m, r3, hl3, e3'⟩ := I4.lstM hq4
  cases r3
  refine wpAny_bind (wpAny_rule (wpAny_bind (show wpAny _ _ (updateSeq q0 (·.push .none) >>= fun _ => updateSeq q0 (·.pop)) _ _ _ from wpAny_bind (wpAny_updateSeq e3' rfl ?_))))
  have I5 := I4.lset (f := (·.push Value.none)) (its' := [Value.none]) (ys := [.non]) (t' := s4.toks) hq4 e3' (by simp) (.cons rfl .nil) (by rw [List.length_singleton, sizeLine_eq]; decide)
  obtain ⟨z4, its4, k4, r4, hl4, e4⟩ := I5.lstM upd_same
  obtain ⟨u4, rfl, ru4⟩ := r4.one
  refine wpAny_updateSeq e4 rfl (wpAny_pure ⟨plainId_quiet PySem.F.plain_extend_loop _, fin _ ?_⟩) (by show 1 ≤ sizeLine; rw [sizeLine_eq]; decide) (by show 0 ≤ sizeLine + 1; exact Nat.zero_le _)
  have I6 := I5.lset (f := (·.pop)) (its := [u4]) (its' := []) (ys := []) (t' := s4.toks) upd_same e4 (by rfl) .nil (Nat.zero_le _)
  rw [upd_upd] at I6
  have eH : upd (upd (upd H q0 (.lst [])) it (ItT p it 0)) q0 (.lst []) = upd (upd H q0 (.lst [])) it (ItT p it 0) := by
    funext b
    by_cases hb : b = q0
    · rw [hb, upd_same, hq4]
    · rw [upd_ne hb]
  rw [eH] at I6
  exact I6
end
end SX

set_option Elab.async false
set_option linter.all false
set_option maxRecDepth 100000
set_option maxHeartbeats 2000000
/-! enumerate of a list or a tuple -/
namespace SX
open PySem PySem.Spec PyProof.Rows L2
section
variable {prog : Program} {w : World} {A : Around} {E : Value → Shared → Prop} {s : Shared} {b : Bool}
theorem enumA_item {e it l : Addr} {i : Nat} {j : Int} {items : Array Value} {x old : Value} {Q : Value → Shared → Prop} (he : IsEnum s.heap e it j old) (hit : AIt s.heap b it l i) (hl : ASq s.heap b l items) (hx : items[i]? = some x) (ne : e ≠ it)
    (q : ∀ h', IsEnumOut h' e it (j + 1) x s.heap.objs.size → AIt h' b it l (i + 1) → h'.get? s.heap.objs.size = some { cls := .type "tuple", data := .seq #[.int j s.toks, x] } →
      (∀ b o, b ≠ e → b ≠ it → s.heap.get? b = some o → h'.get? b = some o) → Q (.ref s.heap.objs.size) { s with heap := h', toks := s.toks + 1 }) :
    wpAny (model prog w) A (Builtin.«enumerate.__next__» ⟨[.ref e], []⟩) (fun fin s' => ∃ v, fin = .done (.ret v) ∧ Q v s') E s := by
  obtain ⟨hp, g, d, tk, os⟩ := s
  show wpAny _ _ (field (.ref e) 2 >>= _) _ _ _
  refine wpAny_bind (wpAny_field he rfl (x := .ref it) rfl (wpAny_bind (aNext hit hl hx fun g1 n1 sg1 => ?_)))
  have sg1' : Heap.SameBut it hp g1 := sg1
  have e1 : IsEnum g1 e it j old := (sg1'.2 e ne).trans he
  refine show wpAny _ _ (field (.ref e) 3 >>= _) _ _ ⟨g1, g, d, tk, os⟩ from wpAny_bind (wpAny_field e1 rfl (x := rawInt j) rfl ?_)
  refine show wpAny _ _ (field (.ref e) 4 >>= _) _ _ ⟨g1, g, d, tk, os⟩ from wpAny_bind (wpAny_field e1 rfl (x := .none) rfl ?_)
  refine show wpAny _ _ (mkInt j >>= _) _ _ ⟨g1, g, d, tk, os⟩ from wpAny_bind (wpAny_mkInt ?_)
  refine show wpAny _ _ (setField (.ref e) 3 (rawInt (j + 1)) >>= _) _ _ ⟨g1, g, d, tk + 1, os⟩ from wpAny_bind (wpAny_setField_rec e1 (by simp) fun g2 e2 sg2 => ?_)
  have e2' : IsEnum g2 e it (j + 1) old := e2
  refine show wpAny _ _ (setField (.ref e) 4 .none >>= _) _ _ ⟨g2, g, d, tk + 1, os⟩ from wpAny_bind (wpAny_setField_rec e2' (by simp) fun g3 e3 sg3 => ?_)
  have e3' : IsEnum g3 e it (j + 1) old := e3
  refine show wpAny _ _ (newTuple [.int j tk, x] >>= _) _ _ ⟨g3, g, d, tk + 1, os⟩ from wpAny_bind (wpAny_newTuple ?_)
  have e4 : IsEnum (g3.push { cls := .type "tuple", data := .seq #[.int j tk, x] }) e it (j + 1) old := Heap.get?_push_of_some _ e3'
  have size3 : g3.objs.size = hp.objs.size := by rw [sg3.1, sg2.1, sg1'.1]
  have lt : e < hp.objs.size := Heap.lt_size he
  have it3 : AIt g3 b it l (i + 1) := (n1.ext sg2.extBut ne.symm).ext sg3.extBut ne.symm
  refine show wpAny _ _ (Builtin.SmallTypes.ownedTupleIsFree (.ref e) >>= _) _ _ ⟨g3.push { cls := .type "tuple", data := .seq #[.int j tk, x] }, g, d, tk + 1, os⟩ from wpAny_bind ?_
  unfold Builtin.SmallTypes.ownedTupleIsFree
  refine wpAny_bind (wpAny_field e4 rfl (x := .none) rfl (wpAny_pure ?_))
  simp only [if_true]
  refine wpAny_bind (wpAny_rule (wpAny_bind (wpAny_field e4 rfl (x := old) rfl (wpAny_bind (wpAny_setField_rec e4 (by simp) fun g5 e5 sg5 => ?_)))))
  have e5' : IsEnum g5 e it (j + 1) x := e5
  refine show wpAny _ _ (Builtin.SmallTypes.ownedTupleHandOut (.ref e) (.ref g3.objs.size) >>= _) _ _ ⟨g5, g, d, tk + 1, os⟩ from wpAny_bind ?_
  unfold Builtin.SmallTypes.ownedTupleHandOut
  refine wpAny_bind (wpAny_setField_rec e5' (by simp) fun g6 e6 sg6 => ?_)
  have e6' : IsEnumOut g6 e it (j + 1) x g3.objs.size := e6
  refine wpAny_setField_rec e6' (by simp) fun g7 e7 sg7 => ?_
  have e7' : IsEnumOut g7 e it (j + 1) x g3.objs.size := e7
  have up : ∀ c o, c ≠ e → g3.get? c = some o → g7.get? c = some o := fun c o n w => sg7.extBut c o n (sg6.extBut c o n (sg5.extBut c o n (Heap.get?_push_of_some _ w)))
  have new : g7.get? g3.objs.size = some { cls := .type "tuple", data := .seq #[.int j tk, x] } := by
    have n : g3.objs.size ≠ e := by rw [size3]; exact Nat.ne_of_gt lt
    exact sg7.extBut _ _ n (sg6.extBut _ _ n (sg5.extBut _ _ n (Heap.get?_push_size _ rfl)))
  rw [size3] at e7' new ⊢
  refine wpAny_bind (wpAny_letGo (wpAny_pure ⟨_, rfl, q g7 e7' (it3.at fun o w => up it o ne.symm w) new fun c o n1' n2' w => ?_⟩))
  exact up c o n1' (sg3.extBut c o n1' (sg2.extBut c o n1' (sg1'.extBut c o n2' w)))
theorem pyNextE {e it l : Addr} {i : Nat} {j : Int} {items : Array Value} {x old : Value} {Q : Option Value → Shared → Prop} (he : IsEnum s.heap e it j old) (hit : AIt s.heap b it l i) (hl : ASq s.heap b l items) (hx : items[i]? = some x) (ne : e ≠ it)
    (q : ∀ h', IsEnumOut h' e it (j + 1) x s.heap.objs.size → AIt h' b it l (i + 1) → h'.get? s.heap.objs.size = some { cls := .type "tuple", data := .seq #[.int j s.toks, x] } →
      (∀ b o, b ≠ e → b ≠ it → s.heap.get? b = some o → h'.get? b = some o) → Q (some (.ref s.heap.objs.size)) { s with heap := h', toks := s.toks + 1 }) :
    wpAny (model prog w) A (pyNext (.ref e)) Q E s := by
  have ty : s.TypeIs (.ref e) "enumerate" := ⟨_, he, rfl⟩
  unfold pyNext
  exact wpAny_bind (wpAny_attempt (wpAny_callSpecial?_slot (name := Str.ofString "__next__") ty F.slot_enumerate_next (wpAny_call_entry F.slot_enumerate_next ty F.entry_enumerate_next
      (enumA_item he hit hl hx ne fun h' a c d k => wpAny_pure (q h' a c d k)) (F.args_enumerate_next_1 _))))
theorem pyStopE {e it l : Addr} {i : Nat} {j : Int} {items : Array Value} {old : Value} {Q : Option Value → Shared → Prop} (hh : A.handled = none) (he : IsEnum s.heap e it j old) (hit : AIt s.heap b it l i) (hl : ASq s.heap b l items) (hx : items[i]? = none)
    (q : ∀ h', Heap.ExtBut it s.heap h' → Q none { s with heap := h' }) : wpAny (model prog w) A (pyNext (.ref e)) Q E s := by
  have ty : s.TypeIs (.ref e) "enumerate" := ⟨_, he, rfl⟩
  unfold pyNext
  refine wpAny_bind (wpAny_attempt (wpAny_callSpecial?_slot (name := Str.ofString "__next__") ty F.slot_enumerate_next (wpAny_call_entry F.slot_enumerate_next ty F.entry_enumerate_next ?_ (F.args_enumerate_next_1 _))))
  refine show wpAny _ _ (field (.ref e) 2 >>= _) _ _ _ from wpAny_bind (wpAny_field he rfl (x := .ref it) rfl (wpAny_bind (aStop hh hit hl hx fun h' y he' hy => ?_)))
  obtain ⟨o, ho, hc⟩ := hy
  exact wpAny_bind (wpAny_isInstance (T := "StopIteration") (b := true) ⟨o, ho, hc⟩ isSubtype_stop (wpAny_pure (q _ he')))
end
/-- the heap behind enumerate(x) -/
abbrev eA (h : Heap) (b : Bool) (l : Addr) : Heap := (h.push (aObj b l)).push { cls := .type "enumerate", data := .fields #[.none, .bool false, .ref h.objs.size, rawInt 0, .none, .none] }
theorem enumA_new (b : Bool) (l : Addr) (items : Array Value) : Meets (Builtin.«enumerate.__new__» ⟨[.type "enumerate", .ref l], []⟩) (fun _ R s => ASq s.heap b l items ∧ R (.ok (.ret (.ref (s.heap.push (aObj b l)).objs.size))) { s with heap := eA s.heap b l }) :=
  .of_wp fun prog w A R s h => by
    obtain ⟨hp, g, d, tk, os⟩ := s
    obtain ⟨hl, h⟩ := h
    have hsub := sub_enumerate
    have hL : ASq (Shared.heap ⟨hp, g, d, tk, os⟩) b l items := hl
    obtain ⟨o, ho, _⟩ : ∃ o, hp.get? l = some o ∧ True := by
      cases b
      · obtain ⟨o, e, _⟩ := hl; exact ⟨o, e, trivial⟩
      · obtain ⟨o, e, _⟩ := hl; exact ⟨o, e, trivial⟩
    wp_walk using AutoSeq1.wpAny_loadPart' ho
    refine wpAny_stack_any fun st => wpAny_pure ?_
    split
    · rename_i c _ _ _ _ _
      cases (c == Value.type "enumerate")
      · wp_walk using AutoSeq1.wpAny_loadPart' ho, aIter hL
        exact ⟨_, rfl, h⟩
      · wp_walk using AutoSeq1.wpAny_loadPart' ho, aIter hL
        exact ⟨_, rfl, h⟩
    · wp_walk using AutoSeq1.wpAny_loadPart' ho, aIter hL
      exact ⟨_, rfl, h⟩

section
variable {prog : Program} {w : World} {A : Around} {E : Value → Shared → Prop} {s : Shared} {b : Bool}
theorem enumA_call {l : Addr} {items : Array Value} {Q : Value → Shared → Prop} (hL : ASq s.heap b l items)
    (h : ∀ h', IsEnum h' (s.heap.objs.size + 1) s.heap.objs.size 0 .none → AIt h' b s.heap.objs.size l 0 → (∀ c o, s.heap.get? c = some o → h'.get? c = some o) → Q (.ref (s.heap.objs.size + 1)) { s with heap := h' }) :
    wpAny (model prog w) A (call (.type "enumerate") [.ref l]) Q E s := by
  refine callType_new F.called_enumerate (by decide) (F.typeCall_enumerate_1 _) (F.newCall_enumerate_1 _) (fun obj => F.args_object_init_2 obj _) F.entry_enumerate_new (enumA_new b l items) ⟨hL, ?_⟩
  have z : (s.heap.push (aObj b l)).objs.size = s.heap.objs.size + 1 := Heap.size_push ..
  have a2 : (eA s.heap b l).get? (s.heap.push (aObj b l)).objs.size = some _ := Heap.get?_push_size _ rfl
  have a1 : (eA s.heap b l).get? s.heap.objs.size = some (aObj b l) := Heap.get?_push_of_some _ (Heap.get?_push_size _ rfl)
  show _ ∧ _
  rw [z] at a2 ⊢
  exact ⟨⟨_, a2, rfl⟩, h _ a2 (aObj_it a1) fun c o x => Heap.get?_push_of_some _ (Heap.get?_push_of_some _ x)⟩
end
/-- enumerate of what stands at a, the kind told -/
def IteB (K : PySem.W.Frag) (p : Bool) (j0 : Int) (a : Addr) : It :=
  ⟨fun i H => ∃ (xs : List V) (x : V), SqB K p H a xs ∧ xs[i]? = some x, fun i H v H' => ∃ T x, v = .ref T ∧ H T = none ∧ H' = upd H T (.tup [.int (j0 + (i : Nat)), x]) ∧ ∀ xs, SqB K p H a xs → xs[i]? = some x, fun i H => ∃ xs : List V, SqB K p H a xs ∧ xs.length ≤ i⟩
theorem turn_eB {P : Program} {w : World} {K : PySem.W.Frag} {elts : List Expr} {kk : Nat} {tpos : Pos} {p : Bool} {j0 : Int} (a e it : Addr) :
    Turn P w K (.Tuple elts kk tpos) (IteB K p j0 a) [e, it] e (fun i h => (∃ old, IsEnum h e it (j0 + (i : Nat)) old) ∧ AIt h p it a i ∧ e ≠ it) where
  mem := by simp
  obj := fun i h st c hc => by
    obtain ⟨⟨old, s1⟩, s2, _⟩ := st
    obtain ⟨o, f, e2, d2⟩ := s2.obj
    have hc : c = e ∨ c = it := by simpa using hc
    rcases hc with rfl | rfl
    · exact ⟨_, s1, fun v q => nomatch q⟩
    · exact ⟨o, e2, fun v q => by rw [d2] at q; cases q⟩
  keep := fun i h h' st k => by
    obtain ⟨⟨old, s1⟩, s2, ne⟩ := st
    exact ⟨⟨old, k e (by simp) _ s1⟩, s2.at fun o => k it (by simp) o, ne⟩
  item := by
    intro X eP ew eK calm i pins s σ H E I free st goes
    subst eP ew eK
    obtain ⟨⟨old, s1⟩, s2, ne⟩ := st
    obtain ⟨xs, x, qa, ex⟩ := goes
    obtain ⟨as, ra, pa⟩ := sqB_at I qa
    obtain ⟨u, hu, ru⟩ := ra.get ex
    have el : e < s.heap.objs.size := Heap.lt_size s1
    have il : it < s.heap.objs.size := s2.lt
    refine pyNextE s1 s2 pa (x := u) (by simpa using hu) ne fun g eo j1 pr kp => ?_
    refine ⟨_, rfl, wpAny_letOwnedTupleGo_enum (s := { s with heap := g, toks := s.toks + 1 }) eo fun g' e' sb => ?_⟩
    have new : g'.get? s.heap.objs.size = some { cls := .type "tuple", data := .seq #[.int (j0 + (i : Nat)) s.toks, u] } := (sb.2 _ (Nat.ne_of_gt el)).trans pr
    have I2 : Inv X pins σ (upd H s.heap.objs.size (.tup [.int (j0 + (i : Nat)), x])) { s with heap := g', toks := s.toks + 1 } :=
      I.turnedNew (ch := [e, it]) (fun c o nc w => (sb.2 c (fun z => nc (by simp [z]))).trans (kp c o (fun z => nc (by simp [z])) (fun z => nc (by simp [z])) w)) free (Nat.le_refl _)
        ⟨by show 2 ≤ sizeLine; decide, [.int (j0 + (i : Nat)) s.toks, u], .cons ⟨_, rfl⟩ (.cons ru .nil), ⟨_, new, rfl, _, rfl⟩⟩
    refine ⟨.ref s.heap.objs.size, _, I2, rfl, ⟨_, x, rfl, I.hok.fresh (Nat.le_refl _), rfl, fun ys hy => by rw [sqB_inj I hy qa]; exact ex⟩, ⟨⟨u, ?_⟩, j1.at fun o w => (sb.2 it ne.symm).trans w, ne⟩, fun c hc => ?_⟩
    · have e1 : j0 + ((i + 1 : Nat) : Int) = j0 + (i : Nat) + 1 := by omega
      rw [e1]
      exact e'
    · have hc' : c = e ∨ c = it := by simpa using hc
      have small : c < s.heap.objs.size := by rcases hc' with rfl | rfl <;> assumption
      rw [upd_ne (Nat.ne_of_lt small)]
      exact (free c hc).1
  done := by
    intro X eP ew eK calm i pins s σ H E I free st stop
    subst eP ew eK
    obtain ⟨⟨old, s1⟩, s2, ne⟩ := st
    obtain ⟨xs, qa, over⟩ := stop
    obtain ⟨as, ra, pa⟩ := sqB_at I qa
    obtain ⟨f0, f1, f2, f3, f4, f5⟩ := free it (by simp)
    have la := ra.length
    exact pyStopE (I.ok.hd calm) s1 s2 pa (by simp; omega) fun g eb => ⟨rfl, I.turned (t' := s.toks) (fun c o hc q => eb c o hc q) f0 f1 f3 f4 f5⟩
  self := fun A i s Q E st h => let ⟨⟨_, he⟩, _⟩ := st; wpAny_pyIter_enum he h
def iEnumB (K : PySem.W.Frag) (ta : TA) : TI := fun σ H R => ta σ H fun vs H1 => ∃ a p xs, vs = [.ref a] ∧ SqB K p H1 a xs ∧ R (IteB K p 0 a) H1
theorem pi_enumB {X : Cx} {e : Expr} {ta : TA} {p pos tpos : Pos} {elts : List Expr} {kk : Nat} (hg : Gl X "enumerate") (hm : X.mg "enumerate" = none) (ha : PA X [e] ta) (hs : starEach [e] X.env = [(false, eval e X.env)] := by rfl) :
    PI X (.Tuple elts kk tpos) (.Call (.Name "enumerate" p) [e] [] pos) (iEnumB X.K ta) := by
  refine ⟨fun pins s σ H R I h => Call_ (ld_blt I hg hm PyProof.Rows.boot_enumerate (PyProof.Rows.callWith_type1 (thn (ha.run pos pins s σ H _ I h) fun us s1 hh => ?_) hs rfl))⟩
  obtain ⟨vs, H1, I1, r1, a, k1, xs, rfl, qa, rr⟩ := hh
  obtain ⟨u, rfl, ru⟩ := vals1 r1
  cases ru
  obtain ⟨as, ra, pa⟩ := sqB_at I1 qa
  refine enumA_call pa fun g z1 z2 kp => wpAny_pyIter_enum z1 ?_
  have I2 : Inv X pins σ H1 { s1 with heap := g } := I1.kept (t' := s1.toks) kp
  refine ⟨s1.heap.objs.size + 1, [s1.heap.objs.size + 1, s1.heap.objs.size], _, _, H1, rfl, I2, turn_eB a (s1.heap.objs.size + 1) s1.heap.objs.size, ⟨⟨_, by rw [show (0 : Int) + ((0 : Nat) : Int) = 0 from rfl]; exact z1⟩, z2, Nat.succ_ne_self _⟩, fun c hc => ?_, rr⟩
  have hc : c = s1.heap.objs.size + 1 ∨ c = s1.heap.objs.size := by simpa using hc
  have big : s1.heap.objs.size ≤ c := by rcases hc with rfl | rfl <;> omega
  exact I1.fpOk big (I1.hok.fresh big)
theorem walk_eB {K : PySem.W.Frag} {p : Bool} {j0 : Int} {a : Addr} {xs : List V} : Walk (IteB K p j0 a) xs.length (fun H => SqB K p H a xs) (YPair (fun i => some (.int (j0 + (i : Nat)))) (fun i => xs[i]?)) where
  goes := fun i _ hi g => ⟨xs, xs[i], g, List.getElem?_eq_getElem hi⟩
  stops := fun _ g => ⟨xs, g, Nat.le_refl _⟩
  yields := fun i H v H' _ g y => by
    obtain ⟨T, x, e1, e2, e3, f1⟩ := y
    exact ⟨T, _, x, e1, e2, e3, rfl, f1 xs g⟩
end SX

set_option Elab.async false
set_option linter.all false
set_option maxRecDepth 100000
set_option maxHeartbeats 4000000
/-! try: .. with several clauses, each «except X as n» -/
namespace SX
open PySem PySem.Spec PyProof.Rows L2 NdefX
/-- the ends of a suite whose name is gone behind it -/
def endsGone (i : Nat) (D : Ends) : Ends := { nx := fun σ H => D.nx (σ.set i none) H, rt := D.rt, bk := fun σ H => D.bk (σ.set i none) H, ct := fun σ H => D.ct (σ.set i none) H }
abbrev Cl := Value × Nat × (Addr → Value → Option Addr → TS)
def wAll (K : PySem.W.Frag) (Wout : WX) (D : Ends) : List Cl → WX
  | [] => Wout
  | (c, i, ts) :: r => fun cls d σ H => ∃ b, PySem.W.exmOne K cls c = some b ∧ (b = true → ∀ a, H a = none → ts a cls d (endsGone i D) (σ.set i (some (.ref a))) H) ∧ (b = false → wAll K Wout D r cls d σ H)
inductive ClOk (X : Cx) : List ExceptHandler → List Cl → Prop
  | nil : ClOk X [] []
  | cons {x n : Str} {i : Nat} {c : Value} {ts : Addr → Value → Option Addr → TS} {st : Stmt} {sts : List Stmt} {p1 p2 : Pos} {hs : List ExceptHandler} {l : List Cl} (hc : Names X x c) (hi : X.N[i]? = some n) (hn : X.env.kindOf n = some .local)
      (hsu : ∀ (a : Addr) (oe : Obj) (cls : Value) (d : Option Addr) (pn : List (Addr × Obj)), Zc cls d oe → (∃ vs, oe.data = .fields vs) → PSs (X.suite a ((a, oe) :: pn)) (st :: sts) (ts a cls d)) (r : ClOk X hs l) :
      ClOk X (.ExceptHandler (some (.Name x p1)) (some n) (st :: sts) p2 :: hs) ((c, i, ts) :: l)
section
variable {X : Cx} {body : List Stmt} {h0 : ExceptHandler} {hs : List ExceptHandler} {l : List Cl} {pos : Pos} {tb : WX → TS} {Wout : WX}
theorem ps_try_all (est : X.stack = X.env :: X.outer) (efr : X.env.frame = some X.env.locals) (nd : X.N.Nodup) (tk : Takes X Wout)
    (hb : ∀ (W : WX) (pn : List (Addr × Obj)) (xe : Value → Shared → Prop), Takes (X.tr pn xe) W → PassesOwn (model X.prog X.w) X.A X.env xe → PSs (X.tr pn xe) body (tb W))
    (hh : ClOk X (h0 :: hs) l) : PS X (.Try body (h0 :: hs) [] [] pos) (fun D σ H => tb (wAll X.K Wout D l) D σ H) := by
  constructor
  intro pins s σ H D I start
  have okX := I.ok
  have frames : X.A.frames = some (X.env :: X.outer) := okX.frames.trans (by rw [est])
  refine wpAny_Try_except (wpAny_mono ((hb (wAll X.K Wout D l) (X.pn ++ pins)
    (fun e t1 => wpAny (model X.prog X.w) X.A (noteFrame e X.env) (fun _ t2 => wpAny (model X.prog X.w) X.A (setFlight e none) (fun _ t3 => wpAny (model X.prog X.w) X.A (handleBy e X.env (h0 :: hs)) (SP X pins D) X.xe t3) X.xe t2) X.xe t1)
    (fun u t thrown => ?land) PassesOwn.looking).run [] s σ H D (I.toTry _) start) (fun fl t through => ?through) fun _ _ z => z)
  case through =>
    cases fl with
    | next => obtain ⟨σ', H', J, q⟩ := through; exact wpAny_execs_nil ⟨σ', H', J.ofTry okX, q⟩
    | brk => obtain ⟨σ', H', J, q⟩ := through; exact ⟨σ', H', J.ofTry okX, q⟩
    | cont => obtain ⟨σ', H', J, q⟩ := through; exact ⟨σ', H', J.ofTry okX, q⟩
    | ret u => obtain ⟨v, σ', H', J, r, q⟩ := through; exact ⟨v, σ', H', J.ofTry okX, r, q⟩
  case land =>
    obtain ⟨a, B, t0, pins1, σ1, H1, cls, d, rfl, J1, nb, up1, sky, na, eos, ag, wish⟩ := thrown
    have Jt : Inv X pins σ1 H1 t0 := J1.ofTry okX
    refine Sky.land Zc.steady frames efr (by rw [← est]; exact sky) fun hp1 fly1 up2 => ?_
    have Jl : Inv X pins σ1 H1 { t with heap := hp1 } := Jt.landed nb fly1.1 (up1.trans up2) eos ag
    obtain ⟨oe, fv, atE, zc, fdE⟩ := fly1.there
    have notF : a ∉ frs (X.env :: X.outer) := fun mem => by
      obtain ⟨_, o', e', no⟩ := fly1.2.2.1.mem mem
      rw [atE] at e'
      cases e'
      exact no _ fdE
    have aL : a ≠ X.env.locals := fun z => notF (List.mem_filterMap.mpr ⟨X.env, List.mem_cons_self, z ▸ efr⟩)
    have aF : a ∉ X.fs := fun mem => by
      obtain ⟨en, me, q⟩ := List.mem_filterMap.mp mem
      exact notF (List.mem_filterMap.mpr ⟨en, List.mem_cons_of_mem _ me, q⟩)
    have Su := Jl.suite atE fdE na aL aF
    have go : ∀ {hs1 : List ExceptHandler} {l1 : List Cl}, ClOk X hs1 l1 → wAll X.K Wout D l1 cls d σ1 H1 → wpAny (model X.prog X.w) X.A (handleBy (.ref a) X.env hs1) (SP X pins D) X.xe { t with heap := hp1 } := by
      intro hs1 l1 ok1
      induction ok1 with
      | nil =>
        intro out
        obtain ⟨_, _, _, oe', vs', T, _, _, he', _, hd', h1', _⟩ := id fly1
        have leave : wpAny (model X.prog X.w) X.A (setFlight (.ref a) X.env.frame) (fun _ t4 => wpAny (model X.prog X.w) X.A (throw (.ref a) : Sem Flow) (SP X pins D) X.xe t4) X.xe { t with heap := hp1 } := by
          rw [efr]
          refine HandSPX.setFlight_upZ fly1 fun hp2 held up3 => wpAny_throw (tk _ _ ⟨a, B, t0, pins, σ1, H1, cls, d, rfl, Jt, nb, (up1.trans up2).trans up3, ?_, na, eos, ag, out⟩)
          exact .inr (.inr (by rw [est]; exact held))
        refine wpAny_handleBy_nil ?_
        unfold PySem.passOn
        refine wpAny_bind (wpAny_field he' hd' h1' ?_)
        rw [if_neg (show ¬ ((Value.ref T == Value.none) = true) by simp)]
        first | exact wpAny_bind (wpAny_pure (wpAny_bind leave)) | exact wpAny_bind leave
      | @cons x n i c ts st sts p1 p2 hs2 l2 hc hi hn hsu r ih =>
        intro out
        obtain ⟨b, hb1, yes, no⟩ := out
        refine wpAny_handleBy_cons (codeAny_handlers_test ?_) fun q => nomatch q
        have looks := PySem.W.exm_one (M := model X.prog X.w) Jl.kIn (fun A Q E s k q => wpAny_typeOf_ref (k _ _ atE) (by rw [zc.1]; exact q)) hb1
        have name : ∀ {Q : Value → Shared → Prop} {E : Value → Shared → Prop}, Q c { t with heap := hp1 } → wpAny (model X.prog X.w) (X.A.mark (some (.ref a))) (eval (.Name x p1) X.env) Q E { t with heap := hp1 } := fun {Q E} q => by
          rcases hc with ⟨hg, dbg, hm | ⟨hm, hv, nn⟩⟩
          · exact ld_glob (X := X.suite a ((a, oe) :: (X.pn ++ pins))) Su hg hm q dbg
          · exact ld_blt (X := X.suite a ((a, oe) :: (X.pn ++ pins))) Su hg hm hv q nn dbg
        refine name (looks.here ?_)
        cases b with
        | false => exact ih (no rfl)
        | true =>
          refine codeAny_handlers_suite_as (HandSPX.lands_againZ fly1 fun hp2 fly2 up3 => ?_)
          have Jm : Inv X pins σ1 H1 { t with heap := hp2 } := Jt.landed nb fly2.1 ((up1.trans up2).trans up3) eos ag
          obtain ⟨oe2, fv2, atE2, zc2, fdE2⟩ := fly2.there
          refine store_ok (X := X.suite a ((a, oe2) :: (X.pn ++ pins))) (v := .ref a) (Jm.suite atE2 fdE2 na aL aF) nd hi (.inl hn) rfl (fun t5 S5 => ?_) (.inr hn)
          refine wpAny_mono ((hsu a oe2 cls d (X.pn ++ pins) zc2 ⟨_, fdE2⟩).run [] t5 _ H1 _ S5 (yes rfl a na)) (fun fl t6 w6 => ?_) fun _ _ z => z.elim
          have close : ∀ {σ6 : L2.St} {H6 : Hp} {Q : Shared → Prop}, Inv (X.suite a ((a, oe2) :: (X.pn ++ pins))) [] σ6 H6 t6 → (∀ t7, Inv X pins (σ6.set i none) H6 t7 → Q t7) →
              wpAny (model X.prog X.w) X.A (do bindName X.env n .none; unbindBehindTheSuite X.env n p2) (fun _ t7 => Q t7) X.xe t6 := fun S6 k => gone_ok (S6.unsuite okX) nd hi hn k
          cases fl with
          | ret u => obtain ⟨v6, σ6, H6, S6, r6, q6⟩ := w6; exact close S6 fun t7 J7 => ⟨_, _, _, J7, r6, q6⟩
          | next => obtain ⟨σ6, H6, S6, q6⟩ := w6; exact close S6 fun t7 J7 => ⟨_, _, J7, q6⟩
          | brk => obtain ⟨σ6, H6, S6, q6⟩ := w6; exact close S6 fun t7 J7 => ⟨_, _, J7, q6⟩
          | cont => obtain ⟨σ6, H6, S6, q6⟩ := w6; exact close S6 fun t7 J7 => ⟨_, _, J7, q6⟩
    exact go hh wish
end
end SX

set_option Elab.async false
set_option linter.all false
set_option maxRecDepth 100000
set_option maxHeartbeats 4000000
/-! a class's classmethod called within a try's body -/
namespace SX
open PySem PySem.Spec PyProof.Rows L2 NdefX
section
variable {X : Cx} {CX : CXT} {k : Nat} {C p g : Addr} {mc : Value} {m : Str} {sp : Sp} {E : L2.St → XK} {o e : Expr} {es : List Expr} {ta : TE} {t : TA} {apos pos : Pos}
theorem run_at {pins : List (Addr × Obj)} {σ : L2.St} {H : Hp} {s : Shared} {Q : VK} {E : XK} {f : Addr} {us : List Value} {vs : List V} (F : FnR X.prog X.w X.K X.mg X.base CX k f sp) (hr : Room k X.A) (hx : PassesAt CX X σ E) (I : Inv X pins σ H s)
    (r : Vals vs us) (h : sp vs H Q E) : codeAny (model X.prog X.w) X.A (.call (.ref f) ⟨us, []⟩) (fun r s' => match r with | .ok (.ret u) => EP X pins σ Q u s' | .ok _ => False | .error e => X.xe e s') s := by
  refine codeAny_mono (F X.A X.stack s H us vs Q E hr I.env0 r h) fun r s' hq => ?_
  cases r with
  | error e => exact hx pins H s e s' I hq
  | ok fl => cases fl <;> first | exact I.after hq | exact False.elim hq
def tCMethS (C : Addr) (sp : Sp) (E : L2.St → XK) (ta : TE) (t : TA) : TE := fun σ H Q => ta σ H fun x H1 => x = .ref C ∧ t σ H1 fun vs H2 => sp (.ref C :: vs) H2 Q (E σ)
theorem pe_cmethS {pl : Sem Bool} (he : PE X o ta) (r : ClX.CRead X.K C mc) (c : ClX.CMet X.K C mc m p g) (F : FnR X.prog X.w X.K X.mg X.base CX k g sp) (hr : Room k X.A) (hx : ∀ σ, PassesAt CX X σ (E σ)) (ha : PA X (e :: es) t)
    (hst : starEach (e :: es) X.env = (false, eval e X.env) :: starEach es X.env := by rfl) (hpl : (backTo pos (starEach es X.env)).any (·.1) = false := by rfl)
    (ht : eval (.Call (.Attribute o m apos) (e :: es) [] pos) X.env = (do
      let callee ← eval o X.env
      standAt apos.atName
      let (f, first) ← holding [callee] (getMethod callee m pl)
      callWith pos f first (backTo pos (starEach (e :: es) X.env)) (backToKw pos (keywordEach [] X.env))) := by rfl) :
    PE X (.Call (.Attribute o m apos) (e :: es) [] pos) (tCMethS C sp E ta t) := by
  constructor
  intro pins s σ H Q I h
  refine PySem.W.methodCall_KW (pl := pl) (thn (he.run pins s σ H _ I h) fun u s1 ⟨x, H1, I1, rx, ex, q⟩ => ?_) ht
  subst ex
  obtain rfl : u = Value.ref C := rx
  refine ClX.getmethcm_ok I1 r c fun s2 I2 => ClX.callwith_cm I2 (ClX.base_none I1 (Nat.le_refl _)) c.fi (thn (ha.run pos _ s2 σ H1 _ I2 q) fun us s3 ⟨vs, H2, I3, rv, q2⟩ => ⟨⟨ClX.pin_at I3, I3.kIn⟩, ?_⟩) hst hpl
  have z : wpAny (model X.prog X.w) X.A (call (.ref s1.heap.objs.size) us) (EP X ((s1.heap.objs.size, PySem.W.methodObj (.ref g) (.ref C)) :: pins) σ Q) X.xe s3 :=
    wpAny_call (PySem.W.method_call (ClX.pin_at I3) (run_at (us := .ref C :: us) (vs := .ref C :: vs) F hr (hx σ) I3 (.cons rfl rv) q2))
  exact thn z fun _ _ y => ClX.unpinE y
end
end SX

set_option Elab.async false
set_option linter.all false
set_option maxRecDepth 100000
set_option maxHeartbeats 4000000
namespace KL
open PySem PySem.Spec PyProof.Rows L2 NdefX SX
/-! ### the mathematics of the grids module -/
def digVs : List V := ["0", "1", "2", "3", "4", "5", "6", "7", "8", "9"].map fun x => V.str (PySem.Str.ofString x)
def badFrom : List Str → Nat → Option Nat
  | [], _ => none
  | w :: r, i => if inV (.str w) digVs = true then badFrom r (i + 1) else some i
theorem bad_cons (w : Str) (r : List Str) (i : Nat) : badFrom (w :: r) i = if inV (.str w) digVs = true then badFrom r (i + 1) else some i := rfl
def badTop : List Int → Option Int
  | [] => none
  | t :: r => if 0 ≤ t ∧ t ≤ 9 then badTop r else some t
def cnt (ts : List Int) : Int := ts.foldl (fun c t => c * (t + 1)) 1
def chk (ts : List Int) : Option Int := if 1 ≤ ts.length ∧ ts.length ≤ 3 then (match badTop ts with
  | some t => some t
  | none => if 16 < cnt ts then some (cnt ts) else none) else some ts.length
def ext (os : List (List Int)) (t : Int) : List (List Int) := os.flatMap fun o => (List.range (t + 1).toNat).map fun l : Nat => o ++ [(l : Int)]
def below (ts : List Int) : List (List Int) := ts.foldl ext [[]]

/-! ### promises -/
def optV : Option Nat → V
  | none => .non
  | some i => .int i
def spWord : Sp := fun vs H Q _ => ∃ z : Str, vs = [.str z] ∧ z.length ≤ 1000000 ∧ ∀ H', Same H H' → Q (optV (badFrom (Txt.split z (PySem.Str.ofString " ")) 0)) H'
def spCheck (K : PySem.W.Frag) (C : Addr) : Sp := fun vs H Q E => ∃ (a : Addr) (ts : List Int), vs = [.ref a] ∧ SqT K H a (ts.map V.int) ∧ (match chk ts with
  | none => Q .non H
  | some n => Thrown C [("n", .int n)] H E)
theorem drop_cons {α : Type} {xs : List α} {i : Nat} {x : α} (h : xs[i]? = some x) : xs.drop i = x :: xs.drop (i + 1) := by
  obtain ⟨hi, e⟩ := List.getElem?_eq_some_iff.mp h
  rw [List.drop_eq_getElem_cons hi, e]
theorem at_int {xs : List Int} {i : Nat} {v : V} (h : (xs.map V.int)[i]? = some v) : ∃ n, v = .int n ∧ xs[i]? = some n := by
  rw [List.getElem?_map] at h
  cases e : xs[i]? with
  | none => rw [e] at h; cases h
  | some n => rw [e] at h; cases h; exact ⟨n, rfl, rfl⟩
theorem chk_len {ts : List Int} (h : ¬ (1 ≤ ts.length ∧ ts.length ≤ 3)) : chk ts = some (ts.length : Int) := by
  unfold chk
  rw [if_neg h]
theorem chk_top {ts : List Int} {t : Int} (h : 1 ≤ ts.length ∧ ts.length ≤ 3) (hb : badTop ts = some t) : chk ts = some t := by
  unfold chk
  rw [if_pos h, hb]
theorem chk_cnt {ts : List Int} (h : 1 ≤ ts.length ∧ ts.length ≤ 3) (hb : badTop ts = none) : chk ts = if 16 < cnt ts then some (cnt ts) else none := by
  unfold chk
  rw [if_pos h, hb]
theorem top_cons (t : Int) (r : List Int) : badTop (t :: r) = if 0 ≤ t ∧ t ≤ 9 then badTop r else some t := rfl
theorem top_all {ts : List Int} (h : badTop ts = none) : ∀ t ∈ ts, 0 ≤ t ∧ t ≤ 9 := by
  induction ts with
  | nil => exact fun t ht => by cases ht
  | cons x r ih =>
    rw [top_cons] at h
    by_cases hx : 0 ≤ x ∧ x ≤ 9
    · rw [if_pos hx] at h
      intro t ht
      rcases List.mem_cons.mp ht with rfl | ht
      · exact hx
      · exact ih h t ht
    · rw [if_neg hx] at h
      cases h
theorem cnt_take {ts : List Int} {i : Nat} {t : Int} (h : ts[i]? = some t) : cnt (ts.take (i + 1)) = cnt (ts.take i) * (t + 1) := by
  unfold cnt
  rw [List.take_add_one, h, List.foldl_append]
  rfl
/-! ### a comprehension with two fors, by the walks of both -/
def inner2 (D : Addr) (wi1 : TI) (g1 : TG) (tt1 : TT) (te : TE) (vs1 : List Nat) (σ2 : L2.St) (H3 : Hp) (Nx : Hp → Prop) : Prop := wi1 σ2 H3 fun J1 H4 => ∃ W1 : Nat → Nat → Hp → Prop, (∃ m, W1 0 m H4) ∧ ∀ j k H, W1 j k H →
  (J1.stop j H ∧ Nx H) ∨ (J1.go j H ∧ ∃ Nx1 : Hp → Prop, (∀ H', Nx1 H' → ∃ k', k' < k ∧ W1 (j + 1) k' H') ∧ ∀ x H', J1.yld j H x H' → g1 x (wipe σ2 vs1) H' fun σ3 H5 => wipe σ3 vs1 = wipe σ2 vs1 ∧ tt1 σ3 H5 fun b H6 =>
    if b = true then te σ3 H6 fun y H7 => ∃ acc, H7 D = some (.lst acc) ∧ acc.length < sizeLine ∧ Nx1 (upd H7 D (.lst (acc ++ [y]))) else Nx1 H6)
theorem lc2_it {J : It} {n : Nat} {G : Hp → Prop} {Y : Nat → Hp → V → Hp → Prop} (w : Walk J n G Y) {wi1 : TI} {g g1 : TG} {tt tt1 : TT} {te : TE} {vs vs1 : List Nat} {σ : L2.St} {H1 : Hp} {D : Addr} {Qd : Hp → Prop} (Pv : Nat → Hp → Prop)
    (h0 : Pv 0 (upd H1 D (.lst []))) (hG : ∀ i H, i ≤ n → Pv i H → G H)
    (hs : ∀ i x H H', i < n → Pv i H → Y i H x H' → g x (wipe σ vs) H' fun σ2 H2 => wipe σ2 vs = wipe σ vs ∧ tt σ2 H2 fun b H3 => if b = true then inner2 D wi1 g1 tt1 te vs1 σ2 H3 (Pv (i + 1)) else Pv (i + 1) H3) (hd : ∀ H, Pv n H → Qd H) :
    ∃ W : Nat → Nat → Hp → Prop, (∃ m, W 0 m (upd H1 D (.lst []))) ∧ ∀ i m H, W i m H →
      (J.stop i H ∧ Qd H) ∨ (J.go i H ∧ ∃ Nx : Hp → Prop, (∀ H', Nx H' → ∃ m', m' < m ∧ W (i + 1) m' H') ∧ ∀ x H', J.yld i H x H' → g x (wipe σ vs) H' fun σ2 H2 => wipe σ2 vs = wipe σ vs ∧ tt σ2 H2 fun b H3 =>
        if b = true then inner2 D wi1 g1 tt1 te vs1 σ2 H3 Nx else Nx H3) := by
  refine ⟨fun i m H => m = n - i ∧ i ≤ n ∧ Pv i H, ⟨n, by simp, Nat.zero_le _, h0⟩, ?_⟩
  rintro i m H ⟨rfl, hi, p⟩
  by_cases hlt : i < n
  · exact .inr ⟨w.goes i H hlt (hG i H hi p), Pv (i + 1), fun H' p' => ⟨n - (i + 1), by omega, rfl, hlt, p'⟩, fun x H' y => hs i x H H' hlt p (w.yields i H x H' hlt (hG i H hi p) y)⟩
  · obtain rfl : i = n := by omega
    exact .inl ⟨w.stops H (hG i H hi p), hd H p⟩
theorem in2_it {J : It} {n : Nat} {G : Hp → Prop} {Y : Nat → Hp → V → Hp → Prop} (w : Walk J n G Y) {g1 : TG} {tt1 : TT} {te : TE} {vs1 : List Nat} {σ2 : L2.St} {H4 : Hp} {D : Addr} {Nx : Hp → Prop} (Pv : Nat → Hp → Prop)
    (h0 : Pv 0 H4) (hG : ∀ i H, i ≤ n → Pv i H → G H)
    (hs : ∀ i x H H', i < n → Pv i H → Y i H x H' → g1 x (wipe σ2 vs1) H' fun σ3 H5 => wipe σ3 vs1 = wipe σ2 vs1 ∧ tt1 σ3 H5 fun b H6 =>
      if b = true then te σ3 H6 fun y H7 => ∃ acc, H7 D = some (.lst acc) ∧ acc.length < sizeLine ∧ Pv (i + 1) (upd H7 D (.lst (acc ++ [y]))) else Pv (i + 1) H6) (hd : ∀ H, Pv n H → Nx H) :
    ∃ W1 : Nat → Nat → Hp → Prop, (∃ m, W1 0 m H4) ∧ ∀ j k H, W1 j k H →
      (J.stop j H ∧ Nx H) ∨ (J.go j H ∧ ∃ Nx1 : Hp → Prop, (∀ H', Nx1 H' → ∃ k', k' < k ∧ W1 (j + 1) k' H') ∧ ∀ x H', J.yld j H x H' → g1 x (wipe σ2 vs1) H' fun σ3 H5 => wipe σ3 vs1 = wipe σ2 vs1 ∧ tt1 σ3 H5 fun b H6 =>
        if b = true then te σ3 H6 fun y H7 => ∃ acc, H7 D = some (.lst acc) ∧ acc.length < sizeLine ∧ Nx1 (upd H7 D (.lst (acc ++ [y]))) else Nx1 H6) := by
  refine ⟨fun i m H => m = n - i ∧ i ≤ n ∧ Pv i H, ⟨n, by simp, Nat.zero_le _, h0⟩, ?_⟩
  rintro i m H ⟨rfl, hi, p⟩
  by_cases hlt : i < n
  · exact .inr ⟨w.goes i H hlt (hG i H hi p), Pv (i + 1), fun H' p' => ⟨n - (i + 1), by omega, rfl, hlt, p'⟩, fun x H' y => hs i x H H' hlt p (w.yields i H x H' hlt (hG i H hi p) y)⟩
  · obtain rfl : i = n := by omega
    exact .inl ⟨w.stops H (hG i H hi p), hd H p⟩

/-! ### digits -/
def digOf (w : Str) : Int := (PySem.intText? w).getD 0
theorem dig_ok {w : Str} (h : inV (.str w) digVs = true) : PySem.intText? w = some (digOf w) ∧ w.length ≤ 640 ∧ 0 ≤ digOf w ∧ digOf w ≤ 9 := by
  have hw : w = "0" ∨ w = "1" ∨ w = "2" ∨ w = "3" ∨ w = "4" ∨ w = "5" ∨ w = "6" ∨ w = "7" ∨ w = "8" ∨ w = "9" := by
    simp only [inV, digVs, List.map_cons, List.map_nil, List.any_cons, List.any_nil, eqV, Bool.or_false, Bool.or_eq_true, beq_iff_eq] at h
    rcases h with h | h | h | h | h | h | h | h | h | h <;> simp [h.symm]
  rcases hw with rfl | rfl | rfl | rfl | rfl | rfl | rfl | rfl | rfl | rfl <;> exact ⟨by decide +kernel, by decide +kernel, by decide +kernel, by decide +kernel⟩
theorem all_dig {ws : List Str} {i : Nat} (h : badFrom ws i = none) : ∀ w ∈ ws, inV (.str w) digVs = true := by
  induction ws generalizing i with
  | nil => exact fun w hw => by cases hw
  | cons x r ih =>
    rw [bad_cons] at h
    cases hb : inV (.str x) digVs with
    | true =>
      rw [hb, if_pos rfl] at h
      intro w hw
      rcases List.mem_cons.mp hw with rfl | hw
      · exact hb
      · exact ih h w hw
    | false =>
      rw [hb, if_neg Bool.false_ne_true] at h
      cases h
abbrev blank : Str := PySem.Str.ofString " "
def spLevels : Sp := fun vs H Q _ => ∃ z : Str, vs = [.str z] ∧ z.length ≤ 1000000 ∧ (Txt.split z blank).length ≤ 1000000 ∧ badFrom (Txt.split z blank) 0 = none ∧ ∀ p H', Same H H' → H p = none → H' p = some (.lst (((Txt.split z blank).map digOf).map V.int)) → Q (.ref p) H'
abbrev nLevels : List Str := ["text", "word"]
/-- tuples of ints, one at each address -/
inductive Each (K : PySem.W.Frag) (H : Hp) : List Addr → List (List Int) → Prop
  | nil : Each K H [] []
  | cons {r : Addr} {rs : List Addr} {o : List Int} {os : List (List Int)} : SqT K H r (o.map V.int) → Each K H rs os → Each K H (r :: rs) (o :: os)
theorem Each.same {K : PySem.W.Frag} {H H' : Hp} (s : Same H H') : ∀ {rs : List Addr} {os : List (List Int)}, Each K H rs os → Each K H' rs os
  | _, _, .nil => .nil
  | _, _, .cons h t => .cons (Same.sqt s h) (t.same s)
theorem Each.app {K : PySem.W.Frag} {H : Hp} : ∀ {rs rs' : List Addr} {os os' : List (List Int)}, Each K H rs os → Each K H rs' os' → Each K H (rs ++ rs') (os ++ os')
  | _, _, _, _, .nil, e => e
  | _, _, _, _, .cons h t, e => .cons h (t.app e)
theorem Each.get {K : PySem.W.Frag} {H : Hp} : ∀ {rs : List Addr} {os : List (List Int)} {i : Nat} {r : Addr}, Each K H rs os → rs[i]? = some r → ∃ o, os[i]? = some o ∧ SqT K H r (o.map V.int)
  | _, _, 0, _, .cons h t, e => by cases e; exact ⟨_, rfl, h⟩
  | _, _, i + 1, _, .cons h t, e => t.get (i := i) e
theorem Each.len {K : PySem.W.Frag} {H : Hp} : ∀ {rs : List Addr} {os : List (List Int)}, Each K H rs os → rs.length = os.length
  | _, _, .nil => rfl
  | _, _, .cons _ t => by simp [t.len]
theorem Each.upd {K : PySem.W.Frag} {H : Hp} {D : Addr} {xs ys : List V} (hD : H D = some (.lst xs)) : ∀ {rs : List Addr} {os : List (List Int)}, Each K H rs os → Each K (upd H D (.lst ys)) rs os
  | _, _, .nil => .nil
  | _, _, .cons h t => .cons (sqT_ne hD (fun _ z => nomatch z) (fun _ _ z => nomatch z) (fun b o e hb => by rw [upd_ne hb]; exact e) h) (t.upd hD)
def extOne (o : List Int) (n : Nat) : List (List Int) := (List.range n).map fun l : Nat => o ++ [(l : Int)]
theorem ext_take {os : List (List Int)} {t : Int} {i : Nat} {o : List Int} (h : os[i]? = some o) : ext (os.take (i + 1)) t = ext (os.take i) t ++ extOne o (t + 1).toNat := by
  unfold ext extOne
  rw [List.take_add_one, h, List.flatMap_append]
  simp
theorem extOne_succ (o : List Int) (n : Nat) : extOne o (n + 1) = extOne o n ++ [o ++ [(n : Int)]] := by
  unfold extOne
  rw [List.range_succ, List.map_append]
  rfl
/-- how many, where the tops are fit -/
theorem ext_len (os : List (List Int)) (t : Int) : (ext os t).length = os.length * (t + 1).toNat := by
  unfold ext
  induction os with
  | nil => simp
  | cons o r ih =>
    rw [List.flatMap_cons, List.length_append, ih, List.length_map, List.length_range, List.length_cons, Nat.succ_mul, Nat.add_comm]
theorem ext_bound {os : List (List Int)} {t : Int} {i j : Nat} {o : List Int} (h : os[i]? = some o) (hj : j ≤ (t + 1).toNat) : (ext (os.take i) t ++ extOne o j).length ≤ os.length * (t + 1).toNat := by
  have hi : i < os.length := (List.getElem?_eq_some_iff.mp h).1
  rw [List.length_append, ext_len, List.length_take, Nat.min_eq_left (by omega)]
  have : (extOne o j).length = j := by unfold extOne; simp
  rw [this]
  calc i * (t + 1).toNat + j ≤ i * (t + 1).toNat + (t + 1).toNat := by omega
    _ = (i + 1) * (t + 1).toNat := by rw [Nat.succ_mul]
    _ ≤ os.length * (t + 1).toNat := Nat.mul_le_mul_right _ (by omega)
/-- the options of the tops taken so far are few -/
def Few (ts : List Int) : Prop := ts.length ≤ 3 ∧ ∀ t ∈ ts, 0 ≤ t ∧ t ≤ 9
theorem below_take {ts : List Int} {i : Nat} {t : Int} (h : ts[i]? = some t) : below (ts.take (i + 1)) = ext (below (ts.take i)) t := by
  unfold below
  rw [List.take_add_one, h, List.foldl_append]
  rfl
theorem below_len {ts : List Int} (h : ∀ t ∈ ts, 0 ≤ t ∧ t ≤ 9) : ∀ i, (below (ts.take i)).length ≤ 10 ^ i
  | 0 => by simp [below]
  | i + 1 => by
    cases e : ts[i]? with
    | none =>
      have hl : ts.length ≤ i := List.getElem?_eq_none_iff.mp e
      rw [List.take_of_length_le (by omega), ← List.take_of_length_le hl]
      exact Nat.le_trans (below_len h i) (Nat.pow_le_pow_right (by decide) (by omega))
    | some t =>
      have b := below_len h i
      have ht := h t (List.mem_of_getElem? e)
      rw [below_take e, ext_len, Nat.pow_succ]
      exact Nat.mul_le_mul b (by omega)
theorem ext_mem {os : List (List Int)} {t : Int} {o : List Int} (h : o ∈ ext os t) : ∃ o0 ∈ os, ∃ l : Nat, l < (t + 1).toNat ∧ o = o0 ++ [(l : Int)] := by
  unfold ext at h
  obtain ⟨o0, h0, h1⟩ := List.mem_flatMap.mp h
  obtain ⟨l, h2, rfl⟩ := List.mem_map.mp h1
  exact ⟨o0, h0, l, List.mem_range.mp h2, rfl⟩
theorem below_mem {ts : List Int} : ∀ {i : Nat} {o : List Int}, i ≤ ts.length → o ∈ below (ts.take i) → o.length = i
  | 0, o, _, h => by
    have : o ∈ [[]] := h
    simp at this
    rw [this]
    rfl
  | i + 1, o, hi, h => by
    rw [below_take (List.getElem?_eq_getElem (by omega))] at h
    obtain ⟨o0, h0, l, _, rfl⟩ := ext_mem h
    rw [List.length_append, below_mem (by omega) h0]
    rfl
def spBelow (K : PySem.W.Frag) : Sp := fun vs H Q _ => ∃ (a : Addr) (ts : List Int), vs = [.ref a] ∧ SqT K H a (ts.map V.int) ∧ Few ts ∧ ∀ p rs H', Same H H' → SqT K H' p (rs.map V.ref) → Each K H' rs (below ts) → Q (.ref p) H'
/-- a Grid of these tops stands at x -/
def GridAt (K : PySem.W.Frag) (C : Addr) (H : Hp) (x : Addr) (ts : List Int) : Prop := ∃ (dx t p : Addr) (rs : List Addr), H x = some (.ins C dx [("tops", .ref t), ("options", .ref p)]) ∧ SqT K H t (ts.map V.int) ∧ SqT K H p (rs.map V.ref) ∧ Each K H rs (below ts)
theorem Each.carry {K : PySem.W.Frag} {H H' : Hp} (c : ∀ r xs, SqT K H r xs → SqT K H' r xs) : ∀ {rs : List Addr} {os : List (List Int)}, Each K H rs os → Each K H' rs os
  | _, _, .nil => .nil
  | _, _, .cons h t => .cons (c _ _ h) (t.carry c)
theorem GridAt.same {K : PySem.W.Frag} {C x : Addr} {H H' : Hp} {ts : List Int} (s : Same H H') (g : GridAt K C H x ts) : GridAt K C H' x ts := by
  obtain ⟨dx, t, p, rs, h1, h2, h3, h4⟩ := g
  exact ⟨dx, t, p, rs, s _ _ h1, Same.sqt s h2, Same.sqt s h3, h4.same s⟩
theorem chk_few {ts : List Int} (h : chk ts = none) : Few ts := by
  unfold chk at h
  by_cases h1 : 1 ≤ ts.length ∧ ts.length ≤ 3
  · rw [if_pos h1] at h
    cases e : badTop ts with
    | none => exact ⟨h1.2, top_all e⟩
    | some t => rw [e] at h; cases h
  · rw [if_neg h1] at h
    cases h
theorem Thrown.back {C : Addr} {fs : List (Str × V)} {H H1 : Hp} {Q : XK} (s : Same H H1) (t : Thrown C fs H Q) : Thrown C fs H1 Q := fun d H' s' hn hd => t d H' (s.trans s') (s.free hn) hd
structure GTxt (K : PySem.W.Frag) (C : Addr) : Prop where
  cl : Cls K C
  nT : NoAttr K C "tops"
  nO : NoAttr K C "options"
  ha : PySem.W.findIn K (.ref C) "__class__" = some (some (.builtin "object.__class__"))
  hn : PySem.W.specialIn K (.builtin "object.__class__") "__get__" = some (some (.builtin "getset_descriptor.__get__"))
  ht : PySem.W.takesIn K (.builtin "object.__class__") = some true
  hm : PySem.W.mroIn K C (.type "object") = some true
theorem kTO : ¬ (("tops" : Str) = "options") := by decide +kernel
theorem put_two (t p : V) : putF "options" p (putF "tops" t []) = [(("tops" : Str), t), (("options" : Str), p)] := by
  show (if ("tops" : Str) = "options" then [(("tops" : Str), p)] else (("tops" : Str), t) :: putF "options" p []) = _
  rw [if_neg kTO]
  rfl
/-- of __init__'s body: the tops stand in a tuple -/
def spGBody (K : PySem.W.Frag) (C N : Addr) : Sp := fun vs H Q E => ∃ (x t dx : Addr) (ts : List Int), vs = [.ref x, .ref t] ∧ H x = some (.ins C dx []) ∧ SqT K H t (ts.map V.int) ∧ (match chk ts with
  | some n => Thrown N [("n", .int n)] H E
  | none => ∀ H', (∀ b o, H b = some o → b ≠ x → H' b = some o) → GridAt K C H' x ts → Q .non H')
def spGInit (K : PySem.W.Frag) (C N : Addr) : Sp := fun vs H Q E => ∃ ws rest, vs = ws ++ rest ∧ ws.length = (["self"] : List Str).length ∧ rest.length ≤ sizeLine ∧ ∀ p, H p = Option.none → spGBody K C N (ws ++ [V.ref p]) (upd H p (.tup rest)) Q E
/-- what Grid.read makes of a text -/
inductive Rd3 where
  | text (i : Nat)
  | number (n : Int)
  | tops (ts : List Int)
def readG (z : Str) : Rd3 := match badFrom (Txt.split z blank) 0 with
  | some i => .text i
  | none => match chk ((Txt.split z blank).map digOf) with
    | some n => .number n
    | none => .tops ((Txt.split z blank).map digOf)
def spRead (K : PySem.W.Frag) (C N T : Addr) : Sp := fun vs H Q E => ∃ z : Str, vs = [.ref C, .str z] ∧ z.length ≤ 1000000 ∧ (Txt.split z blank).length ≤ 1000000 ∧ (match readG z with
  | .text i => Thrown T [("at", .int i)] H E
  | .number n => Thrown N [("n", .int n)] H E
  | .tops ts => ∀ x H', Same H H' → GridAt K C H' x ts → Q (.ref x) H')
abbrev nRead : List Str := ["cls", "text", "at", "tops"]
/-- the text of some numbers -/
def toS (i : Int) : Str := toString i
def textOf (ts : List Int) : Str := Txt.join blank (ts.map toS)
def spGStr (K : PySem.W.Frag) (C : Addr) : Sp := fun vs H Q _ => ∃ (x : Addr) (ts : List Int), vs = [.ref x] ∧ GridAt K C H x ts ∧ Few ts ∧ ∀ H', Same H H' → Q (.str (textOf ts)) H'
def spGEq (K : PySem.W.Frag) (C : Addr) : Sp := fun vs H Q _ => ∃ (x y : Addr) (ts : List Int), vs = [.ref x, .ref y] ∧ GridAt K C H x ts ∧ ((∃ us, GridAt K C H y us ∧ Q (.bl (decide (ts = us))) H) ∨ (∃ xs, SqT K H y xs ∧ PySem.W.kitOne K (.type "tuple") (.ref C) = some false ∧ Q (.bl false) H))
theorem small_str {t : Int} (h0 : 0 ≤ t) (h9 : t ≤ 9) : t.natAbs.log2 < 1920 ∧ (toS t).length ≤ 2 := by
  have : t = 0 ∨ t = 1 ∨ t = 2 ∨ t = 3 ∨ t = 4 ∨ t = 5 ∨ t = 6 ∨ t = 7 ∨ t = 8 ∨ t = 9 := by omega
  rcases this with rfl | rfl | rfl | rfl | rfl | rfl | rfl | rfl | rfl | rfl <;> exact ⟨by decide +kernel, by decide +kernel⟩
theorem strs_sum {ts : List Int} (h : ∀ t ∈ ts, 0 ≤ t ∧ t ≤ 9) : ((ts.map toS).map (·.length)).sum ≤ 2 * ts.length := by
  induction ts with
  | nil => simp
  | cons x r ih =>
    have h1 := (small_str (h x (List.mem_cons_self)).1 (h x (List.mem_cons_self)).2).2
    have h2 := ih fun t ht => h t (List.mem_cons_of_mem _ ht)
    simp only [List.map_cons, List.sum_cons, List.length_cons]
    omega
/-! x in a tuple of data -/
def rInT (K : PySem.W.Frag) : R2 := fun x y H Q => ∃ d ds, Dp K H x d ∧ Dp K H y (.tuple ds) ∧ SeqAt.shaped d = true ∧ SeqAt.shaped (.tuple ds) = true ∧ Q (.bl (ds.any fun z => PyData.eqv z d)) H
theorem op_inT {X : Cx} (hu : X.A.units + 65 < cLine) : OpR X (compareOp .In) (rInT X.K) := fun pins s σ H x y v u Q I rx ry ⟨d, ds, hd, he, sd, se, q⟩ => by
  obtain ⟨as, r1⟩ := Dp.reads I d x v hd rx
  obtain ⟨bs, r2⟩ := Dp.reads I (.tuple ds) y u he ry
  exact SeqAt.in_tuple_reads r2 r1 (SeqAt.canLay_of_shaped se) (SeqAt.canLay_of_shaped sd) (room_in_shaped sd hu) ⟨.bl _, H, I, rfl, q⟩
theorem room65 {k : Nat} {A : Around} (r : Room k A) : A.units + 65 < cLine := by have := r.un; omega
/-! options as data -/
def dO (o : List Int) : PyData := .tuple (o.map PyData.int)
theorem eqv_ints : ∀ a b : List Int, PyData.eqvAll (a.map PyData.int) (b.map PyData.int) = decide (a = b)
  | [], [] => rfl
  | [], _ :: _ => by simp [PyData.eqvAll]
  | _ :: _, [] => by simp [PyData.eqvAll]
  | x :: a, y :: b => by
    have h := eqv_ints a b
    simp only [List.map_cons, PyData.eqvAll, PyData.eqv, h]
    rw [Bool.eq_iff_iff]
    simp
theorem eqv_dO (a b : List Int) : PyData.eqv (dO a) (dO b) = decide (a = b) := by
  unfold dO
  simp only [PyData.eqv]
  exact eqv_ints a b
theorem any_dO (os : List (List Int)) (o : List Int) : ((os.map dO).any fun z => PyData.eqv z (dO o)) = decide (o ∈ os) := by
  rw [Bool.eq_iff_iff, decide_eq_true_iff, List.any_map, List.any_eq_true]
  constructor
  · rintro ⟨x, hx, h⟩
    have h : PyData.eqv (dO x) (dO o) = true := h
    rw [eqv_dO] at h
    rw [← of_decide_eq_true h]
    exact hx
  · intro h
    refine ⟨o, h, ?_⟩
    show PyData.eqv (dO o) (dO o) = true
    rw [eqv_dO]
    exact decide_eq_true rfl
theorem lay_dO : ∀ os : List (List Int), PyData.canLayAll0 (os.map dO) = true
  | [] => rfl
  | o :: os => by
    show (PyData.canLayAll0 (o.map PyData.int) && PyData.canLayAll0 (os.map dO)) = true
    rw [layInts, lay_dO os]
    rfl
theorem dep_dO : ∀ os : List (List Int), PyData.depthAll (os.map dO) ≤ 1
  | [] => by decide
  | o :: os => by
    have h := dep_dO os
    show max (PyData.depthAll (o.map PyData.int) + 1) (PyData.depthAll (os.map dO)) ≤ 1
    rw [depInts]
    omega
theorem shaped_dO (o : List Int) : SeqAt.shaped (dO o) = true := shapedT o
theorem shaped_dOs (os : List (List Int)) : SeqAt.shaped (.tuple (os.map dO)) = true := by
  unfold SeqAt.shaped
  rw [show PyData.canLay0 (.tuple (os.map dO)) = PyData.canLayAll0 (os.map dO) from rfl, lay_dO, show PyData.depth (.tuple (os.map dO)) = PyData.depthAll (os.map dO) + 1 from rfl]
  have := dep_dO os
  exact decide_eq_true (by omega)
theorem shaped_dOl (os : List (List Int)) : SeqAt.shaped (.list (os.map dO)) = true := by
  unfold SeqAt.shaped
  rw [show PyData.canLay0 (.list (os.map dO)) = PyData.canLayAll0 (os.map dO) from rfl, lay_dO, show PyData.depth (.list (os.map dO)) = PyData.depthAll (os.map dO) + 1 from rfl]
  have := dep_dO os
  exact decide_eq_true (by omega)
theorem Each.dp {K : PySem.W.Frag} {H : Hp} : ∀ {rs : List Addr} {os : List (List Int)}, Each K H rs os → DpAll K H (rs.map V.ref) (os.map dO)
  | _, _, .nil => .nil
  | _, _, .cons h t => .cons (.tup h (dpInts _)) t.dp
def spGLen (K : PySem.W.Frag) (C : Addr) : Sp := fun vs H Q _ => ∃ (x : Addr) (ts : List Int), vs = [.ref x] ∧ GridAt K C H x ts ∧ Q (.int ((below ts).length : Int)) H
def spGHas (K : PySem.W.Frag) (C : Addr) : Sp := fun vs H Q _ => ∃ (x p : Addr) (ts o : List Int), vs = [.ref x, .ref p] ∧ GridAt K C H x ts ∧ SqA K H p (o.map V.int) ∧ ∀ H', Same H H' → Q (.bl (decide (o ∈ below ts))) H'
theorem ne0 {H H' : Hp} {p : Addr} (s : Same H H') (h : H' p = none) : H p = none := by
  cases e : H p with
  | none => rfl
  | some o =>
    rw [s _ _ e] at h
    cases h
/-- C('f' = a tuple of the ints) raised: what is asked behind -/
def ThrownT (K : PySem.W.Frag) (C : Addr) (f : Str) (o : List Int) (H : Hp) (E : XK) : Prop := ∀ d q H', Same H H' → H d = none → H' d = some (.xd [(f, .ref q)]) → SqT K H' q (o.map V.int) → E (.ref C) (some d) H'
theorem ThrownT.back {K : PySem.W.Frag} {C : Addr} {f : Str} {o : List Int} {H H1 : Hp} {E : XK} (s : Same H H1) (h : ThrownT K C f o H E) : ThrownT K C f o H1 E :=
  fun d q H' s' nd ed hq => h d q H' (s.trans s') (ne0 s nd) ed hq
theorem sqT_gone {K : PySem.W.Frag} {H2 : Hp} {a C d q : Addr} {fs gs : List (Str × V)} {xs : List V} {H1 : Hp} (f : Filled H1 H2 a C d fs) (h : SqT K H2 q xs) : SqT K (upd (L2.del H2 a) d (.xd gs)) q xs := by
  have h1 : SqT K (L2.del H2 a) q xs := sqT_ne f.ob (fun _ => exo_tup) (fun _ _ => exo_frz) (fun b o e n => by rw [L2.del_ne n]; exact e) h
  have hd : (L2.del H2 a) d = some (exd d fs) := by rw [L2.del_ne f.ne]; exact f.dc
  exact sqT_ne hd (fun _ z => nomatch z) (fun _ _ z => nomatch z) (fun b o e n => by rw [upd_ne n]; exact e) h1
theorem mkoT {K : PySem.W.Frag} {C p : Addr} {f : Str} {o : List Int} {H1 : Hp} {E : XK} (hp : SqA K H1 p (o.map V.int)) (h : ThrownT K C f o H1 E) : [V.ref p].length ≤ 1000 ∧ ∀ a, H1 a = none → spT1 K C f (.ref a :: ([V.ref p] ++ [])) (upd H1 a (exo a C none))
    (fun w H2 => w = .non ∧ ∃ (d : Addr) (fs : List (Str × V)), H2 a = some (exo a C (some d)) ∧ H2 d = some (exd d fs) ∧ H1 d = none ∧ E (.ref C) (some d) (upd (L2.del H2 a) d (.xd fs))) (fun _ _ _ => False) := by
  refine ⟨by show 1 ≤ 1000; decide, fun a ha => ⟨a, p, _, rfl, upd_same, sqA_same (same_upd ha) hp, fun d q H2 fl hq => ⟨rfl, d, _, fl.ob, fl.dc, (gone_same ha fl).2, ?_⟩⟩⟩
  exact h d q _ (gone_same ha fl).1 (gone_same ha fl).2 upd_same (sqT_gone fl hq)
/-- some lists or tuples of ints -/
inductive Opts (K : PySem.W.Frag) (H : Hp) : List Addr → List (List Int) → Prop
  | nil : Opts K H [] []
  | cons {r : Addr} {rs : List Addr} {o : List Int} {os : List (List Int)} : SqA K H r (o.map V.int) → Opts K H rs os → Opts K H (r :: rs) (o :: os)
theorem Opts.same {K : PySem.W.Frag} {H H' : Hp} (s : Same H H') : ∀ {rs : List Addr} {os : List (List Int)}, Opts K H rs os → Opts K H' rs os
  | _, _, .nil => .nil
  | _, _, .cons h t => .cons (sqA_same s h) (t.same s)
theorem Opts.get {K : PySem.W.Frag} {H : Hp} : ∀ {rs : List Addr} {os : List (List Int)} {i : Nat} {r : Addr}, Opts K H rs os → rs[i]? = some r → ∃ o, os[i]? = some o ∧ SqA K H r (o.map V.int)
  | _, _, 0, _, .cons h _, e => by
    cases e
    exact ⟨_, rfl, h⟩
  | _, _, i + 1, _, .cons _ t, e => t.get (i := i) e
theorem Opts.len {K : PySem.W.Frag} {H : Hp} : ∀ {rs : List Addr} {os : List (List Int)}, Opts K H rs os → rs.length = os.length
  | _, _, .nil => rfl
  | _, _, .cons _ t => by rw [List.length_cons, List.length_cons, t.len]
/-- the first one that is no option of the grid -/
def badOpt (ts : List Int) : List (List Int) → Option (List Int)
  | [] => none
  | o :: os => if o ∈ below ts then badOpt ts os else some o
theorem opt_cons (ts : List Int) (o : List Int) (os : List (List Int)) : badOpt ts (o :: os) = if o ∈ below ts then badOpt ts os else some o := rfl
def spGCheck (K : PySem.W.Frag) (C O : Addr) : Sp := fun vs H Q E => ∃ (x l : Addr) (ts : List Int) (ps : List Addr) (os : List (List Int)), vs = [.ref x, .ref l] ∧ GridAt K C H x ts ∧ SqL K H l (ps.map V.ref) ∧ Opts K H ps os ∧
  (match badOpt ts os with
  | some o => ThrownT K O "option" o H E
  | none => ∀ H', Same H H' → Q .non H')
abbrev nCk : List Str := ["self", "options", "option"]
theorem tyX_T {K : PySem.W.Frag} {H : Hp} {y : Addr} {xs : List V} (h : SqT K H y xs) : TyX K H (.ref y) (.type "tuple") := by
  rcases h with (h | ⟨o, h⟩) | ⟨o, its, n, hk, hc, _⟩
  · exact .base (.tup h)
  · exact .fTuple h
  · exact .kTuple hk hc
/-! ### options of a grid -/
def mn (m n : Int) : Int := if n < m then n else m
def mx (m n : Int) : Int := if n > m then n else m
def lowO (a b : List Int) : List Int := List.zipWith mn a b
def highO (a b : List Int) : List Int := List.zipWith mx a b
def leO (a b : List Int) : Bool := (List.zipWith (fun m n => decide (m ≤ n)) a b).all id
/-- one level more at a knob, if there is one -/
def upO (ts o : List Int) (k : Nat) : Option (List Int) := if o[k]? = ts[k]? then none else some (o.set k ((o[k]?).getD 0 + 1))
def spPairO (K : PySem.W.Frag) (C O : Addr) (R : Hp → VK → List Int → List Int → Prop) : Sp := fun vs H Q E => ∃ (x a b : Addr) (ts o1 o2 : List Int), vs = [.ref x, .ref a, .ref b] ∧ GridAt K C H x ts ∧ Few ts ∧ SqA K H a (o1.map V.int) ∧ SqA K H b (o2.map V.int) ∧
  (match badOpt ts [o1, o2] with
  | some o => ThrownT K O "option" o H E
  | none => ∀ H', Same H H' → R H' Q o1 o2)
def rOpt (K : PySem.W.Frag) (f : List Int → List Int → List Int) : Hp → VK → List Int → List Int → Prop := fun H Q o1 o2 => ∀ p H', Same H H' → SqT K H' p ((f o1 o2).map V.int) → Q (.ref p) H'
def spLesser (K : PySem.W.Frag) (C O : Addr) : Sp := spPairO K C O (rOpt K lowO)
def spGreater (K : PySem.W.Frag) (C O : Addr) : Sp := spPairO K C O (rOpt K highO)
def spIsBelow (K : PySem.W.Frag) (C O : Addr) : Sp := spPairO K C O (fun H Q o1 o2 => Q (.bl (leO o1 o2)) H)
theorem bad_none {ts : List Int} {os : List (List Int)} (h : badOpt ts os = none) : ∀ o ∈ os, o ∈ below ts := by
  induction os with
  | nil => exact fun o ho => by cases ho
  | cons x r ih =>
    rw [opt_cons] at h
    by_cases hx : x ∈ below ts
    · rw [if_pos hx] at h
      intro o ho
      rcases List.mem_cons.mp ho with rfl | ho
      · exact hx
      · exact ih h o ho
    · rw [if_neg hx] at h
      cases h
theorem opt_len {ts o : List Int} (h : o ∈ below ts) : o.length = ts.length := by
  have z := below_mem (ts := ts) (i := ts.length) (o := o) (Nat.le_refl _) (by rw [List.take_length]; exact h)
  exact z
/-- both options of a pair are tuples or lists that stand -/
theorem opts2 {K : PySem.W.Frag} {H : Hp} {a b : Addr} {o1 o2 : List Int} (h1 : SqA K H a (o1.map V.int)) (h2 : SqA K H b (o2.map V.int)) : Opts K H [a, b] [o1, o2] := .cons h1 (.cons h2 .nil)
/-- [elt for i, j in zip(a, b)] over two rows of ints; elt makes g of both -/
theorem lc_pairs {K : PySem.W.Frag} {p q : Bool} {a b : Addr} {o1 o2 : List Int} {g : Int → Int → V} {te : TE} {i j : Nat} {vs : List Nat} {σ : L2.St} {H H1 : Hp} {D : Addr} {Qd : Hp → Prop} (s1 : Same H H1) (hD : H1 D = none) (hl : o1.length = o2.length) (hz : o1.length ≤ 1000)
    (h1 : SqB K p H1 a (o1.map V.int)) (h2 : SqB K q H1 b (o2.map V.int)) (hw : ∀ m n : Int, wipe (((wipe σ vs).set i (some (.int m))).set j (some (.int n))) vs = wipe σ vs)
    (he : ∀ (m n : Int) (H' : Hp) (Q : VK), Q (g m n) H' → te (((wipe σ vs).set i (some (.int m))).set j (some (.int n))) H' Q) (done : ∀ H', Same H H' → H' D = some (.lst (List.zipWith g o1 o2)) → Qd H') :
    ∃ W : Nat → Nat → Hp → Prop, (∃ m, W 0 m (upd H1 D (.lst []))) ∧ ∀ k m H, W k m H →
      ((ItzB K p q a b).stop k H ∧ Qd H) ∨ ((ItzB K p q a b).go k H ∧ ∃ Nx : Hp → Prop, (∀ H', Nx H' → ∃ m', m' < m ∧ W (k + 1) m' H') ∧ ∀ x H', (ItzB K p q a b).yld k H x H' → gTup K 2 (gCons (gName i) (gCons (gName j) gNil)) x (wipe σ vs) H' fun σ2 H2 => wipe σ2 vs = wipe σ vs ∧ tYes σ2 H2 fun b H3 =>
        if b = true then te σ2 H3 fun y H4 => ∃ acc, H4 D = some (.lst acc) ∧ acc.length < sizeLine ∧ Nx (upd H4 D (.lst (acc ++ [y]))) else Nx H3) := by
  have lz : (List.zipWith g o1 o2).length = o1.length := by rw [List.length_zipWith, ← hl, Nat.min_self]
  refine lc_it (walk_zB (K := K) (p := p) (q := q) (a := a) (b := b) (xs := o1.map V.int) (ys := o2.map V.int) (n := o1.length) (by simp [hl])) (fun k H' => Same H1 H' ∧ H' D = some (.lst ((List.zipWith g o1 o2).take k))) ⟨same_upd hD, upd_same⟩
    (fun k H' _ ⟨s, _⟩ => ⟨h1.same s, h2.same s⟩) ?_ ?_
  · rintro k x H2 H3 hk ⟨s2, gD⟩ ⟨T, y1, y2, rfl, nT, rfl, e1, e2⟩
    obtain ⟨m, rfl, em⟩ := at_int e1
    obtain ⟨n, rfl, en⟩ := at_int e2
    have nDT : D ≠ T := ne_of_none gD nT
    refine ⟨T, _, rfl, .inl (.inl upd_same), rfl, _, _, rfl, _, _, rfl, rfl, hw m n, ?_⟩
    refine he m n _ _ ⟨_, (same_upd nT) _ _ gD, ?_, fun c o e => ?_, ?_⟩
    · rw [List.length_take, lz, sizeLine_eq]
      omega
    · rw [upd_ne (ne_of_none e hD)]
      exact (same_upd nT) _ _ (s2 _ _ e)
    · have ez : (List.zipWith g o1 o2)[k]? = some (g m n) := by rw [List.getElem?_zipWith, em, en]
      rw [upd_same, List.take_add_one, ez]
      rfl
  · rintro H2 ⟨s2, gD⟩
    rw [List.take_of_length_le (by rw [lz]; exact Nat.le_refl _)] at gD
    exact done H2 (s1.trans s2) gD
theorem zip_ints (f : Int → Int → Int) : ∀ a b : List Int, List.zipWith (fun m n => V.int (f m n)) a b = (List.zipWith f a b).map V.int
  | [], _ => rfl
  | _ :: _, [] => rfl
  | x :: a, y :: b => congrArg (V.int (f x y) :: ·) (zip_ints f a b)
theorem zip_bools (f : Int → Int → Bool) : ∀ a b : List Int, List.zipWith (fun m n => V.bl (f m n)) a b = (List.zipWith f a b).map V.bl
  | [], _ => rfl
  | _ :: _, [] => rfl
  | x :: a, y :: b => congrArg (V.bl (f x y) :: ·) (zip_bools f a b)
def spUp (K : PySem.W.Frag) (C O N : Addr) : Sp := fun vs H Q E => ∃ (x a : Addr) (ts o : List Int) (k : Int), vs = [.ref x, .ref a, .int k] ∧ GridAt K C H x ts ∧ Few ts ∧ SqA K H a (o.map V.int) ∧
  (match badOpt ts [o] with
  | some o => ThrownT K O "option" o H E
  | none => if 0 ≤ k ∧ k < ts.length then (match upO ts o k.toNat with
    | none => ∀ H', Same H H' → Q .non H'
    | some u => ∀ p H', Same H H' → SqT K H' p (u.map V.int) → Q (.ref p) H') else Thrown N [("n", .int k)] H E)
theorem set_at (o : List Int) (k i : Nat) (v : Int) : (o.set k v)[i]? = if i = k then (if i < o.length then some v else none) else o[i]? := by
  rw [List.getElem?_set]
  by_cases h : k = i
  · subst h
    simp
  · rw [if_neg h, if_neg (fun z => h z.symm)]
theorem rIx_any {K : PySem.W.Frag} {H : Hp} {p : Addr} {xs : List V} {i : Int} {v : V} {Q : VK} (h : SqA K H p xs) (e : atI xs i = some v) (q : Q v H) : rIx K (.ref p) (.int i) H Q :=
  h.elim (fun h => .inl ⟨p, xs, i, v, rfl, rfl, h, e, q⟩) (fun h => .inr (.inl ⟨p, xs, i, v, rfl, rfl, h, e, q⟩))
/-! ### sorting rows of ints -/
def leC (a b : List Int) : Bool := decide (TS.code 64 a ≤ TS.code 64 b)
def sortT (us : List (List Int)) : List (List Int) := us.mergeSort leC
theorem sort_pw (us : List (List Int)) : (sortT us).Pairwise (fun a b => TS.code 64 a ≤ TS.code 64 b) := by
  refine (List.pairwise_mergeSort (le := leC) (fun a b c h1 h2 => ?_) (fun a b => ?_) us).imp (fun h => of_decide_eq_true h)
  · exact decide_eq_true (Int.le_trans (of_decide_eq_true h1) (of_decide_eq_true h2))
  · unfold leC
    rw [Bool.or_eq_true, decide_eq_true_iff, decide_eq_true_iff]
    omega
theorem code_inj : ∀ {a b : List Int}, a.length = b.length → TS.Bd 64 a → TS.Bd 64 b → TS.code 64 a = TS.code 64 b → a = b
  | [], [], _, _, _, _ => rfl
  | x :: a, y :: b, hl, ha, hb, e => by
    have hl' : a.length = b.length := Nat.succ.inj hl
    rcases Int.lt_trichotomy x y with h | h | h
    · have := TS.code_lt hl' ha.tail hb.tail h
      omega
    · subst h
      have e2 : TS.code 64 a = TS.code 64 b := by
        have e : x * 64 ^ a.length + TS.code 64 a = x * 64 ^ b.length + TS.code 64 b := e
        rw [hl'] at e
        omega
      rw [code_inj hl' ha.tail hb.tail e2]
    · have := TS.code_lt hl'.symm hb.tail ha.tail h
      omega
/-- rows of one length, small -/
def Rows (d : Nat) (us : List (List Int)) : Prop := ∀ u ∈ us, u.length = d ∧ TS.Bd 64 u
theorem sort_uniq {d : Nat} {us vs : List (List Int)} (h : Rows d us) (p : vs.Perm us) (s : vs.Pairwise (fun a b => TS.code 64 a ≤ TS.code 64 b)) : vs = sortT us := by
  have p2 : vs.Perm (sortT us) := p.trans (List.mergeSort_perm us leC).symm
  refine List.Perm.eq_of_pairwise (fun a b ha hb h1 h2 => ?_) s (sort_pw us) p2
  have ha' := h a (p.mem_iff.mp ha)
  have hb' := h b ((List.mergeSort_perm us leC).mem_iff.mp hb)
  exact code_inj (ha'.1.trans hb'.1.symm) ha'.2 hb'.2 (Int.le_antisymm h1 h2)
theorem sort_perm (us : List (List Int)) : (sortT us).Perm us := List.mergeSort_perm us leC
/-- tuples of these rows in another order -/
theorem Each.perm {K : PySem.W.Frag} {H : Hp} {ys : List V} : ∀ {xs : List V}, ys.Perm xs → ∀ {rs : List Addr} {us : List (List Int)}, xs = rs.map V.ref → Each K H rs us → ∃ rs' us', ys = rs'.map V.ref ∧ Each K H rs' us' ∧ us'.Perm us := by
  intro xs p
  induction p with
  | nil =>
    intro rs us e h
    cases h with
    | nil => exact ⟨[], [], rfl, .nil, .nil⟩
    | cons h t => cases e
  | cons x p ih =>
    intro rs us e h
    cases h with
    | nil => cases e
    | cons h t =>
      rw [List.map_cons] at e
      injection e with e1 e2
      obtain ⟨rs', us', rfl, h', p'⟩ := ih e2 t
      exact ⟨_ :: rs', _ :: us', by rw [e1]; rfl, .cons h h', p'.cons _⟩
  | swap x y l =>
    intro rs us e h
    cases h with
    | nil => cases e
    | cons h t =>
      cases t with
      | nil => injection e with e1 e2; cases e2
      | cons h2 t =>
        rw [List.map_cons, List.map_cons] at e
        injection e with e1 e2
        injection e2 with e2 e3
        exact ⟨_ :: _ :: _, _ :: _ :: _, by rw [e1, e2, e3]; rfl, .cons h2 (.cons h t), .swap _ _ _⟩
  | trans p1 p2 ih1 ih2 =>
    intro rs us e h
    obtain ⟨rs', us', rfl, h', p'⟩ := ih2 e h
    obtain ⟨rs2, us2, rfl, h2, q2⟩ := ih1 rfl h'
    exact ⟨rs2, us2, rfl, h2, q2.trans p'⟩
/-- sorted of a list of such tuples -/
def rSortE (K : PySem.W.Frag) : List V → Hp → VK → Prop := fun vs H Q => ∃ (a : Addr) (rs : List Addr) (us : List (List Int)) (d : Nat), vs = [.ref a] ∧ SqL K H a (rs.map V.ref) ∧ Each K H rs us ∧ us.length < 64 ∧ 1 ≤ d ∧ Rows d us ∧
  ∀ p rs' H2, Same H H2 → H p = none → H2 p = some (.lst (rs'.map V.ref)) → Each K H2 rs' (sortT us) → Q (.ref p) H2
theorem call_sortE {X : Cx} : CallR X (.builtin "sorted") (rSortE X.K) := by
  intro pins s σ H vs us0 Q I r ⟨a, rs, us, d, e, hl, hE, h64, h1, hR, q⟩
  refine cr_sortT (d := d) (B := 64) h1 pins s σ H vs us0 Q I r ⟨a, rs.map V.ref, e, hl, by rw [List.length_map, hE.len]; exact h64, fun x hx => ?_, fun ys p pm pw hp => ?_⟩
  · obtain ⟨t, ht, rfl⟩ := List.mem_map.mp hx
    obtain ⟨i, hi⟩ := List.mem_iff_getElem?.mp ht
    obtain ⟨o, ho, hto⟩ := hE.get hi
    have z := hR o (List.mem_of_getElem? ho)
    exact ⟨o, ⟨t, rfl, hto⟩, z.1, z.2⟩
  · obtain ⟨rs', us', rfl, hE', p'⟩ := hE.perm pm rfl
    have sp : us'.Pairwise (fun a b => TS.code 64 a ≤ TS.code 64 b) := by
      have go : ∀ {rs' : List Addr} {us' : List (List Int)}, Each X.K H rs' us' → (rs'.map V.ref).Pairwise (fun x y => ∀ n m, TupI X.K H x n → TupI X.K H y m → TS.code 64 n ≤ TS.code 64 m) → us'.Pairwise (fun a b => TS.code 64 a ≤ TS.code 64 b) := by
        intro rs' us' h
        induction h with
        | nil => exact fun _ => .nil
        | cons h t ih =>
          intro w
          rw [List.map_cons, List.pairwise_cons] at w
          refine List.pairwise_cons.mpr ⟨fun b hb => ?_, ih w.2⟩
          obtain ⟨i, hi⟩ := List.mem_iff_getElem?.mp hb
          have lt := (List.getElem?_eq_some_iff.mp hi).1
          rw [← t.len] at lt
          obtain ⟨o, ho, hto⟩ := t.get (List.getElem?_eq_getElem lt)
          rw [hi] at ho
          cases ho
          exact w.1 _ (List.mem_map.mpr ⟨_, List.getElem_mem lt, rfl⟩) _ _ ⟨_, rfl, h⟩ ⟨_, rfl, hto⟩
      exact go hE' pw
    obtain rfl := sort_uniq hR p' sp
    exact q p rs' _ (same_upd hp) hp upd_same (hE'.same (same_upd hp))
/-! ### the steps from an option -/
def upsO (ts o : List Int) : List (List Int) := (List.range ts.length).filterMap (upO ts o)
def stepsO (ts o : List Int) : List (List Int) := sortT (upsO ts o)
def spSteps (K : PySem.W.Frag) (C O : Addr) : Sp := fun vs H Q E => ∃ (x a : Addr) (ts o : List Int), vs = [.ref x, .ref a] ∧ GridAt K C H x ts ∧ Few ts ∧ ts ≠ [] ∧ SqA K H a (o.map V.int) ∧
  (match badOpt ts [o] with
  | some o => ThrownT K O "option" o H E
  | none => ∀ p rs H', Same H H' → H' p = some (.lst (rs.map V.ref)) → Each K H' rs (stepsO ts o) → Q (.ref p) H')
theorem below_small {ts : List Int} (h : ∀ t ∈ ts, 0 ≤ t ∧ t ≤ 9) : ∀ {i : Nat} {o : List Int}, o ∈ below (ts.take i) → ∀ m ∈ o, 0 ≤ m ∧ m ≤ 9
  | 0, o, ho => by
    have : o ∈ [[]] := ho
    simp at this
    rw [this]
    exact fun m hm => by cases hm
  | i + 1, o, ho => by
    cases e : ts[i]? with
    | none =>
      have hl : ts.length ≤ i := List.getElem?_eq_none_iff.mp e
      rw [List.take_of_length_le (by omega), ← List.take_of_length_le hl] at ho
      exact below_small h ho
    | some t =>
      have ht := h t (List.mem_of_getElem? e)
      rw [below_take e] at ho
      obtain ⟨o0, h0, l, hl, rfl⟩ := ext_mem ho
      intro m hm
      rcases List.mem_append.mp hm with hm | hm
      · exact below_small h h0 m hm
      · have : m = (l : Int) := by simpa using hm
        omega
theorem opt_small {ts o : List Int} (h : ∀ t ∈ ts, 0 ≤ t ∧ t ≤ 9) (ho : o ∈ below ts) : ∀ m ∈ o, 0 ≤ m ∧ m ≤ 9 := below_small h (i := ts.length) (by rw [List.take_length]; exact ho)
theorem up_some {ts o u : List Int} {k : Nat} (h : upO ts o k = some u) : u = o.set k ((o[k]?).getD 0 + 1) := by
  unfold upO at h
  split at h
  · cases h
  · exact (Option.some.inj h).symm
theorem ups_rows {ts o : List Int} (hF : Few ts) (ho : o ∈ below ts) : Rows ts.length (upsO ts o) := by
  intro u hu
  obtain ⟨k, hk, e⟩ := List.mem_filterMap.mp hu
  rw [up_some e]
  refine ⟨by rw [List.length_set]; exact opt_len ho, fun m hm => ?_⟩
  have sm := opt_small hF.2 ho
  rcases List.mem_or_eq_of_mem_set hm with h | h
  · have := sm m h
    omega
  · have b : 0 ≤ (o[k]?).getD 0 ∧ (o[k]?).getD 0 ≤ 9 := by
      cases e : o[k]? with
      | none => simp
      | some v => exact sm v (List.mem_of_getElem? e)
    omega
/-- tuples of ints, or None -/
inductive OptEach (K : PySem.W.Frag) (H : Hp) : List V → List (Option (List Int)) → Prop
  | nil : OptEach K H [] []
  | non {vs : List V} {os : List (Option (List Int))} : OptEach K H vs os → OptEach K H (.non :: vs) (none :: os)
  | one {vs : List V} {os : List (Option (List Int))} {r : Addr} {u : List Int} : SqT K H r (u.map V.int) → OptEach K H vs os → OptEach K H (.ref r :: vs) (some u :: os)
theorem OptEach.same {K : PySem.W.Frag} {H H' : Hp} (s : Same H H') : ∀ {vs : List V} {os : List (Option (List Int))}, OptEach K H vs os → OptEach K H' vs os
  | _, _, .nil => .nil
  | _, _, .non t => .non (t.same s)
  | _, _, .one h t => .one (Same.sqt s h) (t.same s)
theorem OptEach.app {K : PySem.W.Frag} {H : Hp} : ∀ {vs vs' : List V} {os os' : List (Option (List Int))}, OptEach K H vs os → OptEach K H vs' os' → OptEach K H (vs ++ vs') (os ++ os')
  | _, _, _, _, .nil, e => e
  | _, _, _, _, .non t, e => .non (t.app e)
  | _, _, _, _, .one h t, e => .one h (t.app e)
theorem OptEach.len {K : PySem.W.Frag} {H : Hp} : ∀ {vs : List V} {os : List (Option (List Int))}, OptEach K H vs os → vs.length = os.length
  | _, _, .nil => rfl
  | _, _, .non t => by simp [t.len]
  | _, _, .one h t => by simp [t.len]
theorem OptEach.get {K : PySem.W.Frag} {H : Hp} : ∀ {vs : List V} {os : List (Option (List Int))} {i : Nat} {v : V}, OptEach K H vs os → vs[i]? = some v → (v = .non ∧ os[i]? = some none) ∨ ∃ r u, v = .ref r ∧ os[i]? = some (some u) ∧ SqT K H r (u.map V.int)
  | _, _, 0, _, .non t, e => by cases e; exact .inl ⟨rfl, rfl⟩
  | _, _, 0, _, .one h t, e => by cases e; exact .inr ⟨_, _, rfl, rfl, h⟩
  | _, _, i + 1, _, .non t, e => t.get (i := i) e
  | _, _, i + 1, _, .one h t, e => t.get (i := i) e
theorem OptEach.upd {K : PySem.W.Frag} {H : Hp} {D : Addr} {xs ys : List V} (hD : H D = some (.lst xs)) : ∀ {vs : List V} {os : List (Option (List Int))}, OptEach K H vs os → OptEach K (upd H D (.lst ys)) vs os
  | _, _, .nil => .nil
  | _, _, .non t => .non (t.upd hD)
  | _, _, .one h t => .one (sqT_ne hD (fun _ z => nomatch z) (fun _ _ z => nomatch z) (fun b o e hb => by rw [upd_ne hb]; exact e) h) (t.upd hD)
end KL

set_option Elab.async false
set_option linter.all false
set_option maxRecDepth 100000
set_option maxHeartbeats 4000000
namespace KL
open PySem PySem.Spec PyProof.Rows L2 NdefX SX
def top (i : Nat) : Stmt := PySem.Challenge.pw_risingknobs_k13_regions.main.body.getD i (.Pass ⟨0, 0, 0, 0⟩)
section
variable {CX : CXT} {P : Program} {w : World} {K : PySem.W.Frag} {mg : Str → Option Value} {base : Heap} {fI C cc c : Addr} {fd : FuncData}
abbrev iNum : Stmt := inClass (top 3) 0
theorem ok_num (T : ErrTxt P K mg C cc c) (nF : PySem.W.findIn K (.ref C) "n" = some none) (F : InitAt K "BadNumber.__init__" iNum fI cc c fd) : FnOk P w K mg base CX 1 fI fd ["self", "n"] (spI1 C "n") := by
  obtain ⟨oc, od, kV, doc, pm, an, ct, osl, rfl, lk, hcd⟩ := F
  refine init_of (N := ["self", "n", "__class__"]) T lk hcd (nscope_by (by decide +kernel)) rfl ⟨_, rfl, rfl⟩ (by decide +kernel) (fun _ => rfl) (fun vs H Q E h => ?_) (fun A outer s H vs Q E hr h => ?_)
  · obtain ⟨a, v, rfl, _⟩ := h
    rfl
  · obtain ⟨a, v, rfl, ha, k⟩ := h
    refine ⟨a, _, rfl, ha, pss_one (ps_ost (pv 0) (pv 1)), ?_⟩
    exact ⟨v, rfl, .ref a, rfl, a, C, rfl, T.ox, nF, .inl ⟨ha, fun d hd hne => k d _ (fill1 hd hne)⟩⟩
abbrev iTxt : Stmt := inClass (top 4) 0
theorem ok_txt (T : ErrTxt P K mg C cc c) (nF : PySem.W.findIn K (.ref C) "at" = some none) (F : InitAt K "BadText.__init__" iTxt fI cc c fd) : FnOk P w K mg base CX 1 fI fd ["self", "at"] (spI1 C "at") := by
  obtain ⟨oc, od, kV, doc, pm, an, ct, osl, rfl, lk, hcd⟩ := F
  refine init_of (N := ["self", "at", "__class__"]) T lk hcd (nscope_by (by decide +kernel)) rfl ⟨_, rfl, rfl⟩ (by decide +kernel) (fun _ => rfl) (fun vs H Q E h => ?_) (fun A outer s H vs Q E hr h => ?_)
  · obtain ⟨a, v, rfl, _⟩ := h
    rfl
  · obtain ⟨a, v, rfl, ha, k⟩ := h
    refine ⟨a, _, rfl, ha, pss_one (ps_ost (pv 0) (pv 1)), ?_⟩
    exact ⟨v, rfl, .ref a, rfl, a, C, rfl, T.ox, nF, .inl ⟨ha, fun d hd hne => k d _ (fill1 hd hne)⟩⟩
abbrev iOpt : Stmt := inClass (top 5) 0
theorem ok_opt (T : ErrTxt P K mg C cc c) (mt : mg "tuple" = none) (nF : PySem.W.findIn K (.ref C) "option" = some none) (F : InitAt K "BadOption.__init__" iOpt fI cc c fd) : FnOk P w K mg base CX 1 fI fd ["self", "option"] (spT1 K C "option") := by
  obtain ⟨oc, od, kV, doc, pm, an, ct, osl, rfl, lk, hcd⟩ := F
  refine init_of (N := ["self", "option", "__class__"]) T lk hcd (nscope_by (by decide +kernel)) rfl ⟨_, rfl, rfl⟩ (by decide +kernel) (fun _ => rfl) (fun vs H Q E h => ?_) (fun A outer s H vs Q E hr h => ?_)
  · obtain ⟨a, p, xs, rfl, _⟩ := h
    rfl
  · obtain ⟨a, p, xs, rfl, ha, hp, k⟩ := h
    refine ⟨a, _, rfl, ha, pss_one (ps_ost (pv 0) (pe_callTy call_tup (by rfl) mt (by decide +kernel) (pa_cons (pv 1) pa_nil))), ?_⟩
    refine ⟨.ref p, rfl, p, xs, rfl, hp, fun q H1 s1 hq => ?_⟩
    have ha1 := s1 _ _ ha
    refine ⟨.ref a, rfl, a, C, rfl, T.ox, nF, .inl ⟨ha1, fun d hd hne => ?_⟩⟩
    have f1 := fill1 (C := C) (fs := [("option", .ref q)]) hd hne
    exact k d q _ (f1.pre' s1) (f1.sqT ha1 hq)
abbrev iReg : Stmt := inClass (top 6) 0
theorem ok_reg (T : ErrTxt P K mg C cc c) (mt : mg "tuple" = none) (n1 : PySem.W.findIn K (.ref C) "first" = some none) (n2 : PySem.W.findIn K (.ref C) "second" = some none) (F : InitAt K "BadRegion.__init__" iReg fI cc c fd) :
    FnOk P w K mg base CX 1 fI fd ["self", "first", "second"] (spT2 K C "first" "second") := by
  obtain ⟨oc, od, kV, doc, pm, an, ct, osl, rfl, lk, hcd⟩ := F
  refine init_of (N := ["self", "first", "second", "__class__"]) T lk hcd (nscope_by (by decide +kernel)) rfl ⟨_, rfl, rfl⟩ (by decide +kernel) (fun _ => rfl) (fun vs H Q E h => ?_) (fun A outer s H vs Q E hr h => ?_)
  · obtain ⟨a, p, p2, xs, ys, rfl, _⟩ := h
    rfl
  · obtain ⟨a, p, p2, xs, ys, rfl, ha, hp, hp2, k⟩ := h
    refine ⟨a, _, rfl, ha, pss_cons (ps_ost (pv 0) (pe_callTy call_tup (by rfl) mt (by decide +kernel) (pa_cons (pv 1) pa_nil))) (pss_one (ps_ost (pv 0) (pe_callTy call_tup (by rfl) mt (by decide +kernel) (pa_cons (pv 2) pa_nil)))), ?_⟩
    refine ⟨.ref p, rfl, p, xs, rfl, hp, fun q H1 s1 hq => ?_⟩
    have ha1 := s1 _ _ ha
    refine ⟨.ref a, rfl, a, C, rfl, T.ox, n1, .inl ⟨ha1, fun d hd hne => ?_⟩⟩
    have f1 := fill1 (C := C) (fs := [("first", .ref q)]) hd hne
    refine ⟨.ref p2, rfl, p2, ys, rfl, f1.sqA ha1 (sqA_same s1 hp2), fun q2 H2 s2 hq2 => ?_⟩
    have f2 := f1.after s2
    exact ⟨.ref a, rfl, a, C, rfl, T.ox, n2, .inr ⟨d, _, f2.ob, f2.dc, (by show 1 ≤ 900; decide), k d q q2 _ ((f2.more hne).pre' s1) ((f2.more hne).sqT ha1 hq) (f2.sqU hne hq2)⟩⟩
abbrev iUnl : Stmt := inClass (top 7) 0
theorem ok_unl (T : ErrTxt P K mg C cc c) (n1 : PySem.W.findIn K (.ref C) "first" = some none) (n2 : PySem.W.findIn K (.ref C) "second" = some none) (F : InitAt K "UnlikeGrids.__init__" iUnl fI cc c fd) :
    FnOk P w K mg base CX 1 fI fd ["self", "first", "second"] (spI2 C "first" "second") := by
  obtain ⟨oc, od, kV, doc, pm, an, ct, osl, rfl, lk, hcd⟩ := F
  refine init_of (N := ["self", "first", "second", "__class__"]) T lk hcd (nscope_by (by decide +kernel)) rfl ⟨_, rfl, rfl⟩ (by decide +kernel) (fun _ => rfl) (fun vs H Q E h => ?_) (fun A outer s H vs Q E hr h => ?_)
  · obtain ⟨a, v, u, rfl, _⟩ := h
    rfl
  · obtain ⟨a, v, u, rfl, ha, k⟩ := h
    refine ⟨a, _, rfl, ha, pss_cons (ps_ost (pv 0) (pv 1)) (pss_one (ps_ost (pv 0) (pv 2))), ?_⟩
    refine ⟨v, rfl, .ref a, rfl, a, C, rfl, T.ox, n1, .inl ⟨ha, fun d hd hne => ?_⟩⟩
    have f1 := fill1 (C := C) (fs := [("first", v)]) hd hne
    exact ⟨u, rfl, .ref a, rfl, a, C, rfl, T.ox, n2, .inr ⟨d, _, f1.ob, f1.dc, (by show 1 ≤ 900; decide), k d _ (f1.more hne)⟩⟩
end
end KL

set_option Elab.async false
set_option linter.all false
set_option maxRecDepth 100000
set_option maxHeartbeats 4000000
namespace KL
open PySem PySem.Spec PyProof.Rows L2 NdefX SX
abbrev sBag : Stmt := top 32
abbrev sDraw : Stmt := top 33
abbrev sAt : Stmt := top 34
theorem scBag : FnScope ["_law_cell"] ["_law_cell"] (defScope sBag) := ⟨rfl, rfl, rfl, by decide +kernel, rfl, by decide +kernel, by decide +kernel⟩
theorem scDraw : FnScope ["_law_pool", "_law_limit", "_law_drawn", "_law_mixed"] ["_law_pool", "_law_limit"] (defScope sDraw) := ⟨rfl, rfl, rfl, by decide +kernel, rfl, by decide +kernel, by decide +kernel⟩
theorem scAt : FnScope ["_law_script", "_law_k"] ["_law_script", "_law_k"] (defScope sAt) := ⟨rfl, rfl, rfl, by decide +kernel, rfl, by decide +kernel, by decide +kernel⟩
section
variable {P : Program} {w : World} {K : PySem.W.Frag} {mg : Str → Option Value} {base : Heap} {f : Addr} {fd : FuncData}
theorem ok_bag (F : Fun K "_law_bag" "_law_bag" sBag f fd) : FnOk P w K mg base CX0 1 f fd ["_law_cell"] spBag := by
  refine F.ok scBag (fun vs H Q E h => ?_) (fun cdv A outer s H vs Q E hr h => ?_)
  · obtain ⟨c, rfl, _⟩ := h
    rfl
  · obtain ⟨c, rfl, k⟩ := h
    refine ⟨_, pss_one (ps_ret (pe_newL (pa_cons (pv 0) (pa_cons pe_int (pa_cons (pe_cmpR op_ge (pv 0) (pe_op op_pow pe_int pe_int) (nomark _)) pa_nil))))), ?_⟩
    refine ⟨_, rfl, _, rfl, _, _, rfl, rfl, ⟨by decide, by decide, by decide⟩, _, _, rfl, rfl, by show 3 ≤ sizeLine; decide, fun p H2 s2 hp e2 => ?_⟩
    exact k p H2 _ s2 hp ⟨_, _, e2⟩
theorem ok_at (F : Fun K "_law_at_of" "_law_at_of" sAt f fd) (ml : mg "len" = none) : FnOk P w K mg base CX0 1 f fd ["_law_script", "_law_k"] (spAt K) := by
  refine F.ok scAt (fun vs H Q E h => ?_) (fun cdv A outer s H vs Q E hr h => ?_)
  · obtain ⟨a, ns, k, rfl, _⟩ := h
    rfl
  · obtain ⟨a, ns, k, rfl, hs, q⟩ := h
    refine ⟨_, pss_cons (ps_if (pt_cmpR op_lt (pv 1) (pe_callB call_len_seq (by rfl) ml PySem.boot_len (pa_cons (pv 0) pa_nil)) (nomark _)) (pss_one (ps_ret (pe_ix ix_list (pv 0) (pv 1) (fun _ _ => rfl)))) pss_nil) (pss_one (ps_ret pe_int)), ?_⟩
    refine ⟨_, rfl, _, rfl, a, _, rfl, .inl hs, _, _, rfl, rfl, _, rfl, ite2 (fun e => ?_) (fun e => q _)⟩
    have hk := of_decide_eq_true e
    rw [List.length_map] at hk
    have hk : k < ns.length := by omega
    exact ⟨_, rfl, _, rfl, a, _, _, _, rfl, rfl, hs, atI_nat (by rw [List.getElem?_map, List.getElem?_eq_getElem hk]; rfl), q _⟩
theorem ok_draw (F : Fun K "_law_draw" "_law_draw" sDraw f fd) (mi : mg "int" = none) : FnOk P w K mg base CX0 1 f fd ["_law_pool", "_law_limit"] spDraw := by
  refine F.ok scDraw (fun vs H Q E h => ?_) (fun cdv A outer s H vs Q E hr h => ?_)
  · obtain ⟨p, m, b, rfl, _⟩ := h
    rfl
  · obtain ⟨p, m, b, rfl, ⟨c, n, hp⟩, h0, h1, k⟩ := h
    refine ⟨_, pss_cons (ps_asg (pe_op op_add (pe_ix ix_list (pv 0) pe_int (fun _ _ => rfl)) pe_int) (pg_sub (pv 0) pe_int set_list))
      (pss_cons (ps_if (pt_truth (pe_ix ix_list (pv 0) pe_int (fun _ _ => rfl)) (by intro _; rfl))
        (pss_cons (ps_set (i := 2) scDraw.nd rfl (Or.inl rfl) (pe_op op_modN (pe_callTy call_int1 (by rfl) mi (by decide +kernel) (pa_cons (pe_ix ix_list (pv 0) pe_int (fun _ _ => rfl)) pa_nil)) (pv 1)))
        (pss_cons (ps_asg (pe_op op_fdivN (pe_callTy call_int1 (by rfl) mi (by decide +kernel) (pa_cons (pe_ix ix_list (pv 0) pe_int (fun _ _ => rfl)) pa_nil)) (pv 1)) (pg_sub (pv 0) pe_int set_list))
        (pss_one (ps_ret (pv 2))))) pss_nil)
      (pss_cons (ps_set (i := 3) scDraw.nd rfl (Or.inl rfl) (pe_op op_modN (pe_callTy call_int1 (by rfl) mi (by decide +kernel) (pa_cons
        (pe_op op_add (pe_op op_add (pe_op op_mul (pe_ix ix_list (pv 0) pe_int (fun _ _ => rfl)) pe_int) (pe_op op_mul (pe_ix ix_list (pv 0) pe_int (fun _ _ => rfl)) pe_int)) pe_int) pa_nil)) pe_int))
      (pss_one (ps_ret (pe_op op_modN (pe_op op_fdivN (pe_callTy call_int1 (by rfl) mi (by decide +kernel) (pa_cons (pe_op op_modN (pe_op op_pow (pv 3) pe_int) pe_int) pa_nil)) pe_int) (pv 1)))))), ?_⟩
    -- pool[1] = pool[1] + 1
    refine ⟨_, rfl, p, _, _, _, rfl, rfl, SqL.of hp, atI_nat (j := 1) rfl, _, _, rfl, rfl, _, rfl, p, _, _, 1, rfl, rfl, hp, rfl, ?_⟩
    have hp1 : (upd H p (.lst [.int c, .int (n + 1), .bl b])) p = some (.lst [.int c, .int (n + 1), .bl b]) := upd_same
    have hb1 : But p H (upd H p (.lst [.int c, .int (n + 1), .bl b])) := But.upd
    refine ⟨_, rfl, p, _, _, _, rfl, rfl, SqL.of hp1, atI_nat (j := 2) rfl, b, rfl, ?_⟩
    cases b with
    | true =>
      refine iteT ?_
      refine ⟨_, rfl, p, _, _, _, rfl, rfl, SqL.of hp1, atI_nat (j := 0) rfl, .inl ⟨_, rfl, ?_⟩⟩
      refine ⟨_, rfl, _, _, rfl, rfl, by omega, ?_⟩
      refine ⟨_, rfl, p, _, _, _, rfl, rfl, SqL.of hp1, atI_nat (j := 0) rfl, .inl ⟨_, rfl, ?_⟩⟩
      refine ⟨_, rfl, _, _, rfl, rfl, ⟨by omega, by omega⟩, _, rfl, p, _, _, 0, rfl, rfl, hp1, rfl, ?_⟩
      exact ⟨_, rfl, k _ _ (Int.fmod_nonneg_of_pos _ h0) (Int.fmod_lt_of_pos _ h0) (hb1.trans But.upd) ⟨_, _, upd_same⟩⟩
    | false =>
      refine iteF ?_
      refine ⟨_, rfl, p, _, _, _, rfl, rfl, SqL.of hp1, atI_nat (j := 0) rfl, _, _, rfl, rfl, .inr (by decide), ?_⟩
      refine ⟨_, rfl, p, _, _, _, rfl, rfl, SqL.of hp1, atI_nat (j := 1) rfl, _, _, rfl, rfl, .inr (by decide), _, _, rfl, rfl, _, _, rfl, rfl, .inl ⟨_, rfl, ?_⟩⟩
      refine ⟨_, _, rfl, rfl, (by show (2147483647 : Int) ≠ 0; decide), ?_⟩
      have g0 := Int.fmod_nonneg_of_pos (c * 7919 + (n + 1) * 104729 + 13) (show (0 : Int) < 2147483647 by decide)
      have g1 := Int.fmod_lt_of_pos (c * 7919 + (n + 1) * 104729 + 13) (show (0 : Int) < 2147483647 by decide)
      refine ⟨_, rfl, _, _, rfl, rfl, ⟨by decide, by decide, by omega⟩, _, _, rfl, rfl, (by show (2147483647 : Int) ≠ 0; decide), .inl ⟨_, rfl, ?_⟩⟩
      refine ⟨_, _, rfl, rfl, ⟨by decide, by decide⟩, _, rfl, _, _, rfl, rfl, by omega, ?_⟩
      exact k _ _ (Int.fmod_nonneg_of_pos _ h0) (Int.fmod_lt_of_pos _ h0) hb1 ⟨_, _, hp1⟩
end
end KL

set_option Elab.async false
set_option linter.all false
set_option maxRecDepth 100000
set_option maxHeartbeats 4000000
namespace SX
open PySem PySem.Spec PyProof.Rows L2 NdefX
/-! a walk over a list or a tuple -/
def ItA (K : PySem.W.Frag) (p : Bool) (a : Addr) : It := if p = true then Itl K a else Itt K a
def iAny (K : PySem.W.Frag) (te : TE) : TI := fun σ H R => te σ H fun v H1 => ∃ a p xs, v = .ref a ∧ SqB K p H1 a xs ∧ R (ItA K p a) H1
theorem pi_any {X : Cx} {tg e : Expr} {te : TE} (he : PE X e te) : PI X tg e (iAny X.K te) := by
  refine ⟨fun pins s σ H R I h => thn (he.run pins s σ H _ I h) fun u s1 hh => ?_⟩
  obtain ⟨v, H1, I1, rv, a, p, xs, rfl, hq, r⟩ := hh
  cases rv
  obtain ⟨its, rs, pa⟩ := sqB_at I1 hq
  refine aIter pa ?_
  have fresh : ∀ b, b ∈ [s1.heap.objs.size] → FpOk X pins H1 b := fun b hb => by
    obtain rfl : b = s1.heap.objs.size := by simpa using hb
    exact I1.fpOk (Nat.le_refl _) (I1.hok.fresh (Nat.le_refl _))
  have I2 : Inv X pins σ H1 { s1 with heap := s1.heap.push (aObj p a) } := I1.kept (t' := s1.toks) fun b o e => Heap.get?_push_of_some _ e
  have st : AIt (s1.heap.push (aObj p a)) p s1.heap.objs.size a 0 := aObj_it (Heap.get?_push_size _ rfl)
  cases p
  · exact ⟨s1.heap.objs.size, [s1.heap.objs.size], _, _, H1, rfl, I2, turn_tuple a _, st, fresh, r⟩
  · exact ⟨s1.heap.objs.size, [s1.heap.objs.size], _, _, H1, rfl, I2, turn_list a _, st, fresh, r⟩
theorem walk_any {K : PySem.W.Frag} {p : Bool} {a : Addr} {xs : List V} : Walk (ItA K p a) xs.length (fun H => SqB K p H a xs) (YAt xs) := by
  cases p
  · exact walk_tup
  · exact walk_list
end SX

set_option Elab.async false
set_option linter.all false
set_option maxRecDepth 100000
set_option maxHeartbeats 4000000
namespace KL
open PySem PySem.Spec PyProof.Rows L2 NdefX SX
/-! ### the options of a grid ascend -/
theorem code_snoc : ∀ (o : List Int) (l : Int), TS.code 64 (o ++ [l]) = TS.code 64 o * 64 + l
  | [], l => by
    show l * 64 ^ 0 + 0 = 0 * 64 + l
    omega
  | d :: r, l => by
    show d * 64 ^ (r ++ [l]).length + TS.code 64 (r ++ [l]) = (d * 64 ^ r.length + TS.code 64 r) * 64 + l
    rw [code_snoc r l, List.length_append, List.length_singleton, Int.pow_succ, Int.add_mul, Int.mul_assoc, Int.add_assoc]
def Asc (os : List (List Int)) : Prop := os.Pairwise (fun a b => TS.code 64 a < TS.code 64 b)
theorem asc_ext {os : List (List Int)} {t : Int} (ht : t ≤ 9) (h : Asc os) : Asc (ext os t) := by
  unfold Asc ext
  induction os with
  | nil => exact .nil
  | cons o r ih =>
    rw [List.flatMap_cons, List.pairwise_append]
    have hr := List.pairwise_cons.mp h
    refine ⟨?_, ih hr.2, fun a ha b hb => ?_⟩
    · rw [List.pairwise_map]
      refine List.pairwise_lt_range.imp fun {x y} hxy => ?_
      rw [code_snoc, code_snoc]
      omega
    · obtain ⟨x, hx, rfl⟩ := List.mem_map.mp ha
      obtain ⟨o2, ho2, hb2⟩ := List.mem_flatMap.mp hb
      obtain ⟨y, hy, rfl⟩ := List.mem_map.mp hb2
      have l := hr.1 o2 ho2
      have hx' := List.mem_range.mp hx
      rw [code_snoc, code_snoc]
      omega
theorem asc_below {ts : List Int} (h : ∀ t ∈ ts, 0 ≤ t ∧ t ≤ 9) : ∀ i, Asc (below (ts.take i))
  | 0 => by
    show Asc [[]]
    exact .cons (fun _ h => by cases h) .nil
  | i + 1 => by
    cases e : ts[i]? with
    | none =>
      have hl : ts.length ≤ i := List.getElem?_eq_none_iff.mp e
      rw [List.take_of_length_le (by omega), ← List.take_of_length_le hl]
      exact asc_below h i
    | some t =>
      rw [below_take e]
      exact asc_ext (h t (List.mem_of_getElem? e)).2 (asc_below h i)
theorem asc_all {ts : List Int} (h : ∀ t ∈ ts, 0 ≤ t ∧ t ≤ 9) : Asc (below ts) := by
  have z := asc_below h ts.length
  rwa [List.take_length] at z
theorem Asc.filter {os : List (List Int)} (h : Asc os) (p : List Int → Bool) : Asc (os.filter p) := List.Pairwise.filter p h
theorem Asc.nodup {os : List (List Int)} (h : Asc os) : os.Nodup := List.Pairwise.imp (fun h e => by rw [e] at h; omega) h
theorem Asc.eq {os us : List (List Int)} (h : Asc os) (g : Asc us) (m : ∀ o, o ∈ os ↔ o ∈ us) : os = us := by
  have p : os.Perm us := (List.perm_ext_iff_of_nodup h.nodup g.nodup).mpr m
  exact List.Perm.eq_of_pairwise (fun a b _ _ h1 h2 => by omega) h g p
theorem rows_below {ts : List Int} (hF : Few ts) {os : List (List Int)} (h : ∀ o ∈ os, o ∈ below ts) : Rows ts.length os := fun o ho => ⟨opt_len (h o ho), fun m hm => by
  have := opt_small hF.2 (h o ho) m hm
  omega⟩
/-! ### ascending -/
def ascO (ts : List Int) (os : List (List Int)) : List (List Int) := (below ts).filter (fun o => decide (o ∈ os))
theorem mem_asc {ts : List Int} {os : List (List Int)} {o : List Int} : o ∈ ascO ts os ↔ o ∈ below ts ∧ o ∈ os := by
  unfold ascO
  rw [List.mem_filter, decide_eq_true_iff]
theorem asc_asc {ts : List Int} (hF : Few ts) (os : List (List Int)) : Asc (ascO ts os) := (asc_all hF.2).filter _
/-! ### pairs that keep options from being a region -/
def badB (all : List (List Int)) (a b : List Int) : Bool := !decide (lowO a b ∈ all) || !decide (highO a b ∈ all)
def openO (all : List (List Int)) : List (List Int) → Option (List Int × List Int)
  | [] => none
  | a :: r => match r.find? (badB all a) with
    | some b => some (a, b)
    | none => openO all r
theorem open_cons (all : List (List Int)) (a : List Int) (r : List (List Int)) : openO all (a :: r) = match r.find? (badB all a) with | some b => some (a, b) | none => openO all r := rfl
/-- with any two also the lesser and the greater one -/
def Closed (os : List (List Int)) : Prop := ∀ a ∈ os, ∀ b ∈ os, lowO a b ∈ os ∧ highO a b ∈ os
theorem mn_comm (a b : Int) : mn a b = mn b a := by
  unfold mn
  split <;> split <;> omega
theorem mx_comm (a b : Int) : mx a b = mx b a := by
  unfold mx
  split <;> split <;> omega
theorem low_comm : ∀ a b : List Int, lowO a b = lowO b a
  | [], [] => rfl
  | [], _ :: _ => rfl
  | _ :: _, [] => rfl
  | x :: a, y :: b => by
    show mn x y :: lowO a b = mn y x :: lowO b a
    rw [mn_comm, low_comm a b]
theorem high_comm : ∀ a b : List Int, highO a b = highO b a
  | [], [] => rfl
  | [], _ :: _ => rfl
  | _ :: _, [] => rfl
  | x :: a, y :: b => by
    show mx x y :: highO a b = mx y x :: highO b a
    rw [mx_comm, high_comm a b]
theorem low_self : ∀ a : List Int, lowO a a = a
  | [] => rfl
  | x :: a => by
    show mn x x :: lowO a a = x :: a
    rw [low_self a, show mn x x = x from if_neg (by omega)]
theorem high_self : ∀ a : List Int, highO a a = a
  | [] => rfl
  | x :: a => by
    show mx x x :: highO a a = x :: a
    rw [high_self a, show mx x x = x from if_neg (by omega)]
theorem badB_false {all : List (List Int)} {a b : List Int} (h : badB all a b = false) : lowO a b ∈ all ∧ highO a b ∈ all := by
  unfold badB at h
  rw [Bool.or_eq_false_iff, Bool.not_eq_false', Bool.not_eq_false', decide_eq_true_iff, decide_eq_true_iff] at h
  exact h
theorem badB_of {all : List (List Int)} {a b : List Int} (h : lowO a b ∈ all ∧ highO a b ∈ all) : badB all a b = false := by
  unfold badB
  rw [decide_eq_true h.1, decide_eq_true h.2]
  rfl
theorem open_none {all : List (List Int)} : ∀ {os : List (List Int)}, openO all os = none → ∀ (i j : Nat) (a b : List Int), i < j → os[i]? = some a → os[j]? = some b → lowO a b ∈ all ∧ highO a b ∈ all
  | [], _, i, j, a, b, _, h, _ => by simp at h
  | x :: r, h, i, j, a, b, hij, ha, hb => by
    rw [open_cons] at h
    cases e : r.find? (badB all x) with
    | some y => rw [e] at h; cases h
    | none =>
      rw [e] at h
      cases i with
      | zero =>
        cases ha
        obtain ⟨j, rfl⟩ : ∃ k, j = k + 1 := ⟨j - 1, by omega⟩
        have m : b ∈ r := List.mem_of_getElem? (i := j) hb
        have z := List.find?_eq_none.mp e b m
        exact badB_false (by simpa using z)
      | succ i =>
        obtain ⟨j, rfl⟩ : ∃ k, j = k + 1 := ⟨j - 1, by omega⟩
        exact open_none (os := r) h i j a b (by omega) ha hb
theorem closed_of {os : List (List Int)} (h : openO os os = none) : Closed os := by
  intro a ha b hb
  obtain ⟨i, hi⟩ := List.mem_iff_getElem?.mp ha
  obtain ⟨j, hj⟩ := List.mem_iff_getElem?.mp hb
  rcases Nat.lt_trichotomy i j with l | l | l
  · exact open_none h i j a b l hi hj
  · subst l
    rw [hi] at hj
    cases hj
    rw [low_self, high_self]
    exact ⟨ha, ha⟩
  · have z := open_none h j i b a l hj hi
    rw [low_comm, high_comm] at z
    exact z
theorem open_of {all : List (List Int)} : ∀ {os : List (List Int)}, (∀ a ∈ os, ∀ b ∈ os, lowO a b ∈ all ∧ highO a b ∈ all) → openO all os = none
  | [], _ => rfl
  | x :: r, h => by
    rw [open_cons]
    have e : r.find? (badB all x) = none := List.find?_eq_none.mpr fun b hb => by
      rw [badB_of (h x List.mem_cons_self b (List.mem_cons_of_mem _ hb))]
      exact Bool.false_ne_true
    rw [e]
    exact open_of fun a ha b hb => h a (List.mem_cons_of_mem _ ha) b (List.mem_cons_of_mem _ hb)
theorem open_closed {os : List (List Int)} (h : Closed os) : openO os os = none := open_of h
/-! ### hull -/
def pairsO (os : List (List Int)) : List (List Int) := os.flatMap fun a => os.flatMap fun b => [lowO a b, highO a b]
def widenO (ts : List Int) (os : List (List Int)) : List (List Int) := ascO ts (pairsO os)
theorem mem_pairs {os : List (List Int)} {o : List Int} : o ∈ pairsO os ↔ ∃ a ∈ os, ∃ b ∈ os, o = lowO a b ∨ o = highO a b := by
  unfold pairsO
  simp only [List.mem_flatMap, List.mem_cons, List.not_mem_nil, or_false]
theorem low_len : ∀ {a b : List Int}, a.length = b.length → (lowO a b).length = a.length := fun {a b} h => by
  unfold lowO
  rw [List.length_zipWith, h, Nat.min_self]
theorem high_len : ∀ {a b : List Int}, a.length = b.length → (highO a b).length = a.length := fun {a b} h => by
  unfold highO
  rw [List.length_zipWith, h, Nat.min_self]
/-- an option is one with a level from 0 to the top at each knob -/
theorem mem_below_take {ts : List Int} : ∀ {i : Nat} {o : List Int}, i ≤ ts.length → (o ∈ below (ts.take i) ↔ o.length = i ∧ ∀ (j : Nat) (v t : Int), j < i → o[j]? = some v → ts[j]? = some t → 0 ≤ v ∧ v ≤ t)
  | 0, o, _ => by
    have e : below (ts.take 0) = [[]] := by rw [List.take_zero]; rfl
    rw [e, List.mem_singleton]
    constructor
    · rintro rfl
      exact ⟨rfl, fun j v t h => absurd h (by omega)⟩
    · rintro ⟨h, _⟩
      exact List.length_eq_zero_iff.mp h
  | i + 1, o, hi => by
    have et : ts[i]? = some ts[i] := List.getElem?_eq_getElem (by omega)
    rw [below_take et]
    constructor
    · intro h
      obtain ⟨o0, h0, l, hl, rfl⟩ := ext_mem h
      obtain ⟨l0, p0⟩ := (mem_below_take (i := i) (by omega)).mp h0
      refine ⟨by rw [List.length_append, l0]; rfl, fun j v t hj hv ht => ?_⟩
      by_cases hji : j < i
      · rw [List.getElem?_append_left (by omega)] at hv
        exact p0 j v t hji hv ht
      · obtain rfl : j = i := by omega
        rw [List.getElem?_append_right (by omega), l0, Nat.sub_self] at hv
        rw [et] at ht
        cases ht
        have hv : (l : Int) = v := Option.some.inj hv
        omega
    · rintro ⟨hl, p⟩
      have hlast : o = o.take i ++ [o[i]] := by
        rw [List.take_append_getElem, List.take_of_length_le (by omega)]
      have pi := p i o[i] ts[i] (by omega) (List.getElem?_eq_getElem (by omega)) et
      unfold ext
      rw [List.mem_flatMap]
      refine ⟨o.take i, (mem_below_take (i := i) (by omega)).mpr ⟨by rw [List.length_take]; omega, fun j v t hj hv ht => ?_⟩, ?_⟩
      · rw [List.getElem?_take_of_lt hj] at hv
        exact p j v t (by omega) hv ht
      · rw [List.mem_map]
        refine ⟨o[i].toNat, List.mem_range.mpr (by omega), ?_⟩
        rw [Int.toNat_of_nonneg pi.1]
        exact hlast.symm
theorem mem_below {ts o : List Int} : o ∈ below ts ↔ o.length = ts.length ∧ ∀ (j : Nat) (v t : Int), o[j]? = some v → ts[j]? = some t → 0 ≤ v ∧ v ≤ t := by
  have z := mem_below_take (ts := ts) (i := ts.length) (o := o) (Nat.le_refl _)
  rw [List.take_length] at z
  rw [z]
  exact ⟨fun ⟨h1, h2⟩ => ⟨h1, fun j v t hv ht => h2 j v t (List.getElem?_eq_some_iff.mp ht).1 hv ht⟩, fun ⟨h1, h2⟩ => ⟨h1, fun j v t _ hv ht => h2 j v t hv ht⟩⟩
theorem zip_get {f : Int → Int → Int} {a b : List Int} {j : Nat} {v : Int} (h : (List.zipWith f a b)[j]? = some v) : ∃ x y, a[j]? = some x ∧ b[j]? = some y ∧ v = f x y := by
  rw [List.getElem?_zipWith] at h
  cases ea : a[j]? with
  | none => rw [ea] at h; cases h
  | some x =>
    cases eb : b[j]? with
    | none => rw [ea, eb] at h; cases h
    | some y => rw [ea, eb] at h; exact ⟨x, y, rfl, rfl, (Option.some.inj h).symm⟩
theorem low_below {ts a b : List Int} (ha : a ∈ below ts) (hb : b ∈ below ts) : lowO a b ∈ below ts := by
  obtain ⟨l1, p1⟩ := mem_below.mp ha
  obtain ⟨l2, p2⟩ := mem_below.mp hb
  refine mem_below.mpr ⟨(low_len (l1.trans l2.symm)).trans l1, fun j v t hv ht => ?_⟩
  obtain ⟨x, y, ex, ey, rfl⟩ := zip_get hv
  have h1 := p1 j x t ex ht
  have h2 := p2 j y t ey ht
  unfold mn
  split <;> assumption
theorem high_below {ts a b : List Int} (ha : a ∈ below ts) (hb : b ∈ below ts) : highO a b ∈ below ts := by
  obtain ⟨l1, p1⟩ := mem_below.mp ha
  obtain ⟨l2, p2⟩ := mem_below.mp hb
  refine mem_below.mpr ⟨(high_len (l1.trans l2.symm)).trans l1, fun j v t hv ht => ?_⟩
  obtain ⟨x, y, ex, ey, rfl⟩ := zip_get hv
  have h1 := p1 j x t ex ht
  have h2 := p2 j y t ey ht
  unfold mx
  split <;> assumption
theorem pairs_below {ts : List Int} {os : List (List Int)} (h : ∀ o ∈ os, o ∈ below ts) : ∀ o ∈ pairsO os, o ∈ below ts := by
  intro o ho
  obtain ⟨a, ha, b, hb, e⟩ := mem_pairs.mp ho
  rcases e with rfl | rfl
  · exact low_below (h a ha) (h b hb)
  · exact high_below (h a ha) (h b hb)
theorem widen_sup {ts : List Int} {os : List (List Int)} (h : ∀ o ∈ os, o ∈ below ts) : ∀ o ∈ os, o ∈ widenO ts os := fun o ho =>
  mem_asc.mpr ⟨h o ho, mem_pairs.mpr ⟨o, ho, o, ho, .inl (low_self o).symm⟩⟩
theorem nodup_len : ∀ (l D : List (List Int)), l.Nodup → (∀ x ∈ l, x ∈ D) → l.length ≤ D.length
  | [], _, _, _ => Nat.zero_le _
  | x :: r, D, h, s => by
    have hn := List.nodup_cons.mp h
    have hx := s x List.mem_cons_self
    have z := nodup_len r (D.erase x) hn.2 fun y hy => (List.mem_erase_of_ne (fun (e : y = x) => hn.1 (by rw [← e]; exact hy))).mpr (s y (List.mem_cons_of_mem _ hy))
    rw [List.length_erase_of_mem hx] at z
    have := List.length_pos_of_mem hx
    rw [List.length_cons]
    omega
/-- where widening adds none, they are closed -/
theorem widen_stop {ts : List Int} (hF : Few ts) {os : List (List Int)} (h : ∀ o ∈ os, o ∈ below ts) (ha : Asc os) (hl : (widenO ts os).length ≤ os.length) : widenO ts os = os := by
  refine (Asc.eq ha (asc_asc hF _) fun o => ⟨widen_sup h o, fun ho => ?_⟩).symm
  refine Classical.byContradiction fun n => ?_
  have z := nodup_len (o :: os) (widenO ts os) (List.nodup_cons.mpr ⟨n, ha.nodup⟩) (fun y hy => (List.mem_cons.mp hy).elim (fun e => e ▸ ho) (widen_sup h y))
  rw [List.length_cons] at z
  omega
theorem widen_closed {ts : List Int} {os : List (List Int)} (h : ∀ o ∈ os, o ∈ below ts) (e : widenO ts os = os) : Closed os := fun a ha b hb => by
  have l : lowO a b ∈ widenO ts os := mem_asc.mpr ⟨low_below (h a ha) (h b hb), mem_pairs.mpr ⟨a, ha, b, hb, .inl rfl⟩⟩
  have g : highO a b ∈ widenO ts os := mem_asc.mpr ⟨high_below (h a ha) (h b hb), mem_pairs.mpr ⟨a, ha, b, hb, .inr rfl⟩⟩
  rw [e] at l g
  exact ⟨l, g⟩
/-- the region of the fewest options that has these -/
def IsHull (ts : List Int) (os us : List (List Int)) : Prop := Asc us ∧ (∀ o ∈ us, o ∈ below ts) ∧ (∀ o ∈ os, o ∈ us) ∧ Closed us ∧ ∀ vs, Closed vs → (∀ o ∈ os, o ∈ vs) → ∀ o ∈ us, o ∈ vs
theorem hull_uniq {ts : List Int} {os us vs : List (List Int)} (h : IsHull ts os us) (g : IsHull ts os vs) : us = vs :=
  Asc.eq h.1 g.1 fun o => ⟨h.2.2.2.2 vs g.2.2.2.1 g.2.2.1 o, g.2.2.2.2 us h.2.2.2.1 h.2.2.1 o⟩
end KL

set_option Elab.async false
set_option linter.all false
set_option maxRecDepth 100000
set_option maxHeartbeats 4000000
namespace KL
open PySem PySem.Spec PyProof.Rows L2 NdefX SX
def rNotInT (K : PySem.W.Frag) : R2 := fun x y H Q => ∃ d ds, Dp K H x d ∧ Dp K H y (.tuple ds) ∧ SeqAt.shaped d = true ∧ SeqAt.shaped (.tuple ds) = true ∧ Q (.bl (!ds.any fun z => PyData.eqv z d)) H
theorem op_notInT {X : Cx} (hu : X.A.units + 65 < cLine) : OpR X (compareOp .NotIn) (rNotInT X.K) := fun pins s σ H x y v u Q I rx ry ⟨d, ds, hd, he, sd, se, q⟩ => by
  obtain ⟨as, r1⟩ := Dp.reads I d x v hd rx
  obtain ⟨bs, r2⟩ := Dp.reads I (.tuple ds) y u he ry
  exact SeqAt.notIn_tuple_reads r2 r1 (SeqAt.canLay_of_shaped se) (SeqAt.canLay_of_shaped sd) (room_in_shaped sd hu) ⟨.bl _, H, I, rfl, q⟩
/-! ### promises of the regions module -/
def spTextOf (K : PySem.W.Frag) : Sp := fun vs H Q _ => ∃ (a : Addr) (ts : List Int), vs = [.ref a] ∧ SqA K H a (ts.map V.int) ∧ Few ts ∧ ∀ H', Same H H' → Q (.str (textOf ts)) H'
def spAsc (K : PySem.W.Frag) (C N O : Addr) : Sp := fun vs H Q E => ∃ (g l : Addr) (ts : List Int) (ps : List Addr) (os : List (List Int)), vs = [.ref g, .ref l] ∧ GridAt K C H g ts ∧ Few ts ∧ SqA K H l (ps.map V.ref) ∧ Opts K H ps os ∧ os.length ≤ 1000 ∧
  (if os = [] then Thrown N [("n", .int 0)] H E else match badOpt ts os with
  | some o => ThrownT K O "option" o H E
  | none => ∀ p rs H', Same H H' → SqT K H' p (rs.map V.ref) → Each K H' rs (ascO ts os) → Q (.ref p) H')
def spOpen (K : PySem.W.Frag) (C : Addr) : Sp := fun vs H Q _ => ∃ (g p : Addr) (ts : List Int) (rs : List Addr) (os : List (List Int)), vs = [.ref g, .ref p] ∧ GridAt K C H g ts ∧ Few ts ∧ SqT K H p (rs.map V.ref) ∧ Each K H rs os ∧ (∀ o ∈ os, o ∈ below ts) ∧
  (match openO os os with
  | none => ∀ H', Same H H' → Q .non H'
  | some (a, b) => ∀ q r1 r2 H', Same H H' → SqT K H' q [.ref r1, .ref r2] → SqT K H' r1 (a.map V.int) → SqT K H' r2 (b.map V.int) → Q (.ref q) H')
/-- a Region of these options stands at r -/
def RegAt (K : PySem.W.Frag) (C R : Addr) (H : Hp) (r : Addr) (ts : List Int) (os : List (List Int)) : Prop := ∃ (dx g p : Addr) (rs : List Addr), H r = some (.ins R dx [("grid", .ref g), ("options", .ref p)]) ∧ GridAt K C H g ts ∧ SqT K H p (rs.map V.ref) ∧ Each K H rs os
theorem RegAt.same {K : PySem.W.Frag} {C R r : Addr} {H H' : Hp} {ts : List Int} {os : List (List Int)} (s : Same H H') (h : RegAt K C R H r ts os) : RegAt K C R H' r ts os := by
  obtain ⟨dx, g, p, rs, h1, h2, h3, h4⟩ := h
  exact ⟨dx, g, p, rs, s _ _ h1, h2.same s, Same.sqt s h3, h4.same s⟩
/-- C('f' = a tuple, 'g' = a tuple) raised -/
def ThrownP (K : PySem.W.Frag) (C : Addr) (f g : Str) (a b : List Int) (H : Hp) (E : XK) : Prop := ∀ d p q H', Same H H' → H d = none → H' d = some (.xd [(g, .ref q), (f, .ref p)]) → SqT K H' p (a.map V.int) → SqT K H' q (b.map V.int) → E (.ref C) (some d) H'
theorem ThrownP.back {K : PySem.W.Frag} {C : Addr} {f g : Str} {a b : List Int} {H H1 : Hp} {E : XK} (s : Same H H1) (h : ThrownP K C f g a b H E) : ThrownP K C f g a b H1 E :=
  fun d p q H' s' nd ed hp hq => h d p q H' (s.trans s') (ne0 s nd) ed hp hq
theorem mkoP {K : PySem.W.Frag} {C p q : Addr} {f g : Str} {a b : List Int} {H1 : Hp} {E : XK} (hp : SqA K H1 p (a.map V.int)) (hq : SqA K H1 q (b.map V.int)) (h : ThrownP K C f g a b H1 E) :
    [V.ref p, V.ref q].length ≤ 1000 ∧ ∀ x, H1 x = none → spT2 K C f g (.ref x :: ([V.ref p, V.ref q] ++ [])) (upd H1 x (exo x C none))
    (fun w H2 => w = .non ∧ ∃ (d : Addr) (fs : List (Str × V)), H2 x = some (exo x C (some d)) ∧ H2 d = some (exd d fs) ∧ H1 d = none ∧ E (.ref C) (some d) (upd (L2.del H2 x) d (.xd fs))) (fun _ _ _ => False) := by
  refine ⟨by show 2 ≤ 1000; decide, fun x hx => ⟨x, p, q, _, _, rfl, upd_same, sqA_same (same_upd hx) hp, sqA_same (same_upd hx) hq, fun d p' q' H2 fl hp' hq' => ⟨rfl, d, _, fl.ob, fl.dc, (gone_same hx fl).2, ?_⟩⟩⟩
  exact h d p' q' _ (gone_same hx fl).1 (gone_same hx fl).2 upd_same (sqT_gone fl hp') (sqT_gone fl hq')
/-- what Region(grid, options) comes to -/
inductive Rg where
  | number (n : Int)
  | option (o : List Int)
  | pair (a b : List Int)
  | region (os : List (List Int))
def mkRg (ts : List Int) (os : List (List Int)) : Rg := if os = [] then .number 0 else match badOpt ts os with
  | some o => .option o
  | none => match openO (ascO ts os) (ascO ts os) with
    | some (a, b) => .pair a b
    | none => .region (ascO ts os)
def RgEnd (K : PySem.W.Frag) (C R N O P : Addr) (ts : List Int) (H : Hp) (Q : VK) (E : XK) : Rg → Prop
  | .number n => Thrown N [("n", .int n)] H E
  | .option o => ThrownT K O "option" o H E
  | .pair a b => ThrownP K P "first" "second" a b H E
  | .region us => ∀ r H', Same H H' → RegAt K C R H' r ts us → Q (.ref r) H'
theorem RgEnd.back {K : PySem.W.Frag} {C R N O P : Addr} {ts : List Int} {H H1 : Hp} {Q : VK} {E : XK} (s : Same H H1) : ∀ {rg : Rg}, RgEnd K C R N O P ts H Q E rg → RgEnd K C R N O P ts H1 Q E rg
  | .number _, h => Thrown.back s h
  | .option _, h => ThrownT.back s h
  | .pair _ _, h => ThrownP.back s h
  | .region _, h => fun r H' s' g => h r H' (s.trans s') g
/-- of Region.__init__ -/
def spRInit (K : PySem.W.Frag) (C R N O P : Addr) : Sp := fun vs H Q E => ∃ (x g l dx : Addr) (ts : List Int) (ps : List Addr) (os : List (List Int)), vs = [.ref x, .ref g, .ref l] ∧ H x = some (.ins R dx []) ∧ GridAt K C H g ts ∧ Few ts ∧ SqA K H l (ps.map V.ref) ∧ Opts K H ps os ∧ os.length ≤ 1000 ∧
  (match mkRg ts os with
  | .number n => Thrown N [("n", .int n)] H E
  | .option o => ThrownT K O "option" o H E
  | .pair a b => ThrownP K P "first" "second" a b H E
  | .region us => ∀ H', (∀ b o, H b = some o → b ≠ x → H' b = some o) → RegAt K C R H' x ts us → Q .non H')
structure RTxt (K : PySem.W.Frag) (R : Addr) : Prop where
  cl : Cls K R
  nG : NoAttr K R "grid"
  nO : NoAttr K R "options"
  ha : PySem.W.findIn K (.ref R) "__class__" = some (some (.builtin "object.__class__"))
  hn : PySem.W.specialIn K (.builtin "object.__class__") "__get__" = some (some (.builtin "getset_descriptor.__get__"))
  ht : PySem.W.takesIn K (.builtin "object.__class__") = some true
  hm : PySem.W.mroIn K R (.type "object") = some true
theorem kGO : ¬ (("grid" : Str) = "options") := by decide +kernel
theorem put_go (t p : V) : putF "options" p (putF "grid" t []) = [(("grid" : Str), t), (("options" : Str), p)] := by
  show (if ("grid" : Str) = "options" then [(("grid" : Str), p)] else (("grid" : Str), t) :: putF "options" p []) = _
  rw [if_neg kGO]
  rfl
theorem sqA_ne {K : PySem.W.Frag} {H H' : Hp} {a p : Addr} {xs : List V} {o : HO} (ha : H a = some o) (n1 : ∀ ys, o ≠ .tup ys) (n2 : ∀ ys, o ≠ .lst ys) (n3 : ∀ u z, o ≠ .frz u z) (kp : ∀ b o, H b = some o → b ≠ a → H' b = some o) (h : SqA K H p xs) : SqA K H' p xs :=
  h.imp (sqL_ne ha n2 n3 kp) (sqT_ne ha n1 n3 kp)
theorem GridAt.ne {K : PySem.W.Frag} {C x a D dx : Addr} {H H' : Hp} {ts : List Int} {fs : List (Str × V)} (ha : H a = some (.ins D dx fs)) (nx : x ≠ a) (kp : ∀ b o, H b = some o → b ≠ a → H' b = some o) (g : GridAt K C H x ts) : GridAt K C H' x ts := by
  obtain ⟨dx', t, p, rs, h1, h2, h3, h4⟩ := g
  have tr : ∀ {r : Addr} {xs : List V}, SqT K H r xs → SqT K H' r xs := fun h => sqT_ne ha (fun _ z => nomatch z) (fun _ _ z => nomatch z) kp h
  exact ⟨dx', t, p, rs, kp _ _ h1 nx, tr h2, tr h3, h4.carry fun r xs h => tr h⟩
theorem few_tuple {ts o : List Int} (hF : Few ts) (h : o ∈ below ts) : Few o := ⟨by rw [opt_len h]; exact hF.1, opt_small hF.2 h⟩
theorem below_few {ts : List Int} (hF : Few ts) : (below ts).length ≤ 1000 := by
  have z := below_len hF.2 ts.length
  rw [List.take_length] at z
  have : 10 ^ ts.length ≤ 10 ^ 3 := Nat.pow_le_pow_right (by decide) hF.1
  omega
theorem Each.opts {K : PySem.W.Frag} {H : Hp} : ∀ {rs : List Addr} {os : List (List Int)}, Each K H rs os → Opts K H rs os
  | _, _, .nil => .nil
  | _, _, .cons h t => .cons (.inr h) t.opts
theorem eqv_all : ∀ a b : List (List Int), PyData.eqvAll (a.map dO) (b.map dO) = decide (a = b)
  | [], [] => rfl
  | [], _ :: _ => by simp [PyData.eqvAll]
  | _ :: _, [] => by simp [PyData.eqvAll]
  | x :: a, y :: b => by
    show (PyData.eqv (dO x) (dO y) && PyData.eqvAll (a.map dO) (b.map dO)) = _
    rw [eqv_dO, eqv_all a b, Bool.eq_iff_iff]
    simp
theorem eqv_dOs (a b : List (List Int)) : PyData.eqv (.tuple (a.map dO)) (.tuple (b.map dO)) = decide (a = b) := by
  simp only [PyData.eqv]
  exact eqv_all a b
theorem eqv_dOl (a b : List (List Int)) : PyData.eqv (.list (a.map dO)) (.list (b.map dO)) = decide (a = b) := by
  simp only [PyData.eqv]
  exact eqv_all a b
def spRLen (K : PySem.W.Frag) (C R : Addr) : Sp := fun vs H Q _ => ∃ (x : Addr) (ts : List Int) (os : List (List Int)), vs = [.ref x] ∧ RegAt K C R H x ts os ∧ Q (.int (os.length : Int)) H
def spRHas (K : PySem.W.Frag) (C R : Addr) : Sp := fun vs H Q _ => ∃ (x p : Addr) (ts o : List Int) (os : List (List Int)), vs = [.ref x, .ref p] ∧ RegAt K C R H x ts os ∧ SqA K H p (o.map V.int) ∧ ∀ H', Same H H' → Q (.bl (decide (o ∈ os))) H'
def spREq (K : PySem.W.Frag) (C R : Addr) : Sp := fun vs H Q _ => ∃ (x y : Addr) (ts : List Int) (os : List (List Int)), vs = [.ref x, .ref y] ∧ RegAt K C R H x ts os ∧ ((∃ us vs, RegAt K C R H y us vs ∧ Q (.bl (decide (ts = us) && decide (os = vs))) H) ∨
  (∃ t, TyX K H (.ref y) t ∧ PySem.W.kitOne K t (.ref R) = some false ∧ Q (.bl false) H))
def spWide (K : PySem.W.Frag) (C N O : Addr) : Sp := fun vs H Q _ => ∃ (g p : Addr) (ts : List Int) (rs : List Addr) (os : List (List Int)), vs = [.ref g, .ref p] ∧ GridAt K C H g ts ∧ Few ts ∧ SqT K H p (rs.map V.ref) ∧ Each K H rs os ∧ (∀ o ∈ os, o ∈ below ts) ∧ os ≠ [] ∧ os.length ≤ 16 ∧
  ∀ q rs' H', Same H H' → SqT K H' q (rs'.map V.ref) → Each K H' rs' (widenO ts os) → Q (.ref q) H'
/-- of hull: the grid has at most sixteen options -/
def spHull (K : PySem.W.Frag) (C R N O P : Addr) : Sp := fun vs H Q E => ∃ (g l : Addr) (ts : List Int) (ps : List Addr) (os : List (List Int)), vs = [.ref g, .ref l] ∧ GridAt K C H g ts ∧ Few ts ∧ (below ts).length ≤ 16 ∧ SqA K H l (ps.map V.ref) ∧ Opts K H ps os ∧ os.length ≤ 1000 ∧
  (if os = [] then Thrown N [("n", .int 0)] H E else match badOpt ts os with
  | some o => ThrownT K O "option" o H E
  | none => ∀ us, IsHull ts os us → ∀ r H', Same H H' → RegAt K C R H' r ts us → Q (.ref r) H')
theorem bad_of {ts : List Int} {os : List (List Int)} (h : ∀ o ∈ os, o ∈ below ts) : badOpt ts os = none := by
  induction os with
  | nil => rfl
  | cons x r ih =>
    rw [opt_cons, if_pos (h x List.mem_cons_self)]
    exact ih fun o ho => h o (List.mem_cons_of_mem _ ho)
theorem asc_len {ts : List Int} (os : List (List Int)) : (ascO ts os).length ≤ (below ts).length := List.length_filter_le _ _
theorem pairs_len (os : List (List Int)) : (pairsO os).length = os.length * os.length * 2 := by
  unfold pairsO
  have h : ∀ (us : List (List Int)) (a : List Int), (us.flatMap fun b => [lowO a b, highO a b]).length = us.length * 2 := by
    intro us a
    induction us with
    | nil => rfl
    | cons x r ih => rw [List.flatMap_cons, List.length_append, ih, show (x :: r).length = r.length + 1 from rfl]; show 2 + _ = _; omega
  have g : ∀ us : List (List Int), (us.flatMap fun a => os.flatMap fun b => [lowO a b, highO a b]).length = us.length * (os.length * 2) := by
    intro us
    induction us with
    | nil => simp
    | cons x r ih => rw [List.flatMap_cons, List.length_append, ih, h, List.length_cons, Nat.succ_mul, Nat.add_comm]
  rw [g, Nat.mul_assoc]
end KL

set_option Elab.async false
set_option linter.all false
set_option maxRecDepth 100000
set_option maxHeartbeats 4000000
namespace SX
open PySem PySem.Spec PyProof.Rows L2 NdefX
section
variable {X : Cx} {CX : CXT} {k i : Nat} {f C : Addr} {fd : FuncData} {ps : List Str} {sp : Sp} {E : XK} {x : Str} {e : Expr} {es : List Expr} {t : TA} {p pos : Pos} {ds : List Value} {dvs : List V}
/-- x(e, ..), the local x holds the class C -/
def tMakeL (i : Nat) (C : Addr) (sp : Sp) (dvs : List V) (E : XK) (t : TA) : TE := fun σ H Q => σ[i]? = some (some (.ref C)) ∧ tMake C sp dvs E t σ H Q
theorem pe_makeL (M : Mk X.K C f) (F : FnOk X.prog X.w X.K X.mg X.base CX k f fd ps sp) (hr : Room (k + 1) X.A) (hN : X.N[i]? = some x) (hv : Vis X.env.scope x) (hb : Binds X.K fd ps ds) (hd : Vals dvs ds) (hx : Passes CX X E) (ha : PA X (e :: es) t)
    (hdb : (x == ("__debug__" : Str)) = false := by decide) (hcd : (x == ("__classdict__" : Str)) = false := by decide) (he : starEach (e :: es) X.env = (false, eval e X.env) :: starEach es X.env := by rfl)
    (hpl : (backTo pos (starEach es X.env)).any (·.1) = false := by rfl) : PE X (.Call (.Name x p) (e :: es) [] pos) (tMakeL i C sp dvs E t) := by
  refine ⟨fun pins s σ H Q I ⟨hs, h⟩ => ?_⟩
  refine wpAny_Call_Name_kw (thn ((pe_var (pos := p) hN hv hdb hcd).run pins s σ H (fun v H1 => v = .ref C ∧ H1 = H) I ⟨.ref C, hs, rfl, rfl⟩) fun u s1 ⟨v, H1, I1, r1, e1, e2⟩ => ?_)
  subst e1 e2
  obtain rfl : u = Value.ref C := r1
  refine PySem.W.callWith_K (h₀ := X.base) I.ok.mod.kin M.kp (thn (ha.run pos pins s1 σ _ _ I1 h) fun us s2 ⟨vs, H2, I2, r, q⟩ => ⟨I2.kIn, ?_⟩) he hpl
  exact run_make M F hr hb hd hx I2 r q
end
end SX
namespace KL
open PySem PySem.Spec PyProof.Rows L2 NdefX SX
abbrev semi : Str := PySem.Str.ofString "; "
def levelsOf (p : Str) : List Int := (Txt.split p blank).map digOf
def badPart : List Str → Nat → Option Nat
  | [], _ => none
  | p :: r, i => if badFrom (Txt.split p blank) 0 = none then badPart r (i + 1) else some i
theorem part_cons (p : Str) (r : List Str) (i : Nat) : badPart (p :: r) i = if badFrom (Txt.split p blank) 0 = none then badPart r (i + 1) else some i := rfl
inductive Rr where
  | text (i : Nat)
  | number (n : Int)
  | rg (ts : List Int) (r : Rg)
def readR (z : Str) : Rr := match badPart (Txt.split z semi) 0 with
  | some i => .text i
  | none => match chk (levelsOf ((Txt.split z semi).headD ⟨#[]⟩)) with
    | some n => .number n
    | none => .rg (levelsOf ((Txt.split z semi).headD ⟨#[]⟩)) (mkRg (levelsOf ((Txt.split z semi).headD ⟨#[]⟩)) (((Txt.split z semi).drop 1).map levelsOf))
def spRRead (K : PySem.W.Frag) (C R N O B T : Addr) : Sp := fun vs H Q E => ∃ z : Str, vs = [.ref R, .str z] ∧ z.length ≤ 100000 ∧ (Txt.split z semi).length ≤ 1000 ∧ (match readR z with
  | .text i => Thrown T [("at", .int i)] H E
  | .number n => Thrown N [("n", .int n)] H E
  | .rg ts r => RgEnd K C R N O B ts H Q E r)
def textR (ts : List Int) (os : List (List Int)) : Str := Txt.join semi ((ts :: os).map textOf)
def spRStr (K : PySem.W.Frag) (C R : Addr) : Sp := fun vs H Q _ => ∃ (x : Addr) (ts : List Int) (os : List (List Int)), vs = [.ref x] ∧ RegAt K C R H x ts os ∧ Few ts ∧ os.length ≤ 1000 ∧ (∀ o ∈ os, Few o) ∧ ∀ H', Same H H' → Q (.str (textR ts os)) H'
theorem Opts.app {K : PySem.W.Frag} {H : Hp} : ∀ {rs rs' : List Addr} {os os' : List (List Int)}, Opts K H rs os → Opts K H rs' os' → Opts K H (rs ++ rs') (os ++ os')
  | _, _, _, _, .nil, e => e
  | _, _, _, _, .cons h t, e => .cons h (t.app e)
theorem Opts.carry {K : PySem.W.Frag} {H H' : Hp} : ∀ {rs : List Addr} {os : List (List Int)}, Opts K H rs os → (∀ r ∈ rs, ∀ xs, SqA K H r xs → SqA K H' r xs) → Opts K H' rs os
  | _, _, .nil, _ => .nil
  | _, _, .cons h t, c => .cons (c _ List.mem_cons_self _ h) (t.carry fun r hr => c r (List.mem_cons_of_mem _ hr))
end KL

set_option Elab.async false
set_option linter.all false
set_option maxRecDepth 100000
set_option maxHeartbeats 4000000
namespace KL
open PySem PySem.Spec PyProof.Rows L2 NdefX SX
/-! what the text of a region comes to, as a law writes it down -/
def resRd : Rr → PyData
  | .text i => .list [.str "text", .int (i : Int)]
  | .number n => .list [.str "number", .int n]
  | .rg _ (.number n) => .list [.str "number", .int n]
  | .rg _ (.option o) => .list [.str "option", dO o]
  | .rg _ (.pair a b) => .list [.str "pair", dO a, dO b]
  | .rg ts (.region us) => .list [.str "options", dO ts, .list (us.map dO)]
theorem shaped_all {ds : List PyData} (h : ∀ d ∈ ds, PyData.canLay0 d = true ∧ PyData.depth d ≤ 3) : SeqAt.shaped (.list ds) = true := by
  have h1 : PyData.canLayAll0 ds = true := by
    induction ds with
    | nil => rfl
    | cons x r ih =>
      show (PyData.canLay0 x && PyData.canLayAll0 r) = true
      rw [(h x List.mem_cons_self).1, ih fun d hd => h d (List.mem_cons_of_mem _ hd)]
      rfl
  have h2 : PyData.depthAll ds ≤ 3 := by
    clear h1
    induction ds with
    | nil => exact Nat.zero_le _
    | cons x r ih =>
      show max (PyData.depth x) (PyData.depthAll r) ≤ 3
      have a := (h x List.mem_cons_self).2
      have b := ih fun d hd => h d (List.mem_cons_of_mem _ hd)
      omega
  unfold SeqAt.shaped
  rw [show PyData.canLay0 (.list ds) = PyData.canLayAll0 ds from rfl, h1, show PyData.depth (.list ds) = PyData.depthAll ds + 1 from rfl]
  simp
  omega
theorem ok_dO (o : List Int) : PyData.canLay0 (dO o) = true ∧ PyData.depth (dO o) ≤ 3 := by
  refine ⟨?_, ?_⟩
  · show PyData.canLayAll0 (o.map PyData.int) = true
    exact layInts o
  · show PyData.depthAll (o.map PyData.int) + 1 ≤ 3
    rw [depInts]
    decide
theorem shapedRd : ∀ r : Rr, SeqAt.shaped (resRd r) = true := by
  have hs : ∀ x : Str, (x = "text" ∨ x = "number" ∨ x = "option" ∨ x = "pair" ∨ x = "options") → PyData.canLay0 (.str x) = true ∧ PyData.depth (.str x) ≤ 3 := fun x h => ⟨by rcases h with rfl | rfl | rfl | rfl | rfl <;> decide +kernel, by show 0 ≤ 3; decide⟩
  have hi : ∀ x : Int, PyData.canLay0 (.int x) = true ∧ PyData.depth (.int x) ≤ 3 := fun x => ⟨rfl, by show 0 ≤ 3; decide⟩
  have two : ∀ a b : PyData, (PyData.canLay0 a = true ∧ PyData.depth a ≤ 3) → (PyData.canLay0 b = true ∧ PyData.depth b ≤ 3) → ∀ d ∈ [a, b], PyData.canLay0 d = true ∧ PyData.depth d ≤ 3 := fun a b ha hb d hd => by
    rcases List.mem_cons.mp hd with rfl | hd
    · exact ha
    · rw [List.mem_singleton.mp hd]
      exact hb
  have three : ∀ a b c : PyData, (PyData.canLay0 a = true ∧ PyData.depth a ≤ 3) → (PyData.canLay0 b = true ∧ PyData.depth b ≤ 3) → (PyData.canLay0 c = true ∧ PyData.depth c ≤ 3) → ∀ d ∈ [a, b, c], PyData.canLay0 d = true ∧ PyData.depth d ≤ 3 := fun a b c ha hb hc d hd => by
    rcases List.mem_cons.mp hd with rfl | hd
    · exact ha
    · exact two b c hb hc d hd
  intro r
  match r with
  | .text i => exact shaped_all (two _ _ (hs _ (by simp)) (hi _))
  | .number n => exact shaped_all (two _ _ (hs _ (by simp)) (hi _))
  | .rg _ (.number n) => exact shaped_all (two _ _ (hs _ (by simp)) (hi _))
  | .rg _ (.option o) => exact shaped_all (two _ _ (hs _ (by simp)) (ok_dO o))
  | .rg _ (.pair a b) => exact shaped_all (three _ _ _ (hs _ (by simp)) (ok_dO a) (ok_dO b))
  | .rg ts (.region us) =>
    refine shaped_all (three _ _ _ (hs _ (by simp)) (ok_dO ts) ⟨lay_dO us, ?_⟩)
    show PyData.depthAll (us.map dO) + 1 ≤ 3
    have := dep_dO us
    omega
/-- lists of texts stand at these places -/
inductive EachS (H : Hp) : List Addr → List (List Str) → Prop
  | nil : EachS H [] []
  | cons {r : Addr} {ws : List Str} {rs : List Addr} {wss : List (List Str)} : H r = some (.lst (ws.map V.str)) → EachS H rs wss → EachS H (r :: rs) (ws :: wss)
theorem EachS.carry {H H' : Hp} : ∀ {rs : List Addr} {wss : List (List Str)}, EachS H rs wss → (∀ r ∈ rs, ∀ o, H r = some o → H' r = some o) → EachS H' rs wss
  | _, _, .nil, _ => .nil
  | _, _, .cons h t, c => .cons (c _ List.mem_cons_self _ h) (t.carry fun r hr => c r (List.mem_cons_of_mem _ hr))
theorem EachS.same {H H' : Hp} (s : Same H H') {rs : List Addr} {wss : List (List Str)} (e : EachS H rs wss) : EachS H' rs wss := e.carry fun _ _ _ h => s _ _ h
theorem EachS.app {H : Hp} : ∀ {rs rs' : List Addr} {os os' : List (List Str)}, EachS H rs os → EachS H rs' os' → EachS H (rs ++ rs') (os ++ os')
  | _, _, _, _, .nil, e => e
  | _, _, _, _, .cons h t, e => .cons h (t.app e)
theorem EachS.get {H : Hp} : ∀ {rs : List Addr} {os : List (List Str)} {i : Nat} {r : Addr}, EachS H rs os → rs[i]? = some r → ∃ o, os[i]? = some o ∧ H r = some (.lst (o.map V.str))
  | _, _, 0, _, .cons h _, e => by
    cases e
    exact ⟨_, rfl, h⟩
  | _, _, i + 1, _, .cons _ t, e => t.get (i := i) e
theorem EachS.len {H : Hp} : ∀ {rs : List Addr} {os : List (List Str)}, EachS H rs os → rs.length = os.length
  | _, _, .nil => rfl
  | _, _, .cons _ t => by rw [List.length_cons, List.length_cons, t.len]
/-! what the text comes to, step by step -/
theorem part_text {ps : List Str} : ∀ {k : Nat} {i : Nat} {p : Str}, (∀ j q, j < k → ps[j]? = some q → badFrom (Txt.split q blank) 0 = none) → ps[k]? = some p → badFrom (Txt.split p blank) 0 ≠ none → badPart ps i = some (i + k) := by
  induction ps with
  | nil => intro k i p _ h; cases h
  | cons x r ih =>
    intro k i p hg hp hb
    cases k with
    | zero =>
      cases hp
      rw [part_cons, if_neg hb]
      rfl
    | succ k =>
      rw [part_cons, if_pos (hg 0 x (Nat.succ_pos _) rfl), ih (k := k) (i := i + 1) (fun j q hj hq => hg (j + 1) q (by omega) hq) hp hb]
      congr 1
      omega
theorem part_none {ps : List Str} : ∀ {i : Nat}, (∀ p ∈ ps, badFrom (Txt.split p blank) 0 = none) → badPart ps i = none := by
  induction ps with
  | nil => intro i _; rfl
  | cons x r ih =>
    intro i h
    rw [part_cons, if_pos (h x List.mem_cons_self)]
    exact ih fun p hp => h p (List.mem_cons_of_mem _ hp)
theorem bad_filter : ∀ (ws : List Str) (i : Nat), badFrom ws i = none ↔ ws.filter (fun w => !inV (.str w) digVs) = []
  | [], _ => ⟨fun _ => rfl, fun _ => rfl⟩
  | w :: r, i => by
    rw [bad_cons, List.filter_cons]
    cases e : inV (.str w) digVs with
    | true => simpa using bad_filter r (i + 1)
    | false => simp
theorem readR_good {z p : Str} {rest : List Str} (e : Txt.split z semi = p :: rest) (h : ∀ q ∈ Txt.split z semi, badFrom (Txt.split q blank) 0 = none) :
    readR z = match chk (levelsOf p) with | some n => .number n | none => .rg (levelsOf p) (mkRg (levelsOf p) (rest.map levelsOf)) := by
  unfold readR
  rw [part_none h, e]
  rfl
theorem readR_text {z : Str} {i : Nat} (h : badPart (Txt.split z semi) 0 = some i) : readR z = .text i := by
  unfold readR
  rw [h]
theorem bad_opt {ts : List Int} : ∀ {os : List (List Int)}, badOpt ts os = (os.filter fun o => !decide (o ∈ below ts)).head? := by
  intro os
  induction os with
  | nil => rfl
  | cons o r ih =>
    rw [opt_cons, List.filter_cons]
    by_cases h : o ∈ below ts
    · rw [if_pos h, decide_eq_true h, ih]
      rfl
    · rw [if_neg h, decide_eq_false h]
      rfl
theorem ext_foldl : ∀ (ts : List Int) (os : List (List Int)) (c : Int), (∀ t ∈ ts, 0 ≤ t) → (os.length : Int) = c → ((ts.foldl ext os).length : Int) = ts.foldl (fun c t => c * (t + 1)) c
  | [], _, _, _, h => h
  | t :: r, os, c, h, e => by
    have ht := h t List.mem_cons_self
    refine ext_foldl r (ext os t) (c * (t + 1)) (fun x hx => h x (List.mem_cons_of_mem _ hx)) ?_
    rw [ext_len, ← e, Int.natCast_mul, Int.toNat_of_nonneg (by omega)]
theorem below_cnt {ts : List Int} (h : ∀ t ∈ ts, 0 ≤ t) : ((below ts).length : Int) = cnt ts := ext_foldl ts [[]] 1 h rfl
theorem digits_fit {ws : List Str} (h : badFrom ws 0 = none) : ∀ t ∈ ws.map digOf, 0 ≤ t ∧ t ≤ 9 := by
  intro t ht
  obtain ⟨w, hw, rfl⟩ := List.mem_map.mp ht
  exact (dig_ok (all_dig h w hw)).2.2
theorem top_none {ts : List Int} (h : ∀ t ∈ ts, 0 ≤ t ∧ t ≤ 9) : badTop ts = none := by
  induction ts with
  | nil => rfl
  | cons x r ih =>
    rw [top_cons, if_pos (h x List.mem_cons_self)]
    exact ih fun t ht => h t (List.mem_cons_of_mem _ ht)
theorem chk_long {ts : List Int} (hl : 3 < ts.length) : chk ts = some (ts.length : Int) := chk_len (by omega)
theorem chk_rest {ts : List Int} (h1 : 1 ≤ ts.length) (h3 : ts.length ≤ 3) (hf : ∀ t ∈ ts, 0 ≤ t ∧ t ≤ 9) : chk ts = if 16 < ((below ts).length : Int) then some ((below ts).length : Int) else none := by
  rw [chk_cnt ⟨h1, h3⟩ (top_none hf), below_cnt fun t ht => (hf t ht).1]
abbrev tenDigits : Str := "0123456789"
theorem ten_cps : tenDigits.cps.toList = [48, 49, 50, 51, 52, 53, 54, 55, 56, 57] := by decide +kernel
theorem one_dig {w : Str} (h : inV (.str w) digVs = true) : ∃ c, w = ⟨#[c]⟩ ∧ c ∈ tenDigits.cps.toList := by
  have hw : w = "0" ∨ w = "1" ∨ w = "2" ∨ w = "3" ∨ w = "4" ∨ w = "5" ∨ w = "6" ∨ w = "7" ∨ w = "8" ∨ w = "9" := by
    simp only [inV, digVs, List.map_cons, List.map_nil, List.any_cons, List.any_nil, eqV, Bool.or_false, Bool.or_eq_true, beq_iff_eq] at h
    rcases h with h | h | h | h | h | h | h | h | h | h <;> simp [h.symm]
  rw [ten_cps]
  rcases hw with rfl | rfl | rfl | rfl | rfl | rfl | rfl | rfl | rfl | rfl
  · exact ⟨48, by decide +kernel, by decide⟩
  · exact ⟨49, by decide +kernel, by decide⟩
  · exact ⟨50, by decide +kernel, by decide⟩
  · exact ⟨51, by decide +kernel, by decide⟩
  · exact ⟨52, by decide +kernel, by decide⟩
  · exact ⟨53, by decide +kernel, by decide⟩
  · exact ⟨54, by decide +kernel, by decide⟩
  · exact ⟨55, by decide +kernel, by decide⟩
  · exact ⟨56, by decide +kernel, by decide⟩
  · exact ⟨57, by decide +kernel, by decide⟩
theorem dig_of {c : Nat} (h : c ∈ tenDigits.cps.toList) : inV (.str ⟨#[c]⟩) digVs = true := by
  rw [ten_cps] at h
  simp only [List.mem_cons, List.not_mem_nil, or_false] at h
  rcases h with rfl | rfl | rfl | rfl | rfl | rfl | rfl | rfl | rfl | rfl <;> decide +kernel
theorem len_one {w : Str} (h : w.length = 1) : ∃ c, w = ⟨#[c]⟩ := by
  obtain ⟨cps⟩ := w
  obtain ⟨l⟩ := cps
  match l, h with
  | [c], _ => exact ⟨c, rfl⟩
end KL

set_option Elab.async false
set_option linter.all false
set_option maxRecDepth 100000
set_option maxHeartbeats 4000000
/-! a != b and a & b by a class's own __eq__ and __and__ -/
namespace SX
open PySem PySem.Spec PyProof.Rows L2 NdefX
section
variable {prog : Program} {w : World} {A : Around} {E : Value → Shared → Prop} {s : Shared} {K : PySem.W.Frag} {x C L f : Addr} {h₀ : Heap} {m : Str → Option Value} {ox : Obj} {od : Option Obj} {b tb : Value}
theorem bound_ne {M : Model} {args : List Value} {Q : Option Value → Shared → Prop} (X : K.In s.heap) (I : PySem.W.InstAt s.heap x ox C od) (hN : PySem.W.findIn K (.ref C) "__ne__" = some (some (.builtin "object.__ne__")))
    (h : wpAny M A (call (.builtin "object.__ne__") (.ref x :: args)) (fun v => Q (some v)) E s) : wpAny M A (callSpecialIfBound? (.ref x) "__ne__" args) Q E s := by
  simp only [callSpecialIfBound?, bindSpecialIfBound?]
  refine wpAny_holding (wpAny_bind (wpAny_bind (wpAny_bind (I.type.here ((PySem.W.looks_findIn X hN).here ?_)))))
  simp only [PySem.F.cmp_object.ne.bind]
  refine wpAny_bind (wpAny_askSetting (wpAny_ite ?_))
  have fin : wpAny M A (call (.builtin "object.__ne__") ([.ref x] ++ args) >>= fun v => pure (some v)) Q E s :=
    wpAny_bind (wpAny_mono h (fun v s' h' => wpAny_pure h') fun _ _ h' => h')
  split
  · exact wpAny_bind (wpAny_pure (wpAny_pure fin))
  · exact wpAny_tryCatch (wpAny_bind (wpAny_pure (wpAny_pure fin)))
theorem check_ne {M : Model} {rest : List Value} {Q : Unit → Shared → Prop} (X : K.In s.heap) (I : PySem.W.InstAt s.heap x ox C od) (hO : PySem.W.mroIn K C (.type "object") = some true)
    (ha : argsOk "object.__ne__" ⟨.ref x :: rest, []⟩) (hq : Q () s) : wpAny M A (checkBuiltinCall "object.__ne__" ⟨.ref x :: rest, []⟩) Q E s := by
  simp only [checkBuiltinCall, PySem.F.cmpKind_ne, PySem.F.cmpSplit_ne]
  refine wpAny_bind ?_
  unfold isInstance
  refine wpAny_bind (I.type.here ((PySem.W.looks_mroIn X hO).here ?_))
  cases hsig : Manifest.signature? "object.__ne__" with
  | none => exact wpAny_pure hq
  | some sig =>
    simp only [argsOk, hsig] at ha
    have h2 : Bind.checkArgs "object.__ne__" sig ⟨.ref x :: rest, []⟩ = pure () := ha
    show wpAny M A (Bind.checkArgs "object.__ne__" sig ⟨.ref x :: rest, []⟩) Q E _
    rw [h2]; exact wpAny_pure hq
theorem body_ne {Q : Fin → Shared → Prop} (hu : A.units < cLine) (X : K.In s.heap) (I : PySem.W.InstAt s.heap x ox C od) (hs : PySem.W.findIn K (.ref C) "__eq__" = some (some (.ref f))) (hf : PySem.W.isFn K (.ref f) = true)
    (h : wpAny (model prog w) A (call (.ref f) [.ref x, b]) (fun v s' => ∃ c, v = .bool c ∧ Q (.done (.ret (.bool (!c)))) s') E s) : wpAny (model prog w) A (Builtin.«object.__ne__» ⟨[.ref x, b], []⟩) Q E s := by
  unfold Builtin.«object.__ne__»
  repeat (first
    | with_reducible refine wpAny_cRoomFor hu ?_
    | (refine wpAny_bind (m := callSpecialIfBound? (.ref x) (Str.ofString "__eq__") [b])
        (PySem.W.ifBound_K X I hs hf (wpAny_mono h (fun r s' hr => by
          obtain ⟨c, rfl, hq⟩ := hr
          repeat (first | exact hq | exact wpAny_pure hq | exact wpAny_truthy_bool hq | (refine wpAny_bind (m := truthy (.bool _)) (wpAny_truthy_bool ?_)) | wp_step)) fun _ _ e => e)))
    | wp_step)
theorem ne_own {Q : Value → Shared → Prop} (hu : A.units + 1 < cLine) (F0 : PyProof.Rows.Fr h₀ L s.heap m) (X₀ : K.In h₀) (I : PySem.W.InstAt s.heap x ox C od) (hb : PySem.W.Looks (model prog w) s.heap (typeOf b) tb) (hn : PySem.W.notFirst K C tb = true)
    (hN : PySem.W.findIn K (.ref C) "__ne__" = some (some (.builtin "object.__ne__"))) (hO : PySem.W.mroIn K C (.type "object") = some true)
    (hs : PySem.W.findIn K (.ref C) "__eq__" = some (some (.ref f))) (hf : PySem.W.isFn K (.ref f) = true)
    (h : wpAny (model prog w) A.in1 (call (.ref f) [.ref x, b]) (fun v s' => ∃ c, v = .bool c ∧ Q (.bool (!c)) s') E s) : wpAny (model prog w) A (richCompare .NotEq (.ref x) b) Q E s := by
  have X := X₀.keeps F0.keep
  have one : wpAny (model prog w) A (tryCompare (.ref x) "__ne__" b) (fun r s' => ∃ v, r = some v ∧ Q v s') E s := by
    unfold tryCompare
    refine wpAny_bind (bound_ne X I hN (wpAny_call (codeAny_call_builtin PySem.F.cmp_object.ne.plain PySem.F.cmpEntry_ne (check_ne X I hO (PySem.F.cmpArgs_ne _ _)
      (body_ne (A := A.in1) hu X I hs hf (wpAny_mono h (fun v s' hv => ?_) fun _ _ e => e))))))
    obtain ⟨c, rfl, hq⟩ := hv
    first | exact ⟨c, rfl, wpAny_pure ⟨_, rfl, hq⟩⟩ | exact ⟨c, rfl, ⟨_, rfl, hq⟩⟩
  unfold richCompare
  simp only [oneThing_ref]
  refine wpAny_holding (wpAny_bind (wpAny_cRoomFor (Nat.lt_of_succ_lt hu) ?_))
  refine wpAny_bind (I.type.here (wpAny_bind (hb.here ?_)))
  rw [cmpInfo_NotEq]
  dsimp only
  split
  · rename_i q
    have e : PySem.W.subIn K tb (.ref C) = some false := by
      rcases Bool.or_eq_true_iff.mp hn with e | e
      · rw [beq_iff_eq.mp e] at q; simp at q
      · exact beq_iff_eq.mp e
    refine wpAny_bind ((PySem.W.looks_subIn X e).here ?_)
    simp only [Bool.false_eq_true, if_false]
    refine wpAny_bind (wpAny_mono one (fun r s' z => ?_) fun _ _ e => e)
    obtain ⟨v, rfl, hq⟩ := z
    exact wpAny_pure hq
  · refine wpAny_bind (wpAny_pure ?_)
    simp only [Bool.false_eq_true, if_false]
    refine wpAny_bind (wpAny_mono one (fun r s' z => ?_) fun _ _ e => e)
    obtain ⟨v, rfl, hq⟩ := z
    exact wpAny_pure hq
end
section
variable {X : Cx} {C f : Addr} {CX : CXT} {k : Nat} {fd : FuncData} {ps : List Str} {sp : Sp} {E : XK}
theorem op_neO (D : Dun X.K C "__eq__" f) (hN : PySem.W.findIn X.K (.ref C) "__ne__" = some (some (.builtin "object.__ne__"))) (hO : PySem.W.mroIn X.K C (.type "object") = some true)
    (F : FnOk X.prog X.w X.K X.mg X.base CX k f fd ps sp) (hb : Binds X.K fd ps []) (hx : Passes CX X E) (hr : Room (k + 1) X.A) : OpR X (compareOp .NotEq) (fun x y H Q => rEqO X.K C sp E x y H (fun v H' => ∃ b, v = .bl b ∧ Q (.bl (!b)) H')) := by
  intro pins s σ H x y v u Q I rx ry ⟨a, dx, fs, e, ha, ho, q⟩
  subst e
  obtain rfl : v = Value.ref a := rx
  obtain ⟨ox, od, J⟩ := inst_of I ha
  obtain ⟨m, hF⟩ := I.fr
  have run := run_sub (A := X.A.in1) (vs := [.ref a, y]) (us := [.ref a, u]) F hb hx ⟨hr.in1, rfl⟩ I (.cons rfl (.cons ry .nil)) q
  have back : wpAny (model X.prog X.w) X.A.in1 (call (.ref f) [.ref a, u]) (fun v s' => ∃ c, v = .bool c ∧ EP X pins σ Q (.bool (!c)) s') X.xe s := by
    refine wpAny_mono run (fun w s' h => ?_) fun _ _ x => x
    obtain ⟨y, H', I', ry, b, rfl, b', e', q'⟩ := h
    cases e'
    obtain rfl : w = Value.bool b := ry
    exact ⟨b, rfl, .bl (!b), H', I', rfl, q'⟩
  show wpAny (model X.prog X.w) X.A (richCompare .NotEq (.ref a) u) (EP X pins σ Q) X.xe s
  rcases ho with ⟨b, dx', fs', rfl, hb'⟩ | ⟨b, xs, rfl, hT, hn⟩
  · obtain rfl : u = Value.ref b := ry
    obtain ⟨ox', od', J'⟩ := inst_of I hb'
    exact ne_own (tb := .ref C) (by have := hr.units; omega) hF I.ok.mod.kin J J'.type (by simp [PySem.W.notFirst]) hN hO D.at_ D.fn back
  · obtain rfl : u = Value.ref b := ry
    obtain ⟨its, _, ⟨o, ho, hc, _⟩, _⟩ := I.tuple hT
    refine ne_own (tb := .type "tuple") (by have := hr.units; omega) hF I.ok.mod.kin J (fun A Q E s' k q => wpAny_typeOf (T := "tuple") ⟨o, k _ _ ho, hc⟩ q) ?_ hN hO D.at_ D.fn back
    unfold PySem.W.notFirst
    rw [hn]
    rfl
/-- a & b and the like, both of one own class -/
def rBinO (C : Addr) (sp : Sp) (E : XK) : R2 := fun x y H Q => ∃ (a b dx dx' : Addr) (fs fs' : List (Str × V)), x = .ref a ∧ y = .ref b ∧ H a = some (.ins C dx fs) ∧ H b = some (.ins C dx' fs') ∧ sp [.ref a, .ref b] H (fun v H' => (∃ z, v = .ref z) ∧ Q v H') E
theorem op_binO {op : Operator} (hc : PySem.W.selfFirst X.K C = true) (D : Dun X.K C (PySem.dunder op.info.2) f) (F : FnOk X.prog X.w X.K X.mg X.base CX k f fd ps sp) (hb : Binds X.K fd ps []) (hx : Passes CX X E) (hr : Room k X.A) : OpR X (binaryOp op) (rBinO C sp E) := by
  intro pins s σ H x y v u Q I rx ry ⟨a, b, dx, dx', fs, fs', e, e', ha, hb', q⟩
  subst e
  subst e'
  obtain rfl : v = Value.ref a := rx
  obtain rfl : u = Value.ref b := ry
  obtain ⟨ox, od, J⟩ := inst_of I ha
  obtain ⟨ox', od', J'⟩ := inst_of I hb'
  obtain ⟨m, hF⟩ := I.fr
  refine PySem.W.binop_K hF I.ok.mod.kin J J'.type hc D.at_ D.fn (wpAny_mono (run_sub (vs := [.ref a, .ref b]) F hb hx ⟨hr, rfl⟩ I (.cons rfl (.cons rfl .nil)) q) (fun w s' h => ?_) fun _ _ x => x)
  obtain ⟨y, H', I', ry, ⟨z, rfl⟩, q'⟩ := h
  obtain rfl : w = Value.ref z := ry
  exact ⟨.ref z, H', I', rfl, q'⟩
end
end SX

set_option Elab.async false
set_option linter.all false
set_option maxRecDepth 100000
set_option maxHeartbeats 4000000
/-! comprehensions over rows, once for all -/
namespace KL
open PySem PySem.Spec PyProof.Rows L2 NdefX SX
theorem at_refX {rs : List Addr} {i : Nat} {v : V} (h : (rs.map V.ref)[i]? = some v) : ∃ r, v = .ref r ∧ rs[i]? = some r := by
  rw [List.getElem?_map] at h
  cases e : rs[i]? with
  | none => rw [e] at h; cases h
  | some r => rw [e] at h; cases h; exact ⟨r, rfl, rfl⟩
/-- [f(o) for o in rows if p(o)] -/
theorem lc_gen {K : PySem.W.Frag} {ka : Bool} {a : Addr} {rs : List Addr} {os : List (List Int)} {R : Hp → Addr → List Int → Prop} {p : List Int → Bool} {fo : List Int → List Int} {te : TE} {tt : TT} {j : Nat} {vs : List Nat} {σ : L2.St} {H1 : Hp} {D : Addr} {Qd : Hp → Prop}
    (ha : SqB K ka H1 a (rs.map V.ref)) (hlen : rs.length = os.length) (hat : ∀ (i : Nat) (r : Addr), rs[i]? = some r → ∃ o, os[i]? = some o ∧ ∀ H', Same H1 H' → R H' r o) (hz : os.length ≤ 100000) (nD : H1 D = none)
    (hw : ∀ r : Addr, wipe ((wipe σ vs).set j (some (.ref r))) vs = wipe σ vs)
    (ht : ∀ (r : Addr) (o : List Int) (H' : Hp) (Q : Bool → Hp → Prop), o ∈ os → Same H1 H' → R H' r o → (∀ H2, Same H' H2 → Q (p o) H2) → tt ((wipe σ vs).set j (some (.ref r))) H' Q)
    (he : ∀ (r : Addr) (o : List Int) (H' : Hp) (Q : VK), o ∈ os → p o = true → Same H1 H' → R H' r o → (∀ q H2, Same H' H2 → SqT K H2 q ((fo o).map V.int) → Q (.ref q) H2) → te ((wipe σ vs).set j (some (.ref r))) H' Q)
    (done : ∀ (rs' : List Addr) H', Same H1 H' → H' D = some (.lst (rs'.map V.ref)) → Each K H' rs' ((os.filter p).map fo) → Qd H') :
    ∃ W : Nat → Nat → Hp → Prop, (∃ m, W 0 m (upd H1 D (.lst []))) ∧ ∀ k m H, W k m H →
      ((ItA K ka a).stop k H ∧ Qd H) ∨ ((ItA K ka a).go k H ∧ ∃ Nx : Hp → Prop, (∀ H', Nx H' → ∃ m', m' < m ∧ W (k + 1) m' H') ∧ ∀ x H', (ItA K ka a).yld k H x H' → gName j x (wipe σ vs) H' fun σ2 H2 => wipe σ2 vs = wipe σ vs ∧ tt σ2 H2 fun b H3 =>
        if b = true then te σ2 H3 fun y H4 => ∃ acc, H4 D = some (.lst acc) ∧ acc.length < sizeLine ∧ Nx (upd H4 D (.lst (acc ++ [y]))) else Nx H3) := by
  refine lc_it (walk_any (K := K) (p := ka) (a := a) (xs := rs.map V.ref)) (fun i H' => Same H1 H' ∧ ∃ rs', H' D = some (.lst (rs'.map V.ref)) ∧ Each K H' rs' (((os.take i).filter p).map fo)) ⟨same_upd nD, [], upd_same, .nil⟩ (fun i H' _ ⟨s, _⟩ => ha.same s) ?_ ?_
  · rintro i y H2 H' hi ⟨s2, rs', gD, hE2⟩ ⟨rfl, hy⟩
    obtain ⟨r, rfl, hr⟩ := at_refX hy
    obtain ⟨o, ho, hR⟩ := hat i r hr
    have hm := List.mem_of_getElem? ho
    have hl : rs'.length ≤ os.length := by
      rw [hE2.len, List.length_map]
      exact Nat.le_trans (List.length_filter_le _ _) (by rw [List.length_take]; exact Nat.min_le_right _ _)
    refine ⟨hw r, ht r o _ _ hm s2 (hR _ s2) fun H3 s3 => ?_⟩
    rw [List.take_add_one, ho, List.filter_append, List.map_append]
    by_cases hp : p o = true
    · rw [if_pos hp]
      refine he r o _ _ hm hp (s2.trans s3) (hR _ (s2.trans s3)) fun q H4 s4 hq => ⟨_, s4 _ _ (s3 _ _ gD), ?_, fun b u e => ?_, rs' ++ [q], ?_, ?_⟩
      · rw [List.length_map, sizeLine_eq]
        omega
      · rw [upd_ne (ne_of_none e nD)]
        exact s4 _ _ (s3 _ _ (s2 _ _ e))
      · rw [upd_same, List.map_append]
        rfl
      · rw [show (((some o).toList.filter p).map fo) = [fo o] by simp [hp]]
        exact ((hE2.same (s3.trans s4)).app (.cons hq .nil)).upd (s4 _ _ (s3 _ _ gD))
    · rw [if_neg hp, show (((some o).toList.filter p).map fo) = [] by simp [hp], List.append_nil]
      exact ⟨s2.trans s3, rs', s3 _ _ gD, hE2.same s3⟩
  · rintro H2 ⟨s2, rs', gD, hE2⟩
    rw [List.length_map, hlen, List.take_length] at hE2
    exact done rs' H2 s2 gD hE2
/-- [o for o in rows if p(o)], rows of tuples -/
theorem lc_filt {K : PySem.W.Frag} {ka : Bool} {a : Addr} {rs : List Addr} {os : List (List Int)} {p : List Int → Bool} {tt : TT} {j : Nat} {vs : List Nat} {σ : L2.St} {H1 : Hp} {D : Addr} {Qd : Hp → Prop}
    (ha : SqB K ka H1 a (rs.map V.ref)) (hE : Each K H1 rs os) (hz : os.length ≤ 100000) (nD : H1 D = none)
    (hw : ∀ r : Addr, wipe ((wipe σ vs).set j (some (.ref r))) vs = wipe σ vs) (hj : ∀ r : Addr, ((wipe σ vs).set j (some (.ref r)))[j]? = some (some (.ref r)))
    (ht : ∀ (r : Addr) (o : List Int) (H' : Hp) (Q : Bool → Hp → Prop), o ∈ os → Same H1 H' → SqT K H' r (o.map V.int) → (∀ H2, Same H' H2 → Q (p o) H2) → tt ((wipe σ vs).set j (some (.ref r))) H' Q)
    (done : ∀ (rs' : List Addr) H', Same H1 H' → H' D = some (.lst (rs'.map V.ref)) → Each K H' rs' (os.filter p) → Qd H') :
    ∃ W : Nat → Nat → Hp → Prop, (∃ m, W 0 m (upd H1 D (.lst []))) ∧ ∀ k m H, W k m H →
      ((ItA K ka a).stop k H ∧ Qd H) ∨ ((ItA K ka a).go k H ∧ ∃ Nx : Hp → Prop, (∀ H', Nx H' → ∃ m', m' < m ∧ W (k + 1) m' H') ∧ ∀ x H', (ItA K ka a).yld k H x H' → gName j x (wipe σ vs) H' fun σ2 H2 => wipe σ2 vs = wipe σ vs ∧ tt σ2 H2 fun b H3 =>
        if b = true then tVar j σ2 H3 fun y H4 => ∃ acc, H4 D = some (.lst acc) ∧ acc.length < sizeLine ∧ Nx (upd H4 D (.lst (acc ++ [y]))) else Nx H3) :=
  lc_gen (fo := id) ha hE.len (R := fun H' r o => SqT K H' r (o.map V.int)) (fun i r hr => by
      obtain ⟨o, ho, h⟩ := hE.get hr
      exact ⟨o, ho, fun H' s => Same.sqt s h⟩) hz nD hw ht (fun r o H' Q _ _ s h k => ⟨_, hj r, k r H' (Same.refl _) h⟩) (fun rs' H' s g e => done rs' H' s g (by rw [List.map_id] at e; exact e))
end KL
namespace KL
open PySem PySem.Spec PyProof.Rows L2 NdefX SX
/-! promises of the rest of the regions module -/
theorem atI_end {α : Type} {xs : List α} {v : α} (h : xs.getLast? = some v) : atI xs (-1) = some v := by
  obtain ⟨ys, rfl⟩ := List.getLast?_eq_some_iff.mp h
  exact atI_last ys v
theorem mko2 {C : Addr} {f g : Str} {v u : V} {H1 : Hp} {Q : XK} (h : Thrown C [(g, u), (f, v)] H1 Q) : [v, u].length ≤ 1000 ∧ ∀ a, H1 a = none → spI2 C f g (.ref a :: ([v, u] ++ [])) (upd H1 a (exo a C none))
    (fun w H2 => w = .non ∧ ∃ (d : Addr) (fs : List (Str × V)), H2 a = some (exo a C (some d)) ∧ H2 d = some (exd d fs) ∧ H1 d = none ∧ Q (.ref C) (some d) (upd (L2.del H2 a) d (.xd fs))) (fun _ _ _ => False) := by
  refine ⟨by show 2 ≤ 1000; decide, fun a ha => ⟨a, v, u, rfl, upd_same, fun d H2 fl => ⟨rfl, d, _, fl.ob, fl.dc, (gone_same ha fl).2, ?_⟩⟩⟩
  exact h d _ (gone_same ha fl).1 (gone_same ha fl).2 upd_same
def spAlike (K : PySem.W.Frag) (C U : Addr) : Sp := fun vs H Q E => ∃ (a b : Addr) (ts us : List Int), vs = [.ref a, .ref b] ∧ GridAt K C H a ts ∧ GridAt K C H b us ∧ (if ts = us then Q .non H else ThrownP K U "first" "second" ts us H E)
def spRAnd (K : PySem.W.Frag) (C R N O B U : Addr) : Sp := fun vs H Q E => ∃ (x y : Addr) (ts us : List Int) (os ws : List (List Int)), vs = [.ref x, .ref y] ∧ RegAt K C R H x ts os ∧ RegAt K C R H y us ws ∧ Few ts ∧ os.length ≤ 1000 ∧
  (if ts = us then RgEnd K C R N O B ts H Q E (mkRg ts (os.filter fun o => decide (o ∈ ws))) else ThrownP K U "first" "second" ts us H E)
def spRLeast (K : PySem.W.Frag) (C R : Addr) (fin : Bool) : Sp := fun vs H Q _ => ∃ (x : Addr) (ts : List Int) (os : List (List Int)) (o : List Int), vs = [.ref x] ∧ RegAt K C R H x ts os ∧ os.length ≤ 1000 ∧ (if fin then os.getLast? else os.head?) = some o ∧ ∀ p, SqT K H p (o.map V.int) → Q (.ref p) H
def spWhole (K : PySem.W.Frag) (C R N O B : Addr) : Sp := fun vs H Q E => ∃ (g : Addr) (ts : List Int), vs = [.ref g] ∧ GridAt K C H g ts ∧ Few ts ∧ RgEnd K C R N O B ts H Q E (mkRg ts (below ts))
def betO (ts a b : List Int) : List (List Int) := (below ts).filter fun o => leO a o && leO o b
def spBox (K : PySem.W.Frag) (C R N O B : Addr) : Sp := fun vs H Q E => ∃ (g a b : Addr) (ts o1 o2 : List Int), vs = [.ref g, .ref a, .ref b] ∧ GridAt K C H g ts ∧ Few ts ∧ SqA K H a (o1.map V.int) ∧ SqA K H b (o2.map V.int) ∧
  (match badOpt ts [o1, o2] with
  | some o => ThrownT K O "option" o H E
  | none => if leO o1 o2 = true then RgEnd K C R N O B ts H Q E (mkRg ts (betO ts o1 o2)) else ThrownP K B "first" "second" o1 o2 H E)
theorem mk_fin {K : PySem.W.Frag} {C R N O B g l : Addr} {ts : List Int} {ps : List Addr} {os : List (List Int)} {H H1 : Hp} {Q : VK} {E : XK} (hG : GridAt K C H1 g ts) (hF : Few ts) (hl : SqA K H1 l (ps.map V.ref)) (hO : Opts K H1 ps os) (hz : os.length ≤ 1000) (s : Same H H1)
    (q : RgEnd K C R N O B ts H Q E (mkRg ts os)) (z dz : Addr) (nz : H1 z = none) (ndz : H1 dz = none) (_ : dz ≠ z) : spRInit K C R N O B (.ref z :: ([.ref g, .ref l] ++ [])) (upd (upd H1 dz (.own z)) z (.ins R dz [])) (fun v H2 => v = .non ∧ Q (.ref z) H2) E := by
  have s4 : Same H1 (upd (upd H1 dz (.own z)) z (.ins R dz [])) := fun b o eb => by
    rw [upd_ne (ne_of_none eb nz), upd_ne (ne_of_none eb ndz)]
    exact eb
  refine ⟨z, g, l, dz, ts, ps, os, rfl, upd_same, hG.same s4, hF, sqA_same s4 hl, hO.same s4, hz, ?_⟩
  revert q
  cases mkRg ts os with
  | number n => exact fun q => Thrown.back (s.trans s4) q
  | option o => exact fun q => ThrownT.back (s.trans s4) q
  | pair a b => exact fun q => ThrownP.back (s.trans s4) q
  | region us' => exact fun q H5 k5 hR => ⟨rfl, q z H5 (fun b o eb => k5 b o ((s.trans s4) b o eb) (ne_of_none (s b o eb) nz)) hR⟩
/-! sorted(set(rows)) -/
theorem cut_tl (xs : List V) : cutV xs (some 1) none = xs.drop 1 := by
  have e : HT.sIx xs.length 0 (some (1 : Int)) = min 1 xs.length := HT.sIx_nat xs.length 0 1
  show (xs.drop (HT.sIx xs.length 0 (some 1))).take (HT.sIx xs.length xs.length none - HT.sIx xs.length 0 (some 1)) = _
  rw [e, HT.sIx_none]
  cases xs with
  | nil => rfl
  | cons x r =>
    rw [show min 1 (x :: r).length = 1 by rw [List.length_cons]; omega]
    exact List.take_of_length_le (by rw [List.length_drop]; exact Nat.le_refl _)
theorem zip_refs : ∀ {rs : List Addr} {os : List (List Int)}, rs.length = os.length → ((rs.zip os).map fun p => V.ref p.1) = rs.map V.ref
  | [], [], _ => rfl
  | r :: rs, o :: os, h => congrArg (V.ref r :: ·) (zip_refs (Nat.succ.inj h))
theorem Each.zip {K : PySem.W.Frag} {H : Hp} : ∀ {rs : List Addr} {os : List (List Int)}, Each K H rs os → ∀ p ∈ rs.zip os, SqT K H p.1 (p.2.map V.int)
  | _, _, .nil, p, hp => by cases hp
  | _, _, .cons h t, p, hp => by
    rcases List.mem_cons.mp hp with rfl | hp
    · exact h
    · exact t.zip p hp
theorem each_of {K : PySem.W.Frag} {H : Hp} : ∀ {L : List (Addr × List Int)}, (∀ p ∈ L, SqT K H p.1 (p.2.map V.int)) → Each K H (L.map (·.1)) (L.map (·.2))
  | [], _ => .nil
  | _ :: _, h => .cons (h _ List.mem_cons_self) (each_of fun p hp => h p (List.mem_cons_of_mem _ hp))
theorem zip_snd : ∀ {rs : List Addr} {os : List (List Int)} {o : List Int}, rs.length = os.length → o ∈ os → ∃ p ∈ rs.zip os, p.2 = o
  | [], [], _, _, ho => by cases ho
  | r :: rs, o' :: os, o, h, ho => by
    rcases List.mem_cons.mp ho with rfl | ho
    · exact ⟨(r, o), List.mem_cons_self, rfl⟩
    · obtain ⟨p, hp, e⟩ := zip_snd (Nat.succ.inj h) ho
      exact ⟨p, List.mem_cons_of_mem _ hp, e⟩
theorem asc_of {d : Nat} {us : List (List Int)} (h : Rows d us) (s : us.Pairwise fun a b => TS.code 64 a ≤ TS.code 64 b) (n : us.Nodup) : Asc us := by
  unfold Asc
  refine (s.and n).imp_of_mem fun {a b} ha hb ⟨h1, h2⟩ => ?_
  rcases Int.lt_or_eq_of_le h1 with h3 | h3
  · exact h3
  · exact absurd (code_inj ((h a ha).1.trans (h b hb).1.symm) (h a ha).2 (h b hb).2 h3) h2
theorem sort_set {P : Program} {w : World} {K : PySem.W.Frag} {l : Addr} {rs : List Addr} {ts : List Int} {os : List (List Int)} {H : Hp} {Q : VK} (hl : SqL K H l (rs.map V.ref)) (hE : Each K H rs os) (hb : ∀ o ∈ os, o ∈ below ts) (hF : Few ts) (h1 : 1 ≤ ts.length) (hz : os.length < 64)
    (k : ∀ (q : Addr) (rs' : List Addr) H', Same H H' → H q = none → H' q = some (.lst (rs'.map V.ref)) → Each K H' rs' (ascO ts os) → Q (.ref q) H') : rSetOfT K P w [V.ref l] H (fun v H1 => rSortedT K P w [v] H1 Q) := by
  have hrow := rows_below hF hb
  have hlen := hE.len
  refine ⟨l, rs.zip os, rfl, by rw [zip_refs hlen]; exact hl, hE.zip, by rw [List.length_zip]; omega, fun a L na hL1 hL2 => ?_⟩
  have hS9 : ∀ {t : Addr} {xs : List V}, SqT K H t xs → SqT K (upd H a ((SetTO P w a L))) t xs := fun h => Same.sqt (same_upd na) h
  have hos2 : ∀ p ∈ rs.zip os, p.2 ∈ os := fun p hp => (List.of_mem_zip hp).2
  refine ⟨a, L, ts.length, 64, rfl, upd_same, fun p hp => hS9 (hE.zip p (hL1 p hp)), h1, fun p hp => hrow p.2 (hos2 p (hL1 p hp)), fun L' pp pm nd lt pw np => ?_⟩
  have sX : Same H (upd (upd H a ((SetTO P w a L))) pp (.lst (L'.map fun q => V.ref q.1))) := (same_upd na).trans (same_upd np)
  have eX : (upd (upd H a ((SetTO P w a L))) pp (.lst (L'.map fun q => V.ref q.1))) pp = some (.lst ((L'.map (·.1)).map V.ref)) := by rw [upd_same, List.map_map]; rfl
  have memL : ∀ p ∈ L', p ∈ rs.zip os := fun p hp => hL1 p (pm.mem_iff.mp hp)
  have hEX : Each K (upd (upd H a ((SetTO P w a L))) pp (.lst (L'.map fun q => V.ref q.1))) (L'.map (·.1)) (L'.map (·.2)) := each_of fun p hp => Same.sqt sX (hE.zip p (memL p hp))
  have hsorted : L'.map (·.2) = ascO ts os := by
    refine Asc.eq ?_ (asc_asc hF os) fun o => ?_
    · refine asc_of (d := ts.length) (fun o ho => ?_) ?_ nd
      · obtain ⟨p, hp, rfl⟩ := List.mem_map.mp ho
        exact hrow p.2 (hos2 p (memL p hp))
      · rw [List.pairwise_map]
        exact pw
    · rw [mem_asc]
      constructor
      · intro ho
        obtain ⟨p, hp, rfl⟩ := List.mem_map.mp ho
        have := hos2 p (memL p hp)
        exact ⟨hb _ this, this⟩
      · rintro ⟨_, ho⟩
        obtain ⟨p, hp, rfl⟩ := zip_snd hlen ho
        obtain ⟨p', hp', e⟩ := List.mem_map.mp (hL2 p hp)
        rw [← e]
        exact List.mem_map.mpr ⟨p', pm.mem_iff.mpr hp', rfl⟩
  rw [hsorted] at hEX
  refine k pp (L'.map (·.1)) _ sX ?_ eX hEX
  cases e : H pp with
  | none => rfl
  | some o => rw [(same_upd na) _ _ e] at np; cases np
/-- [1 for m, n in zip(a, b) if p(m, n)] -/
theorem lc_zfilt {K : PySem.W.Frag} {p q : Bool} {a b : Addr} {o1 o2 : List Int} {g : Int → Int → Bool} {v0 : V} {te : TE} {tt : TT} {i j : Nat} {vs : List Nat} {σ : L2.St} {H H1 : Hp} {D : Addr} {Qd : Hp → Prop} (s1 : Same H H1) (hD : H1 D = none) (hl : o1.length = o2.length) (hz : o1.length ≤ 1000)
    (h1 : SqB K p H1 a (o1.map V.int)) (h2 : SqB K q H1 b (o2.map V.int)) (hw : ∀ m n : Int, wipe (((wipe σ vs).set i (some (.int m))).set j (some (.int n))) vs = wipe σ vs)
    (ht : ∀ (m n : Int) (H' : Hp) (Q : Bool → Hp → Prop), Q (g m n) H' → tt (((wipe σ vs).set i (some (.int m))).set j (some (.int n))) H' Q)
    (he : ∀ (m n : Int) (H' : Hp) (Q : VK), Q v0 H' → te (((wipe σ vs).set i (some (.int m))).set j (some (.int n))) H' Q) (done : ∀ H', Same H H' → H' D = some (.lst (((o1.zip o2).filter fun x => g x.1 x.2).map fun _ => v0)) → Qd H') :
    ∃ W : Nat → Nat → Hp → Prop, (∃ m, W 0 m (upd H1 D (.lst []))) ∧ ∀ k m H, W k m H →
      ((ItzB K p q a b).stop k H ∧ Qd H) ∨ ((ItzB K p q a b).go k H ∧ ∃ Nx : Hp → Prop, (∀ H', Nx H' → ∃ m', m' < m ∧ W (k + 1) m' H') ∧ ∀ x H', (ItzB K p q a b).yld k H x H' → gTup K 2 (gCons (gName i) (gCons (gName j) gNil)) x (wipe σ vs) H' fun σ2 H2 => wipe σ2 vs = wipe σ vs ∧ tt σ2 H2 fun b H3 =>
        if b = true then te σ2 H3 fun y H4 => ∃ acc, H4 D = some (.lst acc) ∧ acc.length < sizeLine ∧ Nx (upd H4 D (.lst (acc ++ [y]))) else Nx H3) := by
  have lz : (o1.zip o2).length = o1.length := by rw [List.length_zip, ← hl, Nat.min_self]
  refine lc_it (walk_zB (K := K) (p := p) (q := q) (a := a) (b := b) (xs := o1.map V.int) (ys := o2.map V.int) (n := o1.length) (by simp [hl])) (fun k H' => Same H1 H' ∧ H' D = some (.lst ((((o1.zip o2).take k).filter fun x => g x.1 x.2).map fun _ => v0))) ⟨same_upd hD, upd_same⟩
    (fun k H' _ ⟨s, _⟩ => ⟨h1.same s, h2.same s⟩) ?_ ?_
  · rintro k x H2 H3 hk ⟨s2, gD⟩ ⟨T, y1, y2, rfl, nT, rfl, e1, e2⟩
    obtain ⟨m, rfl, em⟩ := at_int e1
    obtain ⟨n, rfl, en⟩ := at_int e2
    have nDT : D ≠ T := ne_of_none gD nT
    refine ⟨T, _, rfl, .inl (.inl upd_same), rfl, _, _, rfl, _, _, rfl, rfl, hw m n, ?_⟩
    have ez : (o1.zip o2)[k]? = some (m, n) := by rw [List.getElem?_zip_eq_some]; exact ⟨em, en⟩
    refine ht m n _ _ ?_
    rw [List.take_add_one, ez, List.filter_append, List.map_append]
    by_cases hg : g m n = true
    · rw [if_pos hg]
      refine he m n _ _ ⟨_, (same_upd nT) _ _ gD, ?_, fun c o e => ?_, ?_⟩
      · have := List.length_filter_le (fun x : Int × Int => g x.1 x.2) ((o1.zip o2).take k)
        rw [List.length_take] at this
        rw [List.length_map, sizeLine_eq]
        omega
      · rw [upd_ne (ne_of_none e hD)]
        exact (same_upd nT) _ _ (s2 _ _ e)
      · rw [upd_same]
        simp [hg]
    · rw [if_neg hg]
      refine ⟨fun c o e => (same_upd nT) _ _ (s2 _ _ e), ?_⟩
      rw [(same_upd nT) _ _ gD]
      simp [hg]
  · rintro H2 ⟨s2, gD⟩
    rw [List.take_of_length_le (by rw [lz]; exact Nat.le_refl _)] at gD
    exact done H2 (s1.trans s2) gD
theorem le_filter : ∀ {a b : List Int}, a.length = b.length → leO a b = decide ((a.zip b).filter (fun x => decide (x.1 > x.2)) = [])
  | [], [], _ => rfl
  | m :: a, n :: b, h => by
    have ih := le_filter (Nat.succ.inj h)
    show (decide (m ≤ n) && leO a b) = _
    rw [ih, List.zip_cons_cons, List.filter_cons]
    by_cases e : m > n
    · simp [e, show ¬ m ≤ n by omega]
    · simp [e, show m ≤ n by omega]
theorem readG_none {z : Str} (h : badFrom (Txt.split z blank) 0 = none) : readG z = match chk (levelsOf z) with | some n => .number n | none => .tops (levelsOf z) := by
  unfold readG
  rw [h]
  rfl
theorem mk_any {K : PySem.W.Frag} {C R N O B g l : Addr} {ts : List Int} {ps : List Addr} {os : List (List Int)} {H1 : Hp} {RQ : VK} {E : XK} {z dz : Addr} (hG : GridAt K C H1 g ts) (hF : Few ts) (hl : SqA K H1 l (ps.map V.ref)) (hO : Opts K H1 ps os) (hz : os.length ≤ 1000)
    (nz : H1 z = none) (ndz : H1 dz = none) (kn : ∀ n, mkRg ts os = .number n → Thrown N [("n", .int n)] H1 E) (ko : ∀ o, mkRg ts os = .option o → ThrownT K O "option" o H1 E) (kp : ∀ a b, mkRg ts os = .pair a b → ThrownP K B "first" "second" a b H1 E)
    (kr : ∀ us, mkRg ts os = .region us → ∀ H', Same H1 H' → RegAt K C R H' z ts us → RQ .non H') : spRInit K C R N O B [.ref z, .ref g, .ref l] (upd (upd H1 dz (.own z)) z (.ins R dz [])) RQ E := by
  have s4 : Same H1 (upd (upd H1 dz (.own z)) z (.ins R dz [])) := fun b o eb => by
    rw [upd_ne (ne_of_none eb nz), upd_ne (ne_of_none eb ndz)]
    exact eb
  refine ⟨z, g, l, dz, ts, ps, os, rfl, upd_same, hG.same s4, hF, sqA_same s4 hl, hO.same s4, hz, ?_⟩
  cases e : mkRg ts os with
  | number n => exact Thrown.back s4 (kn n e)
  | option o => exact ThrownT.back s4 (ko o e)
  | pair a b => exact ThrownP.back s4 (kp a b e)
  | region us' => exact fun H5 k5 hR => kr us' e H5 (fun b o eb => k5 b o (s4 b o eb) (ne_of_none eb nz)) hR
/-! under the pool -/
theorem ne_pool {H : Hp} {p q : Addr} {b : Bool} {rs : List Addr} (h : Bag H p b) (e : H q = some (.lst (rs.map V.ref))) : q ≠ p := fun z => by
  obtain ⟨c, n, g⟩ := h
  rw [z, g] at e
  have e := Option.some.inj e
  cases rs with
  | nil => cases e
  | cons r rs => cases e
theorem but_sqT {K : PySem.W.Frag} {H H' : Hp} {p t : Addr} {b : Bool} {xs : List V} (h : Bag H p b) (s : But p H H') (g : SqT K H t xs) : SqT K H' t xs := by
  obtain ⟨c, n, e⟩ := h
  exact sqT_ne e (fun _ z => nomatch z) (fun _ _ z => nomatch z) (fun c u e n => s _ _ e n) g
theorem ins_ne {H : Hp} {p x D d : Addr} {b : Bool} {fs : List (Str × V)} (h : Bag H p b) (e : H x = some (.ins D d fs)) : x ≠ p := fun z => by
  obtain ⟨c, n, g⟩ := h
  rw [z, g] at e
  cases e
theorem grid_but {K : PySem.W.Frag} {C : Addr} {H H' : Hp} {p x : Addr} {b : Bool} {ts : List Int} (h : Bag H p b) (s : But p H H') (g : GridAt K C H x ts) : GridAt K C H' x ts := by
  obtain ⟨dx, t, q, rs, hx, ht, hq, hE⟩ := g
  exact ⟨dx, t, q, rs, s _ _ hx (ins_ne h hx), but_sqT h s ht, but_sqT h s hq, hE.carry fun r xs g => but_sqT h s g⟩
theorem reg_but {K : PySem.W.Frag} {C R : Addr} {H H' : Hp} {p x : Addr} {b : Bool} {ts : List Int} {os : List (List Int)} (h : Bag H p b) (s : But p H H') (g : RegAt K C R H x ts os) : RegAt K C R H' x ts os := by
  obtain ⟨dx, gg, q, rs, hx, hG, hq, hE⟩ := g
  exact ⟨dx, gg, q, rs, s _ _ hx (ins_ne h hx), grid_but h s hG, but_sqT h s hq, hE.carry fun r xs g => but_sqT h s g⟩
theorem below_pos {ts : List Int} (hF : Few ts) : 1 ≤ (below ts).length := by
  have : (ts.map fun _ => (0 : Int)) ∈ below ts := by
    rw [mem_below]
    refine ⟨List.length_map _, fun j v t h1 h2 => ?_⟩
    rw [List.getElem?_map, h2] at h1
    cases h1
    exact ⟨Int.le_refl 0, (hF.2 t (List.mem_of_getElem? h2)).1⟩
  exact List.length_pos_of_mem this
mutual
theorem dpS {K : PySem.W.Frag} {H H' : Hp} (s : Same H H') : ∀ {v : V} {d : PyData}, Dp K H v d → Dp K H' v d
  | _, _, .non => .non
  | _, _, .bl b => .bl b
  | _, _, .int i => .int i
  | _, _, .str x => .str x
  | _, _, .lst h g => .lst (s.seq h) (dpSAll s g)
  | _, _, .tup h g => .tup (Same.sqt s h) (dpSAll s g)
theorem dpSAll {K : PySem.W.Frag} {H H' : Hp} (s : Same H H') : ∀ {vs : List V} {ds : List PyData}, DpAll K H vs ds → DpAll K H' vs ds
  | _, _, .nil => .nil
  | _, _, .cons h g => .cons (dpS s h) (dpSAll s g)
end
theorem same_but {H0 H H' : Hp} {p : Addr} (s : Same H0 H) (n : H0 p = none) (b : But p H H') : Same H0 H' := fun c u e => b c u (s c u e) (ne_of_none e n)
/-- rows of ints, each a tuple or a list that is tracked -/
def RowsAt (K : PySem.W.Frag) (H : Hp) (rs : List Addr) (os : List (List Int)) : Prop := rs.length = os.length ∧ ∀ (i : Nat) (r : Addr) (o : List Int), rs[i]? = some r → os[i]? = some o → SqT K H r (o.map V.int) ∨ H r = some (.lst (o.map V.int))
theorem RowsAt.opts {K : PySem.W.Frag} {H : Hp} : ∀ {rs : List Addr} {os : List (List Int)}, RowsAt K H rs os → Opts K H rs os
  | [], [], _ => .nil
  | [], _ :: _, h => by cases h.1
  | _ :: _, [], h => by cases h.1
  | r :: rs, o :: os, h => .cons ((h.2 0 r o rfl rfl).elim .inr fun e => .inl (SqL.of e)) (RowsAt.opts ⟨Nat.succ.inj h.1, fun i r' o' h1 h2 => h.2 (i + 1) r' o' h1 h2⟩)
theorem bag_ints {H : Hp} {p q : Addr} {b : Bool} {o : List Int} (h : Bag H p b) (e : H q = some (.lst (o.map V.int))) : q ≠ p := fun z => by
  obtain ⟨c, n, g⟩ := h
  rw [z, g] at e
  have e := Option.some.inj e
  injection e with e
  match o, e with
  | [], e => cases e
  | [_], e => cases e
  | [_, _], e => cases e
  | [_, _, _], e => cases e
  | _ :: _ :: _ :: _ :: _, e => cases e
theorem RowsAt.but {K : PySem.W.Frag} {H H' : Hp} {p : Addr} {b : Bool} {rs : List Addr} {os : List (List Int)} (hB : Bag H p b) (s : But p H H') (h : RowsAt K H rs os) : RowsAt K H' rs os :=
  ⟨h.1, fun i r o h1 h2 => (h.2 i r o h1 h2).imp (but_sqT hB s) fun e => s _ _ e (bag_ints hB e)⟩
theorem RowsAt.same {K : PySem.W.Frag} {H H' : Hp} {rs : List Addr} {os : List (List Int)} (s : Same H H') (h : RowsAt K H rs os) : RowsAt K H' rs os :=
  ⟨h.1, fun i r o h1 h2 => (h.2 i r o h1 h2).imp (Same.sqt s) fun e => s _ _ e⟩
theorem RowsAt.snoc {K : PySem.W.Frag} {H : Hp} {rs : List Addr} {os : List (List Int)} {r : Addr} {o : List Int} (h : RowsAt K H rs os) (g : SqT K H r (o.map V.int) ∨ H r = some (.lst (o.map V.int))) : RowsAt K H (rs ++ [r]) (os ++ [o]) := by
  refine ⟨by rw [List.length_append, List.length_append, h.1]; rfl, fun i r' o' h1 h2 => ?_⟩
  by_cases hi : i < rs.length
  · rw [List.getElem?_append_left hi] at h1
    rw [List.getElem?_append_left (by rw [← h.1]; exact hi)] at h2
    exact h.2 i r' o' h1 h2
  · rw [List.getElem?_append_right (by omega)] at h1
    rw [List.getElem?_append_right (by rw [← h.1]; omega), ← h.1] at h2
    cases e : i - rs.length with
    | zero => rw [e] at h1 h2; cases h1; cases h2; exact g
    | succ k => rw [e] at h1; cases h1
theorem but_lst {H H' : Hp} {p q : Addr} {b : Bool} {rs : List Addr} (h : Bag H p b) (s : But p H H') (e : H q = some (.lst (rs.map V.ref))) : H' q = some (.lst (rs.map V.ref)) := s _ _ e (ne_pool h e)
theorem but_each {K : PySem.W.Frag} {H H' : Hp} {p : Addr} {b : Bool} {rs : List Addr} {os : List (List Int)} (h : Bag H p b) (s : But p H H') (e : Each K H rs os) : Each K H' rs os := e.carry fun r xs g => but_sqT h s g
theorem cut_all {xs : List V} {lo hi : Option Int} (h : HT.sIx xs.length 0 lo = 0 ∧ HT.sIx xs.length xs.length hi = xs.length) : cutV xs lo hi = xs := by
  show (xs.drop (HT.sIx xs.length 0 lo)).take (HT.sIx xs.length xs.length hi - HT.sIx xs.length 0 lo) = xs
  rw [h.1, h.2, List.drop_zero]
  exact List.take_of_length_le (Nat.le_refl _)
/-- a slice of a tuple -/
def rSlU (K : PySem.W.Frag) : V → Option Int → Option Int → Hp → VK → Prop := fun x lo hi H Q => ∃ a xs, x = .ref a ∧ SqT K H a xs ∧ ∀ p H', Same H H' → SqT K H' p (cutV xs lo hi) → Q (.ref p) H'
theorem sl_tupU {X : Cx} : SlR X (rSlU X.K) := fun pins s σ H x v vl vu lo hi sl Q I rx hs pl pu ⟨a, xs, e, h, q⟩ =>
  sl_tupA pins s σ H x v vl vu lo hi sl Q I rx hs pl pu ⟨a, xs, e, h, fun z => q a H (Same.refl H) (by rw [cut_all z]; exact h), fun _ p hp => q p _ (same_upd hp) (.inl (.inl upd_same))⟩
/-- tuple + tuple, whatever they hold -/
def rCatU (K : PySem.W.Frag) : R2 := fun x y H Q => ∃ a b xs ys, x = .ref a ∧ y = .ref b ∧ SqT K H a xs ∧ SqT K H b ys ∧ xs.length + ys.length ≤ sizeLine ∧ ∀ p H2, Same H H2 → SqT K H2 p (xs ++ ys) → Q (.ref p) H2
theorem op_catU {X : Cx} : OpR X (binaryOp .Add) (rCatU X.K) := fun pins s σ H x y v u Q I rx ry ⟨a, b, xs, ys, e1, e2, h1, h2, hz, q⟩ =>
  op_catA pins s σ H x y v u Q I rx ry ⟨a, b, xs, ys, e1, e2, h1, h2, hz, fun z => q b H (Same.refl H) (by rw [z]; exact h2), fun _ z => q a H (Same.refl H) (by rw [z, List.append_nil]; exact h1),
    fun _ _ p hp => q p _ (same_upd hp) (.inl (.inl upd_same))⟩
theorem RowsAt.upd {K : PySem.W.Frag} {H : Hp} {D : Addr} {ys : List V} {rs : List Addr} {os : List (List Int)} (gD : H D = some (.lst (rs.map V.ref))) (h : RowsAt K H rs os) : RowsAt K (upd H D (.lst ys)) rs os := by
  refine ⟨h.1, fun i r o h1 h2 => (h.2 i r o h1 h2).imp (fun z => sqT_ne gD (fun _ z => nomatch z) (fun _ _ z => nomatch z) (fun c u e n => by rw [upd_ne n]; exact e) z) fun e => ?_⟩
  have ne : r ≠ D := fun z => by
    rw [z, gD] at e
    have e := Option.some.inj e
    injection e with e
    cases rs with
    | nil => cases h1
    | cons x rs =>
      cases o with
      | nil => cases e
      | cons y o => cases e
  rw [upd_ne ne]
  exact e
theorem bag_keep {H : Hp} {p l : Addr} {b : Bool} {o : HO} (h : Bag H p b) (n : l ≠ p) : Bag (upd H l o) p b := by
  obtain ⟨c, k, e⟩ := h
  exact ⟨c, k, by rw [upd_ne n.symm]; exact e⟩
theorem cut_drop (xs : List V) (k : Nat) : cutV xs (some (k : Int)) none = xs.drop k := by
  show (xs.drop (HT.sIx xs.length 0 (some (k : Int)))).take (HT.sIx xs.length xs.length none - HT.sIx xs.length 0 (some (k : Int))) = _
  rw [HT.sIx_nat, HT.sIx_none]
  by_cases h : k ≤ xs.length
  · rw [Nat.min_eq_left h]
    exact List.take_of_length_le (by rw [List.length_drop]; exact Nat.le_refl _)
  · rw [Nat.min_eq_right (by omega), Nat.sub_self, List.take_zero, List.drop_eq_nil_of_le (by omega)]
theorem cut_take (xs : List V) (k : Nat) : cutV xs none (some (k : Int)) = xs.take k := by
  show (xs.drop (HT.sIx xs.length 0 none)).take (HT.sIx xs.length xs.length (some (k : Int)) - HT.sIx xs.length 0 none) = _
  rw [HT.sIx_nat, HT.sIx_none, List.drop_zero, Nat.sub_zero]
  by_cases h : k ≤ xs.length
  · rw [Nat.min_eq_left h]
  · rw [Nat.min_eq_right (by omega), List.take_of_length_le (Nat.le_refl _), List.take_of_length_le (by omega)]
theorem cut_last (xs : List V) : cutV xs none (some (-1)) = xs.dropLast := by
  show (xs.drop (HT.sIx xs.length 0 none)).take (HT.sIx xs.length xs.length (some (-1)) - HT.sIx xs.length 0 none) = _
  rw [HT.sIx_none, List.drop_zero, Nat.sub_zero, List.dropLast_eq_take]
  congr 1
  show (if (-1 : Int) < 0 then ((-1 : Int) + (xs.length : Int)).toNat else min (-1 : Int).toNat xs.length) = _
  rw [if_pos (by decide)]
  omega
theorem Each.take {K : PySem.W.Frag} {H : Hp} : ∀ {rs : List Addr} {os : List (List Int)} (n : Nat), Each K H rs os → Each K H (rs.take n) (os.take n)
  | _, _, 0, _ => by rw [List.take_zero, List.take_zero]; exact .nil
  | _, _, _ + 1, .nil => .nil
  | _, _, n + 1, .cons h t => .cons h (t.take n)
theorem Each.dropX {K : PySem.W.Frag} {H : Hp} : ∀ {rs : List Addr} {os : List (List Int)} (n : Nat), Each K H rs os → Each K H (rs.drop n) (os.drop n)
  | _, _, 0, h => h
  | _, _, _ + 1, .nil => .nil
  | _, _, n + 1, .cons _ t => t.dropX n
end KL

set_option Elab.async false
set_option linter.all false
set_option maxRecDepth 100000
set_option maxHeartbeats 4000000
namespace KL
open PySem PySem.Spec PyProof.Rows L2 NdefX SX
abbrev sSpread : Stmt := top 35
def spSpread (K : PySem.W.Frag) : Sp := fun vs H Q _ => ∃ (a : Addr) (ts : List Int), vs = [.ref a] ∧ SqA K H a (ts.map V.int) ∧ Few ts ∧ ∀ p rs H', Same H H' → H' p = some (.lst (rs.map V.ref)) → Each K H' rs (below ts) → Q (.ref p) H'
section
variable {P : Program} {w : World} {K : PySem.W.Frag} {mg : Str → Option Value} {base : Heap} {f : Addr} {fd : FuncData}
abbrev nSpread : List Str := ["_law_tops", "_law_found", "_law_top", "_law_longer", "_law_row", "_law_level"]
theorem scSpread : FnScope nSpread ["_law_tops"] (defScope sSpread) := ⟨rfl, rfl, rfl, by decide +kernel, rfl, by decide +kernel, by decide +kernel⟩
theorem at_ref {rs : List Addr} {i : Nat} {v : V} (h : (rs.map V.ref)[i]? = some v) : ∃ r, v = .ref r ∧ rs[i]? = some r := by
  rw [List.getElem?_map] at h
  cases e : rs[i]? with
  | none => rw [e] at h; cases h
  | some r => rw [e] at h; cases h; exact ⟨r, rfl, rfl⟩
theorem ok_spread (F : Fun K "_law_spread" "_law_spread" sSpread f fd) (mr : mg "range" = none) : FnOk P w K mg base CX0 1 f fd ["_law_tops"] (spSpread K) := by
  refine F.ok scSpread (fun vs H Q E h => ?_) (fun cdv A outer s H vs Q E hr h => ?_)
  · obtain ⟨a, ts, rfl, _⟩ := h
    rfl
  · obtain ⟨a, ts, rfl, hS, hF, k⟩ := h
    refine ⟨_, pss_cons (ps_set (i := 1) scSpread.nd rfl (Or.inl rfl) (pe_newL (pa_cons (pe_newT pa_nil) pa_nil)))
      (pss_cons (ps_for PassesOwn.never rfl (pi_any (pv 0)) (pg_name (i := 2) scSpread.nd rfl (Or.inl rfl))
        (pss_cons (ps_set (i := 3) scSpread.nd rfl (Or.inl rfl) (pe_newL pa_nil))
        (pss_cons (ps_for PassesOwn.never rfl (pi_list (pv 1)) (pg_name (i := 4) scSpread.nd rfl (Or.inr rfl))
          (pss_one (ps_set (i := 3) scSpread.nd rfl (Or.inl rfl) (pe_op op_catW (pv 3) (pe_lc (own := [("_law_level", 5)]) (g := gName 5) (tt := tYes) (te := tOp (rCatU K) (tVar 4) (tNewT (tCons (tVar 5) tNil))) rfl scSpread.nd
            (pi_range1 rfl mr (pa_cons (pe_op op_add (pv 2) pe_int) pa_nil)) (blkOk_by (N := nSpread) (sc := defScope sSpread) (by decide +kernel)) (fun _ _ _ _ _ => pg_name (i := 5) scSpread.nd rfl (Or.inl rfl)) (fun _ _ _ _ _ => pts_nil)
            (fun _ _ _ _ _ => pe_op op_catU (pv 4) (pe_newT (pa_cons (pv 5) pa_nil))))))))
        (pss_one (ps_set (i := 1) scSpread.nd rfl (Or.inl rfl) (pv 3))))))
      (pss_one (ps_ret (pv 1)))), ?_⟩
    refine ⟨Nat.zero_le _, fun t0 H1 s1 nt et => ⟨(by show 1 ≤ sizeLine; decide), fun l0 H2 s2 nl el => ?_⟩⟩
    obtain ⟨ka, hK⟩ := hS.kind
    refine ⟨_, rfl, a, ka, _, rfl, hK.same (s1.trans s2), for_it (walk_any (K := K) (p := ka) (a := a) (xs := ts.map V.int)) (fun i σ H' => ∃ (l : Addr) (rs : List Addr) (u2 u3 u4 : Option V), σ = [some (.ref a), some (.ref l), u2, u3, u4, none] ∧ Same H H' ∧ H' l = some (.lst (rs.map V.ref)) ∧ Each K H' rs (below (ts.take i)))
      ⟨l0, [t0], none, none, none, rfl, s1.trans s2, el, .cons (.inl (.inl (s2 _ _ et))) .nil⟩ (fun i σ H' _ ⟨_, _, _, _, _, _, s, _⟩ => hK.same s) ?_ ?_⟩
    · rintro i x σ H' H'' _ ⟨l, rs, u2, u3, u4, rfl, sH, hl, hE⟩ ⟨hH, hx⟩
      obtain rfl : H' = H'' := hH.symm
      obtain ⟨t, rfl, ht⟩ := at_int hx
      have ht9 := hF.2 t (List.mem_of_getElem? ht)
      have hi3 : i < 3 := Nat.lt_of_lt_of_le (List.getElem?_eq_some_iff.mp ht).1 hF.1
      have hb1 : (below (ts.take i)).length * (t + 1).toNat ≤ 10000 := by
        refine Nat.le_trans (Nat.mul_le_mul (below_len hF.2 i) (show (t + 1).toNat ≤ 10 by omega)) ?_
        have : 10 ^ i ≤ 10 ^ 2 := Nat.pow_le_pow_right (by decide) (by omega)
        omega
      refine ⟨Nat.zero_le _, fun l3 H3 s3 nl3 el3 => ?_⟩
      refine ⟨_, rfl, l, rfl, ⟨_, SqL.of (s3 _ _ hl)⟩, for_list (K := K) (a := l) (xs := rs.map V.ref) (fun j σ H4 => ∃ (l4 : Addr) (rs4 : List Addr) (u4 : Option V), σ = [some (.ref a), some (.ref l), some (.int t), some (.ref l4), u4, none] ∧ Same H' H4 ∧ H4 l4 = some (.lst (rs4.map V.ref)) ∧ Each K H4 rs4 (ext ((below (ts.take i)).take j) t))
        ⟨l3, [], u4, rfl, s3, el3, .nil⟩ (fun j σ H4 _ ⟨_, _, _, _, s, _⟩ => SqL.of (s _ _ hl)) ?_ ?_⟩
      · rintro j x σ H4 hx ⟨l4, rs4, u4, rfl, s4, h4, hE4⟩
        obtain ⟨r, rfl, hr'⟩ := at_ref hx
        obtain ⟨o, ho, hro⟩ := hE.get hr'
        have hol := below_mem (Nat.le_of_lt (List.getElem?_eq_some_iff.mp ht).1) (List.mem_of_getElem? ho)
        refine ⟨_, rfl, _, rfl, _, _, rfl, rfl, t + 1, rfl, by omega, by omega, fun D nD => ?_⟩
        refine lc_range (lo := 0) (n := (t + 1).toNat) (fun m H5 => ∃ rs5, Same H4 H5 ∧ H5 D = some (.lst (rs5.map V.ref)) ∧ Each K H5 rs5 (extOne o m)) ⟨[], same_upd nD, upd_same, .nil⟩ ?_ ?_
        · rintro m H5 hm ⟨rs5, s5, g5, hE5⟩
          refine ⟨rfl, ?_⟩
          refine ⟨_, rfl, _, rfl, (by show 1 ≤ sizeLine; decide), fun t6 H6 s6 n6 e6 => ?_⟩
          refine ⟨r, t6, _, _, rfl, rfl, Same.sqt (s4.trans (s5.trans s6)) hro, .inl (.inl e6), ?_, fun p H7 s7 hp => ?_⟩
          · rw [List.length_map, hol, sizeLine_eq]
            show i + 1 ≤ _
            omega
          refine ⟨_, (s6.trans s7) _ _ g5, ?_, rs5 ++ [p], ?_, ?_, ?_⟩
          · rw [List.length_map, hE5.len, sizeLine_eq]
            unfold extOne
            rw [List.length_map, List.length_range]
            omega
          · intro b u e
            rw [upd_ne (ne_of_none e nD)]
            exact (s5.trans (s6.trans s7)) _ _ e
          · rw [upd_same, List.map_append]
            rfl
          · rw [extOne_succ]
            refine ((hE5.same (s6.trans s7)).app (.cons ?_ .nil)).upd ((s6.trans s7) _ _ g5)
            rw [List.map_append]
            have hp' : SqT K H7 p (o.map V.int ++ [V.int (0 + (m : Int))]) := hp
            rw [Int.zero_add] at hp'
            exact hp'
        · rintro H5 ⟨rs5, s5, g5, hE5⟩
          refine ⟨l4, D, _, _, rfl, rfl, s5 _ _ h4, g5, ?_, fun q H6 s6 nq eq => ?_⟩
          · rw [List.length_map, List.length_map, hE4.len, hE5.len, sizeLine_eq]
            have := ext_bound (t := t) ho (Nat.le_refl _)
            rw [List.length_append] at this
            omega
          · refine ⟨q, rs4 ++ rs5, _, rfl, s4.trans (s5.trans s6), by rw [List.map_append]; exact eq, ?_⟩
            rw [ext_take ho]
            exact (hE4.same (s5.trans s6)).app (hE5.same s6)
      · rintro σ H4 ⟨l4, rs4, u4, rfl, s4, h4, hE4⟩
        refine ⟨_, rfl, l4, rs4, _, _, _, rfl, sH.trans s4, h4, ?_⟩
        rw [List.length_map, hE.len, List.take_length] at hE4
        rw [below_take ht]
        exact hE4
    · rintro σ H' ⟨l, rs, u2, u3, u4, rfl, sH, hl, hE⟩
      rw [List.length_map, List.take_length] at hE
      exact ⟨_, rfl, k l rs H' sH hl hE⟩
end
end KL

set_option Elab.async false
set_option linter.all false
set_option maxRecDepth 100000
set_option maxHeartbeats 4000000
namespace KL
open PySem PySem.Spec PyProof.Rows L2 NdefX SX
abbrev sCheck : Stmt := top 17
abbrev sBelow : Stmt := top 18
abbrev sGInit : Stmt := inClass (top 20) 0
section
variable {P : Program} {w : World} {K : PySem.W.Frag} {mg : Str → Option Value} {base : Heap} {f C N fN fC fB : Addr} {fd dN dC dB : FuncData}
theorem scCheck : FnScope ["tops", "top", "count"] ["tops"] (defScope sCheck) := ⟨rfl, rfl, rfl, by decide +kernel, rfl, by decide +kernel, by decide +kernel⟩
theorem ok_check (F : Fun K "check_tops" "check_tops" sCheck f fd) (ml : mg "len" = none) (gN : mg "BadNumber" = some (.ref C)) (ox : OexC K C) (iC : PySem.W.findIn K (.ref C) "__init__" = some (some (.ref fN))) (tI : PySem.W.typeIn K (.ref fN) = some (.type "function"))
    (GN : ∀ base, FnOk P w K mg base CX0 1 fN dN ["self", "n"] (spI1 C "n")) (bN : Binds K dN ["self", "n"] [])
    {t1 t2 t3 : Tok} (g1 : mg "MOST_KNOBS" = some (.int 3 t1)) (g2 : mg "MOST_TOP" = some (.int 9 t2)) (g3 : mg "MOST_OPTIONS" = some (.int 16 t3)) : FnOk P w K mg base (L2.CX P w) 3 f fd ["tops"] (spCheck K C) := by
  refine F.okX scCheck (fun vs H Q E h => ?_) (fun cdv A outer s H vs Q E hr h => ?_)
  · obtain ⟨a, ts, rfl, _⟩ := h
    rfl
  · obtain ⟨a, ts, rfl, hS, q⟩ := h
    refine ⟨_, pss_cons (ps_if (pt_not (pt_chain op_le op_le pe_int (pe_callB call_len_seq (by rfl) ml PySem.boot_len (pa_cons (pv 0) pa_nil)) (pe_glob (v := .int 3) (by rfl) g1 ⟨_, rfl⟩)))
        (pss_one (ps_raise rfl (takes_of rfl rfl rfl rfl) (pmk_oex ox iC tI (GN base) (hr.mono (by decide)) bN .nil pass0 (by rfl) gN (pa_cons (pe_callB call_len_seq (by rfl) ml PySem.boot_len (pa_cons (pv 0) pa_nil)) pa_nil)))) pss_nil)
      (pss_cons (ps_for (passes_of rfl) rfl (pi_tup (pv 0)) (pg_name (i := 1) scCheck.nd rfl (Or.inl rfl))
        (pss_one (ps_if (pt_not (pt_chain op_le op_le pe_int (pv 1) (pe_glob (v := .int 9) (by rfl) g2 ⟨_, rfl⟩)))
          (pss_one (ps_raise rfl (takes_of rfl rfl rfl rfl) (pmk_oex ox iC tI (GN base) (hr.mono (by decide)) bN .nil pass0 (by rfl) gN (pa_cons (pv 1) pa_nil)))) pss_nil)))
      (pss_cons (ps_set (i := 2) scCheck.nd rfl (Or.inl rfl) pe_int)
      (pss_cons (ps_for (passes_of rfl) rfl (pi_tup (pv 0)) (pg_name (i := 1) scCheck.nd rfl (Or.inl rfl))
        (pss_one (ps_set (i := 2) scCheck.nd rfl (Or.inl rfl) (pe_op op_mul (pv 2) (pe_op op_add (pv 1) pe_int)))))
      (pss_one (ps_if (pt_cmpR op_gt (pv 2) (pe_glob (v := .int 16) (by rfl) g3 ⟨_, rfl⟩) (nomark _))
        (pss_one (ps_raise rfl (takes_of rfl rfl rfl rfl) (pmk_oex ox iC tI (GN base) (hr.mono (by decide)) bN .nil pass0 (by rfl) gN (pa_cons (pv 2) pa_nil)))) pss_nil))))), ?_⟩
    have thr : ∀ {n : Int}, chk ts = some n → Thrown C [("n", .int n)] H E := fun e => by rw [e] at q; exact q
    have len3 : (ts.map V.int).length = ts.length := List.length_map _
    -- the number of the tops
    have bad1 : ¬ (1 ≤ ts.length ∧ ts.length ≤ 3) → tMkO C (spI1 C "n") [] (tCons (tCB (fun xs H Q => ∃ p ys, xs = [.ref p] ∧ (SqL K H p ys ∨ SqT K H p ys) ∧ Q (.int ys.length) H) (tCons (tVar 0) tNil)) tNil) (start ["tops", "top", "count"] [.ref a]) H E := fun h1 => by
      refine ⟨_, rfl, a, _, rfl, .inr hS, mko1 ?_⟩
      rw [len3]
      exact thr (chk_len h1)
    refine ⟨_, rfl, a, _, rfl, .inr hS, _, _, rfl, rfl, _, rfl, ite2 (fun e1 => ?_) (fun e1 => ?_)⟩
    case refine_2 =>
      refine ⟨_, rfl, ?_⟩
      refine bad1 fun z => e1 (decide_eq_true (by rw [len3]; omega))
    have e1' := of_decide_eq_true e1
    rw [len3] at e1'
    refine ⟨_, _, rfl, rfl, _, rfl, ?_⟩
    refine ite2 (fun e2 => ?_) (fun e2 => ?_)
    · refine bad1 fun z => ?_
      have : decide (((ts.map V.int).length : Int) ≤ 3) = true := decide_eq_true (by rw [len3]; omega)
      rw [this] at e2
      cases e2
    have hL : 1 ≤ ts.length ∧ ts.length ≤ 3 := by
      have e3 : decide (((ts.map V.int).length : Int) ≤ 3) = true := by
        cases hd : decide (((ts.map V.int).length : Int) ≤ 3) with
        | true => rfl
        | false => exact absurd (by rw [hd]; rfl) e2
      have := of_decide_eq_true e3
      rw [len3] at this
      omega
    -- each of them
    refine ⟨_, rfl, a, rfl, ⟨_, hS⟩, for_tup (K := K) (a := a) (xs := ts.map V.int) (fun i σ H' => ∃ u1 : Option V, σ = [some (.ref a), u1, none] ∧ H' = H ∧ badTop ts = badTop (ts.drop i)) ⟨none, rfl, rfl, rfl⟩ (fun i σ H' _ ⟨_, _, eH, _⟩ => by rw [eH]; exact hS) ?_ ?_⟩
    · rintro i x σ H' hx ⟨u1, rfl, rfl, eb⟩
      obtain ⟨t, rfl, ht⟩ := at_int hx
      rw [drop_cons ht, top_cons] at eb
      have bad2 : ¬ (0 ≤ t ∧ t ≤ 9) → tMkO C (spI1 C "n") [] (tCons (tVar 1) tNil) [some (.ref a), some (.int t), none] H' E := fun h1 => by
        refine ⟨_, rfl, mko1 ?_⟩
        rw [if_neg h1] at eb
        exact thr (chk_top hL eb)
      refine ⟨_, rfl, _, _, rfl, rfl, _, rfl, ite2 (fun e4 => ?_) (fun e4 => ?_)⟩
      · refine ⟨_, _, rfl, rfl, _, rfl, ?_⟩
        refine ite2 (fun e5 => ?_) (fun e5 => ?_)
        · refine bad2 fun z => ?_
          rw [decide_eq_true z.2] at e5
          cases e5
        · have h9 : t ≤ 9 := by
            cases hd : decide (t ≤ 9) with
            | true => exact of_decide_eq_true hd
            | false => exact absurd (by rw [hd]; rfl) e5
          rw [if_pos ⟨of_decide_eq_true e4, h9⟩] at eb
          exact ⟨_, rfl, rfl, eb⟩
      · exact ⟨_, rfl, bad2 fun z => e4 (decide_eq_true z.1)⟩
    rintro σ H' ⟨u1, rfl, rfl, eb⟩
    rw [List.length_map, List.drop_length] at eb
    have eb : badTop ts = none := eb
    -- how many options
    refine ⟨_, rfl, a, rfl, ⟨_, hS⟩, for_tup (K := K) (a := a) (xs := ts.map V.int) (fun i σ H2 => ∃ u1 : Option V, σ = [some (.ref a), u1, some (.int (cnt (ts.take i)))] ∧ H2 = H') ⟨_, rfl, rfl⟩ (fun i σ H2 _ ⟨_, _, eH⟩ => by rw [eH]; exact hS) ?_ ?_⟩
    · rintro i x σ H2 hx ⟨u1, rfl, rfl⟩
      obtain ⟨t, rfl, ht⟩ := at_int hx
      have h9 := top_all eb t (List.mem_of_getElem? ht)
      refine ⟨_, rfl, _, rfl, _, _, rfl, rfl, _, _, rfl, rfl, .inr ⟨by omega, by omega⟩, ⟨some (.int t), ?_, rfl⟩⟩
      rw [cnt_take ht]
      rfl
    rintro σ H2 ⟨u1, rfl, rfl⟩
    rw [List.length_map, List.take_length]
    refine ⟨_, rfl, _, _, rfl, rfl, _, rfl, ite2 (fun e6 => ?_) (fun e6 => ?_)⟩
    · refine ⟨_, rfl, mko1 ?_⟩
      exact thr (by rw [chk_cnt hL eb, if_pos (of_decide_eq_true e6)])
    · have e7 : chk ts = none := by rw [chk_cnt hL eb, if_neg fun z => e6 (decide_eq_true z)]
      rw [e7] at q
      exact q
abbrev nBelow : List Str := ["tops", "options", "top", "shorter", "level"]
theorem scBelow : FnScope nBelow ["tops"] (defScope sBelow) := ⟨rfl, rfl, rfl, by decide +kernel, rfl, by decide +kernel, by decide +kernel⟩
theorem ok_below (F : Fun K "options_below" "options_below" sBelow f fd) (mr : mg "range" = none) (mt : mg "tuple" = none) : FnOk P w K mg base CX0 1 f fd ["tops"] (spBelow K) := by
  refine F.ok scBelow (fun vs H Q E h => ?_) (fun cdv A outer s H vs Q E hr h => ?_)
  · obtain ⟨a, ts, rfl, _⟩ := h
    rfl
  · obtain ⟨a, ts, rfl, hS, hF, k⟩ := h
    refine ⟨_, pss_cons (ps_set (i := 1) scBelow.nd rfl (Or.inl rfl) (pe_newL (pa_cons (pe_newT pa_nil) pa_nil)))
      (pss_cons (ps_for PassesOwn.never rfl (pi_tup (pv 0)) (pg_name (i := 2) scBelow.nd rfl (Or.inr rfl))
        (pss_one (ps_setLc2 (i := 1) (te := tNewT (StX.tStar K (tVar 3) (tCons (tVar 4) tNil))) (own := [("shorter", 3), ("level", 4)]) (vs1 := [4]) (g := gName 3) (tt := tYes) (g1 := gName 4) (tt1 := tYes) rfl scBelow.nd rfl rfl (sw_true rfl rfl rfl (by decide +kernel)) (pi_list (pv 1))
          (blkOk_by (N := nBelow) (sc := defScope sBelow) (by decide +kernel)) (by decide) (fun _ _ _ _ _ => pg_name (i := 3) scBelow.nd rfl (Or.inl rfl)) (fun _ _ _ _ _ => pts_nil)
          (fun _ _ _ _ _ => pi_range1 rfl mr (pa_cons (pe_op op_add (pv 2) pe_int) pa_nil)) (fun _ _ _ _ _ => pg_name (i := 4) scBelow.nd rfl (Or.inl rfl)) (fun _ _ _ _ _ => pts_nil)
          (fun _ _ _ _ _ => pe_newT (StX.pa_star (pv 3) (pa_cons (pv 4) pa_nil))))))
      (pss_one (ps_ret (pe_callTy call_tup (by rfl) mt (by decide +kernel) (pa_cons (pv 1) pa_nil))))), ?_⟩
    refine ⟨Nat.zero_le _, fun t0 H1 s1 nt et => ⟨(by show 1 ≤ sizeLine; decide), fun l0 H2 s2 nl el => ?_⟩⟩
    have hS2 : SqT K H2 a (ts.map V.int) := Same.sqt (s1.trans s2) hS
    refine ⟨_, rfl, a, rfl, ⟨_, hS2⟩, for_tup (K := K) (a := a) (xs := ts.map V.int) (fun i σ H' => ∃ (l : Addr) (rs : List Addr) (u2 : Option V), σ = [some (.ref a), some (.ref l), u2, none, none] ∧ Same H H' ∧ H' l = some (.lst (rs.map V.ref)) ∧ Each K H' rs (below (ts.take i)))
      ⟨l0, [t0], none, rfl, s1.trans s2, el, .cons (.inl (.inl (s2 _ _ et))) .nil⟩ (fun i σ H' _ ⟨_, _, _, _, s, _⟩ => Same.sqt s hS) ?_ ?_⟩
    · rintro i x σ H' hx ⟨l, rs, u2, rfl, sH, hl, hE⟩
      obtain ⟨t, rfl, ht⟩ := at_int hx
      have ht9 := hF.2 t (List.mem_of_getElem? ht)
      have hi3 : i < 3 := Nat.lt_of_lt_of_le (List.getElem?_eq_some_iff.mp ht).1 hF.1
      have hb1 : (below (ts.take i)).length * (t + 1).toNat ≤ 10000 := by
        refine Nat.le_trans (Nat.mul_le_mul (below_len hF.2 i) (show (t + 1).toNat ≤ 10 by omega)) ?_
        have : 10 ^ i ≤ 10 ^ 2 := Nat.pow_le_pow_right (by decide) (by omega)
        omega
      refine ⟨_, rfl, l, rfl, ⟨_, SqL.of hl⟩, fun D nD => ?_⟩
      refine lc2_it (wi1 := iRng1 (tCons (tOp (rI0 fun i j => .int (i + j)) (tVar 2) (tC (.int 1))) tNil)) (g := gName 3) (g1 := gName 4) (tt := tYes) (tt1 := tYes) (te := tNewT (StX.tStar K (tVar 3) (tCons (tVar 4) tNil))) (vs := [3, 4]) (vs1 := [4]) (σ := [some (.ref a), some (.ref l), some (.int t), none, none]) (walk_list (K := K) (a := l) (xs := rs.map V.ref)) (fun j H3 => ∃ rs', Same H' H3 ∧ H3 D = some (.lst (rs'.map V.ref)) ∧ Each K H3 rs' (ext ((below (ts.take i)).take j) t))
        ⟨[], same_upd nD, upd_same, .nil⟩ (fun j H3 _ ⟨_, s3, _⟩ => SqL.of (s3 _ _ hl)) ?_ ?_
      · rintro j x H3 H3' hj ⟨rs', s3, gD, hE3⟩ ⟨rfl, ex⟩
        obtain ⟨r, rfl, hr'⟩ : ∃ r, x = .ref r ∧ rs[j]? = some r := by
          rw [List.getElem?_map] at ex
          cases e : rs[j]? with
          | none => rw [e] at ex; cases ex
          | some r => rw [e] at ex; cases ex; exact ⟨r, rfl, rfl⟩
        obtain ⟨o, ho, hro⟩ := hE.get hr'
        refine ⟨rfl, ?_⟩
        refine ⟨_, rfl, _, _, rfl, rfl, t + 1, rfl, by omega, by omega, ?_⟩
        refine in2_it (walk_range (lo := 0) (n := (t + 1).toNat)) (fun m H4 => ∃ rs'', Same H' H4 ∧ H4 D = some (.lst (rs''.map V.ref)) ∧ Each K H4 rs'' (ext ((below (ts.take i)).take j) t ++ extOne o m))
          ⟨rs', s3, gD, by rw [show extOne o 0 = [] from rfl, List.append_nil]; exact hE3⟩ (fun _ _ _ _ => trivial) ?_ ?_
        · rintro m y H4 H4' hm ⟨rs'', s4, gD4, hE4⟩ ⟨rfl, rfl⟩
          refine ⟨rfl, ?_⟩
          refine ⟨_, rfl, r, _, rfl, .inl (Same.sqt s4 hro), _, rfl, ?_, fun p H5 s5 np ep => ?_⟩
          · have hol := below_mem (Nat.le_of_lt (List.getElem?_eq_some_iff.mp ht).1) (List.mem_of_getElem? ho)
            rw [List.length_append, List.length_map, hol, sizeLine_eq]
            show i + 1 ≤ _
            omega
          · refine ⟨_, s5 _ _ gD4, ?_, rs'' ++ [p], ?_, ?_, ?_⟩
            · rw [List.length_map, hE4.len, sizeLine_eq]
              have := ext_bound (t := t) ho (Nat.le_of_lt hm)
              omega
            · intro b u e
              rw [upd_ne (ne_of_none e nD)]
              exact s5 _ _ (s4 _ _ e)
            · rw [upd_same, List.map_append]
              rfl
            · rw [extOne_succ, ← List.append_assoc]
              refine ((hE4.same s5).app (.cons ?_ .nil)).upd (s5 _ _ gD4)
              refine .inl (.inl ?_)
              rw [ep, List.map_append]
              show some (HO.tup (o.map V.int ++ [V.int (0 + (m : Int))])) = some (HO.tup (o.map V.int ++ [V.int (m : Int)]))
              rw [Int.zero_add]
        · rintro H4 ⟨rs'', s4, gD4, hE4⟩
          exact ⟨rs'', s4, gD4, by rw [ext_take ho]; exact hE4⟩
      · rintro H3 ⟨rs', s3, gD, hE3⟩
        refine ⟨D, rs', some (.int t), rfl, sH.trans s3, gD, ?_⟩
        rw [List.length_map, hE.len, List.take_length] at hE3
        rw [below_take ht]
        exact hE3
    · rintro σ H' ⟨l, rs, u2, rfl, sH, hl, hE⟩
      rw [List.length_map, List.take_length] at hE
      exact ⟨_, rfl, l, _, rfl, .inl (SqL.of hl), fun q H3 s3 hq => k q rs H3 (sH.trans s3) hq (hE.same s3)⟩
theorem scGInit : FnScope ["self", "tops"] (([("self" : Str)] : List Str) ++ [("tops" : Str)]) (defScope sGInit) := ⟨rfl, rfl, rfl, by decide +kernel, rfl, by decide +kernel, by decide +kernel⟩
theorem ok_ginit (F : Fun K "__init__" "Grid.__init__" sGInit f fd) (T : GTxt K C) (FC : Fun K "check_tops" "check_tops" sCheck fC dC) (bC : Binds K dC ["tops"] []) (gC : mg "check_tops" = some (.ref fC)) (GC : FnOk P w K mg base (L2.CX P w) 3 fC dC ["tops"] (spCheck K N))
    (FB : Fun K "options_below" "options_below" sBelow fB dB) (bB : Binds K dB ["tops"] []) (gB : mg "options_below" = some (.ref fB)) (GB : FnOk P w K mg base CX0 1 fB dB ["tops"] (spBelow K)) : FnR P w K mg base (L2.CX P w) 4 f (spGInit K C N) := by
  obtain ⟨oc, od, kV, doc, pm, an, cdv, ct, osl, rfl, lk, hcd⟩ := F.ex
  refine StX.fn_star (ps := ["self"]) (pv := "tops") (sp := spGBody K C N) lk hcd scGInit StX.cxUp (fun us rest hu => ?_) (fun A outer s H vs Q E hr h => ?_)
  · exact StX.bind_star1 (B := fun l => bindArgs (PySem.W.fnOf "__init__" "Grid.__init__" (defArgs sGInit) (defBody sGInit) (defScope sGInit) .none kV doc pm an cdv ct) ⟨l, []⟩) (p1 := "self") (pv := "tops") (fun _ => rfl) (fun _ _ _ => rfl) us rest hu
  · obtain ⟨x, t, dx, ts, rfl, hx, ht, q⟩ := h
    refine ⟨_, pss_cons (ps_expr (pe_call GC hr (by rfl) gC FC.kp bC .nil (passes_call (takes_of rfl rfl rfl rfl) (fun _ _ _ _ h => h)) (pa_cons (pv 1) pa_nil)))
      (pss_cons (ps_fld (pv 0) (pv 1) rfl) (pss_one (ps_fld (pv 0) (pe_call GB (hr.mono (by decide)) (by rfl) gB FB.kp bB .nil pass0 (pa_cons (pv 1) pa_nil)) rfl))), ?_⟩
    refine ⟨_, rfl, t, ts, rfl, ht, ?_⟩
    cases hc : chk ts with
    | some n =>
      rw [hc] at q
      exact q
    | none =>
      rw [hc] at q
      refine ⟨_, rfl, _, rfl, x, C, dx, _, rfl, hx, T.cl, T.nT, (by show 0 < 1000; decide), ?_⟩
      have k1 : ∀ b o, H b = some o → b ≠ x → (upd H x (.ins C dx (putF "tops" (.ref t) []))) b = some o := fun b o e hb => by rw [upd_ne hb]; exact e
      have ht1 := sqT_ne hx (fun _ z => nomatch z) (fun _ _ z => nomatch z) k1 ht
      refine ⟨_, rfl, t, ts, rfl, ht1, chk_few hc, fun p rs H2 s2 hp hE => ?_⟩
      have hx2 := s2 _ _ (upd_same (H := H) (a := x) (o := HO.ins C dx (putF "tops" (.ref t) [])))
      refine ⟨_, rfl, x, C, dx, _, rfl, hx2, T.cl, T.nO, (by show 1 < 1000; decide), ?_⟩
      rw [put_two]
      have k2 : ∀ b o, H2 b = some o → b ≠ x → (upd H2 x (.ins C dx [("tops", .ref t), ("options", .ref p)])) b = some o := fun b o e hb => by rw [upd_ne hb]; exact e
      have tr : ∀ {r : Addr} {xs : List V}, SqT K H2 r xs → SqT K (upd H2 x (.ins C dx [("tops", .ref t), ("options", .ref p)])) r xs := fun h => sqT_ne hx2 (fun _ z => nomatch z) (fun _ _ z => nomatch z) k2 h
      refine q _ (fun b o e hb => k2 b o (s2 b o (k1 b o e hb)) hb) ⟨dx, t, p, rs, upd_same, tr (Same.sqt s2 ht1), tr hp, ?_⟩
      exact hE.carry (fun r xs h => tr h)
end
end KL

set_option Elab.async false
set_option linter.all false
set_option maxRecDepth 100000
set_option maxHeartbeats 4000000
namespace KL
open PySem PySem.Spec PyProof.Rows L2 NdefX SX
abbrev sGEq : Stmt := inClass (top 20) 3
abbrev sGLen : Stmt := inClass (top 20) 4
abbrev sGHas : Stmt := inClass (top 20) 5
abbrev sGCheck : Stmt := inClass (top 20) 7
section
variable {P : Program} {w : World} {K : PySem.W.Frag} {mg : Str → Option Value} {base : Heap} {f fH fO C O : Addr} {fd dH dO' : FuncData}
theorem scGEq : FnScope ["self", "other"] ["self", "other"] (defScope sGEq) := ⟨rfl, rfl, rfl, by decide +kernel, rfl, by decide +kernel, by decide +kernel⟩
theorem ok_geq (F : Fun K "__eq__" "Grid.__eq__" sGEq f fd) (T : GTxt K C) (mi : mg "isinstance" = none) (gG : mg "Grid" = some (.ref C)) : FnOk P w K mg base CX0 1 f fd ["self", "other"] (spGEq K C) := by
  refine F.ok scGEq (fun vs H Q E h => ?_) (fun cdv A outer s H vs Q E hr h => ?_)
  · obtain ⟨x, y, ts, rfl, _⟩ := h
    rfl
  · obtain ⟨x, y, ts, rfl, ⟨dx, t, p, rs, hx, ht, hp, hE⟩, k⟩ := h
    refine ⟨_, pss_one (ps_ret (pe_and (pe_callB call_isi (by rfl) mi (by decide +kernel) (pa_cons (pv 1) (pa_cons (pe_glob (v := .ref C) (by rfl) gG rfl) pa_nil))) (pe_one (pe_cmpR (op_eqD hr.units) (pe_fld (pv 0) rfl) (pe_fld (pv 1) rfl) (nomark _))))), ?_⟩
    rcases k with ⟨us, ⟨dx', t', p', rs', hy, ht', hp', hE'⟩, k⟩ | ⟨xs, hy, kit, k⟩
    · refine ⟨_, rfl, _, _, .ref C, _, true, rfl, .own C, .base (.ins hy T.cl T.ha T.hn T.ht T.hm), by unfold PySem.W.kitOne; rw [if_pos (by simp)], true, rfl, ?_⟩
      refine ⟨_, rfl, x, C, dx, _, _, rfl, hx, T.cl, T.nT, rfl, _, rfl, y, C, dx', _, _, rfl, hy, T.cl, T.nT, rfl, dO ts, dO us, .tup ht (dpInts ts), .tup ht' (dpInts us), shapedT ts, shapedT us, ?_⟩
      rw [eqv_dO]
      exact k
    · refine ⟨_, rfl, _, _, .type "tuple", .ref C, false, rfl, .own C, tyX_T hy, kit, false, rfl, ?_⟩
      exact k
theorem scGLen : FnScope ["self"] ["self"] (defScope sGLen) := ⟨rfl, rfl, rfl, by decide +kernel, rfl, by decide +kernel, by decide +kernel⟩
theorem scGHas : FnScope ["self", "option"] ["self", "option"] (defScope sGHas) := ⟨rfl, rfl, rfl, by decide +kernel, rfl, by decide +kernel, by decide +kernel⟩
theorem ok_glen (F : Fun K "__len__" "Grid.__len__" sGLen f fd) (T : GTxt K C) (ml : mg "len" = none) : FnOk P w K mg base CX0 1 f fd ["self"] (spGLen K C) := by
  refine F.ok scGLen (fun vs H Q E h => ?_) (fun cdv A outer s H vs Q E hr h => ?_)
  · obtain ⟨x, ts, rfl, _⟩ := h
    rfl
  · obtain ⟨x, ts, rfl, ⟨dx, t, p, rs, hx, ht, hp, hE⟩, k⟩ := h
    refine ⟨_, pss_one (ps_ret (pe_callB call_len_seq (by rfl) ml PySem.boot_len (pa_cons (pe_fld (pv 0) rfl) pa_nil))), ?_⟩
    refine ⟨_, rfl, x, C, dx, _, _, rfl, hx, T.cl, T.nO, rfl, p, _, rfl, .inr hp, ?_⟩
    rw [List.length_map, hE.len]
    exact k
theorem ok_ghas (F : Fun K "__contains__" "Grid.__contains__" sGHas f fd) (T : GTxt K C) (mt : mg "tuple" = none) : FnOk P w K mg base CX0 1 f fd ["self", "option"] (spGHas K C) := by
  refine F.ok scGHas (fun vs H Q E h => ?_) (fun cdv A outer s H vs Q E hr h => ?_)
  · obtain ⟨x, p, ts, o, rfl, _⟩ := h
    rfl
  · obtain ⟨x, q, ts, o, rfl, ⟨dx, t, p, rs, hx, ht, hp, hE⟩, hq, k⟩ := h
    refine ⟨_, pss_one (ps_ret (pe_cmpR (op_inT (room65 hr)) (pe_callTy call_tup (by rfl) mt (by decide +kernel) (pa_cons (pv 1) pa_nil)) (pe_fld (pv 0) rfl) (by rfl))), ?_⟩
    refine ⟨_, rfl, q, _, rfl, hq, fun q2 H2 s2 h2 => ?_⟩
    refine ⟨_, rfl, x, C, dx, _, _, rfl, s2 _ _ hx, T.cl, T.nO, rfl, dO o, (below ts).map dO, .tup h2 (dpInts o), .tup (Same.sqt s2 hp) (hE.same s2).dp, shaped_dO o, shaped_dOs _, ?_⟩
    rw [any_dO]
    exact k H2 s2
theorem scCk : FnScope nCk ["self", "options"] (defScope sGCheck) := ⟨rfl, rfl, rfl, by decide +kernel, rfl, by decide +kernel, by decide +kernel⟩
theorem ok_gcheck (F : Fun K "check" "Grid.check" sGCheck f fd) (DH : Dun K C "__contains__" fH) (GH : FnOk P w K mg base CX0 1 fH dH ["self", "option"] (spGHas K C)) (bH : Binds K dH ["self", "option"] [])
    (gO : mg "BadOption" = some (.ref O)) (ox : OexC K O) (iO : PySem.W.findIn K (.ref O) "__init__" = some (some (.ref fO))) (tO : PySem.W.typeIn K (.ref fO) = some (.type "function"))
    (GO : FnOk P w K mg base CX0 1 fO dO' ["self", "option"] (spT1 K O "option")) (bO : Binds K dO' ["self", "option"] []) : FnOk P w K mg base (L2.CX P w) 3 f fd ["self", "options"] (spGCheck K C O) := by
  refine F.okX scCk (fun vs H Q E h => ?_) (fun cdv A outer s H vs Q E hr h => ?_)
  · obtain ⟨x, l, ts, ps, os, rfl, _⟩ := h
    rfl
  · obtain ⟨x, l, ts, ps, os, rfl, hG, hl, hO, q⟩ := h
    refine ⟨_, pss_one (ps_for (passes_of rfl) rfl (pi_list (pv 1)) (pg_name (i := 2) scCk.nd rfl (Or.inl rfl))
      (pss_one (ps_if (pt_cmpR (op_notInO DH GH bH pass0 (hr.mono (by decide))) (pv 2) (pv 0) (by rfl))
        (pss_one (ps_raise rfl (takes_of rfl rfl rfl rfl) (pmk_oex ox iO tO GO (hr.mono (by decide)) bO .nil pass0 (by rfl) gO (pa_cons (pv 2) pa_nil)))) pss_nil))), ?_⟩
    refine ⟨.ref l, rfl, l, rfl, ⟨_, hl⟩, for_list (K := K) (a := l) (xs := ps.map V.ref) (fun i σ H' => ∃ u2 : Option V, σ = [some (.ref x), some (.ref l), u2] ∧ Same H H' ∧ badOpt ts os = badOpt ts (os.drop i))
      ⟨none, rfl, Same.refl H, rfl⟩ (fun i σ H' _ ⟨_, _, s, _⟩ => s.seq hl) ?_ ?_⟩
    · rintro i y σ H' hy ⟨u2, rfl, s1, eq⟩
      rw [List.getElem?_map] at hy
      cases er : ps[i]? with
      | none => rw [er] at hy; cases hy
      | some r =>
        rw [er] at hy
        cases hy
        obtain ⟨o, eo, ho⟩ := (hO.same s1).get er
        rw [drop_cons eo, opt_cons] at eq
        have hG' := hG.same s1
        obtain ⟨dx, t, p, rs, hx, _⟩ := id hG'
        refine ⟨_, rfl, _, rfl, x, dx, _, rfl, hx, x, r, ts, o, rfl, hG', ho, fun H2 s2 => ⟨_, rfl, _, rfl, ?_⟩⟩
        by_cases hm : o ∈ below ts
        · rw [decide_eq_true hm]
          rw [if_pos hm] at eq
          exact ⟨_, rfl, s1.trans s2, eq⟩
        · rw [decide_eq_false hm]
          rw [if_neg hm] at eq
          rw [eq] at q
          exact ⟨_, rfl, mkoT (sqA_same s2 ho) (ThrownT.back (s1.trans s2) q)⟩
    · rintro σ H' ⟨u2, rfl, s1, eq⟩
      rw [List.length_map, hO.len, List.drop_length] at eq
      have eq : badOpt ts os = none := eq
      rw [eq] at q
      exact q H' s1
end
end KL

set_option Elab.async false
set_option linter.all false
set_option maxRecDepth 100000
set_option maxHeartbeats 4000000
namespace KL
open PySem PySem.Spec PyProof.Rows L2 NdefX SX
abbrev sGLow : Stmt := inClass (top 20) 8
abbrev sGHigh : Stmt := inClass (top 20) 9
abbrev nPair : List Str := ["self", "first", "second", "one", "other"]
section
variable {P : Program} {w : World} {K : PySem.W.Frag} {mg : Str → Option Value} {base : Heap} {f fC C O : Addr} {fd dC : FuncData}
theorem scLow : FnScope nPair ["self", "first", "second"] (defScope sGLow) := ⟨rfl, rfl, rfl, by decide +kernel, rfl, by decide +kernel, by decide +kernel⟩
theorem scHigh : FnScope nPair ["self", "first", "second"] (defScope sGHigh) := ⟨rfl, rfl, rfl, by decide +kernel, rfl, by decide +kernel, by decide +kernel⟩
theorem ok_lesser (F : Fun K "lesser" "Grid.lesser" sGLow f fd) (T : GTxt K C) (M : Meth K C "check" fC) (GC : FnOk P w K mg base (L2.CX P w) 3 fC dC ["self", "options"] (spGCheck K C O)) (bC : Binds K dC ["self", "options"] [])
    (mt : mg "tuple" = none) (mm : mg "min" = none) (mz : mg "zip" = none) : FnOk P w K mg base (L2.CX P w) 4 f fd ["self", "first", "second"] (spLesser K C O) := by
  refine F.okX scLow (fun vs H Q E h => ?_) (fun cdv A outer s H vs Q E hr h => ?_)
  · obtain ⟨x, a, b, ts, o1, o2, rfl, _⟩ := h
    rfl
  · obtain ⟨x, a, b, ts, o1, o2, rfl, hG, hF, h1, h2, q⟩ := h
    refine ⟨_, pss_cons (ps_expr (pe_meth (pv 0) T.cl M GC (hr.mono (by decide)) bC .nil (passes_call (takes_of rfl rfl rfl rfl) (fun _ _ _ _ h => h)) (pa_cons (pe_newL (pa_cons (pv 1) (pa_cons (pv 2) pa_nil))) pa_nil)))
      (pss_one (ps_ret (pe_callTy call_tup (by rfl) mt (by decide +kernel) (pa_cons (pe_lc (own := [("one", 3), ("other", 4)]) (tt := tYes) (g := gTup K 2 (gCons (gName 3) (gCons (gName 4) gNil))) (te := tCB (fun xs H Q => ∃ i j, xs = [.int i, .int j] ∧ Q (.int (if j < i then j else i)) H) (tCons (tVar 3) (tCons (tVar 4) tNil))) rfl scLow.nd (pi_zipB (by rfl) mz (pa_cons (pv 1) (pa_cons (pv 2) pa_nil)))
          (blkOk_by (N := nPair) (sc := defScope sGLow) (by decide +kernel)) (fun _ _ _ _ _ => pg_tup rfl (pgs_cons (pg_name (i := 3) scLow.nd rfl (Or.inl rfl)) (pgs_cons (pg_name (i := 4) scLow.nd rfl (Or.inl rfl)) pgs_nil))) (fun _ _ _ _ _ => pts_nil)
          (fun _ _ _ _ _ => pe_callB (call_min2 rfl) (by rfl) mm (by decide +kernel) (pa_cons (pv 3) (pa_cons (pv 4) pa_nil)))) pa_nil)))), ?_⟩
    obtain ⟨dx, t, p, rs, hx, _⟩ := id hG
    refine ⟨_, rfl, x, dx, _, rfl, hx, rfl, ?_⟩
    refine ⟨_, rfl, _, rfl, (by show 2 ≤ sizeLine; decide), fun l H1 s1 nl el => ?_⟩
    refine ⟨x, l, ts, [a, b], [o1, o2], rfl, hG.same s1, SqL.of el, (opts2 h1 h2).same s1, ?_⟩
    cases e : badOpt ts [o1, o2] with
    | some o =>
      rw [e] at q
      exact ThrownT.back s1 q
    | none =>
      rw [e] at q
      intro H2 s2
      have m1 := bad_none e o1 (by simp)
      have m2 := bad_none e o2 (by simp)
      have l1 := opt_len m1
      have l2 := opt_len m2
      have h3 := hF.1
      have s12 := s1.trans s2
      obtain ⟨ka, ka'⟩ := (sqA_same s12 h1).kind
      obtain ⟨kb, kb'⟩ := (sqA_same s12 h2).kind
      refine ⟨_, rfl, _, rfl, a, b, ka, kb, _, _, rfl, ka', kb', fun D nD => ?_⟩
      refine lc_pairs (g := fun m n => V.int (mn m n)) (Same.refl H2) nD (by omega) (by omega) ka' kb' (fun _ _ => rfl) (fun m n H' Q q => ⟨_, rfl, _, rfl, m, n, rfl, q⟩) fun H3 s3 gD => ?_
      rw [zip_ints] at gD
      exact ⟨D, _, rfl, .inl (SqL.of gD), fun p H4 s4 hp => q H (Same.refl H) p H4 ((s12.trans s3).trans s4) hp⟩
theorem ok_greater (F : Fun K "greater" "Grid.greater" sGHigh f fd) (T : GTxt K C) (M : Meth K C "check" fC) (GC : FnOk P w K mg base (L2.CX P w) 3 fC dC ["self", "options"] (spGCheck K C O)) (bC : Binds K dC ["self", "options"] [])
    (mt : mg "tuple" = none) (mm : mg "max" = none) (mz : mg "zip" = none) : FnOk P w K mg base (L2.CX P w) 4 f fd ["self", "first", "second"] (spGreater K C O) := by
  refine F.okX scHigh (fun vs H Q E h => ?_) (fun cdv A outer s H vs Q E hr h => ?_)
  · obtain ⟨x, a, b, ts, o1, o2, rfl, _⟩ := h
    rfl
  · obtain ⟨x, a, b, ts, o1, o2, rfl, hG, hF, h1, h2, q⟩ := h
    refine ⟨_, pss_cons (ps_expr (pe_meth (pv 0) T.cl M GC (hr.mono (by decide)) bC .nil (passes_call (takes_of rfl rfl rfl rfl) (fun _ _ _ _ h => h)) (pa_cons (pe_newL (pa_cons (pv 1) (pa_cons (pv 2) pa_nil))) pa_nil)))
      (pss_one (ps_ret (pe_callTy call_tup (by rfl) mt (by decide +kernel) (pa_cons (pe_lc (own := [("one", 3), ("other", 4)]) (tt := tYes) (g := gTup K 2 (gCons (gName 3) (gCons (gName 4) gNil))) (te := tCB (fun xs H Q => ∃ i j, xs = [.int i, .int j] ∧ Q (.int (if j > i then j else i)) H) (tCons (tVar 3) (tCons (tVar 4) tNil))) rfl scHigh.nd (pi_zipB (by rfl) mz (pa_cons (pv 1) (pa_cons (pv 2) pa_nil)))
          (blkOk_by (N := nPair) (sc := defScope sGHigh) (by decide +kernel)) (fun _ _ _ _ _ => pg_tup rfl (pgs_cons (pg_name (i := 3) scHigh.nd rfl (Or.inl rfl)) (pgs_cons (pg_name (i := 4) scHigh.nd rfl (Or.inl rfl)) pgs_nil))) (fun _ _ _ _ _ => pts_nil)
          (fun _ _ _ _ _ => pe_callB (call_max2 rfl) (by rfl) mm (by decide +kernel) (pa_cons (pv 3) (pa_cons (pv 4) pa_nil)))) pa_nil)))), ?_⟩
    obtain ⟨dx, t, p, rs, hx, _⟩ := id hG
    refine ⟨_, rfl, x, dx, _, rfl, hx, rfl, ?_⟩
    refine ⟨_, rfl, _, rfl, (by show 2 ≤ sizeLine; decide), fun l H1 s1 nl el => ?_⟩
    refine ⟨x, l, ts, [a, b], [o1, o2], rfl, hG.same s1, SqL.of el, (opts2 h1 h2).same s1, ?_⟩
    cases e : badOpt ts [o1, o2] with
    | some o =>
      rw [e] at q
      exact ThrownT.back s1 q
    | none =>
      rw [e] at q
      intro H2 s2
      have m1 := bad_none e o1 (by simp)
      have m2 := bad_none e o2 (by simp)
      have l1 := opt_len m1
      have l2 := opt_len m2
      have h3 := hF.1
      have s12 := s1.trans s2
      obtain ⟨ka, ka'⟩ := (sqA_same s12 h1).kind
      obtain ⟨kb, kb'⟩ := (sqA_same s12 h2).kind
      refine ⟨_, rfl, _, rfl, a, b, ka, kb, _, _, rfl, ka', kb', fun D nD => ?_⟩
      refine lc_pairs (g := fun m n => V.int (mx m n)) (Same.refl H2) nD (by omega) (by omega) ka' kb' (fun _ _ => rfl) (fun m n H' Q q => ⟨_, rfl, _, rfl, m, n, rfl, q⟩) fun H3 s3 gD => ?_
      rw [zip_ints] at gD
      exact ⟨D, _, rfl, .inl (SqL.of gD), fun p H4 s4 hp => q H (Same.refl H) p H4 ((s12.trans s3).trans s4) hp⟩
end
end KL

set_option Elab.async false
set_option linter.all false
set_option maxRecDepth 100000
set_option maxHeartbeats 4000000
namespace KL
open PySem PySem.Spec PyProof.Rows L2 NdefX SX
abbrev sLLow : Stmt := top 36
abbrev sLHigh : Stmt := top 37
abbrev nLPair : List Str := ["_law_first", "_law_second", "_law_one", "_law_other"]
def spL2 (K : PySem.W.Frag) (f : List Int → List Int → List Int) : Sp := fun vs H Q _ => ∃ (a b : Addr) (o1 o2 : List Int), vs = [.ref a, .ref b] ∧ SqA K H a (o1.map V.int) ∧ SqA K H b (o2.map V.int) ∧ o1.length = o2.length ∧ o1.length ≤ 1000 ∧ ∀ p H', Same H H' → SqT K H' p ((f o1 o2).map V.int) → Q (.ref p) H'
section
variable {P : Program} {w : World} {K : PySem.W.Frag} {mg : Str → Option Value} {base : Heap} {f : Addr} {fd : FuncData}
theorem scLLow : FnScope nLPair ["_law_first", "_law_second"] (defScope sLLow) := ⟨rfl, rfl, rfl, by decide +kernel, rfl, by decide +kernel, by decide +kernel⟩
theorem scLHigh : FnScope nLPair ["_law_first", "_law_second"] (defScope sLHigh) := ⟨rfl, rfl, rfl, by decide +kernel, rfl, by decide +kernel, by decide +kernel⟩
theorem ok_llow (F : Fun K "_law_low_of" "_law_low_of" sLLow f fd) (mt : mg "tuple" = none) (mm : mg "min" = none) (mz : mg "zip" = none) : FnOk P w K mg base CX0 1 f fd ["_law_first", "_law_second"] (spL2 K lowO) := by
  refine F.ok scLLow (fun vs H Q E h => ?_) (fun cdv A outer s H vs Q E hr h => ?_)
  · obtain ⟨a, b, o1, o2, rfl, _⟩ := h
    rfl
  · obtain ⟨a, b, o1, o2, rfl, h1, h2, hl, hz, q⟩ := h
    refine ⟨_, pss_one (ps_ret (pe_callTy call_tup (by rfl) mt (by decide +kernel) (pa_cons (pe_lc (own := [("_law_one", 2), ("_law_other", 3)]) (tt := tYes) (g := gTup K 2 (gCons (gName 2) (gCons (gName 3) gNil))) (te := tCB (fun xs H Q => ∃ i j, xs = [.int i, .int j] ∧ Q (.int (if j < i then j else i)) H) (tCons (tVar 2) (tCons (tVar 3) tNil))) rfl scLLow.nd (pi_zipB (by rfl) mz (pa_cons (pv 0) (pa_cons (pv 1) pa_nil)))
          (blkOk_by (N := nLPair) (sc := defScope sLLow) (by decide +kernel)) (fun _ _ _ _ _ => pg_tup rfl (pgs_cons (pg_name (i := 2) scLLow.nd rfl (Or.inl rfl)) (pgs_cons (pg_name (i := 3) scLLow.nd rfl (Or.inl rfl)) pgs_nil))) (fun _ _ _ _ _ => pts_nil)
          (fun _ _ _ _ _ => pe_callB (call_min2 rfl) (by rfl) mm (by decide +kernel) (pa_cons (pv 2) (pa_cons (pv 3) pa_nil)))) pa_nil))), ?_⟩
    obtain ⟨ka, ka'⟩ := h1.kind
    obtain ⟨kb, kb'⟩ := h2.kind
    refine ⟨_, rfl, _, rfl, a, b, ka, kb, _, _, rfl, ka', kb', fun D nD => ?_⟩
    refine lc_pairs (g := fun m n => V.int (mn m n)) (Same.refl H) nD hl hz ka' kb' (fun _ _ => rfl) (fun m n H' Q q => ⟨_, rfl, _, rfl, m, n, rfl, q⟩) fun H3 s3 gD => ?_
    rw [zip_ints] at gD
    exact ⟨D, _, rfl, .inl (SqL.of gD), fun p H4 s4 hp => q p H4 (s3.trans s4) hp⟩
theorem ok_lhigh (F : Fun K "_law_high_of" "_law_high_of" sLHigh f fd) (mt : mg "tuple" = none) (mm : mg "max" = none) (mz : mg "zip" = none) : FnOk P w K mg base CX0 1 f fd ["_law_first", "_law_second"] (spL2 K highO) := by
  refine F.ok scLHigh (fun vs H Q E h => ?_) (fun cdv A outer s H vs Q E hr h => ?_)
  · obtain ⟨a, b, o1, o2, rfl, _⟩ := h
    rfl
  · obtain ⟨a, b, o1, o2, rfl, h1, h2, hl, hz, q⟩ := h
    refine ⟨_, pss_one (ps_ret (pe_callTy call_tup (by rfl) mt (by decide +kernel) (pa_cons (pe_lc (own := [("_law_one", 2), ("_law_other", 3)]) (tt := tYes) (g := gTup K 2 (gCons (gName 2) (gCons (gName 3) gNil))) (te := tCB (fun xs H Q => ∃ i j, xs = [.int i, .int j] ∧ Q (.int (if j > i then j else i)) H) (tCons (tVar 2) (tCons (tVar 3) tNil))) rfl scLHigh.nd (pi_zipB (by rfl) mz (pa_cons (pv 0) (pa_cons (pv 1) pa_nil)))
          (blkOk_by (N := nLPair) (sc := defScope sLHigh) (by decide +kernel)) (fun _ _ _ _ _ => pg_tup rfl (pgs_cons (pg_name (i := 2) scLHigh.nd rfl (Or.inl rfl)) (pgs_cons (pg_name (i := 3) scLHigh.nd rfl (Or.inl rfl)) pgs_nil))) (fun _ _ _ _ _ => pts_nil)
          (fun _ _ _ _ _ => pe_callB (call_max2 rfl) (by rfl) mm (by decide +kernel) (pa_cons (pv 2) (pa_cons (pv 3) pa_nil)))) pa_nil))), ?_⟩
    obtain ⟨ka, ka'⟩ := h1.kind
    obtain ⟨kb, kb'⟩ := h2.kind
    refine ⟨_, rfl, _, rfl, a, b, ka, kb, _, _, rfl, ka', kb', fun D nD => ?_⟩
    refine lc_pairs (g := fun m n => V.int (mx m n)) (Same.refl H) nD hl hz ka' kb' (fun _ _ => rfl) (fun m n H' Q q => ⟨_, rfl, _, rfl, m, n, rfl, q⟩) fun H3 s3 gD => ?_
    rw [zip_ints] at gD
    exact ⟨D, _, rfl, .inl (SqL.of gD), fun p H4 s4 hp => q p H4 (s3.trans s4) hp⟩
abbrev sTurned : Stmt := top 39
abbrev nTurned : List Str := ["_law_pool", "_law_row", "_law_left", "_law_told", "_law_k"]
/-- the same things in another order -/
def spTurned (K : PySem.W.Frag) : Sp := fun vs H Q _ => ∃ (p l : Addr) (b : Bool) (rs : List Addr), vs = [.ref p, .ref l] ∧ Bag H p b ∧ H l = some (.lst (rs.map V.ref)) ∧ l ≠ p ∧ rs.length ≤ 1000 ∧ ∀ (q : Addr) (rs' : List Addr) H', rs'.Perm rs → But p H H' → Bag H' p b → H q = none → H' q = some (.lst (rs'.map V.ref)) → Q (.ref q) H'
theorem scTurned : FnScope nTurned ["_law_pool", "_law_row"] (defScope sTurned) := ⟨rfl, rfl, rfl, by decide +kernel, rfl, by decide +kernel, by decide +kernel⟩
theorem perm_pop {α : Type} {as bs : List α} {k : Nat} {x : α} (h : bs[k]? = some x) : (as ++ [x] ++ bs.eraseIdx k).Perm (as ++ bs) := by
  rw [List.append_assoc]
  refine List.Perm.append_left as ?_
  induction bs generalizing k with
  | nil => cases h
  | cons y r ih =>
    cases k with
    | zero => cases h; exact List.Perm.refl _
    | succ k => exact (List.Perm.swap y x (r.eraseIdx k)).trans (List.Perm.cons y (ih h))
theorem map_erase : ∀ (rs : List Addr) (k : Nat), (rs.map V.ref).eraseIdx k = (rs.eraseIdx k).map V.ref
  | [], _ => rfl
  | _ :: _, 0 => rfl
  | x :: r, k + 1 => congrArg (V.ref x :: ·) (map_erase r k)
theorem ok_turned {fD : Addr} {dD : FuncData} (F : Fun K "_law_turned" "_law_turned" sTurned f fd) (FD : Fun K "_law_draw" "_law_draw" sDraw fD dD) (bD : Binds K dD ["_law_pool", "_law_limit"] []) (gD : mg "_law_draw" = some (.ref fD)) (GD : FnOk P w K mg base CX0 1 fD dD ["_law_pool", "_law_limit"] spDraw)
    (ml : mg "list" = none) (mn : mg "len" = none) (mr : mg "range" = none) : FnOk P w K mg base CX0 2 f fd ["_law_pool", "_law_row"] (spTurned K) := by
  refine F.ok scTurned (fun vs H Q E h => ?_) (fun cdv A outer s H vs Q E hr h => ?_)
  · obtain ⟨p, l, b, rs, rfl, _⟩ := h
    rfl
  · obtain ⟨p, l, b, rs, rfl, hB, hl, hlp, hz, q⟩ := h
    refine ⟨_, pss_cons (ps_set (i := 2) scTurned.nd rfl (Or.inl rfl) (pe_callTy call_listW (by rfl) ml (by decide +kernel) (pa_cons (pv 1) pa_nil)))
      (pss_cons (ps_set (i := 3) scTurned.nd rfl (Or.inl rfl) (pe_newL pa_nil))
      (pss_cons (ps_for PassesOwn.never rfl (pi_range1 rfl mr (pa_cons (pe_callB call_len_seq (by rfl) mn PySem.boot_len (pa_cons (pv 1) pa_nil)) pa_nil)) (pg_name (i := 4) scTurned.nd rfl (Or.inl rfl))
        (pss_one (ps_expr (pe_bm PySem.F.plainAttrs_list PySem.F.slot_list_append PySem.F.type_list_append mt_append (pv 3) (pa_cons (pe_bm PySem.F.plainAttrs_list PySem.F.slot_list_pop PySem.F.type_list_pop mt_popAt (pv 2) (pa_cons
          (pe_call GD (hr.mono (by decide)) (by rfl) gD FD.kp bD .nil pass0 (pa_cons (pv 0) (pa_cons (pe_callB call_len_seq (by rfl) mn PySem.boot_len (pa_cons (pv 2) pa_nil)) pa_nil))) pa_nil)) pa_nil)))))
      (pss_one (ps_ret (pv 3))))), ?_⟩
    refine ⟨_, rfl, l, _, rfl, .inl (SqL.of hl), fun l2 H1 s1 n2 e2 => ?_⟩
    refine ⟨Nat.zero_le _, fun l3 H2 s2 n3 e3 => ?_⟩
    have hl2 := (s1.trans s2) _ _ hl
    have n2p : l2 ≠ p := hB.ne n2
    have n3p : l3 ≠ p := (hB.same s1).ne n3
    have n23 : l2 ≠ l3 := fun z => by rw [z, n3] at e2; cases e2
    have n3H : H l3 = none := ne0 s1 n3
    refine ⟨_, rfl, l, _, rfl, .inl (SqL.of hl2), _, rfl, by omega, by rw [List.length_map]; omega, ?_⟩
    rw [List.length_map]
    refine for_range (lo := 0) (n := rs.length) (fun i σ H' => ∃ (u4 : Option V) (told left : List Addr), σ = [some (.ref p), some (.ref l), some (.ref l2), some (.ref l3), u4] ∧ But p H H' ∧ Bag H' p b ∧ H' l2 = some (.lst (left.map V.ref)) ∧ H' l3 = some (.lst (told.map V.ref)) ∧ (told ++ left).Perm rs ∧ told.length = i)
      ⟨none, [], rs, rfl, Same.but (s1.trans s2), hB.same (s1.trans s2), s2 _ _ e2, e3, List.Perm.refl _, rfl⟩ ?_ ?_
    · rintro i σ H' hi ⟨u4, told, left, rfl, bH, hB', g2, g3, hp, ht⟩
      have hll := hp.length_eq
      rw [List.length_append] at hll
      refine ⟨_, rfl, .inl ⟨rfl, _, SqL.of g3⟩, _, rfl, .inl ⟨rfl, _, SqL.of g2⟩, _, rfl, _, rfl, l2, _, rfl, .inl (SqL.of g2), ?_⟩
      rw [List.length_map]
      refine ⟨p, _, b, rfl, hB', by omega, by omega, fun r H3 r0 r1 b3 hB3 => ?_⟩
      obtain ⟨k, rfl⟩ := Int.eq_ofNat_of_zero_le r0
      have hk : k < left.length := by omega
      have g23 := b3 _ _ g2 n2p
      have g33 := b3 _ _ g3 n3p
      have hat : left[k]? = some left[k] := List.getElem?_eq_getElem hk
      refine ⟨l2, left.map V.ref, (k : Int), k, .ref left[k], rfl, rfl, g23, by omega, by omega, (ixN_seq (show ixN (left.map V.ref).length (k : Int) = some k by unfold ixN; rw [List.length_map, if_pos (by omega), if_pos (by omega)]; rfl)).1, by rw [List.getElem?_map, hat]; rfl, ?_⟩
      rw [map_erase]
      refine ⟨l3, told.map V.ref, _, rfl, rfl, by rw [upd_ne n23.symm]; exact g33, by rw [List.length_map, sizeLine_eq]; omega, ?_⟩
      have b4 : But p H (upd (upd H3 l2 (.lst ((left.eraseIdx k).map V.ref))) l3 (.lst (told.map V.ref ++ [V.ref left[k]]))) := fun c o e n => by
        rw [upd_ne (ne_of_none e n3H), upd_ne (ne_of_none e n2)]
        exact b3 _ _ (bH _ _ e n) n
      refine ⟨_, told ++ [left[k]], left.eraseIdx k, rfl, b4, ?_, by rw [upd_ne n23, upd_same], by rw [upd_same, List.map_append]; rfl, (perm_pop hat).trans hp, by rw [List.length_append, ht]; rfl⟩
      obtain ⟨c, n, hb⟩ := hB3
      exact ⟨c, n, by rw [upd_ne n3p.symm, upd_ne n2p.symm]; exact hb⟩
    · rintro σ H' ⟨u4, told, left, rfl, bH, hB', g2, g3, hp, ht⟩
      have hll := hp.length_eq
      rw [List.length_append] at hll
      obtain rfl : left = [] := List.eq_nil_of_length_eq_zero (by omega)
      rw [List.append_nil] at hp
      exact ⟨_, rfl, q l3 told H' hp bH hB' n3H g3⟩
end
end KL

set_option Elab.async false
set_option linter.all false
set_option maxRecDepth 100000
set_option maxHeartbeats 4000000
namespace KL
open PySem PySem.Spec PyProof.Rows L2 NdefX SX
abbrev sTextOf : Stmt := top 23
abbrev sAsc : Stmt := top 24
abbrev sOpen : Stmt := top 25
abbrev nTextOf : List Str := ["levels", "level"]
abbrev nAsc : List Str := ["grid", "options", "told", "option"]
abbrev nOpen : List Str := ["grid", "options", "at", "first", "second"]
section
variable {P : Program} {w : World} {K : PySem.W.Frag} {mg : Str → Option Value} {base : Heap} {f fC fN fL fG C N O : Addr} {fd dC dN dL dG : FuncData}
theorem scTextOf : FnScope nTextOf ["levels"] (defScope sTextOf) := ⟨rfl, rfl, rfl, by decide +kernel, rfl, by decide +kernel, by decide +kernel⟩
theorem ok_textOf (F : Fun K "text_of" "text_of" sTextOf f fd) (ms : mg "str" = none) : FnOk P w K mg base CX0 1 f fd ["levels"] (spTextOf K) := by
  refine F.ok scTextOf (fun vs H Q E h => ?_) (fun cdv A outer s H vs Q E hr h => ?_)
  · obtain ⟨a, ts, rfl, _⟩ := h
    rfl
  · obtain ⟨a, ts, rfl, ht, hF, k⟩ := h
    refine ⟨_, pss_one (ps_ret (pe_bm PySem.F.plainAttrs_str PySem.F.slot_str_join PySem.F.type_str_join mt_join pe_str (pa_cons
      (pe_lc (own := [("level", 1)]) (g := gName 1) (tt := tYes) (te := tCB (fun xs H Q => ∃ i, xs = [.int i] ∧ i.natAbs.log2 < 1920 ∧ Q (.str (toString i)) H) (tCons (tVar 1) tNil)) rfl scTextOf.nd (pi_any (pv 0)) (blkOk_by (N := nTextOf) (sc := defScope sTextOf) (by decide +kernel)) (fun _ _ _ _ _ => pg_name (i := 1) scTextOf.nd rfl (Or.inl rfl)) (fun _ _ _ _ _ => pts_nil)
        (fun _ _ _ _ _ => pe_callTy call_str_int (by rfl) ms (by decide +kernel) (pa_cons (pv 1) pa_nil))) pa_nil))), ?_⟩
    obtain ⟨ka, ha⟩ := ht.kind
    refine ⟨rfl, _, rfl, a, ka, _, rfl, ha, fun D nD => ?_⟩
    refine lc_it (walk_any (K := K) (p := ka) (a := a) (xs := ts.map V.int)) (fun i H' => Same H H' ∧ H' D = some (.lst (((ts.take i).map toS).map V.str))) ⟨same_upd nD, upd_same⟩ (fun i H' _ ⟨s, _⟩ => ha.same s) ?_ ?_
    · rintro i y H2 H' hi ⟨s2, gD⟩ ⟨rfl, hy⟩
      obtain ⟨n, rfl, hn⟩ := at_int hy
      have h9 := hF.2 n (List.mem_of_getElem? hn)
      refine ⟨rfl, ?_⟩
      refine ⟨_, rfl, _, rfl, (small_str h9.1 h9.2).1, _, gD, ?_, fun b o e => ?_, ?_⟩
      · rw [List.length_map, List.length_map, List.length_take, sizeLine_eq]
        have := hF.1
        omega
      · rw [upd_ne (ne_of_none e nD)]
        exact s2 b o e
      · rw [upd_same, List.take_add_one, hn, List.map_append, List.map_append]
        rfl
    · rintro H' ⟨s2, gD⟩
      rw [List.length_map, List.take_length] at gD
      refine ⟨_, D, _, rfl, rfl, .inl (SqL.of gD), ?_, k H' s2⟩
      have h1 := strs_sum hF.2
      have h2 := hF.1
      have h3 : blank.length = 1 := by decide +kernel
      show _ + _ * blank.length ≤ _
      rw [List.length_map, h3]
      omega
theorem scAsc : FnScope nAsc ["grid", "options"] (defScope sAsc) := ⟨rfl, rfl, rfl, by decide +kernel, rfl, by decide +kernel, by decide +kernel⟩
theorem ok_asc (F : Fun K "ascending" "ascending" sAsc f fd) (T : GTxt K C) (M : Meth K C "check" fC) (GC : FnOk P w K mg base (L2.CX P w) 3 fC dC ["self", "options"] (spGCheck K C O)) (bC : Binds K dC ["self", "options"] [])
    (gN : mg "BadNumber" = some (.ref N)) (ox : OexC K N) (iN : PySem.W.findIn K (.ref N) "__init__" = some (some (.ref fN))) (tI : PySem.W.typeIn K (.ref fN) = some (.type "function")) (GN : FnOk P w K mg base CX0 1 fN dN ["self", "n"] (spI1 N "n")) (bN : Binds K dN ["self", "n"] [])
    (mt : mg "tuple" = none) (ml : mg "len" = none) : FnOk P w K mg base (L2.CX P w) 4 f fd ["grid", "options"] (spAsc K C N O) := by
  refine F.okX scAsc (fun vs H Q E h => ?_) (fun cdv A outer s H vs Q E hr h => ?_)
  · obtain ⟨g, l, ts, ps, os, rfl, _⟩ := h
    rfl
  · obtain ⟨g, l, ts, ps, os, rfl, hG, hF, hl, hO, hz, q⟩ := h
    refine ⟨_, pss_cons (ps_set (i := 2) scAsc.nd rfl (Or.inr rfl) (pe_lc (own := [("option", 3)]) (g := gName 3) (tt := tYes) (te := tCB (rTup K) (tCons (tVar 3) tNil)) rfl scAsc.nd (pi_any (pv 1)) (blkOk_by (N := nAsc) (sc := defScope sAsc) (by decide +kernel)) (fun _ _ _ _ _ => pg_name (i := 3) scAsc.nd rfl (Or.inl rfl)) (fun _ _ _ _ _ => pts_nil)
          (fun _ _ _ _ _ => pe_callTy call_tup (by rfl) mt (by decide +kernel) (pa_cons (pv 3) pa_nil))))
      (pss_cons (ps_if (pt_cmpR op_eq (pe_callB call_len_seq (by rfl) ml PySem.boot_len (pa_cons (pv 2) pa_nil)) pe_int (nomark _))
        (pss_one (ps_raise rfl (takes_of rfl rfl rfl rfl) (pmk_oex ox iN tI GN (hr.mono (by decide)) bN .nil pass0 (by rfl) gN (pa_cons pe_int pa_nil)))) pss_nil)
      (pss_cons (ps_expr (pe_meth (pv 0) T.cl M GC (hr.mono (by decide)) bC .nil (passes_call (takes_of rfl rfl rfl rfl) (fun _ _ _ _ h => h)) (pa_cons (pv 2) pa_nil)))
      (pss_one (ps_ret (pe_callTy call_tup (by rfl) mt (by decide +kernel) (pa_cons (pe_lc (own := [("option", 3)]) (g := gName 3) (te := tVar 3) (tt := tTest (tOp (rInD K) (tVar 3) (tVar 2))) rfl scAsc.nd (pi_tup (pe_fld (pv 0) rfl)) (blkOk_by (N := nAsc) (sc := defScope sAsc) (by decide +kernel)) (fun _ _ _ _ _ => pg_name (i := 3) scAsc.nd rfl (Or.inl rfl))
        (fun _ _ _ _ _ => pts_one (pt_cmpR (op_inD (room65 hr)) (pv 3) (pv 2) (by rfl))) (fun _ _ _ _ _ => pv 3)) pa_nil)))))), ?_⟩
    obtain ⟨dx, t, p, rs, hx, ht, hp, hE⟩ := id hG
    obtain ⟨ka, ha⟩ := hl.kind
    have hol := hO.len
    refine ⟨_, rfl, l, ka, _, rfl, ha, fun D nD => ?_⟩
    refine lc_it (walk_any (K := K) (p := ka) (a := l) (xs := ps.map V.ref)) (fun i H' => Same H H' ∧ ∃ rs', H' D = some (.lst (rs'.map V.ref)) ∧ Each K H' rs' (os.take i)) ⟨same_upd nD, [], upd_same, .nil⟩ (fun i H' _ ⟨s, _⟩ => ha.same s) ?_ ?_
    · rintro i y H2 H' hi ⟨s2, rs', gD, hE2⟩ ⟨rfl, hy⟩
      obtain ⟨r, rfl, hr'⟩ : ∃ r, y = .ref r ∧ ps[i]? = some r := by
        rw [List.getElem?_map] at hy
        cases e : ps[i]? with
        | none => rw [e] at hy; cases hy
        | some r => rw [e] at hy; cases hy; exact ⟨r, rfl, rfl⟩
      obtain ⟨o, ho, hro⟩ := (hO.same s2).get hr'
      refine ⟨rfl, ?_⟩
      refine ⟨_, rfl, r, _, rfl, hro, fun q2 H3 s3 hq2 => ⟨_, s3 _ _ gD, ?_, fun b u e => ?_, rs' ++ [q2], ?_, ?_⟩⟩
      · rw [List.length_map, hE2.len, List.length_take, sizeLine_eq]
        omega
      · rw [upd_ne (ne_of_none e nD)]
        exact s3 _ _ (s2 _ _ e)
      · rw [upd_same, List.map_append]
        rfl
      · rw [List.take_add_one, ho]
        exact ((hE2.same s3).app (.cons hq2 .nil)).upd (s3 _ _ gD)
    · rintro H1 ⟨s1, rs1, gD, hE1⟩
      rw [List.length_map, hol, List.take_length] at hE1
      have l1 := hE1.len
      refine ⟨_, rfl, D, _, rfl, .inl (SqL.of gD), rfl, _, rfl, ?_⟩
      rw [List.length_map, l1]
      by_cases h0 : os = []
      · rw [show decide (V.int ((os.length : Nat) : Int) = V.int 0) = true from decide_eq_true (by rw [h0]; rfl)]
        rw [if_pos h0] at q
        exact mko1 (Thrown.back s1 q)
      · have hpos := List.length_pos_iff.mpr h0
        rw [show decide (V.int ((os.length : Nat) : Int) = V.int 0) = false from decide_eq_false (fun z => by have := V.int.inj z; omega)]
        rw [if_neg h0] at q
        refine ⟨_, rfl, g, dx, _, rfl, s1 _ _ hx, rfl, ?_⟩
        refine ⟨_, rfl, g, D, ts, rs1, os, rfl, hG.same s1, SqL.of gD, hE1.opts, ?_⟩
        cases e : badOpt ts os with
        | some o =>
          rw [e] at q
          exact ThrownT.back s1 q
        | none =>
          rw [e] at q
          have q : ∀ p rs H', Same H H' → SqT K H' p (rs.map V.ref) → Each K H' rs (ascO ts os) → Q (.ref p) H' := q
          intro H2 s2
          have s12 := s1.trans s2
          refine ⟨_, rfl, g, C, dx, _, _, rfl, s12 _ _ hx, T.cl, T.nO, rfl, p, rfl, ⟨_, Same.sqt s12 hp⟩, fun D2 nD2 => ?_⟩
          refine lc_tup (K := K) (a := p) (xs := rs.map V.ref) (fun i H' => Same H2 H' ∧ ∃ rs', H' D2 = some (.lst (rs'.map V.ref)) ∧ Each K H' rs' (((below ts).take i).filter (fun o => decide (o ∈ os)))) ⟨same_upd nD2, [], upd_same, .nil⟩ (fun i H' _ ⟨s, _⟩ => Same.sqt (s12.trans s) hp) ?_ ?_
          · rintro i y H3 hy ⟨s3, rs', g3, hE3⟩
            obtain ⟨r, rfl, hr'⟩ : ∃ r, y = .ref r ∧ rs[i]? = some r := by
              rw [List.getElem?_map] at hy
              cases e : rs[i]? with
              | none => rw [e] at hy; cases hy
              | some r => rw [e] at hy; cases hy; exact ⟨r, rfl, rfl⟩
            have s13 := s12.trans s3
            obtain ⟨o, ho, hro⟩ := (hE.same s13).get hr'
            refine ⟨rfl, ?_⟩
            refine ⟨_, rfl, _, rfl, dO o, os.map dO, .tup hro (dpInts o), .lst (SqL.of (s3 _ _ (s2 _ _ gD))) (hE1.same (s2.trans s3)).dp, shaped_dO o, shaped_dOl os, _, rfl, ?_⟩
            rw [any_dO, List.take_add_one, ho, List.filter_append]
            by_cases hm : o ∈ os
            · rw [decide_eq_true hm]
              have lz : rs'.length ≤ i := by
                rw [hE3.len]
                exact Nat.le_trans (List.length_filter_le _ _) (by rw [List.length_take]; exact Nat.min_le_left _ _)
              have il : i < 1000 := Nat.lt_of_lt_of_le (List.getElem?_eq_some_iff.mp ho).1 (below_few hF)
              refine ⟨_, rfl, _, g3, by rw [List.length_map, sizeLine_eq]; omega, fun b u eb => ?_, rs' ++ [r], ?_, ?_⟩
              · rw [upd_ne (ne_of_none eb nD2)]
                exact s3 _ _ eb
              · rw [upd_same, List.map_append]
                rfl
              · rw [show ((some o).toList.filter fun o => decide (o ∈ os)) = [o] by simp [hm]]
                exact (hE3.app (.cons hro .nil)).upd g3
            · rw [decide_eq_false hm]
              refine ⟨s3, rs', g3, ?_⟩
              rw [show ((some o).toList.filter fun o => decide (o ∈ os)) = [] by simp [hm], List.append_nil]
              exact hE3
          · rintro H3 ⟨s3, rs', g3, hE3⟩
            rw [List.length_map, hE.len, List.take_length] at hE3
            exact ⟨D2, _, rfl, .inl (SqL.of g3), fun q2 H4 s4 hq2 => q q2 rs' H4 ((s12.trans s3).trans s4) hq2 (hE3.same s4)⟩
end
end KL

set_option Elab.async false
set_option linter.all false
set_option maxRecDepth 100000
set_option maxHeartbeats 4000000
namespace KL
open PySem PySem.Spec PyProof.Rows L2 NdefX SX
theorem cut_from {xs : List V} {i : Nat} (h : i < xs.length) : ¬ (HT.sIx xs.length 0 (some ((i : Int) + 1)) = 0 ∧ HT.sIx xs.length xs.length none = xs.length) ∧ cutV xs (some ((i : Int) + 1)) none = xs.drop (i + 1) := by
  have e : HT.sIx xs.length 0 (some ((i : Int) + 1)) = i + 1 := by
    have z := HT.sIx_nat xs.length 0 (i + 1)
    rw [show (((i + 1 : Nat) : Int)) = (i : Int) + 1 by omega] at z
    rw [z]
    omega
  refine ⟨fun z => by rw [e] at z; omega, ?_⟩
  show (xs.drop (HT.sIx xs.length 0 (some ((i : Int) + 1)))).take (HT.sIx xs.length xs.length none - HT.sIx xs.length 0 (some ((i : Int) + 1))) = _
  rw [e, HT.sIx_none]
  exact List.take_of_length_le (by rw [List.length_drop]; exact Nat.le_refl _)
theorem Each.drop {K : PySem.W.Frag} {H : Hp} : ∀ {rs : List Addr} {os : List (List Int)} (n : Nat), Each K H rs os → Each K H (rs.drop n) (os.drop n)
  | _, _, 0, h => h
  | _, _, n + 1, .nil => .nil
  | _, _, n + 1, .cons _ t => t.drop n
theorem at_ref' {rs : List Addr} {i : Nat} {v : V} (h : (rs.map V.ref)[i]? = some v) : ∃ r, v = .ref r ∧ rs[i]? = some r := by
  rw [List.getElem?_map] at h
  cases e : rs[i]? with
  | none => rw [e] at h; cases h
  | some r => rw [e] at h; cases h; exact ⟨r, rfl, rfl⟩
section
variable {P : Program} {w : World} {K : PySem.W.Frag} {mg : Str → Option Value} {base : Heap} {f fL fG C O : Addr} {fd dL dG : FuncData}
theorem scOpen : FnScope nOpen ["grid", "options"] (defScope sOpen) := ⟨rfl, rfl, rfl, by decide +kernel, rfl, by decide +kernel, by decide +kernel⟩
theorem ok_open (F : Fun K "open_pair" "open_pair" sOpen f fd) (T : GTxt K C) (ML : Meth K C "lesser" fL) (GL : FnOk P w K mg base (L2.CX P w) 4 fL dL ["self", "first", "second"] (spLesser K C O)) (bL : Binds K dL ["self", "first", "second"] [])
    (MG : Meth K C "greater" fG) (GG : FnOk P w K mg base (L2.CX P w) 4 fG dG ["self", "first", "second"] (spGreater K C O)) (bG : Binds K dG ["self", "first", "second"] [])
    (me : mg "enumerate" = none) : FnOk P w K mg base (L2.CX P w) 5 f fd ["grid", "options"] (spOpen K C) := by
  refine F.okX scOpen (fun vs H Q E h => ?_) (fun cdv A outer s H vs Q E hr h => ?_)
  · obtain ⟨g, p, ts, rs, os, rfl, _⟩ := h
    rfl
  · obtain ⟨g, p, ts, rs, os, rfl, hG, hF, hp, hE, hb, q⟩ := h
    refine ⟨_, pss_cons (ps_for (passes_of rfl) rfl (pi_enumB (by rfl) me (pa_cons (pv 1) pa_nil)) (pg_tup rfl (pgs_cons (pg_name (i := 2) scOpen.nd rfl (Or.inl rfl)) (pgs_cons (pg_name (i := 3) scOpen.nd rfl (Or.inl rfl)) pgs_nil)))
        (pss_one (ps_for (passes_of rfl) rfl (pi_tup (pe_slice sl_tupA (pv 1) (po_some (pe_op op_add (pv 2) pe_int)) po_none)) (pg_name (i := 4) scOpen.nd rfl (Or.inl rfl))
          (pss_one (ps_if (PW.pt (pw_or (pt_cmpR (op_notInT (room65 hr)) (pe_meth (pv 0) T.cl ML GL (hr.mono (by decide)) bL .nil (passes_call (takes_of rfl rfl rfl rfl) (fun _ _ _ _ h => h)) (pa_cons (pv 3) (pa_cons (pv 4) pa_nil))) (pv 1) (by rfl))
              (pw_or1 (pt_cmpR (op_notInT (room65 hr)) (pe_meth (pv 0) T.cl MG GG (hr.mono (by decide)) bG .nil (passes_call (takes_of rfl rfl rfl rfl) (fun _ _ _ _ h => h)) (pa_cons (pv 3) (pa_cons (pv 4) pa_nil))) (pv 1) (by rfl)))))
            (pss_one (ps_ret (pe_newT (pa_cons (pv 3) (pa_cons (pv 4) pa_nil))))) pss_nil)))))
      (pss_one (ps_ret pe_non)), ?_⟩
    obtain ⟨dx, t, pp, rg, hx, _⟩ := id hG
    refine ⟨_, rfl, p, false, _, rfl, hp, for_it (walk_eB (K := K) (p := false) (j0 := 0) (a := p) (xs := rs.map V.ref)) (fun i σ H' => ∃ u2 u3 u4 : Option V, σ = [some (.ref g), some (.ref p), u2, u3, u4] ∧ Same H H' ∧ openO os os = openO os (os.drop i))
      ⟨none, none, none, rfl, Same.refl H, rfl⟩ (fun i σ H' _ ⟨_, _, _, _, s, _⟩ => Same.sqt s hp) ?_ ?_⟩
    · rintro i y σ H1 H2 hi ⟨u2, u3, u4, rfl, s1, eq⟩ ⟨U, y1, y2, rfl, nU, rfl, e1, e2⟩
      rw [List.length_map] at hi
      cases e1
      obtain ⟨r, rfl, er⟩ := at_ref' e2
      have s2 : Same H (upd H1 U (.tup [.int (0 + (i : Int)), .ref r])) := s1.trans (same_upd nU)
      refine ⟨U, _, rfl, .inl (.inl upd_same), rfl, _, _, rfl, _, _, rfl, rfl, ?_⟩
      rw [show (0 : Int) + (i : Int) = (i : Int) from Int.zero_add _] at s2 ⊢
      obtain ⟨a, ea, _⟩ := hE.get er
      have ha := hb a (List.mem_of_getElem? ea)
      rw [drop_cons ea, open_cons] at eq
      obtain ⟨nw, cut⟩ := cut_from (xs := rs.map V.ref) (i := i) (by rw [List.length_map]; exact hi)
      refine ⟨_, rfl, _, rfl, _, _, rfl, rfl, _, rfl, p, _, rfl, Same.sqt s2 hp, fun z => absurd z nw, fun _ p2 np2 => ?_⟩
      rw [cut, ← List.map_drop]
      have hp2 : SqT K (upd (upd H1 U (.tup [.int (i : Int), .ref r])) p2 (.tup ((rs.drop (i + 1)).map V.ref))) p2 ((rs.drop (i + 1)).map V.ref) := .inl (.inl upd_same)
      have s3 := s2.trans (same_upd np2 (o := .tup ((rs.drop (i + 1)).map V.ref)))
      refine ⟨p2, rfl, ⟨_, hp2⟩, for_tup (K := K) (a := p2) (xs := (rs.drop (i + 1)).map V.ref) (fun j σ H' => ∃ u4 : Option V, σ = [some (.ref g), some (.ref p), some (.int (i : Int)), some (.ref r), u4] ∧ Same (upd (upd H1 U (.tup [.int (i : Int), .ref r])) p2 (.tup ((rs.drop (i + 1)).map V.ref))) H' ∧
          (os.drop (i + 1)).find? (badB os a) = ((os.drop (i + 1)).drop j).find? (badB os a)) ⟨_, rfl, Same.refl _, rfl⟩ (fun j σ H' _ ⟨_, _, s, _⟩ => Same.sqt s hp2) ?_ ?_⟩
      · rintro j y σ H3 hy ⟨v4, rfl, s4, eqj⟩
        obtain ⟨r2, rfl, er2⟩ := at_ref' hy
        obtain ⟨b, eb, _⟩ := (hE.drop (i + 1)).get er2
        have hbm : b ∈ os := List.mem_of_mem_drop (List.mem_of_getElem? eb)
        have hbb := hb b hbm
        have s5 := s3.trans s4
        have hr1 : SqT K H3 r (a.map V.int) := by
          obtain ⟨a', ea', h'⟩ := (hE.same s5).get er
          rw [ea] at ea'
          cases ea'
          exact h'
        have hr2 : SqT K H3 r2 (b.map V.int) := by
          obtain ⟨b', eb', h'⟩ := ((hE.drop (i + 1)).same s5).get er2
          rw [eb] at eb'
          cases eb'
          exact h'
        have good : badOpt ts [a, b] = none := by
          rw [opt_cons, if_pos ha, opt_cons, if_pos hbb]
          rfl
        rw [drop_cons eb, List.find?_cons] at eqj
        have out : ∀ H4, Same H3 H4 → badB os a b = true → tNewT (tCons (tVar 3) (tCons (tVar 4) tNil)) [some (.ref g), some (.ref p), some (.int (i : Int)), some (.ref r), some (.ref r2)] H4 Q := fun H4 s6 hbad => by
          rw [hbad] at eqj
          rw [eqj] at eq
          rw [eq] at q
          exact ⟨_, rfl, _, rfl, (by show 2 ≤ sizeLine; decide), fun q2 H5 s7 nq eq2 => q q2 r r2 H5 ((s5.trans s6).trans s7) (.inl (.inl eq2)) (Same.sqt (s6.trans s7) hr1) (Same.sqt (s6.trans s7) hr2)⟩
        refine ⟨_, rfl, g, dx, _, rfl, s5 _ _ hx, rfl, _, rfl, _, rfl, g, r, r2, ts, a, b, rfl, hG.same s5, hF, .inr hr1, .inr hr2, ?_⟩
        rw [good]
        refine fun H4 s6 q1 H5 s7 hq1 => ?_
        have s8 := s6.trans s7
        refine ⟨_, rfl, dO (lowO a b), os.map dO, .tup hq1 (dpInts _), .tup (Same.sqt (s5.trans s8) hp) (hE.same (s5.trans s8)).dp, shaped_dO _, shaped_dOs _, _, rfl, ?_⟩
        rw [any_dO]
        by_cases m1 : lowO a b ∈ os
        · rw [decide_eq_true m1]
          refine ⟨_, rfl, g, dx, _, rfl, (s5.trans s8) _ _ hx, rfl, _, rfl, _, rfl, g, r, r2, ts, a, b, rfl, hG.same (s5.trans s8), hF, .inr (Same.sqt s8 hr1), .inr (Same.sqt s8 hr2), ?_⟩
          rw [good]
          refine fun H6 t6 q2 H7 t7 hq2 => ?_
          have t8 := s8.trans (t6.trans t7)
          refine ⟨_, rfl, dO (highO a b), os.map dO, .tup hq2 (dpInts _), .tup (Same.sqt (s5.trans t8) hp) (hE.same (s5.trans t8)).dp, shaped_dO _, shaped_dOs _, _, rfl, ?_⟩
          rw [any_dO]
          by_cases m2 : highO a b ∈ os
          · rw [decide_eq_true m2]
            rw [badB_of ⟨m1, m2⟩] at eqj
            exact ⟨_, rfl, s4.trans t8, eqj⟩
          · rw [decide_eq_false m2]
            exact out _ t8 (by unfold badB; rw [decide_eq_false m2, Bool.not_false, Bool.or_true])
        · rw [decide_eq_false m1]
          exact out _ s8 (by unfold badB; rw [decide_eq_false m1, Bool.not_false, Bool.true_or])
      · rintro σ H3 ⟨v4, rfl, s4, eqj⟩
        rw [List.length_map, (hE.drop (i + 1)).len, List.drop_length] at eqj
        rw [show (os.drop (i + 1)).find? (badB os a) = none from eqj] at eq
        exact ⟨_, _, _, rfl, s3.trans s4, eq⟩
    · rintro σ H1 ⟨u2, u3, u4, rfl, s1, eq⟩
      rw [List.length_map, hE.len, List.drop_length] at eq
      rw [show openO os os = none from eq] at q
      exact q H1 s1
end
end KL

set_option Elab.async false
set_option linter.all false
set_option maxRecDepth 100000
set_option maxHeartbeats 4000000
namespace KL
open PySem PySem.Spec PyProof.Rows L2 NdefX SX
abbrev sLOpen : Stmt := top 42
abbrev nLOpen : List Str := ["_law_rows", "_law_at", "_law_other"]
def spLOpen (K : PySem.W.Frag) : Sp := fun vs H Q _ => ∃ (l : Addr) (rs : List Addr) (os : List (List Int)) (n : Nat), vs = [.ref l] ∧ SqL K H l (rs.map V.ref) ∧ Each K H rs os ∧ (∀ o ∈ os, o.length = n) ∧ n ≤ 1000 ∧ os.length ≤ 1000 ∧
  (match openO os os with
  | none => ∀ H', Same H H' → Q .non H'
  | some (a, b) => ∀ q r1 r2 H', Same H H' → SqT K H' q [.ref r1, .ref r2] → SqT K H' r1 (a.map V.int) → SqT K H' r2 (b.map V.int) → Q (.ref q) H')
section
variable {P : Program} {w : World} {K : PySem.W.Frag} {mg : Str → Option Value} {base : Heap} {f fL fG : Addr} {fd dL dG : FuncData}
theorem scLOpen : FnScope nLOpen ["_law_rows"] (defScope sLOpen) := ⟨rfl, rfl, rfl, by decide +kernel, rfl, by decide +kernel, by decide +kernel⟩
theorem ok_lopen (F : Fun K "_law_open" "_law_open" sLOpen f fd) (FL : Fun K "_law_low_of" "_law_low_of" sLLow fL dL) (bL : Binds K dL ["_law_first", "_law_second"] []) (gL : mg "_law_low_of" = some (.ref fL)) (GL : FnOk P w K mg base CX0 1 fL dL ["_law_first", "_law_second"] (spL2 K lowO))
    (FG : Fun K "_law_high_of" "_law_high_of" sLHigh fG dG) (bG : Binds K dG ["_law_first", "_law_second"] []) (gG : mg "_law_high_of" = some (.ref fG)) (GG : FnOk P w K mg base CX0 1 fG dG ["_law_first", "_law_second"] (spL2 K highO))
    (mr : mg "range" = none) (mn : mg "len" = none) : FnOk P w K mg base CX0 2 f fd ["_law_rows"] (spLOpen K) := by
  refine F.ok scLOpen (fun vs H Q E h => ?_) (fun cdv A outer s H vs Q E hr h => ?_)
  · obtain ⟨l, rs, os, n, rfl, _⟩ := h
    rfl
  · obtain ⟨l, rs, os, n, rfl, hl, hE, hn, hn1, ho, q⟩ := h
    have hlen : rs.length = os.length := hE.len
    refine ⟨_, pss_cons (ps_for PassesOwn.never rfl (pi_range1 rfl mr (pa_cons (pe_callB call_len_seq (by rfl) mn PySem.boot_len (pa_cons (pv 0) pa_nil)) pa_nil)) (pg_name (i := 1) scLOpen.nd rfl (Or.inl rfl))
        (pss_one (ps_for PassesOwn.never rfl (pi_list (pe_slice sl_list (pv 0) (po_some (pe_op op_add (pv 1) pe_int)) po_none)) (pg_name (i := 2) scLOpen.nd rfl (Or.inl rfl))
          (pss_one (ps_if (PW.pt (pw_or (pt_cmpR (op_notInD (room65 hr)) (pe_call GL (hr.mono (by decide)) (by rfl) gL FL.kp bL .nil pass0 (pa_cons (pe_ix ix_list (pv 0) (pv 1) (fun _ _ => rfl)) (pa_cons (pv 2) pa_nil))) (pv 0) (by rfl))
              (pw_or1 (pt_cmpR (op_notInD (room65 hr)) (pe_call GG (hr.mono (by decide)) (by rfl) gG FG.kp bG .nil pass0 (pa_cons (pe_ix ix_list (pv 0) (pv 1) (fun _ _ => rfl)) (pa_cons (pv 2) pa_nil))) (pv 0) (by rfl)))))
            (pss_one (ps_ret (pe_newT (pa_cons (pe_ix ix_list (pv 0) (pv 1) (fun _ _ => rfl)) (pa_cons (pv 2) pa_nil))))) pss_nil)))))
      (pss_one (ps_ret pe_non)), ?_⟩
    refine ⟨_, rfl, l, _, rfl, .inl hl, _, rfl, by omega, by rw [List.length_map]; omega, ?_⟩
    rw [List.length_map]
    refine for_range (lo := 0) (n := rs.length) (fun i σ H' => ∃ u1 u2 : Option V, σ = [some (.ref l), u1, u2] ∧ Same H H' ∧ openO os os = openO os (os.drop i)) ⟨none, none, rfl, Same.refl H, rfl⟩ ?_ ?_
    · rintro i σ H1 hi ⟨u1, u2, rfl, s1, eq⟩
      rw [show (0 : Int) + (i : Int) = (i : Int) from Int.zero_add _]
      have er : rs[i]? = some rs[i] := List.getElem?_eq_getElem hi
      generalize rs[i] = r at er
      obtain ⟨a, ea, _⟩ := hE.get er
      rw [drop_cons ea, open_cons] at eq
      have hat : atI (rs.map V.ref) (i : Int) = some (.ref r) := atI_nat (by rw [List.getElem?_map, er]; rfl)
      obtain ⟨nw, cut⟩ := cut_from (xs := rs.map V.ref) (i := i) (by rw [List.length_map]; exact hi)
      refine ⟨_, rfl, _, rfl, _, _, rfl, rfl, _, rfl, l, _, rfl, s1.seq hl, fun p2 np2 => ?_⟩
      rw [cut, ← List.map_drop]
      have hp2 : SqL K (upd H1 p2 (.lst ((rs.drop (i + 1)).map V.ref))) p2 ((rs.drop (i + 1)).map V.ref) := SqL.of upd_same
      have s3 := s1.trans (same_upd np2 (o := .lst ((rs.drop (i + 1)).map V.ref)))
      refine ⟨p2, rfl, ⟨_, hp2⟩, for_list (K := K) (a := p2) (xs := (rs.drop (i + 1)).map V.ref) (fun j σ H' => ∃ u2 : Option V, σ = [some (.ref l), some (.int (i : Int)), u2] ∧ Same (upd H1 p2 (.lst ((rs.drop (i + 1)).map V.ref))) H' ∧
          (os.drop (i + 1)).find? (badB os a) = ((os.drop (i + 1)).drop j).find? (badB os a)) ⟨_, rfl, Same.refl _, rfl⟩ (fun j σ H' _ ⟨_, _, s, _⟩ => s.seq hp2) ?_ ?_⟩
      · rintro j y σ H3 hy ⟨v4, rfl, s4, eqj⟩
        obtain ⟨r2, rfl, er2⟩ := at_ref' hy
        obtain ⟨b, eb, _⟩ := (hE.drop (i + 1)).get er2
        have hbm : b ∈ os := List.mem_of_mem_drop (List.mem_of_getElem? eb)
        have s5 := s3.trans s4
        have hr1 : SqT K H3 r (a.map V.int) := by
          obtain ⟨a', ea', h'⟩ := (hE.same s5).get er
          rw [ea] at ea'
          cases ea'
          exact h'
        have hr2 : SqT K H3 r2 (b.map V.int) := by
          obtain ⟨b', eb', h'⟩ := ((hE.drop (i + 1)).same s5).get er2
          rw [eb] at eb'
          cases eb'
          exact h'
        have la := hn a (List.mem_of_getElem? ea)
        have lb := hn b hbm
        rw [drop_cons eb, List.find?_cons] at eqj
        have out : ∀ H4, Same H3 H4 → badB os a b = true → tNewT (tCons (tOp (rIxL K) (tVar 0) (tVar 1)) (tCons (tVar 2) tNil)) [some (.ref l), some (.int (i : Int)), some (.ref r2)] H4 Q := fun H4 s6 hbad => by
          rw [hbad] at eqj
          rw [eqj] at eq
          rw [eq] at q
          exact ⟨_, rfl, _, rfl, l, _, _, _, rfl, rfl, (s5.trans s6).seq hl, hat, _, rfl, (by show 2 ≤ sizeLine; decide), fun q2 H5 s7 nq eq2 => q q2 r r2 H5 ((s5.trans s6).trans s7) (.inl (.inl eq2)) (Same.sqt (s6.trans s7) hr1) (Same.sqt (s6.trans s7) hr2)⟩
        refine ⟨_, rfl, _, rfl, l, _, _, _, rfl, rfl, s5.seq hl, hat, _, rfl, r, r2, a, b, rfl, .inr hr1, .inr hr2, by omega, by omega, fun q1 H5 s8 hq1 => ?_⟩
        refine ⟨_, rfl, dO (lowO a b), os.map dO, .tup hq1 (dpInts _), .lst ((s5.trans s8).seq hl) (hE.same (s5.trans s8)).dp, shaped_dO _, shaped_dOl _, _, rfl, ?_⟩
        rw [any_dO]
        by_cases m1 : lowO a b ∈ os
        · rw [decide_eq_true m1]
          refine ⟨_, rfl, _, rfl, l, _, _, _, rfl, rfl, (s5.trans s8).seq hl, hat, _, rfl, r, r2, a, b, rfl, .inr (Same.sqt s8 hr1), .inr (Same.sqt s8 hr2), by omega, by omega, fun q2 H7 t7 hq2 => ?_⟩
          have t8 := s8.trans t7
          refine ⟨_, rfl, dO (highO a b), os.map dO, .tup hq2 (dpInts _), .lst ((s5.trans t8).seq hl) (hE.same (s5.trans t8)).dp, shaped_dO _, shaped_dOl _, _, rfl, ?_⟩
          rw [any_dO]
          by_cases m2 : highO a b ∈ os
          · rw [decide_eq_true m2]
            rw [badB_of ⟨m1, m2⟩] at eqj
            exact ⟨_, rfl, s4.trans t8, eqj⟩
          · rw [decide_eq_false m2]
            exact out _ t8 (by unfold badB; rw [decide_eq_false m2, Bool.not_false, Bool.or_true])
        · rw [decide_eq_false m1]
          exact out _ s8 (by unfold badB; rw [decide_eq_false m1, Bool.not_false, Bool.true_or])
      · rintro σ H3 ⟨v4, rfl, s4, eqj⟩
        rw [List.length_map, (hE.drop (i + 1)).len, List.drop_length] at eqj
        rw [show (os.drop (i + 1)).find? (badB os a) = none from eqj] at eq
        exact ⟨_, _, rfl, s3.trans s4, eq⟩
    · rintro σ H1 ⟨u1, u2, rfl, s1, eq⟩
      rw [hlen, List.drop_length] at eq
      rw [show openO os os = none from eq] at q
      exact q H1 s1
end
end KL

set_option Elab.async false
set_option linter.all false
set_option maxRecDepth 100000
set_option maxHeartbeats 4000000
namespace KL
open PySem PySem.Spec PyProof.Rows L2 NdefX SX TL
/-! weights of texts that add up: lengths, how often a sign stands in it -/
structure Wt (φ : List Nat → Nat) : Prop where
  nil : φ [] = 0
  app : ∀ a b, φ (a ++ b) = φ a + φ b
theorem wt_len : Wt List.length := ⟨rfl, fun _ _ => List.length_append⟩
theorem wt_cnt (p : Nat → Bool) : Wt (List.countP p) := ⟨rfl, fun _ _ => List.countP_append⟩
def wS (φ : List Nat → Nat) (w : Str) : Nat := φ (tl w)
def wL (φ : List Nat → Nat) (S : Str) (ws : List Str) : Nat := (ws.map (wS φ)).sum + ws.length * wS φ S
section
variable {φ : List Nat → Nat} (F : Wt φ)
theorem wL_app (S : Str) (a b : List Str) : wL φ S (a ++ b) = wL φ S a + wL φ S b := by
  unfold wL
  rw [List.map_append, List.sum_append, List.length_append, Nat.add_mul]
  omega
theorem wL_one (S w : Str) : wL φ S [w] = wS φ w + wS φ S := by
  unfold wL
  simp
theorem wL_perm (S : Str) {a b : List Str} (h : a.Perm b) : wL φ S a = wL φ S b := by
  unfold wL
  rw [(h.map (wS φ)).sum_nat, h.length_eq]
include F in
theorem wS_join (y : Str) : ∀ ws : List Str, ws ≠ [] → wS φ (Txt.join y ws) + wS φ y = wL φ y ws := by
  intro ws h
  unfold wS
  rw [join_eq, tl_join]
  induction ws with
  | nil => exact absurd rfl h
  | cons x r ih =>
    cases r with
    | nil =>
      show φ (tl x) + φ (tl y) = _
      exact (wL_one y x).symm
    | cons x2 r =>
      show φ (tl x ++ (tl y ++ joinL (tl y) ((x2 :: r).map tl))) + φ (tl y) = _
      rw [F.app, F.app]
      have e := ih (by simp)
      have e2 := wL_app (φ := φ) y [x] (x2 :: r)
      rw [wL_one] at e2
      rw [show x :: x2 :: r = [x] ++ (x2 :: r) from rfl, e2, ← e]
      show _ = wS φ x + wS φ y + _
      unfold wS
      omega
include F in
theorem wS_join_le (y : Str) (ws : List Str) : wS φ (Txt.join y ws) ≤ wL φ y ws - wS φ y := by
  cases ws with
  | nil =>
    unfold wS
    rw [join_eq]
    show φ [] ≤ _
    rw [F.nil]
    exact Nat.zero_le _
  | cons x r =>
    have := wS_join F y (x :: r) (by simp)
    omega
include F in
theorem wS_split (z y : Str) : wS φ z + wS φ y = wL φ y (Txt.split z y) := by
  have e : Txt.join y (Txt.split z y) = z := by rw [join_eq]; exact StrLaws.join_split z y
  have h := PyProof.Rows.split_pos z y
  have z' := wS_join F y (Txt.split z y) (fun q => by rw [q] at h; simp at h)
  rw [e] at z'
  exact z'
theorem wS_mem {S w : Str} {ws : List Str} (h : w ∈ ws) : wS φ w + ws.length * wS φ S ≤ wL φ S ws := by
  unfold wL
  have : wS φ w ≤ (ws.map (wS φ)).sum := by
    induction ws with
    | nil => cases h
    | cons x r ih =>
      rw [List.map_cons, List.sum_cons]
      rcases List.mem_cons.mp h with rfl | h
      · omega
      · have := ih h
        omega
  omega
include F in
/-- a word of a text -/
theorem wS_word {z y w : Str} (h : w ∈ Txt.split z y) : wS φ w ≤ wS φ z := by
  have e := wS_split F z y
  have e2 := wS_mem (φ := φ) (S := y) h
  have e3 := PyProof.Rows.split_pos z y
  have e4 : wS φ y ≤ (Txt.split z y).length * wS φ y := Nat.le_mul_of_pos_left _ e3
  omega
theorem wL_drop1 (S : Str) (ws : List Str) (k : Nat) : wL φ S (ws.take k ++ ws.drop (k + 1)) ≤ wL φ S ws := by
  have e := wL_app (φ := φ) S (ws.take k) (ws.drop k)
  rw [List.take_append_drop] at e
  have e2 := wL_app (φ := φ) S ((ws.drop k).take 1) ((ws.drop k).drop 1)
  rw [List.take_append_drop, List.drop_drop] at e2
  rw [wL_app]
  omega
theorem wL_double (S : Str) (ws : List Str) (k : Nat) (w : Str) : wL φ S ((ws.take k ++ [w]) ++ ws.drop k) = wL φ S ws + wS φ w + wS φ S := by
  have e := wL_app (φ := φ) S (ws.take k) (ws.drop k)
  rw [List.take_append_drop] at e
  rw [wL_app, wL_app, wL_one]
  omega
theorem wL_swap (S : Str) (ws : List Str) (k : Nat) : wL φ S ((ws.take k ++ ((ws.drop k).take 2).reverse) ++ ws.drop (k + 2)) = wL φ S ws := by
  refine wL_perm S ?_
  rw [List.append_assoc]
  have e : ws = ws.take k ++ ((ws.drop k).take 2 ++ ws.drop (k + 2)) := by
    rw [show ws.drop (k + 2) = (ws.drop k).drop 2 from List.drop_drop.symm, List.take_append_drop, List.take_append_drop]
  conv => rhs; rw [e]
  exact List.Perm.append_left _ (List.Perm.append_right _ (List.reverse_perm _))
theorem wL_set (S : Str) (ws : List Str) (k : Nat) (w : Str) (h : k < ws.length) : wL φ S (ws.set k w) ≤ wL φ S ws + wS φ w := by
  have e := wL_app (φ := φ) S (ws.take k) (ws.drop k)
  rw [List.take_append_drop] at e
  have e1 : ws.drop k = [ws[k]] ++ ws.drop (k + 1) := List.drop_eq_getElem_cons h
  rw [e1, wL_app, wL_one] at e
  rw [List.set_eq_take_append_cons_drop, if_pos h, show w :: ws.drop (k + 1) = [w] ++ ws.drop (k + 1) from rfl, wL_app, wL_app, wL_one]
  omega
include F in
theorem wS_app (a b : Str) : wS φ (a ++ b) = wS φ a + wS φ b := by
  unfold wS
  rw [tl_append, F.app]
end
theorem slice_to (z : Str) (k : Nat) (h : k ≤ z.length) : tl (Txt.slice z none (some (k : Int))) = (tl z).take k := by
  rw [← C8.cutS_slice]
  unfold L2.cutS
  rw [tl_mk, HT.sIx_none, HT.sIx_nat, List.drop_zero, Nat.sub_zero, Nat.min_eq_left h]
theorem slice_from (z : Str) (k : Nat) (h : k ≤ z.length) : tl (Txt.slice z (some (k : Int)) none) = (tl z).drop k := by
  rw [← C8.cutS_slice]
  unfold L2.cutS
  rw [tl_mk, HT.sIx_none, HT.sIx_nat, Nat.min_eq_left h]
  exact List.take_of_length_le (by rw [List.length_drop]; exact Nat.le_of_eq (by rw [show (tl z).length = z.length from Array.length_toList]))
theorem wS_put {φ : List Nat → Nat} (F : Wt φ) (z e : Str) (k : Nat) (h : k ≤ z.length) : wS φ (Txt.slice z none (some (k : Int)) ++ e ++ Txt.slice z (some (k : Int)) none) = wS φ z + wS φ e := by
  rw [wS_app F, wS_app F]
  have e1 : wS φ (Txt.slice z none (some (k : Int))) + wS φ (Txt.slice z (some (k : Int)) none) = wS φ z := by
    unfold wS
    rw [slice_to z k h, slice_from z k h, ← F.app, List.take_append_drop]
  omega
theorem wS_len (w : Str) : wS List.length w = w.length := Array.length_toList
def repl : List Str := [Str.ofString "", Str.ofString "0", Str.ofString "1", Str.ofString "0 0", Str.ofString "1 1", Str.ofString "x", Str.ofString "2", Str.ofString "10", Str.ofString "; "]
def addS : List Str := [Str.ofString " ", Str.ofString ";", Str.ofString "0", Str.ofString "1", Str.ofString "x"]
/-- a text and one that comes of it by one change -/
def Chg (z z' : Str) : Prop := ∃ mk e : Str, (mk = semi ∨ mk = blank) ∧ (e ∈ Txt.split z mk ∨ e ∈ repl ∨ e ∈ addS) ∧
  ∀ φ : List Nat → Nat, Wt φ → wS φ z' ≤ wS φ z + wS φ mk + wS φ e
theorem chg_join {z mk e : Str} {ws : List Str} (hm : mk = semi ∨ mk = blank) (he : e ∈ Txt.split z mk ∨ e ∈ repl) (hw : ∀ φ, Wt φ → wL φ mk ws ≤ wL φ mk (Txt.split z mk) + wS φ e + wS φ mk) : Chg z (Txt.join mk ws) := by
  refine ⟨mk, e, hm, he.imp id .inl, fun φ F => ?_⟩
  have h1 := hw φ F
  have h2 := wS_split F z mk
  have h3 := wS_join_le F mk ws
  omega
theorem wL_len (S : Str) (ws : List Str) : wL List.length S ws = (ws.map (·.length)).sum + ws.length * S.length := by
  unfold wL
  rw [wS_len]
  rw [show (wS List.length) = (fun w : Str => w.length) from funext wS_len]
theorem repl_len : ∀ e ∈ repl, e.length ≤ 3 := by decide +kernel
end KL

set_option Elab.async false
set_option linter.all false
set_option maxRecDepth 100000
set_option maxHeartbeats 4000000
namespace KL
open PySem PySem.Spec PyProof.Rows L2 NdefX SX TL
/-! the text of a region and what changes leave of it -/
theorem dig10 {t : Int} (h0 : 0 ≤ t) (h9 : t ≤ 9) : t = 0 ∨ t = 1 ∨ t = 2 ∨ t = 3 ∨ t = 4 ∨ t = 5 ∨ t = 6 ∨ t = 7 ∨ t = 8 ∨ t = 9 := by omega
abbrev c59 : List Nat → Nat := List.countP (fun c => c == 59)
abbrev c32 : List Nat → Nat := List.countP (fun c => c == 32)
abbrev cBad : List Nat → Nat := List.countP (fun c => !decide (c < 0x110000))
theorem dig_facts {t : Int} (h0 : 0 ≤ t) (h9 : t ≤ 9) : wS c59 (toS t) = 0 ∧ wS c32 (toS t) = 0 ∧ wS cBad (toS t) = 0 ∧ wS List.length (toS t) = 1 ∧ inV (.str (toS t)) digVs = true ∧ digOf (toS t) = t := by
  rcases dig10 h0 h9 with rfl | rfl | rfl | rfl | rfl | rfl | rfl | rfl | rfl | rfl <;> decide +kernel
theorem wL_zero {φ : List Nat → Nat} {S : Str} (hS : wS φ S = 0) {ws : List Str} (h : ∀ w ∈ ws, wS φ w = 0) : wL φ S ws = 0 := by
  unfold wL
  rw [hS, Nat.mul_zero, Nat.add_zero]
  induction ws with
  | nil => rfl
  | cons x r ih =>
    rw [List.map_cons, List.sum_cons, h x List.mem_cons_self, ih fun w hw => h w (List.mem_cons_of_mem _ hw)]
theorem wL_le {φ : List Nat → Nat} {S : Str} {k : Nat} {ws : List Str} (h : ∀ w ∈ ws, wS φ w ≤ k) : wL φ S ws ≤ ws.length * (k + wS φ S) := by
  unfold wL
  rw [Nat.mul_add]
  have : (ws.map (wS φ)).sum ≤ ws.length * k := by
    induction ws with
    | nil => simp
    | cons x r ih =>
      rw [List.map_cons, List.sum_cons, List.length_cons, Nat.succ_mul]
      have := h x List.mem_cons_self
      have := ih fun w hw => h w (List.mem_cons_of_mem _ hw)
      omega
  omega
theorem textOf_zero {φ : List Nat → Nat} (F : Wt φ) (hb : wS φ blank = 0) {o : List Int} (h : ∀ t ∈ o, wS φ (toS t) = 0) : wS φ (textOf o) = 0 := by
  have h1 := wS_join_le F blank (o.map toS)
  rw [wL_zero hb fun w hw => by obtain ⟨t, ht, rfl⟩ := List.mem_map.mp hw; exact h t ht, Nat.zero_sub] at h1
  exact Nat.le_zero.mp h1
theorem not_mem_of {c : Nat} {w : Str} (h : wS (List.countP (fun x => x == c)) w = 0) : c ∉ tl w := fun hm => by
  have := List.countP_eq_zero.mp h c hm
  simp at this
theorem text_words {o : List Int} (hF : ∀ t ∈ o, 0 ≤ t ∧ t ≤ 9) (h0 : o ≠ []) : Txt.split (textOf o) blank = o.map toS := by
  refine split_join (s := 32) (S := []) (by decide +kernel) (by decide +kernel) (by simpa using h0) fun p hp => ?_
  obtain ⟨t, ht, rfl⟩ := List.mem_map.mp hp
  exact not_mem_of (dig_facts (hF t ht).1 (hF t ht).2).2.1
theorem text_good {o : List Int} (hF : ∀ t ∈ o, 0 ≤ t ∧ t ≤ 9) (h0 : o ≠ []) : badFrom (Txt.split (textOf o) blank) 0 = none ∧ levelsOf (textOf o) = o := by
  refine ⟨?_, ?_⟩
  · rw [text_words hF h0, bad_filter, List.filter_eq_nil_iff]
    intro w hw
    obtain ⟨t, ht, rfl⟩ := List.mem_map.mp hw
    rw [(dig_facts (hF t ht).1 (hF t ht).2).2.2.2.2.1]
    decide
  · unfold levelsOf
    rw [text_words hF h0, List.map_map]
    refine (List.map_congr_left fun t ht => ?_).trans (List.map_id _)
    exact (dig_facts (hF t ht).1 (hF t ht).2).2.2.2.2.2
theorem text_parts {ts : List Int} {os : List (List Int)} (h : ∀ o ∈ ts :: os, ∀ t ∈ o, 0 ≤ t ∧ t ≤ 9) : Txt.split (textR ts os) semi = (ts :: os).map textOf := by
  refine split_join (s := 59) (S := [32]) (by decide +kernel) (by decide +kernel) (by simp) fun p hp => ?_
  obtain ⟨o, ho, rfl⟩ := List.mem_map.mp hp
  exact not_mem_of (textOf_zero (wt_cnt _) (by decide +kernel) fun t ht => (dig_facts (h o ho t ht).1 (h o ho t ht).2).1)
/-- read of a region's text -/
theorem read_text {ts : List Int} {us us' : List (List Int)} (hF : Few ts) (hk : chk ts = none) (h0 : ts ≠ []) (hA : Asc us) (hb : ∀ o ∈ us, o ∈ below ts) (hc : Closed us) (hn : us ≠ []) (hp : us'.Perm us) : readR (textR ts us') = .rg ts (.region us) := by
  have hb' : ∀ o ∈ us', o ∈ below ts := fun o ho => hb o (hp.mem_iff.mp ho)
  have hd : ∀ o ∈ ts :: us', ∀ t ∈ o, 0 ≤ t ∧ t ≤ 9 := fun o ho => by
    rcases List.mem_cons.mp ho with rfl | ho
    · exact hF.2
    · exact (few_tuple hF (hb' o ho)).2
  have hne : ∀ o ∈ ts :: us', o ≠ [] := fun o ho => by
    rcases List.mem_cons.mp ho with rfl | ho
    · exact h0
    · intro e
      have := opt_len (hb' o ho)
      rw [e] at this
      exact h0 (List.eq_nil_of_length_eq_zero this.symm)
  have hs := text_parts hd
  rw [List.map_cons] at hs
  rw [readR_good hs fun q hq => by
    rw [hs, ← List.map_cons] at hq
    obtain ⟨o, ho, rfl⟩ := List.mem_map.mp hq
    exact (text_good (hd o ho) (hne o ho)).1]
  rw [(text_good (hd ts List.mem_cons_self) h0).2, hk, List.map_map]
  have e1 : us'.map (levelsOf ∘ textOf) = us' := (List.map_congr_left fun o ho => (text_good (hd o (List.mem_cons_of_mem _ ho)) (hne o (List.mem_cons_of_mem _ ho))).2).trans (List.map_id _)
  rw [e1]
  have hn' : us' ≠ [] := fun e => hn (by rw [e] at hp; exact hp.symm.eq_nil)
  have e2 : ascO ts us' = us := by
    refine Asc.eq (asc_asc hF us') hA fun o => ?_
    rw [mem_asc, hp.mem_iff]
    exact ⟨fun h => h.2, fun h => ⟨hb o h, h⟩⟩
  show Rr.rg ts (mkRg ts us') = _
  unfold mkRg
  rw [if_neg hn', bad_of hb', e2, open_closed hc]
/-! words of a region's text -/
def semiLast : List (List Nat) → List (List Nat)
  | [] => []
  | [w] => [w ++ [59]]
  | w :: v :: r => w :: semiLast (v :: r)
def toks : List (List (List Nat)) → List (List Nat)
  | [] => []
  | [p] => p
  | p :: q :: r => semiLast p ++ toks (q :: r)
theorem semi_ne : ∀ {p : List (List Nat)}, p ≠ [] → semiLast p ≠ []
  | [], h => absurd rfl h
  | [w], _ => by simp [semiLast]
  | w :: v :: r, _ => by simp [semiLast]
theorem join_semi : ∀ {p : List (List Nat)}, p ≠ [] → joinL [32] (semiLast p) = joinL [32] p ++ [59]
  | [], h => absurd rfl h
  | [w], _ => rfl
  | w :: v :: r, _ => by
    have ih := join_semi (p := v :: r) (by simp)
    have ne := semi_ne (p := v :: r) (by simp)
    show joinL [32] (w :: semiLast (v :: r)) = w ++ ([32] ++ joinL [32] (v :: r)) ++ [59]
    cases e : semiLast (v :: r) with
    | nil => exact absurd e ne
    | cons a b =>
      show w ++ ([32] ++ joinL [32] (a :: b)) = _
      rw [← e, ih]
      simp
theorem join_app : ∀ {a b : List (List Nat)}, a ≠ [] → b ≠ [] → joinL [32] (a ++ b) = joinL [32] a ++ ([32] ++ joinL [32] b)
  | [], _, h, _ => absurd rfl h
  | [w], b, _, hb => by
    cases b with
    | nil => exact absurd rfl hb
    | cons x r => rfl
  | w :: v :: r, b, _, hb => by
    have ih := join_app (a := v :: r) (b := b) (by simp) hb
    show w ++ ([32] ++ joinL [32] ((v :: r) ++ b)) = w ++ ([32] ++ joinL [32] (v :: r)) ++ _
    rw [ih]
    simp
theorem toks_ne : ∀ {P : List (List (List Nat))}, P ≠ [] → (∀ p ∈ P, p ≠ []) → toks P ≠ []
  | [], h, _ => absurd rfl h
  | [p], _, h => h p List.mem_cons_self
  | p :: q :: r, _, h => fun e => semi_ne (h p List.mem_cons_self) (List.append_eq_nil_iff.mp e).1
theorem join_toks : ∀ {P : List (List (List Nat))}, P ≠ [] → (∀ p ∈ P, p ≠ []) → joinL [59, 32] (P.map (joinL [32])) = joinL [32] (toks P)
  | [], h, _ => absurd rfl h
  | [p], _, _ => rfl
  | p :: q :: r, _, h => by
    have hr : ∀ x ∈ q :: r, x ≠ [] := fun x hx => h x (List.mem_cons_of_mem _ hx)
    have ih := join_toks (P := q :: r) (by simp) hr
    have hp := h p List.mem_cons_self
    show joinL [32] p ++ ([59, 32] ++ joinL [59, 32] ((q :: r).map (joinL [32]))) = joinL [32] (semiLast p ++ toks (q :: r))
    rw [ih, join_app (semi_ne hp) (toks_ne (by simp) hr), join_semi hp]
    simp
theorem semi_mem : ∀ {p : List (List Nat)} {w : List Nat}, w ∈ semiLast p → ∃ v ∈ p, w = v ∨ w = v ++ [59]
  | [v], w, h => ⟨v, List.mem_cons_self, .inr (List.mem_singleton.mp h)⟩
  | v :: u :: r, w, h => by
    rcases List.mem_cons.mp h with rfl | h
    · exact ⟨w, List.mem_cons_self, .inl rfl⟩
    · obtain ⟨x, hx, e⟩ := semi_mem (p := u :: r) h
      exact ⟨x, List.mem_cons_of_mem _ hx, e⟩
theorem toks_mem : ∀ {P : List (List (List Nat))} {w : List Nat}, w ∈ toks P → ∃ p ∈ P, ∃ v ∈ p, w = v ∨ w = v ++ [59]
  | [p], w, h => ⟨p, List.mem_cons_self, w, h, .inl rfl⟩
  | p :: q :: r, w, h => by
    rcases List.mem_append.mp h with h | h
    · obtain ⟨v, hv, e⟩ := semi_mem h
      exact ⟨p, List.mem_cons_self, v, hv, e⟩
    · obtain ⟨x, hx, e⟩ := toks_mem (P := q :: r) h
      exact ⟨x, List.mem_cons_of_mem _ hx, e⟩
theorem text_blank {ts : List Int} {os : List (List Int)} (h : ∀ o ∈ ts :: os, ∀ t ∈ o, 0 ≤ t ∧ t ≤ 9) (hne : ∀ o ∈ ts :: os, o ≠ []) : ∀ w ∈ Txt.split (textR ts os) blank, wS c59 w ≤ 1 := by
  intro w hw
  have e1 : (Txt.split (textR ts os) blank).map tl = spl [32] 0 [] (tl (textR ts os)) := split_spl _ blank (by decide +kernel) (kind_ok (by decide +kernel))
  have e2 : tl (textR ts os) = joinL [32] (toks ((ts :: os).map fun o => o.map fun t => tl (toS t))) := by
    unfold textR
    rw [join_eq, tl_join, ← join_toks (by simp) (fun p hp => ?_), List.map_map, List.map_map]
    · refine congrArg (joinL _) (List.map_congr_left fun o ho => ?_)
      show tl (textOf o) = joinL [32] (o.map fun t => tl (toS t))
      unfold textOf
      rw [join_eq, tl_join, List.map_map]
      rfl
    · obtain ⟨o, ho, rfl⟩ := List.mem_map.mp hp
      simpa using hne o ho
  have tk : ∀ w ∈ toks ((ts :: os).map fun o => o.map fun t => tl (toS t)), ∃ t, (0 ≤ t ∧ t ≤ 9) ∧ (w = tl (toS t) ∨ w = tl (toS t) ++ [59]) := fun w hw => by
    obtain ⟨p, hp, v, hv, e⟩ := toks_mem hw
    obtain ⟨o, ho, rfl⟩ := List.mem_map.mp hp
    obtain ⟨t, ht, rfl⟩ := List.mem_map.mp hv
    exact ⟨t, h o ho t ht, e⟩
  rw [e2, spl_join (s := 32) (S := []) (toks_ne (by simp) fun p hp => by
      obtain ⟨o, ho, rfl⟩ := List.mem_map.mp hp
      simpa using hne o ho) (fun p hp => by
    obtain ⟨t, ht, e⟩ := tk p hp
    have := not_mem_of (dig_facts ht.1 ht.2).2.1
    rcases e with rfl | rfl
    · exact this
    · simpa using this)] at e1
  have hw2 : tl w ∈ toks ((ts :: os).map fun o => o.map fun t => tl (toS t)) := by
    rw [← e1]
    exact List.mem_map.mpr ⟨w, hw, rfl⟩
  obtain ⟨t, ht, e⟩ := tk _ hw2
  have z := (dig_facts ht.1 ht.2).1
  unfold wS at z ⊢
  rcases e with e | e
  · rw [e, z]
    omega
  · rw [e]
    show List.countP _ (_ ++ _) ≤ 1
    rw [List.countP_append]
    have z : List.countP (fun c => c == 59) (tl (toS t)) = 0 := z
    rw [z]
    decide
/-- a text behind so many changes -/
def TxtIn : Nat → Str → Prop
  | 0, z => wS List.length z ≤ 136 ∧ wS c59 z ≤ 16 ∧ wS cBad z = 0 ∧ (∀ w ∈ Txt.split z semi, wS c59 w ≤ 1) ∧ ∀ w ∈ Txt.split z blank, wS c59 w ≤ 1
  | 1, z => wS List.length z ≤ 274 ∧ wS c59 z ≤ 18 ∧ wS cBad z = 0
  | _, z => wS List.length z ≤ 550 ∧ wS c59 z ≤ 37 ∧ wS cBad z = 0
theorem text_in {ts : List Int} {os : List (List Int)} (h : ∀ o ∈ ts :: os, Few o) (hne : ∀ o ∈ ts :: os, o ≠ []) (hl : os.length ≤ 16) : TxtIn 0 (textR ts os) := by
  have hd : ∀ o ∈ ts :: os, ∀ t ∈ o, 0 ≤ t ∧ t ≤ 9 := fun o ho => (h o ho).2
  have z59 : ∀ p ∈ (ts :: os).map textOf, wS c59 p = 0 := fun p hp => by
    obtain ⟨o, ho, rfl⟩ := List.mem_map.mp hp
    exact textOf_zero (wt_cnt _) (by decide +kernel) fun t ht => (dig_facts (hd o ho t ht).1 (hd o ho t ht).2).1
  have zBad : ∀ p ∈ (ts :: os).map textOf, wS cBad p = 0 := fun p hp => by
    obtain ⟨o, ho, rfl⟩ := List.mem_map.mp hp
    exact textOf_zero (wt_cnt _) (by decide +kernel) fun t ht => (dig_facts (hd o ho t ht).1 (hd o ho t ht).2).2.2.1
  have zLen : ∀ p ∈ (ts :: os).map textOf, wS List.length p ≤ 6 := fun p hp => by
    obtain ⟨o, ho, rfl⟩ := List.mem_map.mp hp
    have h1 := wS_join_le wt_len blank (o.map toS)
    have h2 := wL_le (φ := List.length) (S := blank) (k := 1) (ws := o.map toS) fun w hw => by
      obtain ⟨t, ht, rfl⟩ := List.mem_map.mp hw
      exact Nat.le_of_eq (dig_facts (hd o ho t ht).1 (hd o ho t ht).2).2.2.2.1
    rw [List.length_map, show wS List.length blank = 1 by decide +kernel] at h2
    have h3 := (h o ho).1
    show wS List.length (Txt.join blank (o.map toS)) ≤ 6
    omega
  have n17 : ((ts :: os).map textOf).length ≤ 17 := by rw [List.length_map, List.length_cons]; omega
  refine ⟨?_, ?_, ?_, ?_, text_blank hd hne⟩
  · have h1 := wS_join_le wt_len semi ((ts :: os).map textOf)
    have h2 := wL_le (S := semi) zLen
    rw [show wS List.length semi = 2 by decide +kernel] at h2
    show wS List.length (Txt.join semi _) ≤ 136
    omega
  · have k1 : wS c59 semi = 1 := by decide +kernel
    have h1 : wS c59 (Txt.join semi ((ts :: os).map textOf)) + wS c59 semi = wL c59 semi ((ts :: os).map textOf) := wS_join (wt_cnt fun c => c == 59) semi ((ts :: os).map textOf) (by simp)
    have h2 : wL c59 semi ((ts :: os).map textOf) ≤ ((ts :: os).map textOf).length * (0 + wS c59 semi) := wL_le (φ := c59) (S := semi) (k := 0) fun w hw => Nat.le_of_eq (z59 w hw)
    rw [k1] at h1 h2
    have h3 : wS c59 (Txt.join semi ((ts :: os).map textOf)) ≤ 16 := by omega
    exact h3
  · have h1 := wS_join_le (wt_cnt fun c => !decide (c < 0x110000)) semi ((ts :: os).map textOf)
    rw [wL_zero (by decide +kernel) zBad] at h1
    exact Nat.le_zero.mp h1
  · intro w hw
    rw [text_parts hd] at hw
    rw [z59 w hw]
    omega
theorem e_facts : ∀ e ∈ repl ++ addS, wS List.length e ≤ 3 ∧ wS c59 e ≤ 1 ∧ wS cBad e = 0 := by decide +kernel
theorem mk_facts : ∀ e ∈ ([semi, blank] : List Str), wS List.length e ≤ 2 ∧ wS c59 e ≤ 1 ∧ wS cBad e = 0 := by decide +kernel
theorem chg_step {z z' : Str} {n c M : Nat} (h : Chg z z') (hn : wS List.length z ≤ n) (h3 : 3 ≤ n) (hc : wS c59 z ≤ c) (hb : wS cBad z = 0) (hM : 1 ≤ M) (h1 : ∀ w ∈ Txt.split z semi, wS c59 w ≤ M) (h2 : ∀ w ∈ Txt.split z blank, wS c59 w ≤ M) :
    wS List.length z' ≤ n + 2 + n ∧ wS c59 z' ≤ c + 1 + M ∧ wS cBad z' = 0 := by
  obtain ⟨mk, e, hm, he, hw⟩ := h
  have m := mk_facts mk (by rcases hm with rfl | rfl <;> simp)
  have l := hw _ wt_len
  have k := hw _ (wt_cnt fun c => c == 59)
  have b := hw _ (wt_cnt fun c => !decide (c < 0x110000))
  have fe : wS List.length e ≤ n ∧ wS c59 e ≤ M ∧ wS cBad e = 0 := by
    rcases he with he | he | he
    · refine ⟨Nat.le_trans (wS_word wt_len he) hn, ?_, Nat.le_zero.mp (Nat.le_trans (wS_word (wt_cnt _) he) (Nat.le_of_eq hb))⟩
      rcases hm with rfl | rfl
      · exact h1 e he
      · exact h2 e he
    · have := e_facts e (List.mem_append_left _ he)
      exact ⟨by omega, by omega, this.2.2⟩
    · have := e_facts e (List.mem_append_right _ he)
      exact ⟨by omega, by omega, this.2.2⟩
  refine ⟨by omega, ?_, ?_⟩
  · have k : wS c59 z' ≤ wS c59 z + wS c59 mk + wS c59 e := k
    omega
  · have b : wS cBad z' ≤ wS cBad z + wS cBad mk + wS cBad e := b
    omega
theorem txt_step {i : Nat} {z z' : Str} (hi : i < 2) (h : TxtIn i z) (c : Chg z z') : TxtIn (i + 1) z' := by
  have : i = 0 ∨ i = 1 := by omega
  rcases this with rfl | rfl
  · obtain ⟨a, b, d, e, f⟩ := h
    exact chg_step c a (by decide) b d (by decide) e f
  · obtain ⟨a, b, d⟩ := h
    exact chg_step c a (by decide) b d (by decide : 1 ≤ 18) (fun w hw => Nat.le_trans (wS_word (wt_cnt _) hw) b) (fun w hw => Nat.le_trans (wS_word (wt_cnt _) hw) b)
theorem txt_use {i : Nat} {z : Str} (h : TxtIn i z) : z.length ≤ 550 ∧ (Txt.split z semi).length ≤ 64 ∧ wS cBad z = 0 := by
  have g : wS List.length z ≤ 550 ∧ wS c59 z ≤ 37 ∧ wS cBad z = 0 := by
    match i, h with
    | 0, ⟨a, b, d, _⟩ => exact ⟨by omega, by omega, d⟩
    | 1, ⟨a, b, d⟩ => exact ⟨by omega, by omega, d⟩
    | i + 2, h => exact h
  obtain ⟨a, b, d⟩ := g
  rw [wS_len] at a
  refine ⟨a, ?_, d⟩
  have e := wS_split (wt_cnt fun c => c == 59) z semi
  have e : wS c59 z + wS c59 semi = wL c59 semi (Txt.split z semi) := e
  unfold wL at e
  rw [show wS c59 semi = 1 by decide +kernel] at e
  omega
end KL

set_option Elab.async false
set_option linter.all false
set_option maxRecDepth 100000
set_option maxHeartbeats 4000000
namespace KL
open PySem PySem.Spec PyProof.Rows L2 NdefX SX
abbrev sWord : Stmt := top 15
abbrev sLevels : Stmt := top 16
abbrev sGRead : Stmt := inClass (top 20) 1
section
variable {P : Program} {w : World} {K : PySem.W.Frag} {mg : Str → Option Value} {base : Heap} {f C N fI : Addr} {fd : FuncData} {fW fL fT T : Addr} {dW dL dT : FuncData}
theorem scWord : FnScope ["text", "at", "word"] ["text"] (defScope sWord) := ⟨rfl, rfl, rfl, by decide +kernel, rfl, by decide +kernel, by decide +kernel⟩
theorem ok_word (F : Fun K "bad_word" "bad_word" sWord f fd) (me : mg "enumerate" = none) {aD : Addr} (gD : mg "DIGITS" = some (.ref aD)) (hD : ∀ H, SqT K H aD digVs) : FnOk P w K mg base CX0 1 f fd ["text"] spWord := by
  refine F.ok scWord (fun vs H Q E h => ?_) (fun cdv A outer s H vs Q E hr h => ?_)
  · obtain ⟨z, rfl, _⟩ := h
    rfl
  · obtain ⟨z, rfl, hz, k⟩ := h
    refine ⟨_, pss_cons (ps_for PassesOwn.never rfl (pi_enum (by rfl) me (pa_cons (pe_bm PySem.F.plainAttrs_str PySem.F.slot_str_split PySem.F.type_str_split mt_split (pv 0) (pa_cons pe_str pa_nil)) pa_nil))
        (pg_tup rfl (pgs_cons (pg_name (i := 1) scWord.nd rfl (Or.inl rfl)) (pgs_cons (pg_name (i := 2) scWord.nd rfl (Or.inl rfl)) pgs_nil)))
        (pss_one (ps_if (pt_cmpR op_notIn_seq (pv 2) (pe_glob (v := .ref aD) (by rfl) gD rfl) (by rfl)) (pss_one (ps_ret (pv 1))) pss_nil)))
      (pss_one (ps_ret pe_non)), ?_⟩
    refine ⟨_, rfl, rfl, _, _, rfl, rfl, by decide +kernel, by rw [sizeLine_eq]; omega, fun l hl => ?_⟩
    have s1 : Same H (upd H l (.lst ((Txt.split z (PySem.Str.ofString " ")).map V.str))) := same_upd hl
    refine ⟨l, _, rfl, SqL.of upd_same, for_it (walk_enum (K := K) (a := l) (xs := (Txt.split z (PySem.Str.ofString " ")).map V.str)) (fun i σ H' => ∃ u1 u2 : Option V, σ = [some (.str z), u1, u2] ∧ Same H H' ∧ H' l = some (.lst ((Txt.split z (PySem.Str.ofString " ")).map V.str)) ∧
        badFrom (Txt.split z (PySem.Str.ofString " ")) 0 = badFrom ((Txt.split z (PySem.Str.ofString " ")).drop i) i) ⟨none, none, rfl, s1, upd_same, rfl⟩ (fun i σ H' _ ⟨_, _, _, _, g, _⟩ => SqL.of g) ?_ ?_⟩
    · rintro i x σ H2 H' hi ⟨u1, u2, rfl, s2, g2, eq⟩ ⟨T, x1, x2, rfl, nT, rfl, e1, e2⟩
      rw [List.length_map] at hi
      cases e1
      replace e2 : (List.map V.str (Txt.split z (PySem.Str.ofString " ")))[i]? = some x2 := e2
      rw [List.getElem?_map, List.getElem?_eq_getElem hi] at e2
      cases e2
      refine ⟨T, _, rfl, .inl (.inl upd_same), rfl, _, _, rfl, _, _, rfl, rfl, ?_⟩
      refine ⟨_, rfl, aD, _, rfl, .inr (hD _), rfl, by decide +kernel, _, rfl, ?_⟩
      have ed : (Txt.split z (PySem.Str.ofString " ")).drop i = (Txt.split z (PySem.Str.ofString " "))[i] :: (Txt.split z (PySem.Str.ofString " ")).drop (i + 1) := List.drop_eq_getElem_cons hi
      rw [ed, bad_cons] at eq
      cases hb : inV (.str (Txt.split z (PySem.Str.ofString " "))[i]) digVs with
      | true =>
        rw [hb, if_pos rfl] at eq
        refine ⟨_, _, rfl, s2.trans (same_upd nT), (same_upd nT) _ _ g2, eq⟩
      | false =>
        rw [hb, if_neg Bool.false_ne_true] at eq
        rw [eq] at k
        exact ⟨_, rfl, k _ (s2.trans (same_upd nT))⟩
    · rintro σ H' ⟨u1, u2, rfl, s2, g2, eq⟩
      rw [List.length_map, List.drop_length] at eq
      rw [eq] at k
      exact k H' s2
theorem scLevels : FnScope nLevels ["text"] (defScope sLevels) := ⟨rfl, rfl, rfl, by decide +kernel, rfl, by decide +kernel, by decide +kernel⟩
theorem ok_levels (F : Fun K "levels_of" "levels_of" sLevels f fd) (mi : mg "int" = none) : FnOk P w K mg base CX0 1 f fd ["text"] spLevels := by
  refine F.ok scLevels (fun vs H Q E h => ?_) (fun cdv A outer s H vs Q E hr h => ?_)
  · obtain ⟨z, rfl, _⟩ := h
    rfl
  · obtain ⟨z, rfl, hz, hl, hb, k⟩ := h
    refine ⟨_, pss_one (ps_ret (pe_lc (own := [("word", 1)]) (g := gName 1) (tt := tYes) rfl scLevels.nd (pi_list (pe_bm PySem.F.plainAttrs_str PySem.F.slot_str_split PySem.F.type_str_split mt_split (pv 0) (pa_cons pe_str pa_nil)))
      (blkOk_by (N := nLevels) (sc := defScope sLevels) (by decide +kernel)) (fun _ _ _ _ _ => pg_name (i := 1) scLevels.nd rfl (Or.inl rfl)) (fun _ _ _ _ _ => pts_nil) (fun _ _ _ _ _ => pe_callTy call_int_str (by rfl) mi (by decide +kernel) (pa_cons (pv 1) pa_nil)))), ?_⟩
    refine ⟨_, rfl, rfl, _, _, rfl, rfl, by decide +kernel, by rw [sizeLine_eq]; omega, fun l nl => ⟨l, rfl, ⟨_, SqL.of upd_same⟩, fun D nD => ?_⟩⟩
    have nlD : l ≠ D := fun e => by rw [← e, upd_same] at nD; cases nD
    have nD0 : H D = none := by rw [upd_ne nlD.symm] at nD; exact nD
    refine lc_list (K := K) (a := l) (xs := (Txt.split z blank).map V.str) (fun i H' => Same H H' ∧ H' l = some (.lst ((Txt.split z blank).map V.str)) ∧ H' D = some (.lst ((((Txt.split z blank).take i).map digOf).map V.int)))
      ⟨(same_upd nl).trans (same_upd nD), by rw [upd_ne nlD, upd_same], upd_same⟩ (fun i H' _ ⟨_, g, _⟩ => SqL.of g) ?_ ?_
    · rintro i x H' hx ⟨s2, g2, gD⟩
      rw [List.getElem?_map] at hx
      cases e : (Txt.split z blank)[i]? with
      | none => rw [e] at hx; cases hx
      | some wd =>
        rw [e] at hx
        cases hx
        have d := dig_ok (all_dig hb wd (List.mem_of_getElem? e))
        refine ⟨rfl, ?_⟩
        refine ⟨_, rfl, _, _, rfl, d.1, d.2.1, _, gD, ?_, fun b o eb => ?_, ?_, ?_⟩
        · rw [List.length_map, List.length_map, List.length_take, sizeLine_eq]
          omega
        · rw [upd_ne (ne_of_none eb nD0)]
          exact s2 b o eb
        · rw [upd_ne nlD]
          exact g2
        · rw [upd_same, List.take_add_one, e]
          simp
    · rintro H' ⟨s2, g2, gD⟩
      rw [List.length_map, List.take_length] at gD
      exact k D H' s2 nD0 gD
theorem scGRead : FnScope nRead ["cls", "text"] (defScope sGRead) := ⟨rfl, rfl, rfl, by decide +kernel, rfl, by decide +kernel, by decide +kernel⟩
theorem ok_gread (F : Fun K "read" "Grid.read" sGRead f fd) (M : Mk K C fI) (GI : FnR P w K mg base (L2.CX P w) 4 fI (spGInit K C N))
    (FW : Fun K "bad_word" "bad_word" sWord fW dW) (bW : Binds K dW ["text"] []) (gW : mg "bad_word" = some (.ref fW)) (GW : FnOk P w K mg base CX0 1 fW dW ["text"] spWord)
    (FL : Fun K "levels_of" "levels_of" sLevels fL dL) (bL : Binds K dL ["text"] []) (gL : mg "levels_of" = some (.ref fL)) (GL : FnOk P w K mg base CX0 1 fL dL ["text"] spLevels)
    (gT : mg "BadText" = some (.ref T)) (ox : OexC K T) (iT : PySem.W.findIn K (.ref T) "__init__" = some (some (.ref fT))) (tT : PySem.W.typeIn K (.ref fT) = some (.type "function"))
    (GT : FnOk P w K mg base CX0 1 fT dT ["self", "at"] (spI1 T "at")) (bT : Binds K dT ["self", "at"] []) : FnOk P w K mg base (L2.CX P w) 6 f fd ["cls", "text"] (spRead K C N T) := by
  refine F.okX scGRead (fun vs H Q E h => ?_) (fun cdv A outer s H vs Q E hr h => ?_)
  · obtain ⟨z, rfl, _⟩ := h
    rfl
  · obtain ⟨z, rfl, hz, hl, q⟩ := h
    refine ⟨_, pss_cons (ps_set (i := 2) scGRead.nd rfl (Or.inl rfl) (pe_call GW (hr.mono (by decide)) (by rfl) gW FW.kp bW .nil pass0 (pa_cons (pv 1) pa_nil)))
      (pss_cons (ps_if (pt_cmpR op_notN (pv 2) pe_non (nomark _)) (pss_one (ps_raise rfl (takes_of rfl rfl rfl rfl) (pmk_oex ox iT tT GT (hr.mono (by decide)) bT .nil pass0 (by rfl) gT (pa_cons (pv 2) pa_nil)))) pss_nil)
      (pss_cons (ps_set (i := 3) scGRead.nd rfl (Or.inl rfl) (pe_call GL (hr.mono (by decide)) (by rfl) gL FL.kp bL .nil pass0 (pa_cons (pv 1) pa_nil)))
      (pss_one (ps_ret (pe_makeLS (i := 0) M GI (hr.mono (by decide)) rfl (Or.inl rfl) (passes_call (takes_of rfl rfl rfl rfl) (fun _ _ _ _ h => h)) (pv 3)))))), ?_⟩
    refine ⟨_, rfl, z, rfl, hz, fun H1 s1 => ?_⟩
    unfold readG at q
    cases hb : badFrom (Txt.split z blank) 0 with
    | some i =>
      rw [hb] at q
      refine ⟨_, rfl, rfl, true, rfl, ?_⟩
      exact ⟨_, rfl, mko1 (Thrown.back s1 q)⟩
    | none =>
      rw [hb] at q
      refine ⟨_, rfl, rfl, false, rfl, ?_⟩
      refine ⟨_, rfl, z, rfl, hz, hl, hb, fun p H2 s2 np ep => ?_⟩
      have s12 := s1.trans s2
      refine ⟨rfl, _, rfl, p, _, rfl, .inr (SqL.of ep), fun x dx nx ndx nex => ?_⟩
      refine ⟨[.ref x], _, rfl, rfl, ?_, fun t ht => ?_⟩
      · rw [List.length_map, List.length_map, sizeLine_eq]
        omega
      have nxt : x ≠ t := ne_of_none upd_same ht
      have s3 : Same H2 (upd (upd (upd H2 dx (.own x)) x (.ins C dx [])) t (.tup (((Txt.split z blank).map digOf).map V.int))) := fun b o e => by
        rw [upd_ne (ne_of_none (by rw [upd_ne (ne_of_none e nx), upd_ne (ne_of_none e ndx)]; exact e) ht), upd_ne (ne_of_none e nx), upd_ne (ne_of_none e ndx)]
        exact e
      refine ⟨x, t, dx, (Txt.split z blank).map digOf, rfl, by rw [upd_ne nxt, upd_same], .inl (.inl upd_same), ?_⟩
      cases hc : chk ((Txt.split z blank).map digOf) with
      | some n =>
        rw [hc] at q
        exact Thrown.back (s12.trans s3) q
      | none =>
        rw [hc] at q
        refine fun H4 k4 g4 => ⟨rfl, q x H4 (fun b o e => ?_) g4⟩
        exact k4 b o ((s12.trans s3) b o e) (ne_of_none (s12 b o e) nx)
end
end KL

set_option Elab.async false
set_option linter.all false
set_option maxRecDepth 100000
set_option maxHeartbeats 4000000
namespace KL
open PySem PySem.Spec PyProof.Rows L2 NdefX SX
abbrev sRInit : Stmt := inClass (top 26) 0
abbrev sRLen : Stmt := inClass (top 26) 4
abbrev sRHas : Stmt := inClass (top 26) 5
abbrev sREq : Stmt := inClass (top 26) 3
abbrev nRInit : List Str := ["self", "grid", "options", "own", "pair"]
section
variable {P : Program} {w : World} {K : PySem.W.Frag} {mg : Str → Option Value} {base : Heap} {f fA fO fR fE C R N O B : Addr} {fd dA dO' dR dE : FuncData}
theorem scRInit : FnScope nRInit ["self", "grid", "options"] (defScope sRInit) := ⟨rfl, rfl, rfl, by decide +kernel, rfl, by decide +kernel, by decide +kernel⟩
theorem ok_rinit (F : Fun K "__init__" "Region.__init__" sRInit f fd) (T : GTxt K C) (TR : RTxt K R)
    (FA : Fun K "ascending" "ascending" sAsc fA dA) (gA : mg "ascending" = some (.ref fA)) (GA : FnOk P w K mg base (L2.CX P w) 4 fA dA ["grid", "options"] (spAsc K C N O)) (bA : Binds K dA ["grid", "options"] [])
    (FO : Fun K "open_pair" "open_pair" sOpen fO dO') (gO : mg "open_pair" = some (.ref fO)) (GO : FnOk P w K mg base (L2.CX P w) 5 fO dO' ["grid", "options"] (spOpen K C)) (bO : Binds K dO' ["grid", "options"] [])
    (gB : mg "BadRegion" = some (.ref B)) (ox : OexC K B) (iB : PySem.W.findIn K (.ref B) "__init__" = some (some (.ref fR))) (tB : PySem.W.typeIn K (.ref fR) = some (.type "function")) (GB : FnOk P w K mg base CX0 1 fR dR ["self", "first", "second"] (spT2 K B "first" "second")) (bB : Binds K dR ["self", "first", "second"] []) :
    FnOk P w K mg base (L2.CX P w) 6 f fd ["self", "grid", "options"] (spRInit K C R N O B) := by
  refine F.okX scRInit (fun vs H Q E h => ?_) (fun cdv A outer s H vs Q E hr h => ?_)
  · obtain ⟨x, g, l, dx, ts, ps, os, rfl, _⟩ := h
    rfl
  · obtain ⟨x, g, l, dx, ts, ps, os, rfl, hx, hG, hF, hl, hO, hz, q⟩ := h
    refine ⟨_, pss_cons (ps_set (i := 3) scRInit.nd rfl (Or.inl rfl) (pe_call GA (hr.mono (by decide)) (by rfl) gA FA.kp bA .nil (passes_call (takes_of rfl rfl rfl rfl) (fun _ _ _ _ h => h)) (pa_cons (pv 1) (pa_cons (pv 2) pa_nil))))
      (pss_cons (ps_set (i := 4) scRInit.nd rfl (Or.inl rfl) (pe_call GO hr (by rfl) gO FO.kp bO .nil (passes_call (takes_of rfl rfl rfl rfl) (fun _ _ _ _ h => h)) (pa_cons (pv 1) (pa_cons (pv 3) pa_nil))))
      (pss_cons (ps_if (pt_cmpR op_notN (pv 4) pe_non (nomark _)) (pss_one (ps_raise rfl (takes_of rfl rfl rfl rfl) (pmk_oex ox iB tB GB (hr.mono (by decide)) bB .nil pass0 (by rfl) gB (pa_cons (pe_ix ix_tup (pv 4) pe_int (fun _ _ => rfl)) (pa_cons (pe_ix ix_tup (pv 4) pe_int (fun _ _ => rfl)) pa_nil))))) pss_nil)
      (pss_cons (ps_fld (pv 0) (pv 1) rfl) (pss_one (ps_fld (pv 0) (pv 3) rfl))))), ?_⟩
    refine ⟨_, rfl, _, rfl, g, l, ts, ps, os, rfl, hG, hF, hl, hO, hz, ?_⟩
    unfold mkRg at q
    by_cases h0 : os = []
    · rw [if_pos h0] at q ⊢
      exact q
    rw [if_neg h0] at q ⊢
    cases e : badOpt ts os with
    | some o =>
      rw [e] at q
      exact q
    | none =>
      rw [e] at q
      intro p rs H1 s1 hp hE
      have sub : ∀ o ∈ ascO ts os, o ∈ below ts := fun o ho => (mem_asc.mp ho).1
      refine ⟨_, rfl, _, rfl, g, p, ts, rs, ascO ts os, rfl, hG.same s1, hF, hp, hE, sub, ?_⟩
      cases eo : openO (ascO ts os) (ascO ts os) with
      | some ab =>
        obtain ⟨a, b⟩ := ab
        simp only [eo] at q
        have q : ThrownP K B "first" "second" a b H E := q
        intro t r1 r2 H2 s2 ht h1 h2
        refine ⟨_, rfl, rfl, true, rfl, ?_⟩
        refine ⟨_, rfl, t, _, _, _, rfl, rfl, ht, atI_nat (j := 0) rfl, _, rfl, t, _, _, _, rfl, rfl, ht, atI_nat (j := 1) rfl, ?_⟩
        exact mkoP (.inr h1) (.inr h2) (ThrownP.back (s1.trans s2) q)
      | none =>
        simp only [eo] at q
        have q : ∀ H', (∀ b o, H b = some o → b ≠ x → H' b = some o) → RegAt K C R H' x ts (ascO ts os) → Q .non H' := q
        intro H2 s2
        refine ⟨_, rfl, rfl, false, rfl, ?_⟩
        have s12 := s1.trans s2
        have hx2 := s12 _ _ hx
        refine ⟨_, rfl, _, rfl, x, R, dx, _, rfl, hx2, TR.cl, TR.nG, (by show 0 < 1000; decide), ?_⟩
        have k1 : ∀ b o, H2 b = some o → b ≠ x → (upd H2 x (.ins R dx (putF "grid" (.ref g) []))) b = some o := fun b o e hb => by rw [upd_ne hb]; exact e
        refine ⟨_, rfl, _, rfl, x, R, dx, _, rfl, upd_same, TR.cl, TR.nO, (by show 1 < 1000; decide), ?_⟩
        rw [put_go, upd_upd]
        have k2 : ∀ b o, H2 b = some o → b ≠ x → (upd H2 x (.ins R dx [("grid", .ref g), ("options", .ref p)])) b = some o := fun b o e hb => by rw [upd_ne hb]; exact e
        have gx : g ≠ x := fun z => by
          obtain ⟨dg, _, _, _, hg, _⟩ := hG
          rw [z, hx] at hg
          cases hg
        have tr : ∀ {r : Addr} {xs : List V}, SqT K H2 r xs → SqT K (upd H2 x (.ins R dx [("grid", .ref g), ("options", .ref p)])) r xs := fun h => sqT_ne hx2 (fun _ z => nomatch z) (fun _ _ z => nomatch z) k2 h
        refine q _ (fun b o e hb => k2 b o (s12 b o e) hb) ⟨dx, g, p, rs, upd_same, (hG.same s12).ne hx2 gx k2, tr (Same.sqt s2 hp), (hE.same s2).carry fun r xs h => tr h⟩
end
end KL

set_option Elab.async false
set_option linter.all false
set_option maxRecDepth 100000
set_option maxHeartbeats 4000000
namespace KL
open PySem PySem.Spec PyProof.Rows L2 NdefX SX
section
variable {P : Program} {w : World} {K : PySem.W.Frag} {mg : Str → Option Value} {base : Heap} {f fE C R : Addr} {fd dE : FuncData}
theorem scRLen : FnScope ["self"] ["self"] (defScope sRLen) := ⟨rfl, rfl, rfl, by decide +kernel, rfl, by decide +kernel, by decide +kernel⟩
theorem scRHas : FnScope ["self", "option"] ["self", "option"] (defScope sRHas) := ⟨rfl, rfl, rfl, by decide +kernel, rfl, by decide +kernel, by decide +kernel⟩
theorem scREq : FnScope ["self", "other"] ["self", "other"] (defScope sREq) := ⟨rfl, rfl, rfl, by decide +kernel, rfl, by decide +kernel, by decide +kernel⟩
theorem ok_rlen (F : Fun K "__len__" "Region.__len__" sRLen f fd) (T : RTxt K R) (ml : mg "len" = none) : FnOk P w K mg base CX0 1 f fd ["self"] (spRLen K C R) := by
  refine F.ok scRLen (fun vs H Q E h => ?_) (fun cdv A outer s H vs Q E hr h => ?_)
  · obtain ⟨x, ts, os, rfl, _⟩ := h
    rfl
  · obtain ⟨x, ts, os, rfl, ⟨dx, g, p, rs, hx, hG, hp, hE⟩, k⟩ := h
    refine ⟨_, pss_one (ps_ret (pe_callB call_len_seq (by rfl) ml PySem.boot_len (pa_cons (pe_fld (pv 0) rfl) pa_nil))), ?_⟩
    refine ⟨_, rfl, x, R, dx, _, _, rfl, hx, T.cl, T.nO, rfl, p, _, rfl, .inr hp, ?_⟩
    rw [List.length_map, hE.len]
    exact k
theorem ok_rhas (F : Fun K "__contains__" "Region.__contains__" sRHas f fd) (T : RTxt K R) (mt : mg "tuple" = none) : FnOk P w K mg base CX0 1 f fd ["self", "option"] (spRHas K C R) := by
  refine F.ok scRHas (fun vs H Q E h => ?_) (fun cdv A outer s H vs Q E hr h => ?_)
  · obtain ⟨x, p, ts, o, os, rfl, _⟩ := h
    rfl
  · obtain ⟨x, q, ts, o, os, rfl, ⟨dx, g, p, rs, hx, hG, hp, hE⟩, hq, k⟩ := h
    refine ⟨_, pss_one (ps_ret (pe_cmpR (op_inT (room65 hr)) (pe_callTy call_tup (by rfl) mt (by decide +kernel) (pa_cons (pv 1) pa_nil)) (pe_fld (pv 0) rfl) (by rfl))), ?_⟩
    refine ⟨_, rfl, q, _, rfl, hq, fun q2 H2 s2 h2 => ?_⟩
    refine ⟨_, rfl, x, R, dx, _, _, rfl, s2 _ _ hx, T.cl, T.nO, rfl, dO o, os.map dO, .tup h2 (dpInts o), .tup (Same.sqt s2 hp) (hE.same s2).dp, shaped_dO o, shaped_dOs _, ?_⟩
    rw [any_dO]
    exact k H2 s2
theorem ok_req (F : Fun K "__eq__" "Region.__eq__" sREq f fd) (T : GTxt K C) (TR : RTxt K R) (mi : mg "isinstance" = none) (gR : mg "Region" = some (.ref R)) (DE : Dun K C "__eq__" fE) (GE : FnOk P w K mg base CX0 1 fE dE ["self", "other"] (spGEq K C)) (bE : Binds K dE ["self", "other"] []) :
    FnOk P w K mg base CX0 2 f fd ["self", "other"] (spREq K C R) := by
  refine F.ok scREq (fun vs H Q E h => ?_) (fun cdv A outer s H vs Q E hr h => ?_)
  · obtain ⟨x, y, ts, os, rfl, _⟩ := h
    rfl
  · obtain ⟨x, y, ts, os, rfl, ⟨dx, g, p, rs, hx, hG, hp, hE⟩, k⟩ := h
    refine ⟨_, pss_one (ps_ret (pe_and (pe_callB call_isi (by rfl) mi (by decide +kernel) (pa_cons (pv 1) (pa_cons (pe_glob (v := .ref R) (by rfl) gR rfl) pa_nil)))
      (pe_and (pe_cmpR (op_eqO DE GE bE pass0 (hr.mono (by decide))) (pe_fld (pv 0) rfl) (pe_fld (pv 1) rfl) (nomark _)) (pe_one (pe_cmpR (op_eqD hr.units) (pe_fld (pv 0) rfl) (pe_fld (pv 1) rfl) (nomark _)))))), ?_⟩
    rcases k with ⟨us, ws, ⟨dx', g', p', rs', hy, hG', hp', hE'⟩, k⟩ | ⟨t, ty, kit, k⟩
    · obtain ⟨dg, _, _, _, hg1, _⟩ := id hG
      obtain ⟨dg', _, _, _, hg2, _⟩ := id hG'
      refine ⟨_, rfl, _, _, .ref R, _, true, rfl, .own R, .base (.ins hy TR.cl TR.ha TR.hn TR.ht TR.hm), by unfold PySem.W.kitOne; rw [if_pos (by simp)], true, rfl, ?_⟩
      refine ⟨_, rfl, x, R, dx, _, _, rfl, hx, TR.cl, TR.nG, rfl, _, rfl, y, R, dx', _, _, rfl, hy, TR.cl, TR.nG, rfl, ?_⟩
      refine ⟨g, dg, _, rfl, hg1, .inl ⟨_, _, _, rfl, hg2⟩, g, g', ts, rfl, hG, .inl ⟨us, hG', _, rfl, ?_⟩⟩
      by_cases e : ts = us
      · rw [decide_eq_true e] at k ⊢
        refine ⟨true, rfl, ?_⟩
        refine ⟨_, rfl, x, R, dx, _, _, rfl, hx, TR.cl, TR.nO, rfl, _, rfl, y, R, dx', _, _, rfl, hy, TR.cl, TR.nO, rfl, .tuple (os.map dO), .tuple (ws.map dO), .tup hp hE.dp, .tup hp' hE'.dp, shaped_dOs _, shaped_dOs _, ?_⟩
        rw [eqv_dOs]
        exact k
      · rw [decide_eq_false e] at k ⊢
        exact ⟨false, rfl, k⟩
    · refine ⟨_, rfl, _, _, t, .ref R, false, rfl, .own R, ty, kit, false, rfl, ?_⟩
      exact k
end
end KL

set_option Elab.async false
set_option linter.all false
set_option maxRecDepth 100000
set_option maxHeartbeats 4000000
namespace KL
open PySem PySem.Spec PyProof.Rows L2 NdefX SX
abbrev sWide : Stmt := top 27
abbrev nWide : List Str := ["grid", "options", "made", "first", "second"]
section
variable {P : Program} {w : World} {K : PySem.W.Frag} {mg : Str → Option Value} {base : Heap} {f fA fL fG C N O : Addr} {fd dA dL dG : FuncData}
theorem scWide : FnScope nWide ["grid", "options"] (defScope sWide) := ⟨rfl, rfl, rfl, by decide +kernel, rfl, by decide +kernel, by decide +kernel⟩
theorem ok_wide (F : Fun K "widened" "widened" sWide f fd) (T : GTxt K C) (ML : Meth K C "lesser" fL) (GL : FnOk P w K mg base (L2.CX P w) 4 fL dL ["self", "first", "second"] (spLesser K C O)) (bL : Binds K dL ["self", "first", "second"] [])
    (MG : Meth K C "greater" fG) (GG : FnOk P w K mg base (L2.CX P w) 4 fG dG ["self", "first", "second"] (spGreater K C O)) (bG : Binds K dG ["self", "first", "second"] [])
    (FA : Fun K "ascending" "ascending" sAsc fA dA) (gA : mg "ascending" = some (.ref fA)) (GA : FnOk P w K mg base (L2.CX P w) 4 fA dA ["grid", "options"] (spAsc K C N O)) (bA : Binds K dA ["grid", "options"] []) :
    FnOk P w K mg base (L2.CX P w) 5 f fd ["grid", "options"] (spWide K C N O) := by
  refine F.okX scWide (fun vs H Q E h => ?_) (fun cdv A outer s H vs Q E hr h => ?_)
  · obtain ⟨g, p, ts, rs, os, rfl, _⟩ := h
    rfl
  · obtain ⟨g, p, ts, rs, os, rfl, hG, hF, hp, hE, hb, h0, h16, q⟩ := h
    refine ⟨_, pss_cons (ps_set (i := 2) scWide.nd rfl (Or.inl rfl) (pe_newL pa_nil))
      (pss_cons (ps_for (passes_of rfl) rfl (pi_tup (pv 1)) (pg_name (i := 3) scWide.nd rfl (Or.inl rfl))
        (pss_one (ps_for (passes_of rfl) rfl (pi_tup (pv 1)) (pg_name (i := 4) scWide.nd rfl (Or.inl rfl))
          (pss_cons (ps_expr (pe_bm PySem.F.plainAttrs_list PySem.F.slot_list_append PySem.F.type_list_append mt_append (pv 2) (pa_cons (pe_meth (pv 0) T.cl ML GL (hr.mono (by decide)) bL .nil (passes_call (takes_of rfl rfl rfl rfl) (fun _ _ _ _ h => h)) (pa_cons (pv 3) (pa_cons (pv 4) pa_nil))) pa_nil)))
          (pss_one (ps_expr (pe_bm PySem.F.plainAttrs_list PySem.F.slot_list_append PySem.F.type_list_append mt_append (pv 2) (pa_cons (pe_meth (pv 0) T.cl MG GG (hr.mono (by decide)) bG .nil (passes_call (takes_of rfl rfl rfl rfl) (fun _ _ _ _ h => h)) (pa_cons (pv 3) (pa_cons (pv 4) pa_nil))) pa_nil))))))))
      (pss_one (ps_ret (pe_call GA (hr.mono (by decide)) (by rfl) gA FA.kp bA .nil (passes_call (takes_of rfl rfl rfl rfl) (fun _ _ _ _ h => h)) (pa_cons (pv 0) (pa_cons (pv 2) pa_nil)))))), ?_⟩
    obtain ⟨dx, t, pp, rg, hx, _⟩ := id hG
    refine ⟨Nat.zero_le _, fun m H1 s1 nm em => ?_⟩
    refine ⟨_, rfl, p, rfl, ⟨_, Same.sqt s1 hp⟩, for_tup (K := K) (a := p) (xs := rs.map V.ref) (fun i σ H' => ∃ (rs' : List Addr) (u3 u4 : Option V), σ = [some (.ref g), some (.ref p), some (.ref m), u3, u4] ∧ Same H H' ∧ H' m = some (.lst (rs'.map V.ref)) ∧ Each K H' rs' ((os.take i).flatMap fun a => os.flatMap fun b => [lowO a b, highO a b]))
      ⟨[], none, none, rfl, s1, em, .nil⟩ (fun i σ H' _ ⟨_, _, _, _, s, _⟩ => Same.sqt s hp) ?_ ?_⟩
    · rintro i y σ H2 hy ⟨rs2, u3, u4, rfl, s2, m2, E2⟩
      obtain ⟨r, rfl, er⟩ := at_ref' hy
      obtain ⟨a, ea, _⟩ := hE.get er
      have ha := hb a (List.mem_of_getElem? ea)
      refine ⟨_, rfl, p, rfl, ⟨_, Same.sqt s2 hp⟩, for_tup (K := K) (a := p) (xs := rs.map V.ref) (fun j σ H' => ∃ (rs' : List Addr) (u4 : Option V), σ = [some (.ref g), some (.ref p), some (.ref m), some (.ref r), u4] ∧ Same H H' ∧ H' m = some (.lst (rs'.map V.ref)) ∧
          Each K H' rs' (((os.take i).flatMap fun a => os.flatMap fun b => [lowO a b, highO a b]) ++ (os.take j).flatMap fun b => [lowO a b, highO a b]))
        ⟨rs2, _, rfl, s2, m2, by rw [List.take_zero, List.flatMap_nil, List.append_nil]; exact E2⟩ (fun j σ H' _ ⟨_, _, _, s, _⟩ => Same.sqt s hp) ?_ ?_⟩
      · rintro j y σ H3 hy ⟨rs3, v4, rfl, s3, m3, E3⟩
        obtain ⟨r2, rfl, er2⟩ := at_ref' hy
        obtain ⟨b, eb, _⟩ := hE.get er2
        have hbb := hb b (List.mem_of_getElem? eb)
        have hr1 : SqT K H3 r (a.map V.int) := by
          obtain ⟨a', ea', h'⟩ := (hE.same s3).get er
          rw [ea] at ea'
          cases ea'
          exact h'
        have hr2 : SqT K H3 r2 (b.map V.int) := by
          obtain ⟨b', eb', h'⟩ := (hE.same s3).get er2
          rw [eb] at eb'
          cases eb'
          exact h'
        have good : badOpt ts [a, b] = none := by
          rw [opt_cons, if_pos ha, opt_cons, if_pos hbb]
          rfl
        have il : i < os.length := (List.getElem?_eq_some_iff.mp ea).1
        have jl : j < os.length := (List.getElem?_eq_some_iff.mp eb).1
        have big : rs3.length ≤ 1000 := by
          have z := E3.len
          rw [List.length_append] at z
          have g1 : ((os.take i).flatMap fun a => os.flatMap fun b => [lowO a b, highO a b]).length ≤ 16 * 32 := by
            have h1 : ∀ us : List (List Int), (us.flatMap fun a => os.flatMap fun b => [lowO a b, highO a b]).length = us.length * (os.length * 2) := by
              intro us
              induction us with
              | nil => simp
              | cons x r ih =>
                have w2 : ∀ (vs : List (List Int)) (a : List Int), (vs.flatMap fun b => [lowO a b, highO a b]).length = vs.length * 2 := by
                  intro vs a
                  induction vs with
                  | nil => rfl
                  | cons x r ih => rw [List.flatMap_cons, List.length_append, ih, show (x :: r).length = r.length + 1 from rfl]; show 2 + _ = _; omega
                rw [List.flatMap_cons, List.length_append, ih, w2, List.length_cons, Nat.succ_mul, Nat.add_comm]
            rw [h1, List.length_take]
            exact Nat.mul_le_mul (by omega) (by omega)
          have g2 : ((os.take j).flatMap fun b => [lowO a b, highO a b]).length ≤ 32 := by
            have w2 : ∀ (vs : List (List Int)), (vs.flatMap fun b => [lowO a b, highO a b]).length = vs.length * 2 := by
              intro vs
              induction vs with
              | nil => rfl
              | cons x r ih => rw [List.flatMap_cons, List.length_append, ih, show (x :: r).length = r.length + 1 from rfl]; show 2 + _ = _; omega
            rw [w2, List.length_take]
            omega
          omega
        refine ⟨_, rfl, .inl ⟨rfl, _, SqL.of m3⟩, _, rfl, g, dx, _, rfl, s3 _ _ hx, rfl, _, rfl, _, rfl, g, r, r2, ts, a, b, rfl, hG.same s3, hF, .inr hr1, .inr hr2, ?_⟩
        rw [good]
        refine fun H4 s4 q1 H5 s5 hq1 => ?_
        have s45 := s4.trans s5
        refine ⟨m, _, _, rfl, rfl, s45 _ _ m3, by rw [List.length_map, sizeLine_eq]; omega, ?_⟩
        -- the second one
        have m5 : (upd H5 m (.lst (rs3.map V.ref ++ [V.ref q1]))) m = some (.lst ((rs3 ++ [q1]).map V.ref)) := by rw [upd_same, List.map_append]; rfl
        have k5 : ∀ c o, H5 c = some o → c ≠ m → (upd H5 m (.lst (rs3.map V.ref ++ [V.ref q1]))) c = some o := fun c o e n => by rw [upd_ne n]; exact e
        have t5 : Same H (upd H5 m (.lst (rs3.map V.ref ++ [V.ref q1]))) := fun c o e => k5 c o (s45 c o (s3 c o e)) (ne_of_none e nm)
        have tr5 : ∀ {z : Addr} {xs : List V}, SqT K H5 z xs → SqT K (upd H5 m (.lst (rs3.map V.ref ++ [V.ref q1]))) z xs := fun h => sqT_ne (s45 _ _ m3) (fun _ z => nomatch z) (fun _ _ z => nomatch z) k5 h
        have E5 : Each K (upd H5 m (.lst (rs3.map V.ref ++ [V.ref q1]))) (rs3 ++ [q1]) ((((os.take i).flatMap fun a => os.flatMap fun b => [lowO a b, highO a b]) ++ (os.take j).flatMap fun b => [lowO a b, highO a b]) ++ [lowO a b]) :=
          ((E3.same s45).app (.cons hq1 .nil)).carry fun r xs h => tr5 h
        generalize upd H5 m (.lst (rs3.map V.ref ++ [V.ref q1])) = H6 at m5 t5 tr5 E5 ⊢
        have h61 : SqT K H6 r (a.map V.int) := tr5 (Same.sqt s45 hr1)
        have h62 : SqT K H6 r2 (b.map V.int) := tr5 (Same.sqt s45 hr2)
        refine ⟨_, rfl, .inl ⟨rfl, _, SqL.of m5⟩, _, rfl, g, dx, _, rfl, t5 _ _ hx, rfl, _, rfl, _, rfl, g, r, r2, ts, a, b, rfl, hG.same t5, hF, .inr h61, .inr h62, ?_⟩
        rw [good]
        refine fun H7 s7 q2 H8 s8 hq2 => ?_
        have s78 := s7.trans s8
        refine ⟨m, _, _, rfl, rfl, s78 _ _ m5, by rw [List.length_map, List.length_append, sizeLine_eq]; show rs3.length + 1 < _; omega, ?_⟩
        refine ⟨rs3 ++ [q1] ++ [q2], _, rfl, fun c o e => ?_, ?_, ?_⟩
        · rw [upd_ne (ne_of_none e nm)]
          exact s78 _ _ (t5 _ _ e)
        · rw [upd_same, List.map_append (l₁ := rs3 ++ [q1])]
          rfl
        · rw [List.take_add_one, eb, List.flatMap_append, ← List.append_assoc, show ((some b).toList.flatMap fun b => [lowO a b, highO a b]) = [lowO a b] ++ [highO a b] from rfl, ← List.append_assoc]
          exact ((E5.same s78).app (.cons hq2 .nil)).upd (s78 _ _ m5)
      · rintro σ H3 ⟨rs3, v4, rfl, s3, m3, E3⟩
        refine ⟨rs3, _, _, rfl, s3, m3, ?_⟩
        rw [List.length_map, hE.len, List.take_length] at E3
        rw [List.take_add_one, ea, List.flatMap_append]
        simpa using E3
    · rintro σ H2 ⟨rs2, u3, u4, rfl, s2, m2, E2⟩
      rw [List.length_map, hE.len, List.take_length] at E2
      have E2 : Each K H2 rs2 (pairsO os) := E2
      have hpb := pairs_below hb
      have pne : pairsO os ≠ [] := fun z => by
        have l := pairs_len os
        rw [z] at l
        have : 0 < os.length := List.length_pos_iff.mpr h0
        have h2 : 0 < os.length * os.length * 2 := Nat.mul_pos (Nat.mul_pos this this) (by decide)
        simp at l
        omega
      have pl : (pairsO os).length ≤ 1000 := by
        rw [pairs_len]
        have := Nat.mul_le_mul h16 h16
        omega
      refine ⟨_, rfl, _, rfl, g, m, ts, rs2, pairsO os, rfl, hG.same s2, hF, .inl (SqL.of m2), E2.opts, pl, ?_⟩
      rw [if_neg pne, bad_of hpb]
      exact fun q2 rs3 H3 s3 hq2 hE3 => q q2 rs3 H3 (s2.trans s3) hq2 hE3
end
end KL

set_option Elab.async false
set_option linter.all false
set_option maxRecDepth 100000
set_option maxHeartbeats 4000000
namespace KL
open PySem PySem.Spec PyProof.Rows L2 NdefX SX
abbrev sHull : Stmt := top 28
abbrev nHull : List Str := ["grid", "options", "kept", "wider"]
theorem asc_same {ts : List Int} (hF : Few ts) {os : List (List Int)} (h : Asc os) (hb : ∀ o ∈ os, o ∈ below ts) : ascO ts os = os :=
  Asc.eq (asc_asc hF os) h fun o => ⟨fun z => (mem_asc.mp z).2, fun z => mem_asc.mpr ⟨hb o z, z⟩⟩
theorem mk_region {ts : List Int} (hF : Few ts) {os : List (List Int)} (h : Asc os) (hb : ∀ o ∈ os, o ∈ below ts) (hc : Closed os) (h0 : os ≠ []) : mkRg ts os = .region os := by
  unfold mkRg
  rw [if_neg h0, bad_of hb, asc_same hF h hb]
  simp only [open_closed hc]
section
variable {P : Program} {w : World} {K : PySem.W.Frag} {mg : Str → Option Value} {base : Heap} {f fA fW fI C R N O B : Addr} {fd dA dW dI : FuncData}
theorem scHull : FnScope nHull ["grid", "options"] (defScope sHull) := ⟨rfl, rfl, rfl, by decide +kernel, rfl, by decide +kernel, by decide +kernel⟩
theorem ok_hull (F : Fun K "hull" "hull" sHull f fd) (gR : mg "Region" = some (.ref R)) (M : Mk K R fI) (GI : FnOk P w K mg base (L2.CX P w) 6 fI dI ["self", "grid", "options"] (spRInit K C R N O B)) (bI : Binds K dI ["self", "grid", "options"] [])
    (FA : Fun K "ascending" "ascending" sAsc fA dA) (gA : mg "ascending" = some (.ref fA)) (GA : FnOk P w K mg base (L2.CX P w) 4 fA dA ["grid", "options"] (spAsc K C N O)) (bA : Binds K dA ["grid", "options"] [])
    (FW : Fun K "widened" "widened" sWide fW dW) (gW : mg "widened" = some (.ref fW)) (GW : FnOk P w K mg base (L2.CX P w) 5 fW dW ["grid", "options"] (spWide K C N O)) (bW : Binds K dW ["grid", "options"] []) (ml : mg "len" = none) :
    FnOk P w K mg base (L2.CX P w) 8 f fd ["grid", "options"] (spHull K C R N O B) := by
  refine F.okX scHull (fun vs H Q E h => ?_) (fun cdv A outer s H vs Q E hr h => ?_)
  · obtain ⟨g, l, ts, ps, os, rfl, _⟩ := h
    rfl
  · obtain ⟨g, l, ts, ps, os, rfl, hG, hF, h16, hl, hO, hz, q⟩ := h
    refine ⟨_, pss_cons (ps_set (i := 2) scHull.nd rfl (Or.inl rfl) (pe_call GA (hr.mono (by decide)) (by rfl) gA FA.kp bA .nil (passes_call (takes_of rfl rfl rfl rfl) (fun _ _ _ _ h => h)) (pa_cons (pv 0) (pa_cons (pv 1) pa_nil))))
      (pss_cons (ps_set (i := 3) scHull.nd rfl (Or.inl rfl) (pe_call GW (hr.mono (by decide)) (by rfl) gW FW.kp bW .nil (passes_call (takes_of rfl rfl rfl rfl) (fun _ _ _ _ h => h)) (pa_cons (pv 0) (pa_cons (pv 2) pa_nil))))
      (pss_cons (ps_while (passes_of rfl) (pt_cmpR op_gt (pe_callB call_len_seq (by rfl) ml PySem.boot_len (pa_cons (pv 3) pa_nil)) (pe_callB call_len_seq (by rfl) ml PySem.boot_len (pa_cons (pv 2) pa_nil)) (nomark _))
        (pss_cons (ps_set (i := 2) scHull.nd rfl (Or.inl rfl) (pv 3))
        (pss_one (ps_set (i := 3) scHull.nd rfl (Or.inl rfl) (pe_call GW (hr.mono (by decide)) (by rfl) gW FW.kp bW .nil (passes_call (takes_of rfl rfl rfl rfl) (fun _ _ _ _ h => h)) (pa_cons (pv 0) (pa_cons (pv 2) pa_nil)))))))
      (pss_one (ps_ret (pe_make M GI hr (by rfl) gR bI .nil (passes_call (takes_of rfl rfl rfl rfl) (fun _ _ _ _ h => h)) (pa_cons (pv 0) (pa_cons (pv 2) pa_nil))))))), ?_⟩
    refine ⟨_, rfl, _, rfl, g, l, ts, ps, os, rfl, hG, hF, hl, hO, hz, ?_⟩
    by_cases h0 : os = []
    · rw [if_pos h0] at q ⊢
      exact q
    rw [if_neg h0] at q ⊢
    cases e : badOpt ts os with
    | some o =>
      rw [e] at q
      exact q
    | none =>
      rw [e] at q
      have q : ∀ us, IsHull ts os us → ∀ r H', Same H H' → RegAt K C R H' r ts us → Q (.ref r) H' := q
      have hob := bad_none e
      intro p rs H1 s1 hp hE
      have a0 : Asc (ascO ts os) := asc_asc hF os
      have b0 : ∀ o ∈ ascO ts os, o ∈ below ts := fun o ho => (mem_asc.mp ho).1
      have n0 : ascO ts os ≠ [] := fun z => by
        obtain ⟨o, ho⟩ := List.exists_mem_of_ne_nil os h0
        have := mem_asc.mpr ⟨hob o ho, ho⟩
        rw [z] at this
        cases this
      refine ⟨_, rfl, _, rfl, g, p, ts, rs, ascO ts os, rfl, hG.same s1, hF, hp, hE, b0, n0, Nat.le_trans (asc_len os) h16, fun p2 rs2 H2 s2 hp2 hE2 => ?_⟩
      refine ⟨fun m σ H' => ∃ (k w : Addr) (rk rw : List Addr) (ks : List (List Int)), σ = [some (.ref g), some (.ref l), some (.ref k), some (.ref w)] ∧ Same H H' ∧ SqT K H' k (rk.map V.ref) ∧ Each K H' rk ks ∧ SqT K H' w (rw.map V.ref) ∧ Each K H' rw (widenO ts ks) ∧
          Asc ks ∧ (∀ o ∈ ks, o ∈ below ts) ∧ ks ≠ [] ∧ (∀ o ∈ os, o ∈ ks) ∧ (∀ vs, Closed vs → (∀ o ∈ os, o ∈ vs) → ∀ o ∈ ks, o ∈ vs) ∧ m = 16 - ks.length,
        ⟨_, p, p2, rs, rs2, ascO ts os, rfl, s1.trans s2, Same.sqt s2 hp, hE.same s2, hp2, hE2, a0, b0, n0, fun o ho => mem_asc.mpr ⟨hob o ho, ho⟩, fun vs _ h o ho => h o (mem_asc.mp ho).2, rfl⟩, ?_⟩
      rintro m σ H3 ⟨k, w2, rk, rw, ks, rfl, s3, hk, hEk, hw, hEw, ak, bk, nk, supk, mink, rfl⟩
      refine ⟨_, rfl, w2, _, rfl, .inr hw, _, rfl, k, _, rfl, .inr hk, _, _, rfl, rfl, _, rfl, ?_⟩
      rw [List.length_map, List.length_map, hEw.len, hEk.len]
      have lk : ks.length ≤ 16 := by
        have z := nodup_len ks (below ts) ak.nodup bk
        omega
      refine ite2 (fun e1 => ?_) (fun e1 => ?_)
      · have e1 := of_decide_eq_true e1
        have e1 : ks.length < (widenO ts ks).length := by omega
        have aw : Asc (widenO ts ks) := asc_asc hF _
        have bw : ∀ o ∈ widenO ts ks, o ∈ below ts := fun o ho => (mem_asc.mp ho).1
        have lw : (widenO ts ks).length ≤ 16 := Nat.le_trans (asc_len _) h16
        have nw : widenO ts ks ≠ [] := fun z => by rw [z] at e1; simp at e1
        refine ⟨fun σ' H' => ∃ m', m' < 16 - ks.length ∧ ∃ (k w : Addr) (rk rw : List Addr) (ks : List (List Int)), σ' = [some (.ref g), some (.ref l), some (.ref k), some (.ref w)] ∧ Same H H' ∧ SqT K H' k (rk.map V.ref) ∧ Each K H' rk ks ∧ SqT K H' w (rw.map V.ref) ∧ Each K H' rw (widenO ts ks) ∧
          Asc ks ∧ (∀ o ∈ ks, o ∈ below ts) ∧ ks ≠ [] ∧ (∀ o ∈ os, o ∈ ks) ∧ (∀ vs, Closed vs → (∀ o ∈ os, o ∈ vs) → ∀ o ∈ ks, o ∈ vs) ∧ m' = 16 - ks.length, fun _ _ h => h, ?_⟩
        refine ⟨_, rfl, ?_⟩
        refine ⟨_, rfl, _, rfl, g, w2, ts, rw, widenO ts ks, rfl, hG.same s3, hF, hw, hEw, bw, nw, lw, fun p4 rs4 H4 s4 hp4 hE4 => ?_⟩
        refine ⟨_, by omega, w2, p4, rw, rs4, widenO ts ks, rfl, s3.trans s4, Same.sqt s4 hw, hEw.same s4, hp4, hE4, aw, bw, nw, fun o ho => widen_sup bk o (supk o ho), fun vs hc h o ho => ?_, rfl⟩
        obtain ⟨a, ha, b, hb, eo⟩ := mem_pairs.mp (mem_asc.mp ho).2
        have z := hc a (mink vs hc h a ha) b (mink vs hc h b hb)
        rcases eo with rfl | rfl
        · exact z.1
        · exact z.2
      · have e2 : (widenO ts ks).length ≤ ks.length := Nat.le_of_not_lt fun z => e1 (decide_eq_true (by omega))
        have ew := widen_stop hF bk ak e2
        have hc : Closed ks := widen_closed bk ew
        refine ⟨_, rfl, _, rfl, fun x dx nx ndx nex => ?_⟩
        have s4 : Same H3 (upd (upd H3 dx (.own x)) x (.ins R dx [])) := fun b o eb => by
          rw [upd_ne (ne_of_none eb nx), upd_ne (ne_of_none eb ndx)]
          exact eb
        refine ⟨x, g, k, dx, ts, rk, ks, rfl, upd_same, hG.same (s3.trans s4), hF, .inr (Same.sqt s4 hk), (hEk.same s4).opts, by omega, ?_⟩
        rw [mk_region hF ak bk hc nk]
        refine fun H5 k5 hR => ⟨rfl, ?_⟩
        refine q ks ⟨ak, bk, supk, hc, mink⟩ x H5 (fun b o eb => k5 b o ((s3.trans s4) b o eb) (ne_of_none (s3 b o eb) nx)) hR
end
end KL

set_option Elab.async false
set_option linter.all false
set_option maxRecDepth 100000
set_option maxHeartbeats 4000000
namespace KL
open PySem PySem.Spec PyProof.Rows L2 NdefX SX
abbrev sRStr : Stmt := inClass (top 26) 2
abbrev sRRead : Stmt := inClass (top 26) 1
abbrev nRStr : List Str := ["self", "levels"]
abbrev nRRead : List Str := ["cls", "text", "parts", "at", "part", "grid"]
theorem text_len {ts : List Int} (h : Few ts) : (textOf ts).length ≤ 20 := by
  have h1 := StrLaws.join_length_le blank (ts.map toS)
  have h3 : blank.length = 1 := by decide +kernel
  rw [← TL.join_eq, h3, Nat.mul_one, List.length_map] at h1
  have h2 := strs_sum h.2
  have := h.1
  show (Txt.join blank (ts.map toS)).length ≤ 20
  omega
theorem texts_sum : ∀ {us : List (List Int)}, (∀ u ∈ us, Few u) → ((us.map textOf).map (·.length)).sum ≤ 20 * us.length
  | [], _ => by simp
  | u :: r, h => by
    have h1 := text_len (h u List.mem_cons_self)
    have h2 := texts_sum (us := r) fun v hv => h v (List.mem_cons_of_mem _ hv)
    simp only [List.map_cons, List.sum_cons, List.length_cons]
    omega
section
variable {P : Program} {w : World} {K : PySem.W.Frag} {mg : Str → Option Value} {base : Heap} {f fT C R : Addr} {fd dT : FuncData}
theorem scRStr : FnScope nRStr ["self"] (defScope sRStr) := ⟨rfl, rfl, rfl, by decide +kernel, rfl, by decide +kernel, by decide +kernel⟩
theorem ok_rstr (F : Fun K "__str__" "Region.__str__" sRStr f fd) (T : GTxt K C) (TR : RTxt K R) (FT : Fun K "text_of" "text_of" sTextOf fT dT) (gT : mg "text_of" = some (.ref fT)) (GT : FnOk P w K mg base CX0 1 fT dT ["levels"] (spTextOf K)) (bT : Binds K dT ["levels"] []) :
    FnOk P w K mg base CX0 2 f fd ["self"] (spRStr K C R) := by
  refine F.ok scRStr (fun vs H Q E h => ?_) (fun cdv A outer s H vs Q E hr h => ?_)
  · obtain ⟨x, ts, os, rfl, _⟩ := h
    rfl
  · obtain ⟨x, ts, os, rfl, ⟨dx, g, p, rs, hx, hG, hp, hE⟩, hF, hz, hFo, k⟩ := h
    refine ⟨_, pss_one (ps_ret (pe_bm PySem.F.plainAttrs_str PySem.F.slot_str_join PySem.F.type_str_join mt_join pe_str (pa_cons
      (pe_lc (own := [("levels", 1)]) (g := gName 1) (tt := tYes) (te := tCall (spTextOf K) [] (fun _ _ _ => False) (tCons (tVar 1) tNil)) rfl scRStr.nd (pi_list (pe_newL (pa_cons (pe_fld (pe_fld (pv 0) rfl) rfl) (StX.pa_star (pe_fld (pv 0) rfl) pa_nil)))) (blkOk_by (N := nRStr) (sc := defScope sRStr) (by decide +kernel)) (fun _ _ _ _ _ => pg_name (i := 1) scRStr.nd rfl (Or.inl rfl)) (fun _ _ _ _ _ => pts_nil)
        (fun _ _ _ _ _ => pe_call GT (hr.mono (by decide)) (by rfl) gT FT.kp bT .nil pass0 (pa_cons (pv 1) pa_nil))) pa_nil))), ?_⟩
    obtain ⟨dg, t, pp, rg, hg, ht, hpp, hEg⟩ := id hG
    refine ⟨rfl, _, rfl, x, R, dx, _, _, rfl, hx, TR.cl, TR.nG, rfl, g, C, dg, _, _, rfl, hg, T.cl, T.nT, rfl, _, rfl, x, R, dx, _, _, rfl, hx, TR.cl, TR.nO, rfl, p, _, rfl, .inl hp, ?_⟩
    have ol := hE.len
    refine ⟨?_, fun l H1 s1 nl el => ?_⟩
    · rw [List.append_nil, List.length_cons, List.length_map, ol, sizeLine_eq]
      omega
    rw [List.append_nil] at el
    have el : H1 l = some (.lst ((t :: rs).map V.ref)) := el
    have hE1 : Each K H1 (t :: rs) (ts :: os) := .cons (Same.sqt s1 ht) (hE.same s1)
    have hFa : ∀ u ∈ ts :: os, Few u := fun u hu => (List.mem_cons.mp hu).elim (fun e => e ▸ hF) (hFo u)
    refine ⟨l, rfl, ⟨_, SqL.of el⟩, fun D nD => ?_⟩
    refine lc_list (K := K) (a := l) (xs := (t :: rs).map V.ref) (fun i H' => Same H1 H' ∧ H' D = some (.lst ((((ts :: os).take i).map textOf).map V.str))) ⟨same_upd nD, upd_same⟩ (fun i H' _ ⟨s, _⟩ => SqL.of (s _ _ el)) ?_ ?_
    · rintro i y H2 hy ⟨s2, gD⟩
      obtain ⟨r, rfl, er⟩ := at_ref' hy
      obtain ⟨u, eu, hu⟩ := (hE1.same s2).get er
      have fu := hFa u (List.mem_of_getElem? eu)
      refine ⟨rfl, ?_⟩
      refine ⟨_, rfl, r, u, rfl, .inr hu, fu, fun H3 s3 => ⟨_, s3 _ _ gD, ?_, fun b o e => ?_, ?_⟩⟩
      · rw [List.length_map, List.length_map, List.length_take, sizeLine_eq, List.length_cons]
        omega
      · rw [upd_ne (ne_of_none e nD)]
        exact s3 _ _ (s2 _ _ e)
      · rw [upd_same, List.take_add_one, eu, List.map_append, List.map_append]
        rfl
    · rintro H2 ⟨s2, gD⟩
      rw [List.length_map, show (t :: rs).length = (ts :: os).length by rw [List.length_cons, List.length_cons, ol], List.take_length] at gD
      refine ⟨_, D, _, rfl, rfl, .inl (SqL.of gD), ?_, k H2 (s1.trans s2)⟩
      have h1 := texts_sum hFa
      have h3 : (PySem.Str.ofString "; ").length = 2 := by decide +kernel
      rw [List.length_map]
      show _ + _ * (PySem.Str.ofString "; ").length ≤ _
      rw [h3]
      rw [List.length_cons] at h1 ⊢
      omega
end
end KL

set_option Elab.async false
set_option linter.all false
set_option maxRecDepth 100000
set_option maxHeartbeats 4000000
namespace KL
open PySem PySem.Spec PyProof.Rows L2 NdefX SX
abbrev sLUnder : Stmt := top 38
def spLUnder (K : PySem.W.Frag) : Sp := fun vs H Q _ => ∃ (a b : Addr) (o1 o2 : List Int), vs = [.ref a, .ref b] ∧ SqA K H a (o1.map V.int) ∧ SqA K H b (o2.map V.int) ∧ o1.length = o2.length ∧ o1.length ≤ 1000 ∧ ∀ H', Same H H' → Q (.bl (leO o1 o2)) H'
abbrev sLGridOf : Stmt := top 41
abbrev nLGridOf : List Str := ["_law_tops", "_law_top"]
def spLGridOf (K : PySem.W.Frag) (C : Addr) : Sp := fun vs H Q _ => ∃ (t : Addr) (ts : List Int), vs = [.ref t] ∧ SqT K H t (ts.map V.int) ∧ Few ts ∧ chk ts = none ∧ ts ≠ [] ∧ ∀ x H', Same H H' → GridAt K C H' x ts → Q (.ref x) H'
abbrev sLHullOf : Stmt := top 43
abbrev nLHullOf : List Str := ["_law_rows", "_law_found", "_law_pair"]
def spLHullOf (K : PySem.W.Frag) : Sp := fun vs H Q _ => ∃ (l : Addr) (rs : List Addr) (ts : List Int) (os : List (List Int)), vs = [.ref l] ∧ SqL K H l (rs.map V.ref) ∧ Each K H rs os ∧ (∀ o ∈ os, o ∈ below ts) ∧ Few ts ∧ 1 ≤ ts.length ∧ (below ts).length ≤ 16 ∧ os.length < 60 ∧
  ∀ us, IsHull ts os us → ∀ q rs' H', Same H H' → H q = none → H' q = some (.lst (rs'.map V.ref)) → Each K H' rs' us → Q (.ref q) H'
theorem noOneT {X : Cx} : L2.Takes X (fun _ _ _ _ => False) := fun _ _ x => by
  obtain ⟨_, _, _, _, _, _, _, _, _, _, _, _, _, _, _, _, z⟩ := x
  exact z.elim
section
variable {P : Program} {w : World} {K : PySem.W.Frag} {mg : Str → Option Value} {base : Heap} {f fL fG fO C N T pG gG0 : Addr} {mcG : Value} {fd dL dG dOo : FuncData}
theorem scLUnder : FnScope nLPair ["_law_first", "_law_second"] (defScope sLUnder) := ⟨rfl, rfl, rfl, by decide +kernel, rfl, by decide +kernel, by decide +kernel⟩
theorem ok_lunder (F : Fun K "_law_under" "_law_under" sLUnder f fd) (mz : mg "zip" = none) : FnOk P w K mg base CX0 1 f fd ["_law_first", "_law_second"] (spLUnder K) := by
  refine F.ok scLUnder (fun vs H Q E h => ?_) (fun cdv A outer s H vs Q E hr h => ?_)
  · obtain ⟨a, b, o1, o2, rfl, _⟩ := h
    rfl
  · obtain ⟨a, b, o1, o2, rfl, h1, h2, hl, hz, q⟩ := h
    refine ⟨_, pss_one (ps_ret (pe_cmpR (op_eqD hr.units) (pe_lc (own := [("_law_one", 2), ("_law_other", 3)]) (tt := tTest (tOp (rI0 (fun i j => .bl (decide (i > j)))) (tVar 2) (tVar 3))) (g := gTup K 2 (gCons (gName 2) (gCons (gName 3) gNil))) (te := tC (.int 1)) rfl scLUnder.nd (pi_zipB (by rfl) mz (pa_cons (pv 0) (pa_cons (pv 1) pa_nil)))
          (blkOk_by (N := nLPair) (sc := defScope sLUnder) (by decide +kernel)) (fun _ _ _ _ _ => pg_tup rfl (pgs_cons (pg_name (i := 2) scLUnder.nd rfl (Or.inl rfl)) (pgs_cons (pg_name (i := 3) scLUnder.nd rfl (Or.inl rfl)) pgs_nil))) (fun _ _ _ _ _ => pts_one (pt_cmpR op_gt (pv 2) (pv 3) (nomark _)))
          (fun _ _ _ _ _ => pe_int)) (pe_newL pa_nil) (nomark _))), ?_⟩
    obtain ⟨ka, ka'⟩ := h1.kind
    obtain ⟨kb, kb'⟩ := h2.kind
    refine ⟨_, rfl, _, rfl, a, b, ka, kb, _, _, rfl, ka', kb', fun D nD => ?_⟩
    refine lc_zfilt (g := fun m n => decide (m > n)) (v0 := .int 1) (Same.refl H) nD hl hz ka' kb' (fun _ _ => rfl) (fun m n H' Q q => ⟨_, rfl, _, rfl, m, n, rfl, rfl, _, rfl, q⟩) (fun m n H' Q q => q) fun H3 s3 gD => ?_
    refine ⟨Nat.zero_le _, fun l H4 s4 n4 e4 => ?_⟩
    generalize hxs : (o1.zip o2).filter (fun x => decide (x.1 > x.2)) = xs at gD
    have e1 : xs.map (fun _ => V.int 1) = (xs.map fun _ => (1 : Int)).map V.int := by rw [List.map_map]; rfl
    rw [e1] at gD
    refine ⟨.list ((xs.map fun _ => (1 : Int)).map PyData.int), .list [], .lst (SqL.of (s4 _ _ gD)) (dpInts _), .lst (SqL.of e4) .nil, shaped_all (fun d hd => by
      obtain ⟨z, _, rfl⟩ := List.mem_map.mp hd
      exact ⟨rfl, by show 0 ≤ 3; decide⟩), by decide +kernel, ?_⟩
    have e2 : PyData.eqv (.list ((xs.map fun _ => (1 : Int)).map PyData.int)) (.list []) = leO o1 o2 := by
      rw [le_filter hl, hxs]
      cases xs with
      | nil => decide +kernel
      | cons x r => simp [PyData.eqv, PyData.eqvAll]
    rw [e2]
    exact q H4 (s3.trans s4)
theorem scLGridOf : FnScope nLGridOf ["_law_tops"] (defScope sLGridOf) := ⟨rfl, rfl, rfl, by decide +kernel, rfl, by decide +kernel, by decide +kernel⟩
theorem ok_lgridOf (F : Fun K "_law_grid_of" "_law_grid_of" sLGridOf f fd) (ms : mg "str" = none)
    (gG : mg "Grid" = some (.ref C)) (rG : ClX.CRead K C mcG) (cG : ClX.CMet K C mcG "read" pG gG0) (GR : FnR P w K mg base (L2.CX P w) 6 gG0 (spRead K C N T)) : FnOk P w K mg base CX0 7 f fd ["_law_tops"] (spLGridOf K C) := by
  refine F.ok scLGridOf (fun vs H Q E h => ?_) (fun cdv A outer s H vs Q E hr h => ?_)
  · obtain ⟨t, ts, rfl, _⟩ := h
    rfl
  · obtain ⟨t, ts, rfl, ht, hF, hck, hne, k⟩ := h
    refine ⟨_, pss_one (ps_ret (pe_cmethS (pe_glob (v := .ref C) (by rfl) gG rfl) rG cG GR hr (fun σ => passAt noOneT σ) (pa_cons (pe_bm PySem.F.plainAttrs_str PySem.F.slot_str_join PySem.F.type_str_join mt_join pe_str (pa_cons
        (pe_lc (own := [("_law_top", 1)]) (g := gName 1) (tt := tYes) rfl scLGridOf.nd (pi_tup (pv 0)) (blkOk_by (N := nLGridOf) (sc := defScope sLGridOf) (by decide +kernel)) (fun _ _ _ _ _ => pg_name (i := 1) scLGridOf.nd rfl (Or.inl rfl)) (fun _ _ _ _ _ => pts_nil)
          (fun _ _ _ _ _ => pe_callTy call_str_int (by rfl) ms (by decide +kernel) (pa_cons (pv 1) pa_nil))) pa_nil)) pa_nil))), ?_⟩
    refine ⟨rfl, rfl, _, rfl, t, rfl, ⟨_, ht⟩, fun D nD => ?_⟩
    refine lc_tup (K := K) (a := t) (xs := ts.map V.int) (fun i H' => Same H H' ∧ H' D = some (.lst (((ts.take i).map toS).map V.str))) ⟨same_upd nD, upd_same⟩ (fun i H' _ ⟨s, _⟩ => Same.sqt s ht) ?_ ?_
    · rintro i y H' hy ⟨s4, gD⟩
      obtain ⟨n, rfl, hn⟩ := at_int hy
      have h9 := hF.2 n (List.mem_of_getElem? hn)
      refine ⟨rfl, ?_⟩
      refine ⟨_, rfl, _, rfl, (small_str h9.1 h9.2).1, _, gD, ?_, fun b o e => ?_, ?_⟩
      · rw [List.length_map, List.length_map, List.length_take, sizeLine_eq]
        have := hF.1
        omega
      · rw [upd_ne (ne_of_none e nD)]
        exact s4 b o e
      · rw [upd_same, List.take_add_one, hn, List.map_append, List.map_append]
        rfl
    rintro H4 ⟨s4, gD⟩
    rw [List.length_map, List.take_length] at gD
    have hlen_t := text_len hF
    refine ⟨_, D, _, rfl, rfl, .inl (SqL.of gD), ?_, ?_⟩
    · have h1 := strs_sum hF.2
      have h2 := hF.1
      have h3 : blank.length = 1 := by decide +kernel
      show _ + _ * blank.length ≤ _
      rw [List.length_map, h3]
      omega
    have hsp := PyProof.Rows.split_le (textOf ts) blank
    refine ⟨textOf ts, rfl, by omega, by omega, ?_⟩
    rw [readG_none (text_good hF.2 hne).1, (text_good hF.2 hne).2, hck]
    intro g H5 s5 hG
    exact k g H5 (s4.trans s5) hG
theorem scLHullOf : FnScope nLHullOf ["_law_rows"] (defScope sLHullOf) := ⟨rfl, rfl, rfl, by decide +kernel, rfl, by decide +kernel, by decide +kernel⟩
theorem openO_some {all : List (List Int)} : ∀ {os : List (List Int)} {a b : List Int}, openO all os = some (a, b) → a ∈ os ∧ b ∈ os ∧ badB all a b = true
  | [], _, _, h => by cases h
  | x :: r, a, b, h => by
    rw [open_cons] at h
    cases e : r.find? (badB all x) with
    | some y =>
      rw [e] at h
      have h : some (x, y) = some (a, b) := h
      obtain ⟨rfl, rfl⟩ : x = a ∧ y = b := by injection h with h; injection h with h1 h2; exact ⟨h1, h2⟩
      exact ⟨List.mem_cons_self, List.mem_cons_of_mem _ (List.mem_of_find?_eq_some e), List.find?_some e⟩
    | none =>
      rw [e] at h
      have h : openO all r = some (a, b) := h
      obtain ⟨h1, h2, h3⟩ := openO_some h
      exact ⟨List.mem_cons_of_mem _ h1, List.mem_cons_of_mem _ h2, h3⟩
theorem ok_lhullOf (F : Fun K "_law_hull_of" "_law_hull_of" sLHullOf f fd) (FL : Fun K "_law_low_of" "_law_low_of" sLLow fL dL) (bL : Binds K dL ["_law_first", "_law_second"] []) (gL : mg "_law_low_of" = some (.ref fL)) (GL : FnOk P w K mg base CX0 1 fL dL ["_law_first", "_law_second"] (spL2 K lowO))
    (FG : Fun K "_law_high_of" "_law_high_of" sLHigh fG dG) (bG : Binds K dG ["_law_first", "_law_second"] []) (gG : mg "_law_high_of" = some (.ref fG)) (GG : FnOk P w K mg base CX0 1 fG dG ["_law_first", "_law_second"] (spL2 K highO))
    (FO : Fun K "_law_open" "_law_open" sLOpen fO dOo) (bO : Binds K dOo ["_law_rows"] []) (gO : mg "_law_open" = some (.ref fO)) (GO : FnOk P w K mg base CX0 2 fO dOo ["_law_rows"] (spLOpen K)) (mo : mg "sorted" = none) (mse : mg "set" = none) :
    FnOk P w K mg base CX0 3 f fd ["_law_rows"] (spLHullOf K) := by
  refine F.ok scLHullOf (fun vs H Q E h => ?_) (fun cdv A outer s H vs Q E hr h => ?_)
  · obtain ⟨l, rs, ts, os, rfl, _⟩ := h
    rfl
  · obtain ⟨l, rs, ts, os, rfl, hl, hE, hb, hF, h1, h16, hz, q⟩ := h
    refine ⟨_, pss_cons (ps_set (i := 1) scLHullOf.nd rfl (Or.inl rfl) (pe_callB (cr_sortedT rfl) (by rfl) mo (by decide +kernel) (pa_cons (pe_callTy (cr_setOfT rfl hr.units) (by rfl) mse (by decide +kernel) (pa_cons (pv 0) pa_nil)) pa_nil)))
      (pss_cons (ps_set (i := 2) scLHullOf.nd rfl (Or.inl rfl) (pe_call GO (hr.mono (by decide)) (by rfl) gO FO.kp bO .nil pass0 (pa_cons (pv 1) pa_nil)))
      (pss_cons (ps_while PassesOwn.never (pt_cmpR op_notN (pv 2) pe_non (nomark _))
        (pss_cons (ps_set (i := 1) scLHullOf.nd rfl (Or.inl rfl) (pe_callB (cr_sortedT rfl) (by rfl) mo (by decide +kernel) (pa_cons (pe_callTy (cr_setOfT rfl hr.units) (by rfl) mse (by decide +kernel) (pa_cons
            (pe_op op_catW (pv 1) (pe_newL (pa_cons (pe_call GL (hr.mono (by decide)) (by rfl) gL FL.kp bL .nil pass0 (pa_cons (pe_ix ix_tup (pv 2) pe_int (fun _ _ => rfl)) (pa_cons (pe_ix ix_tup (pv 2) pe_int (fun _ _ => rfl)) pa_nil)))
              (pa_cons (pe_call GG (hr.mono (by decide)) (by rfl) gG FG.kp bG .nil pass0 (pa_cons (pe_ix ix_tup (pv 2) pe_int (fun _ _ => rfl)) (pa_cons (pe_ix ix_tup (pv 2) pe_int (fun _ _ => rfl)) pa_nil))) pa_nil)))) pa_nil)) pa_nil)))
        (pss_one (ps_set (i := 2) scLHullOf.nd rfl (Or.inl rfl) (pe_call GO (hr.mono (by decide)) (by rfl) gO FO.kp bO .nil pass0 (pa_cons (pv 1) pa_nil))))))
      (pss_one (ps_ret (pv 1))))), ?_⟩
    refine ⟨_, rfl, ?_⟩
    dsimp only [tNil]
    refine sort_set (P := P) (w := w) hl hE hb hF h1 (by omega) fun q1 rs1 H1 s1 n1 e1 hE1 => ?_
    have a0 : Asc (ascO ts os) := asc_asc hF os
    have b0 : ∀ o ∈ ascO ts os, o ∈ below ts := fun o ho => (mem_asc.mp ho).1
    let PV : V → Hp → List (List Int) → Prop := fun v H' ks => (v = .non ∧ openO ks ks = none) ∨ ∃ p r1 r2 a b, v = .ref p ∧ openO ks ks = some (a, b) ∧ SqT K H' p [.ref r1, .ref r2] ∧ SqT K H' r1 (a.map V.int) ∧ SqT K H' r2 (b.map V.int)
    have hopen : ∀ (q1 : Addr) (rk : List Addr) (ks : List (List Int)) (H1 : Hp) (Q' : VK), H1 q1 = some (.lst (rk.map V.ref)) → Each K H1 rk ks → (∀ o ∈ ks, o ∈ below ts) → ks.length ≤ 16 → (∀ v H2, Same H1 H2 → PV v H2 ks → Q' v H2) → spLOpen K [.ref q1] H1 Q' (fun _ _ _ => False) := by
      intro q1 rk ks H1 Q' e1 hk hb' hl' k
      refine ⟨q1, rk, ks, ts.length, rfl, SqL.of e1, hk, fun o ho => opt_len (hb' o ho), by have := hF.1; omega, by omega, ?_⟩
      cases eo : openO ks ks with
      | none => exact fun H2 s2 => k .non H2 s2 (.inl ⟨rfl, eo⟩)
      | some ab =>
        obtain ⟨a, b⟩ := ab
        exact fun p r1 r2 H2 s2 hp hr1 hr2 => k (.ref p) H2 s2 (.inr ⟨p, r1, r2, a, b, rfl, eo, hp, hr1, hr2⟩)
    refine ⟨_, rfl, ?_⟩
    dsimp only [tNil]
    refine hopen q1 rs1 _ H1 _ e1 hE1 b0 (Nat.le_trans (asc_len os) h16) fun v H2 s2 hv => ?_
    refine ⟨fun m σ H' => ∃ (k : Addr) (v : V) (rk : List Addr) (ks : List (List Int)), σ = [some (.ref l), some (.ref k), some v] ∧ Same H H' ∧ H k = none ∧ H' k = some (.lst (rk.map V.ref)) ∧ Each K H' rk ks ∧ PV v H' ks ∧
          Asc ks ∧ (∀ o ∈ ks, o ∈ below ts) ∧ (∀ o ∈ os, o ∈ ks) ∧ (∀ vs, Closed vs → (∀ o ∈ os, o ∈ vs) → ∀ o ∈ ks, o ∈ vs) ∧ m = 16 - ks.length,
        ⟨_, q1, v, rs1, ascO ts os, rfl, s1.trans s2, n1, s2 _ _ e1, hE1.same s2, hv, a0, b0, fun o ho => mem_asc.mpr ⟨hb o ho, ho⟩, fun vs _ h o ho => h o (mem_asc.mp ho).2, rfl⟩, ?_⟩
    rintro m σ H3 ⟨k, v3, rk, ks, rfl, s3, nk, ek, hEk, hv3, ak, bk, supk, mink, rfl⟩
    have lk : ks.length ≤ 16 := by
      have z := nodup_len ks (below ts) ak.nodup bk
      omega
    rcases hv3 with ⟨rfl, eo⟩ | ⟨p, r1, r2, a, b, rfl, eo, hp, hr1, hr2⟩
    · refine ⟨_, rfl, rfl, false, rfl, ?_⟩
      exact ⟨_, rfl, q ks ⟨ak, bk, supk, closed_of eo, mink⟩ k rk H3 s3 nk ek hEk⟩
    · refine ⟨_, rfl, rfl, true, rfl, ?_⟩
      obtain ⟨ha, hbb, hbad⟩ := openO_some eo
      have la := opt_len (bk a ha)
      have lb := opt_len (bk b hbb)
      have h3 := hF.1
      refine ⟨fun σ' H' => ∃ m', m' < 16 - ks.length ∧ ∃ (k : Addr) (v : V) (rk : List Addr) (ks : List (List Int)), σ' = [some (.ref l), some (.ref k), some v] ∧ Same H H' ∧ H k = none ∧ H' k = some (.lst (rk.map V.ref)) ∧ Each K H' rk ks ∧ PV v H' ks ∧
          Asc ks ∧ (∀ o ∈ ks, o ∈ below ts) ∧ (∀ o ∈ os, o ∈ ks) ∧ (∀ vs, Closed vs → (∀ o ∈ os, o ∈ vs) → ∀ o ∈ ks, o ∈ vs) ∧ m' = 16 - ks.length, fun _ _ h => h, ?_⟩
      refine ⟨_, rfl, _, rfl, p, _, _, _, rfl, rfl, hp, atI_nat (j := 0) rfl, _, rfl, p, _, _, _, rfl, rfl, hp, atI_nat (j := 1) rfl, r1, r2, a, b, rfl, .inr hr1, .inr hr2, by omega, by omega, fun t1 H4 s4 ht1 => ?_⟩
      refine ⟨_, rfl, p, _, _, _, rfl, rfl, Same.sqt s4 hp, atI_nat (j := 0) rfl, _, rfl, p, _, _, _, rfl, rfl, Same.sqt s4 hp, atI_nat (j := 1) rfl, r1, r2, a, b, rfl, .inr (Same.sqt s4 hr1), .inr (Same.sqt s4 hr2), by omega, by omega, fun t2 H5 s5 ht2 => ?_⟩
      refine ⟨by show 2 ≤ sizeLine; decide, fun l6 H6 s6 n6 e6 => ?_⟩
      have s46 := s4.trans (s5.trans s6)
      have hE2 : Each K H6 [t1, t2] [lowO a b, highO a b] := .cons (Same.sqt (s5.trans s6) ht1) (.cons (Same.sqt s6 ht2) .nil)
      refine ⟨k, l6, _, _, rfl, rfl, s46 _ _ ek, e6, by rw [List.length_map, hEk.len, sizeLine_eq]; show ks.length + 2 ≤ _; omega, fun l7 H7 s7 n7 e7 => ?_⟩
      have e7 : H7 l7 = some (.lst ((rk ++ [t1, t2]).map V.ref)) := by rw [List.map_append]; exact e7
      have hE7 : Each K H7 (rk ++ [t1, t2]) (ks ++ [lowO a b, highO a b]) := (hEk.same (s46.trans s7)).app (hE2.same s7)
      have hb7 : ∀ o ∈ ks ++ [lowO a b, highO a b], o ∈ below ts := fun o ho => by
        rcases List.mem_append.mp ho with h | h
        · exact bk o h
        · rcases List.mem_cons.mp h with rfl | h
          · exact low_below (bk a ha) (bk b hbb)
          · rw [List.mem_singleton.mp h]
            exact high_below (bk a ha) (bk b hbb)
      dsimp only [tNil]
      refine sort_set (P := P) (w := w) (SqL.of e7) hE7 hb7 hF h1 (by rw [List.length_append]; show ks.length + 2 < 64; omega) fun q8 rs8 H8 s8 n8 e8 hE8 => ?_
      have s38 := s46.trans (s7.trans s8)
      have n38 : H q8 = none := ne0 (s3.trans (s46.trans s7)) n8
      have a8 : Asc (ascO ts (ks ++ [lowO a b, highO a b])) := asc_asc hF _
      have b8 : ∀ o ∈ ascO ts (ks ++ [lowO a b, highO a b]), o ∈ below ts := fun o ho => (mem_asc.mp ho).1
      have sup8 : ∀ o ∈ ks ++ [lowO a b, highO a b], o ∈ ascO ts (ks ++ [lowO a b, highO a b]) := fun o ho => mem_asc.mpr ⟨hb7 o ho, ho⟩
      have more : ks.length < (ascO ts (ks ++ [lowO a b, highO a b])).length := by
        have hx : ∃ x, x ∉ ks ∧ x ∈ ks ++ [lowO a b, highO a b] := by
          unfold badB at hbad
          rcases Bool.or_eq_true_iff.mp hbad with h | h
          · exact ⟨lowO a b, by simpa using h, by simp⟩
          · exact ⟨highO a b, by simpa using h, by simp⟩
        obtain ⟨x, nx, hx⟩ := hx
        have z := nodup_len (x :: ks) (ascO ts (ks ++ [lowO a b, highO a b])) (List.nodup_cons.mpr ⟨nx, ak.nodup⟩) (fun y hy => by
          rcases List.mem_cons.mp hy with rfl | hy
          · exact sup8 _ hx
          · exact sup8 _ (List.mem_append_left _ hy))
        exact z
      have l8 : (ascO ts (ks ++ [lowO a b, highO a b])).length ≤ 16 := Nat.le_trans (asc_len _) h16
      refine ⟨_, rfl, ?_⟩
      dsimp only [tNil]
      refine hopen q8 rs8 _ H8 _ e8 hE8 b8 l8 fun v9 H9 s9 hv9 => ?_
      refine ⟨_, by omega, q8, v9, rs8, _, rfl, s3.trans (s38.trans s9), n38, s9 _ _ e8, hE8.same s9, hv9, a8, b8, fun o ho => sup8 o (List.mem_append_left _ (supk o ho)), fun vs hc h o ho => ?_, rfl⟩
      rcases List.mem_append.mp (mem_asc.mp ho).2 with g | g
      · exact mink vs hc h o g
      · have z := hc a (mink vs hc h a ha) b (mink vs hc h b hbb)
        rcases List.mem_cons.mp g with rfl | g
        · exact z.1
        · rw [List.mem_singleton.mp g]
          exact z.2
end
end KL

set_option Elab.async false
set_option linter.all false
set_option maxRecDepth 100000
set_option maxHeartbeats 4000000
/-! in the body of a try: C(..), o.m(..), a & b, whose errors are wished for at the slots as they stand -/
namespace SX
open PySem PySem.Spec PyProof.Rows L2 NdefX
section
variable {X : Cx} {CX : CXT} {k : Nat} {f C : Addr} {fd : FuncData} {ps : List Str} {sp : Sp} {E : L2.St → XK} {x m : Str} {p pos apos : Pos} {a b e o : Expr} {es : List Expr} {ta tb : TE} {t : TA}
theorem make_at {pins : List (Addr × Obj)} {σ : L2.St} {H : Hp} {s : Shared} {Q : VK} {us : List Value} {vs : List V} {E : XK} (M : Mk X.K C f) (F : FnOk X.prog X.w X.K X.mg X.base CX k f fd ps sp) (hr : Room (k + 1) X.A) (hb : Binds X.K fd ps [])
    (hx : PassesAt CX X σ E) (I : Inv X pins σ H s) (r : Vals vs us)
    (h : ∀ x dx, H x = none → H dx = none → dx ≠ x → sp (.ref x :: vs) (upd (upd H dx (.own x)) x (.ins C dx [])) (fun v H2 => v = .non ∧ Q (.ref x) H2) E) :
    wpAny (model X.prog X.w) X.A (call (.ref C) us) (EP X pins σ Q) X.xe s := by
  have want := h (s.heap.objs.size + 1) s.heap.objs.size (I.hok.fresh (Nat.le_succ _)) (I.hok.fresh (Nat.le_refl _)) (Nat.ne_of_lt (Nat.lt_succ_self _))
  have I2 := Inv.made (C := C) I
  have vals : Vals (V.ref (s.heap.objs.size + 1) :: vs) (Value.ref (s.heap.objs.size + 1) :: us) := .cons rfl r
  have many : (Value.ref (s.heap.objs.size + 1) :: us ++ []).length = ps.length := by
    rw [List.append_nil, ← vals.length]
    exact F.len _ _ _ _ want
  have bd := hb _ (Value.ref (s.heap.objs.size + 1) :: us) I2.kIn many
  rw [List.append_nil] at bd
  refine wpAny_call (make_map (f := f) I.kIn M.makes M.init (beq_iff_eq.mp M.fn) (codeAny_mono (F.run _ X.stack _ _ ⟨Value.ref (s.heap.objs.size + 1) :: us, []⟩ _ _ _ E (hr.make C us []) (I2.env0.make C us []) bd vals want) fun r s' got => ?_))
  cases r with
  | error e => exact hx pins _ _ e s' I2 got
  | ok fl =>
    cases fl with
    | ret u =>
      obtain ⟨v, H', I3, rv, ev, q3⟩ := I2.after got
      subst ev
      exact ⟨rv, V.ref (s.heap.objs.size + 1), H', I3, rfl, q3⟩
    | next => exact got.elim
    | brk => exact got.elim
    | cont => exact got.elim
/-- C(e, ..) -/
def tMakeS (C : Addr) (sp : Sp) (E : L2.St → XK) (t : TA) : TE := fun σ H Q => t σ H fun vs H1 => ∀ x dx, H1 x = none → H1 dx = none → dx ≠ x → sp (.ref x :: vs) (upd (upd H1 dx (.own x)) x (.ins C dx [])) (fun v H2 => v = .non ∧ Q (.ref x) H2) (E σ)
theorem pe_makeS (M : Mk X.K C f) (F : FnOk X.prog X.w X.K X.mg X.base CX k f fd ps sp) (hr : Room (k + 1) X.A) (hg : Gl X x) (hm : X.mg x = some (.ref C)) (hb : Binds X.K fd ps []) (hx : ∀ σ, PassesAt CX X σ (E σ))
    (ha : PA X (e :: es) t) (hdb : (x == ("__debug__" : Str)) = false := by decide) (h1 : starEach (e :: es) X.env = (false, eval e X.env) :: starEach es X.env := by rfl) (h2 : (backTo pos (starEach es X.env)).any (·.1) = false := by rfl) :
    PE X (.Call (.Name x p) (e :: es) [] pos) (tMakeS C sp E t) := by
  constructor
  intro pins s σ H Q I h
  refine wpAny_Call_Name_kw (ld_glob I hg hm ?_ hdb)
  exact PySem.W.callWith_K (h₀ := X.base) I.ok.mod.kin M.kp (thn (ha.run pos pins s σ H _ I h) fun us s1 ⟨vs, H1, I1, r, q⟩ => ⟨I1.kIn, make_at M F hr hb (hx σ) I1 r q⟩) h1 h2
/-- o.m(e, ..) -/
def tMethS (C : Addr) (m : Str) (sp : Sp) (E : L2.St → XK) (ta : TE) (t : TA) : TE := fun σ H Q => ta σ H fun x H1 => ∃ a dx fs, x = .ref a ∧ H1 a = some (.ins C dx fs) ∧ fs.lookup m = none ∧ t σ H1 fun vs H2 => sp (x :: vs) H2 Q (E σ)
theorem pe_methS {pl : Sem Bool} (he : PE X o ta) (c : Cls X.K C) (hm : Meth X.K C m f) (F : FnOk X.prog X.w X.K X.mg X.base CX k f fd ps sp) (hr : Room k X.A) (hb : Binds X.K fd ps []) (hx : ∀ σ, PassesAt CX X σ (E σ)) (ha : PA X (e :: es) t)
    (h1 : starEach (e :: es) X.env = (false, eval e X.env) :: starEach es X.env := by rfl) (h2 : (backTo pos (starEach es X.env)).any (·.1) = false := by rfl)
    (ht : eval (.Call (.Attribute o m apos) (e :: es) [] pos) X.env = (do
      let callee ← eval o X.env
      standAt apos.atName
      let (f, first) ← holding [callee] (getMethod callee m pl)
      callWith pos f first (backTo pos (starEach (e :: es) X.env)) (backToKw pos (keywordEach [] X.env))) := by rfl) :
    PE X (.Call (.Attribute o m apos) (e :: es) [] pos) (tMethS C m sp E ta t) := by
  constructor
  intro pins s σ H Q I h
  refine PySem.W.methodCall_KW (pl := pl) (thn (he.run pins s σ H _ I h) fun u s1 ⟨x, H1, I1, rx, a, dx, fs, ex, ea, l, q⟩ => ?_) ht
  subst ex
  obtain rfl : u = Value.ref a := rx
  refine getmeth_ok I1 ea c hm l ?_
  exact PySem.W.callWith_K (first := [.ref a]) (h₀ := X.base) I.ok.mod.kin hm.kp (thn (ha.run pos pins s1 σ H1 _ I1 q) fun us s2 ⟨vs, H2, I2, r, q2⟩ => ⟨I2.kIn, run_fnS (E := E) (us := .ref a :: us) (vs := .ref a :: vs) F hr hb (hx σ) I2 (.cons rfl r) q2⟩) h1 h2
/-- a & b and the like -/
def tBinS (C : Addr) (sp : Sp) (E : L2.St → XK) (ta tb : TE) : TE := fun σ H Q => ta σ H fun x H1 => tb σ H1 fun y H2 => rBinO C sp (E σ) x y H2 Q
theorem pe_binS {op : Operator} (hc : PySem.W.selfFirst X.K C = true) (D : Dun X.K C (PySem.dunder op.info.2) f) (F : FnOk X.prog X.w X.K X.mg X.base CX k f fd ps sp) (hb : Binds X.K fd ps []) (hx : ∀ σ, PassesAt CX X σ (E σ)) (hr : Room k X.A)
    (ha : PE X a ta) (hB : PE X b tb) : PE X (.BinOp a op b pos) (tBinS C sp E ta tb) := by
  constructor
  intro pins s σ H Q I h
  refine wpAny_BinOp (binT ha hB I h fun v u s2 x y H2 I2 rx ry q => ?_)
  obtain ⟨a', b', dx, dx', fs, fs', e, e', h1, h2, q⟩ := q
  subst e
  subst e'
  obtain rfl : v = Value.ref a' := rx
  obtain rfl : u = Value.ref b' := ry
  obtain ⟨ox, od, J⟩ := inst_of I2 h1
  obtain ⟨ox', od', J'⟩ := inst_of I2 h2
  obtain ⟨m, hF⟩ := I2.fr
  refine PySem.W.binop_K hF I.ok.mod.kin J J'.type hc D.at_ D.fn (wpAny_mono (run_fnS (E := E) (us := [.ref a', .ref b']) (vs := [.ref a', .ref b']) F hr hb (hx σ) I2 (.cons rfl (.cons rfl .nil)) q) (fun w s' h => ?_) fun _ _ x => x)
  obtain ⟨y, H', I', ry, ⟨z, rfl⟩, q'⟩ := h
  obtain rfl : w = Value.ref z := ry
  exact ⟨.ref z, H', I', rfl, q'⟩
end
section
variable {X : Cx} {CX : CXT} {k : Nat} {f C : Addr} {sp : Sp} {E : L2.St → XK} {x : Str} {p pos : Pos} {e : Expr} {es : List Expr} {t : TA}
theorem makeR_at {pins : List (Addr × Obj)} {σ : L2.St} {H : Hp} {s : Shared} {Q : VK} {us : List Value} {vs : List V} {E : XK} (M : Mk X.K C f) (F : FnR X.prog X.w X.K X.mg X.base CX k f sp) (hr : Room (k + 1) X.A)
    (hx : PassesAt CX X σ E) (I : Inv X pins σ H s) (r : Vals vs us)
    (h : ∀ x dx, H x = none → H dx = none → dx ≠ x → sp (.ref x :: vs) (upd (upd H dx (.own x)) x (.ins C dx [])) (fun v H2 => v = .non ∧ Q (.ref x) H2) E) :
    wpAny (model X.prog X.w) X.A (call (.ref C) us) (EP X pins σ Q) X.xe s := by
  have want := h (s.heap.objs.size + 1) s.heap.objs.size (I.hok.fresh (Nat.le_succ _)) (I.hok.fresh (Nat.le_refl _)) (Nat.ne_of_lt (Nat.lt_succ_self _))
  have I2 := Inv.made (C := C) I
  have vals : Vals (V.ref (s.heap.objs.size + 1) :: vs) (Value.ref (s.heap.objs.size + 1) :: us) := .cons rfl r
  refine wpAny_call (make_map (f := f) I.kIn M.makes M.init (beq_iff_eq.mp M.fn) (codeAny_mono (F _ X.stack _ _ (Value.ref (s.heap.objs.size + 1) :: us) _ _ E (hr.make C us []) (I2.env0.make C us []) vals want) fun r s' got => ?_))
  cases r with
  | error e => exact hx pins _ _ e s' I2 got
  | ok fl =>
    cases fl with
    | ret u =>
      obtain ⟨v, H', I3, rv, ev, q3⟩ := I2.after got
      subst ev
      exact ⟨rv, V.ref (s.heap.objs.size + 1), H', I3, rfl, q3⟩
    | next => exact got.elim
    | brk => exact got.elim
    | cont => exact got.elim
/-- C(e, ..), whose __init__ takes what comes -/
theorem pe_makeRS (M : Mk X.K C f) (F : FnR X.prog X.w X.K X.mg X.base CX k f sp) (hr : Room (k + 1) X.A) (hg : Gl X x) (hm : X.mg x = some (.ref C)) (hx : ∀ σ, PassesAt CX X σ (E σ))
    (ha : PA X (e :: es) t) (hdb : (x == ("__debug__" : Str)) = false := by decide) (h1 : starEach (e :: es) X.env = (false, eval e X.env) :: starEach es X.env := by rfl) (h2 : (backTo pos (starEach es X.env)).any (·.1) = false := by rfl) :
    PE X (.Call (.Name x p) (e :: es) [] pos) (tMakeS C sp E t) := by
  constructor
  intro pins s σ H Q I h
  refine wpAny_Call_Name_kw (ld_glob I hg hm ?_ hdb)
  exact PySem.W.callWith_K (h₀ := X.base) I.ok.mod.kin M.kp (thn (ha.run pos pins s σ H _ I h) fun us s1 ⟨vs, H1, I1, r, q⟩ => ⟨I1.kIn, makeR_at M F hr (hx σ) I1 r q⟩) h1 h2
end
section
variable {X : Cx} {CX : CXT} {k : Nat} {C f : Addr} {fd : FuncData} {ps : List Str} {sp : Sp} {E : XK}
/-- == by an own __eq__, the other side may be a list -/
def rEqW (K : PySem.W.Frag) (C : Addr) (sp : Sp) (E : XK) : R2 := fun x y H Q => ∃ (a dx : Addr) (fs : List (Str × V)), x = .ref a ∧ H a = some (.ins C dx fs) ∧ (OtherV K C H y ∨ ∃ b xs, y = .ref b ∧ SqL K H b xs ∧ PySem.W.subIn K (.type "list") (.ref C) = some false) ∧ sp [.ref a, y] H (fun v H' => ∃ b, v = .bl b ∧ Q v H') E
theorem op_eqW (D : Dun X.K C "__eq__" f) (F : FnOk X.prog X.w X.K X.mg X.base CX k f fd ps sp) (hb : Binds X.K fd ps []) (hx : Passes CX X E) (hr : Room k X.A) : OpR X (compareOp .Eq) (rEqW X.K C sp E) := by
  intro pins s σ H x y v u Q I rx ry ⟨a, dx, fs, e, ha, ho, q⟩
  rcases ho with ho | ⟨b, xs, rfl, hT, hn⟩
  · exact op_eqO D F hb hx hr pins s σ H x y v u Q I rx ry ⟨a, dx, fs, e, ha, ho, q⟩
  · subst e
    obtain rfl : v = Value.ref a := rx
    obtain rfl : u = Value.ref b := ry
    obtain ⟨ox, od, J⟩ := inst_of I ha
    obtain ⟨m, hF⟩ := I.fr
    have back : wpAny (model X.prog X.w) X.A (call (.ref f) [.ref a, .ref b]) (PySem.W.CmpBack (EP X pins σ Q)) X.xe s := by
      refine wpAny_mono (run_sub (A := X.A) (vs := [.ref a, .ref b]) (us := [.ref a, .ref b]) F hb hx ⟨hr, rfl⟩ I (.cons rfl (.cons rfl .nil)) q) (fun w s' h => ?_) fun _ _ x => x
      obtain ⟨y, H', I', ry, b, rfl, q'⟩ := h
      obtain rfl : w = Value.bool b := ry
      exact ⟨.bl b, H', I', rfl, q'⟩
    show wpAny (model X.prog X.w) X.A (richCompare .Eq (.ref a) (.ref b)) (EP X pins σ Q) X.xe s
    obtain ⟨its, _, ⟨o, n, ho, hc, _⟩, _⟩ := I.list hT
    refine PySem.W.cmp_K (op := .Eq) (tb := .type "list") hr.units0 hF I.ok.mod.kin J (fun A Q E s' k q => wpAny_typeOf (T := "list") ⟨o, k _ _ ho, hc⟩ q) ?_ D.at_ D.fn back
    unfold PySem.W.notFirst
    rw [hn]
    rfl
theorem tyX_L {K : PySem.W.Frag} {H : Hp} {y : Addr} {xs : List V} (h : H y = some (.lst xs)) : TyX K H (.ref y) (.type "list") := .base (.lst h)
end
end SX

set_option Elab.async false
set_option linter.all false
set_option maxRecDepth 100000
set_option maxHeartbeats 4000000
namespace KL
open PySem PySem.Spec PyProof.Rows L2 NdefX SX
abbrev sGUnder : Stmt := inClass (top 20) 10
section
variable {P : Program} {w : World} {K : PySem.W.Frag} {mg : Str → Option Value} {base : Heap} {f fC C O : Addr} {fd dC : FuncData}
theorem scUnder : FnScope nPair ["self", "first", "second"] (defScope sGUnder) := ⟨rfl, rfl, rfl, by decide +kernel, rfl, by decide +kernel, by decide +kernel⟩
theorem ok_under (F : Fun K "is_below" "Grid.is_below" sGUnder f fd) (T : GTxt K C) (M : Meth K C "check" fC) (GC : FnOk P w K mg base (L2.CX P w) 3 fC dC ["self", "options"] (spGCheck K C O)) (bC : Binds K dC ["self", "options"] [])
    (ma : mg "all" = none) (mz : mg "zip" = none) : FnOk P w K mg base (L2.CX P w) 4 f fd ["self", "first", "second"] (spIsBelow K C O) := by
  refine F.okX scUnder (fun vs H Q E h => ?_) (fun cdv A outer s H vs Q E hr h => ?_)
  · obtain ⟨x, a, b, ts, o1, o2, rfl, _⟩ := h
    rfl
  · obtain ⟨x, a, b, ts, o1, o2, rfl, hG, hF, h1, h2, q⟩ := h
    refine ⟨_, pss_cons (ps_expr (pe_meth (pv 0) T.cl M GC (hr.mono (by decide)) bC .nil (passes_call (takes_of rfl rfl rfl rfl) (fun _ _ _ _ h => h)) (pa_cons (pe_newL (pa_cons (pv 1) (pa_cons (pv 2) pa_nil))) pa_nil)))
      (pss_one (ps_ret (pe_callB (cr_all rfl) (by rfl) ma (by decide +kernel) (pa_cons (pe_lc (own := [("one", 3), ("other", 4)]) (tt := tYes) (g := gTup K 2 (gCons (gName 3) (gCons (gName 4) gNil))) (te := tOp (rI0 (fun i j => .bl (decide (i ≤ j)))) (tVar 3) (tVar 4)) rfl scUnder.nd (pi_zipB (by rfl) mz (pa_cons (pv 1) (pa_cons (pv 2) pa_nil)))
          (blkOk_by (N := nPair) (sc := defScope sGUnder) (by decide +kernel)) (fun _ _ _ _ _ => pg_tup rfl (pgs_cons (pg_name (i := 3) scUnder.nd rfl (Or.inl rfl)) (pgs_cons (pg_name (i := 4) scUnder.nd rfl (Or.inl rfl)) pgs_nil))) (fun _ _ _ _ _ => pts_nil)
          (fun _ _ _ _ _ => pe_cmpR op_le (pv 3) (pv 4) (nomark _))) pa_nil)))), ?_⟩
    obtain ⟨dx, t, p, rs, hx, _⟩ := id hG
    refine ⟨_, rfl, x, dx, _, rfl, hx, rfl, ?_⟩
    refine ⟨_, rfl, _, rfl, (by show 2 ≤ sizeLine; decide), fun l H1 s1 nl el => ?_⟩
    refine ⟨x, l, ts, [a, b], [o1, o2], rfl, hG.same s1, SqL.of el, (opts2 h1 h2).same s1, ?_⟩
    cases e : badOpt ts [o1, o2] with
    | some o =>
      rw [e] at q
      exact ThrownT.back s1 q
    | none =>
      rw [e] at q
      intro H2 s2
      have m1 := bad_none e o1 (by simp)
      have m2 := bad_none e o2 (by simp)
      have l1 := opt_len m1
      have l2 := opt_len m2
      have h3 := hF.1
      have s12 := s1.trans s2
      obtain ⟨ka, ka'⟩ := (sqA_same s12 h1).kind
      obtain ⟨kb, kb'⟩ := (sqA_same s12 h2).kind
      refine ⟨_, rfl, _, rfl, a, b, ka, kb, _, _, rfl, ka', kb', fun D nD => ?_⟩
      refine lc_pairs (g := fun m n => V.bl (decide (m ≤ n))) (Same.refl H2) nD (by omega) (by omega) ka' kb' (fun _ _ => rfl) (fun m n H' Q q => ⟨_, rfl, _, rfl, m, n, rfl, rfl, q⟩) fun H3 s3 gD => ?_
      rw [zip_bools] at gD
      exact ⟨D, _, rfl, SqL.of gD, q H3 (s12.trans s3)⟩
end
end KL

set_option Elab.async false
set_option linter.all false
set_option maxRecDepth 100000
set_option maxHeartbeats 4000000
namespace KL
open PySem PySem.Spec PyProof.Rows L2 NdefX SX
abbrev sAlike : Stmt := top 21
abbrev sRAnd : Stmt := inClass (top 26) 7
abbrev sRLeast : Stmt := inClass (top 26) 8
abbrev sRGreat : Stmt := inClass (top 26) 9
section
variable {P : Program} {w : World} {K : PySem.W.Frag} {mg : Str → Option Value} {base : Heap} {f fE fU fI fA C R N O B U : Addr} {fd dE dU dI dA : FuncData}
theorem scAlike : FnScope ["first", "second"] ["first", "second"] (defScope sAlike) := ⟨rfl, rfl, rfl, by decide +kernel, rfl, by decide +kernel, by decide +kernel⟩
theorem ok_alike (F : Fun K "check_alike" "check_alike" sAlike f fd) (T : GTxt K C) (DE : Dun K C "__eq__" fE) (nE : PySem.W.findIn K (.ref C) "__ne__" = some (some (.builtin "object.__ne__"))) (GE : FnOk P w K mg base CX0 1 fE dE ["self", "other"] (spGEq K C)) (bE : Binds K dE ["self", "other"] [])
    (gU : mg "UnlikeGrids" = some (.ref U)) (ox : OexC K U) (iU : PySem.W.findIn K (.ref U) "__init__" = some (some (.ref fU))) (tU : PySem.W.typeIn K (.ref fU) = some (.type "function")) (GU : FnOk P w K mg base CX0 1 fU dU ["self", "first", "second"] (spI2 U "first" "second")) (bU : Binds K dU ["self", "first", "second"] []) :
    FnOk P w K mg base (L2.CX P w) 3 f fd ["first", "second"] (spAlike K C U) := by
  refine F.okX scAlike (fun vs H Q E h => ?_) (fun cdv A outer s H vs Q E hr h => ?_)
  · obtain ⟨a, b, ts, us, rfl, _⟩ := h
    rfl
  · obtain ⟨a, b, ts, us, rfl, ⟨da, ta, pa, ra, hxa, hta, hpa, hEa⟩, ⟨db, tb, pb, rb, hxb, htb, hpb, hEb⟩, q⟩ := h
    refine ⟨_, pss_one (ps_if (pt_cmpR (op_neO DE nE T.hm GE bE pass0 hr) (pv 0) (pv 1) (nomark _)) (pss_one (ps_raise rfl (takes_of rfl rfl rfl rfl) (pmk_oex ox iU tU GU (hr.mono (by decide)) bU .nil pass0 (by rfl) gU (pa_cons (pe_fld (pv 0) rfl) (pa_cons (pe_fld (pv 1) rfl) pa_nil))))) pss_nil), ?_⟩
    refine ⟨_, rfl, _, rfl, a, da, _, rfl, hxa, .inl ⟨b, db, _, rfl, hxb⟩, a, b, ts, rfl, ⟨da, ta, pa, ra, hxa, hta, hpa, hEa⟩, .inl ⟨us, ⟨db, tb, pb, rb, hxb, htb, hpb, hEb⟩, _, rfl, _, rfl, _, rfl, ?_⟩⟩
    by_cases e : ts = us
    · rw [decide_eq_true e]
      rw [if_pos e] at q
      exact q
    · rw [decide_eq_false e]
      rw [if_neg e] at q
      refine ⟨_, rfl, a, C, da, _, _, rfl, hxa, T.cl, T.nT, rfl, _, rfl, b, C, db, _, _, rfl, hxb, T.cl, T.nT, rfl, ?_⟩
      exact mko2 fun d H' s nd ed => q d ta tb H' s nd ed (Same.sqt s hta) (Same.sqt s htb)
abbrev nRAnd : List Str := ["self", "other", "option"]
theorem scRAnd : FnScope nRAnd ["self", "other"] (defScope sRAnd) := ⟨rfl, rfl, rfl, by decide +kernel, rfl, by decide +kernel, by decide +kernel⟩
theorem ok_rand (F : Fun K "__and__" "Region.__and__" sRAnd f fd) (T : GTxt K C) (TR : RTxt K R) (gR : mg "Region" = some (.ref R)) (M : Mk K R fI) (GI : FnOk P w K mg base (L2.CX P w) 6 fI dI ["self", "grid", "options"] (spRInit K C R N O B)) (bI : Binds K dI ["self", "grid", "options"] [])
    (FA : Fun K "check_alike" "check_alike" sAlike fA dA) (gA : mg "check_alike" = some (.ref fA)) (GA : FnOk P w K mg base (L2.CX P w) 3 fA dA ["first", "second"] (spAlike K C U)) (bA : Binds K dA ["first", "second"] []) :
    FnOk P w K mg base (L2.CX P w) 8 f fd ["self", "other"] (spRAnd K C R N O B U) := by
  refine F.okX scRAnd (fun vs H Q E h => ?_) (fun cdv A outer s H vs Q E hr h => ?_)
  · obtain ⟨x, y, ts, us, os, ws, rfl, _⟩ := h
    rfl
  · obtain ⟨x, y, ts, us, os, ws, rfl, hX, hY, hF, hz, q⟩ := h
    refine ⟨_, pss_cons (ps_expr (pe_call GA (hr.mono (by decide)) (by rfl) gA FA.kp bA .nil (passes_call (takes_of rfl rfl rfl rfl) (fun _ _ _ _ h => h)) (pa_cons (pe_fld (pv 0) rfl) (pa_cons (pe_fld (pv 1) rfl) pa_nil))))
      (pss_one (ps_ret (pe_make M GI hr (by rfl) gR bI .nil (passes_call (takes_of rfl rfl rfl rfl) (fun _ _ _ _ h => h)) (pa_cons (pe_fld (pv 0) rfl) (pa_cons
        (pe_lc (own := [("option", 2)]) (g := gName 2) (te := tVar 2) (tt := tTest (tOp (rInT K) (tVar 2) (tFld K (tVar 1) "options"))) rfl scRAnd.nd (pi_any (pe_fld (pv 0) rfl)) (blkOk_by (N := nRAnd) (sc := defScope sRAnd) (by decide +kernel)) (fun _ _ _ _ _ => pg_name (i := 2) scRAnd.nd rfl (Or.inl rfl))
          (fun _ _ _ _ _ => pts_one (pt_cmpR (op_inT (room65 hr)) (pv 2) (pe_fld (pv 1) rfl) (by rfl))) (fun _ _ _ _ _ => pv 2)) pa_nil))))), ?_⟩
    obtain ⟨dx, gx, px, rx, hx, hGx, hpx, hEx⟩ := id hX
    obtain ⟨dy, gy, py, ry, hy, hGy, hpy, hEy⟩ := id hY
    refine ⟨_, rfl, x, R, dx, _, _, rfl, hx, TR.cl, TR.nG, rfl, _, rfl, y, R, dy, _, _, rfl, hy, TR.cl, TR.nG, rfl, gx, gy, ts, us, rfl, hGx, hGy, ?_⟩
    by_cases e : ts = us
    · rw [if_pos e] at q ⊢
      refine ⟨_, rfl, x, R, dx, _, _, rfl, hx, TR.cl, TR.nG, rfl, _, rfl, x, R, dx, _, _, rfl, hx, TR.cl, TR.nO, rfl, px, false, _, rfl, SqB.T hpx, fun D nD => ?_⟩
      refine lc_filt (p := fun o => decide (o ∈ ws)) (SqB.T hpx) hEx (by omega) nD (fun _ => rfl) (fun _ => rfl) (fun r o H' Q' ho s hr' k => ?_) (fun rs' H' s g hE' => ?_)
      · refine ⟨_, rfl, _, rfl, y, R, dy, _, _, rfl, s _ _ hy, TR.cl, TR.nO, rfl, dO o, ws.map dO, .tup hr' (dpInts o), .tup (Same.sqt s hpy) (hEy.same s).dp, shaped_dO o, shaped_dOs _, _, rfl, ?_⟩
        rw [any_dO]
        exact k H' (Same.refl _)
      · intro z dz nz ndz nez
        have s4 : Same H' (upd (upd H' dz (.own z)) z (.ins R dz [])) := fun b o eb => by
          rw [upd_ne (ne_of_none eb nz), upd_ne (ne_of_none eb ndz)]
          exact eb
        refine ⟨z, gx, D, dz, ts, rs', os.filter (fun o => decide (o ∈ ws)), rfl, upd_same, hGx.same (s.trans s4), hF, .inl (SqL.of (s4 _ _ g)), (hE'.same s4).opts, Nat.le_trans (List.length_filter_le _ _) hz, ?_⟩
        revert q
        cases mkRg ts (os.filter fun o => decide (o ∈ ws)) with
        | number n => exact fun q => Thrown.back (s.trans s4) q
        | option o => exact fun q => ThrownT.back (s.trans s4) q
        | pair a b => exact fun q => ThrownP.back (s.trans s4) q
        | region us' => exact fun q H5 k5 hR => ⟨rfl, q z H5 (fun b o eb => k5 b o ((s.trans s4) b o eb) (ne_of_none (s b o eb) nz)) hR⟩
    · rw [if_neg e] at q ⊢
      exact q
theorem scRLeast : FnScope ["self"] ["self"] (defScope sRLeast) := ⟨rfl, rfl, rfl, by decide +kernel, rfl, by decide +kernel, by decide +kernel⟩
theorem scRGreat : FnScope ["self"] ["self"] (defScope sRGreat) := ⟨rfl, rfl, rfl, by decide +kernel, rfl, by decide +kernel, by decide +kernel⟩
theorem ok_rleast (F : Fun K "least" "Region.least" sRLeast f fd) (TR : RTxt K R) : FnOk P w K mg base CX0 1 f fd ["self"] (spRLeast K C R false) := by
  refine F.ok scRLeast (fun vs H Q E h => ?_) (fun cdv A outer s H vs Q E hr h => ?_)
  · obtain ⟨x, ts, os, o, rfl, _⟩ := h
    rfl
  · obtain ⟨x, ts, os, o, rfl, ⟨dx, g, p, rs, hx, hG, hp, hE⟩, hz, ho, k⟩ := h
    refine ⟨_, pss_one (ps_ret (pe_ix ix_tup (pe_fld (pv 0) rfl) pe_int (fun _ _ => rfl))), ?_⟩
    have ho : os.head? = some o := ho
    obtain ⟨r, er, h⟩ : ∃ r, rs[0]? = some r ∧ SqT K H r (o.map V.int) := by
      rw [List.head?_eq_getElem?] at ho
      cases e : rs[0]? with
      | none =>
        have := hE.len
        rw [List.getElem?_eq_none_iff] at e
        have z := (List.getElem?_eq_some_iff.mp ho).1
        omega
      | some r =>
        obtain ⟨o', ho', h⟩ := hE.get e
        rw [ho] at ho'
        cases ho'
        exact ⟨r, rfl, h⟩
    exact ⟨_, rfl, x, R, dx, _, _, rfl, hx, TR.cl, TR.nO, rfl, p, _, _, _, rfl, rfl, hp, atI_nat (j := 0) (by rw [List.getElem?_map, er]; rfl), k r h⟩
theorem ok_rgreat (F : Fun K "greatest" "Region.greatest" sRGreat f fd) (TR : RTxt K R) : FnOk P w K mg base CX0 1 f fd ["self"] (spRLeast K C R true) := by
  refine F.ok scRGreat (fun vs H Q E h => ?_) (fun cdv A outer s H vs Q E hr h => ?_)
  · obtain ⟨x, ts, os, o, rfl, _⟩ := h
    rfl
  · obtain ⟨x, ts, os, o, rfl, ⟨dx, g, p, rs, hx, hG, hp, hE⟩, hz, ho, k⟩ := h
    refine ⟨_, pss_one (ps_ret (pe_ix ix_tup (pe_fld (pv 0) rfl) (pe_un un_neg pe_int) (fun _ _ => rfl))), ?_⟩
    have ho : os.getLast? = some o := ho
    have hl := hE.len
    obtain ⟨r, er, h⟩ : ∃ r, rs[rs.length - 1]? = some r ∧ SqT K H r (o.map V.int) := by
      rw [List.getLast?_eq_getElem?, ← hl] at ho
      cases e : rs[rs.length - 1]? with
      | none =>
        rw [List.getElem?_eq_none_iff] at e
        have z := (List.getElem?_eq_some_iff.mp ho).1
        omega
      | some r =>
        obtain ⟨o', ho', h⟩ := hE.get e
        rw [ho] at ho'
        cases ho'
        exact ⟨r, rfl, h⟩
    refine ⟨_, rfl, x, R, dx, _, _, rfl, hx, TR.cl, TR.nO, rfl, _, rfl, p, _, _, _, rfl, rfl, hp, ?_, k r h⟩
    exact atI_end (by rw [List.getLast?_eq_getElem?, List.length_map, List.getElem?_map, er]; rfl)
end
end KL

set_option Elab.async false
set_option linter.all false
set_option maxRecDepth 100000
set_option maxHeartbeats 4000000
namespace KL
open PySem PySem.Spec PyProof.Rows L2 NdefX SX
abbrev sWhole : Stmt := top 30
abbrev sBox : Stmt := top 29
abbrev nBox : List Str := ["grid", "low", "high", "between", "option"]
section
variable {P : Program} {w : World} {K : PySem.W.Frag} {mg : Str → Option Value} {base : Heap} {f fU fR fI C R N O B : Addr} {fd dU dR dI : FuncData}
theorem scWhole : FnScope ["grid"] ["grid"] (defScope sWhole) := ⟨rfl, rfl, rfl, by decide +kernel, rfl, by decide +kernel, by decide +kernel⟩
theorem ok_whole (F : Fun K "whole" "whole" sWhole f fd) (T : GTxt K C) (gR : mg "Region" = some (.ref R)) (M : Mk K R fI) (GI : FnOk P w K mg base (L2.CX P w) 6 fI dI ["self", "grid", "options"] (spRInit K C R N O B)) (bI : Binds K dI ["self", "grid", "options"] []) :
    FnOk P w K mg base (L2.CX P w) 8 f fd ["grid"] (spWhole K C R N O B) := by
  refine F.okX scWhole (fun vs H Q E h => ?_) (fun cdv A outer s H vs Q E hr h => ?_)
  · obtain ⟨g, ts, rfl, _⟩ := h
    rfl
  · obtain ⟨g, ts, rfl, hG, hF, q⟩ := h
    refine ⟨_, pss_one (ps_ret (pe_make M GI hr (by rfl) gR bI .nil (passes_call (takes_of rfl rfl rfl rfl) (fun _ _ _ _ h => h)) (pa_cons (pv 0) (pa_cons (pe_fld (pv 0) rfl) pa_nil)))), ?_⟩
    obtain ⟨dx, t, p, rs, hx, ht, hp, hE⟩ := id hG
    exact ⟨_, rfl, _, rfl, g, C, dx, _, _, rfl, hx, T.cl, T.nO, rfl, fun z dz nz ndz nez => mk_fin hG hF (.inr hp) hE.opts (below_few hF) (Same.refl H) q z dz nz ndz nez⟩
theorem scBox : FnScope nBox ["grid", "low", "high"] (defScope sBox) := ⟨rfl, rfl, rfl, by decide +kernel, rfl, by decide +kernel, by decide +kernel⟩
theorem ok_box (F : Fun K "box" "box" sBox f fd) (T : GTxt K C) (gR : mg "Region" = some (.ref R)) (M : Mk K R fI) (GI : FnOk P w K mg base (L2.CX P w) 6 fI dI ["self", "grid", "options"] (spRInit K C R N O B)) (bI : Binds K dI ["self", "grid", "options"] [])
    (MU : Meth K C "is_below" fU) (GU : FnOk P w K mg base (L2.CX P w) 4 fU dU ["self", "first", "second"] (spIsBelow K C O)) (bU : Binds K dU ["self", "first", "second"] [])
    (gB : mg "BadRegion" = some (.ref B)) (ox : OexC K B) (iB : PySem.W.findIn K (.ref B) "__init__" = some (some (.ref fR))) (tB : PySem.W.typeIn K (.ref fR) = some (.type "function")) (GB : FnOk P w K mg base CX0 1 fR dR ["self", "first", "second"] (spT2 K B "first" "second")) (bB : Binds K dR ["self", "first", "second"] []) :
    FnOk P w K mg base (L2.CX P w) 8 f fd ["grid", "low", "high"] (spBox K C R N O B) := by
  refine F.okX scBox (fun vs H Q E h => ?_) (fun cdv A outer s H vs Q E hr h => ?_)
  · obtain ⟨g, a, b, ts, o1, o2, rfl, _⟩ := h
    rfl
  · obtain ⟨g, a, b, ts, o1, o2, rfl, hG, hF, h1, h2, q⟩ := h
    refine ⟨_, pss_cons (ps_if (pt_not (pt_val (pe_meth (pv 0) T.cl MU GU (hr.mono (by decide)) bU .nil (passes_call (takes_of rfl rfl rfl rfl) (fun _ _ _ _ h => h)) (pa_cons (pv 1) (pa_cons (pv 2) pa_nil)))))
        (pss_one (ps_raise rfl (takes_of rfl rfl rfl rfl) (pmk_oex ox iB tB GB (hr.mono (by decide)) bB .nil pass0 (by rfl) gB (pa_cons (pv 1) (pa_cons (pv 2) pa_nil))))) pss_nil)
      (pss_cons (ps_setLcX (i := 3) (own := [("option", 4)]) (g := gName 4) (te := fun _ => tVar 4) (tt := fun E => tAnd (L2.tB (tMeth C "is_below" (spIsBelow K C O) [] E (tVar 0) (tCons (tVar 1) (tCons (tVar 4) tNil)))) (L2.tB (tMeth C "is_below" (spIsBelow K C O) [] E (tVar 0) (tCons (tVar 4) (tCons (tVar 2) tNil))))) rfl rfl (takes_of rfl rfl rfl rfl) rfl scBox.nd rfl rfl (sw_true rfl rfl rfl (by decide +kernel))
          (pi_any (pe_fld (pv 0) rfl)) (blkOk_by (N := nBox) (sc := defScope sBox) (by decide +kernel)) (fun _ _ _ _ _ _ => pg_name (i := 4) scBox.nd rfl (Or.inl rfl))
          (fun _ _ _ _ _ _ E hx => pts_one (PW.pt (pw_and (pt_val (pe_meth (pv 0) T.cl MU GU (hr.mono (by decide)) bU .nil hx (pa_cons (pv 1) (pa_cons (pv 4) pa_nil)))) (pw_and1 (pt_val (pe_meth (pv 0) T.cl MU GU (hr.mono (by decide)) bU .nil hx (pa_cons (pv 4) (pa_cons (pv 2) pa_nil))))))))
          (fun _ _ _ _ _ _ E hx => pv 4))
      (pss_one (ps_ret (pe_make M GI hr (by rfl) gR bI .nil (passes_call (takes_of rfl rfl rfl rfl) (fun _ _ _ _ h => h)) (pa_cons (pv 0) (pa_cons (pv 3) pa_nil)))))), ?_⟩
    obtain ⟨dx, t, p, rs, hx, ht, hp, hE⟩ := id hG
    refine ⟨_, rfl, g, dx, _, rfl, hx, rfl, _, rfl, _, rfl, g, a, b, ts, o1, o2, rfl, hG, hF, h1, h2, ?_⟩
    cases e : badOpt ts [o1, o2] with
    | some o =>
      rw [e] at q
      exact q
    | none =>
      rw [e] at q
      have m1 := bad_none e o1 (by simp)
      have m2 := bad_none e o2 (by simp)
      intro H1 s1
      refine ⟨_, rfl, ?_⟩
      by_cases hl : leO o1 o2 = true
      · simp only [hl, if_true] at q
        have q : RgEnd K C R N O B ts H Q E (mkRg ts (betO ts o1 o2)) := q
        rw [hl]
        refine ⟨_, rfl, g, C, dx, _, _, rfl, s1 _ _ hx, T.cl, T.nO, rfl, p, false, _, rfl, SqB.T (Same.sqt s1 hp), fun D nD => ?_⟩
        refine lc_filt (p := fun o => leO o1 o && leO o o2) (SqB.T (Same.sqt s1 hp)) (hE.same s1) (Nat.le_trans (below_few hF) (by decide)) nD (fun _ => rfl) (fun _ => rfl) (fun r o H' Q' ho s hr' k => ?_) (fun rs' H' s g' hE' => ?_)
        · have s2 := s1.trans s
          refine ⟨_, rfl, g, dx, _, rfl, s2 _ _ hx, rfl, _, rfl, _, rfl, g, a, r, ts, o1, o, rfl, hG.same s2, hF, sqA_same s2 h1, .inr hr', ?_⟩
          rw [bad_of (ts := ts) (os := [o1, o]) (by intro z hz; rcases List.mem_cons.mp hz with rfl | hz; exact m1; rw [List.mem_singleton.mp hz]; exact ho)]
          intro H2 t2
          refine ⟨_, rfl, ?_⟩
          by_cases h3 : leO o1 o = true
          · rw [h3]
            refine iteT ?_
            have s3 := s2.trans t2
            refine ⟨_, rfl, g, dx, _, rfl, s3 _ _ hx, rfl, _, rfl, _, rfl, g, r, b, ts, o, o2, rfl, hG.same s3, hF, .inr (Same.sqt t2 hr'), sqA_same s3 h2, ?_⟩
            rw [bad_of (ts := ts) (os := [o, o2]) (by intro z hz; rcases List.mem_cons.mp hz with rfl | hz; exact ho; rw [List.mem_singleton.mp hz]; exact m2)]
            intro H3 t3
            refine ⟨_, rfl, ?_⟩
            have z := k H3 (t2.trans t3)
            simp only [h3, Bool.true_and] at z
            exact z
          · have h3 : leO o1 o = false := by simpa using h3
            rw [h3]
            refine iteF ?_
            have z := k H2 t2
            simp only [h3, Bool.false_and] at z
            exact z
        · have s2 := s1.trans s
          exact ⟨_, rfl, _, rfl, fun z dz nz ndz nez => mk_fin (hG.same s2) hF (.inl (SqL.of g')) hE'.opts (Nat.le_trans (List.length_filter_le _ _) (below_few hF)) s2 q z dz nz ndz nez⟩
      · simp only [hl, if_false] at q
        have hl' : leO o1 o2 = false := by simpa using hl
        rw [hl']
        refine ⟨_, rfl, _, rfl, ?_⟩
        exact mkoP (sqA_same s1 h1) (sqA_same s1 h2) (ThrownP.back s1 q)
end
end KL

set_option Elab.async false
set_option linter.all false
set_option maxRecDepth 100000
set_option maxHeartbeats 4000000
namespace KL
open PySem PySem.Spec PyProof.Rows L2 NdefX SX
abbrev sDueOf : Stmt := top 44
abbrev nDueOf : List Str := ["_law_which", "_law_every", "_law_rows", "_law_bad", "_law_found", "_law_pair", "_law_option"]
abbrev sToldOf : Stmt := top 45
abbrev nToldOf : List Str := ["_law_which", "_law_grid", "_law_rows", "e"]
def resRg : Rg → PyData
  | .number n => .list [.str "number", .int n]
  | .option o => .list [.str "option", dO o]
  | .pair a b => .list [.str "pair", dO a, dO b]
  | .region us => .list [.str "options", .list (us.map dO)]
theorem shapedRg : ∀ r : Rg, SeqAt.shaped (resRg r) = true := by
  have hs : ∀ x : Str, (x = "number" ∨ x = "option" ∨ x = "pair" ∨ x = "options") → PyData.canLay0 (.str x) = true ∧ PyData.depth (.str x) ≤ 3 := fun x h => ⟨by rcases h with rfl | rfl | rfl | rfl <;> decide +kernel, by show 0 ≤ 3; decide⟩
  have two : ∀ a b : PyData, (PyData.canLay0 a = true ∧ PyData.depth a ≤ 3) → (PyData.canLay0 b = true ∧ PyData.depth b ≤ 3) → ∀ d ∈ [a, b], PyData.canLay0 d = true ∧ PyData.depth d ≤ 3 := fun a b ha hb d hd => by
    rcases List.mem_cons.mp hd with rfl | hd
    · exact ha
    · rw [List.mem_singleton.mp hd]
      exact hb
  intro r
  match r with
  | .number n => exact shaped_all (two _ _ (hs _ (by simp)) ⟨rfl, by show 0 ≤ 3; decide⟩)
  | .option o => exact shaped_all (two _ _ (hs _ (by simp)) (ok_dO o))
  | .pair a b =>
    refine shaped_all fun d hd => ?_
    rcases List.mem_cons.mp hd with rfl | hd
    · exact hs _ (by simp)
    · exact two _ _ (ok_dO a) (ok_dO b) d hd
  | .region us =>
    refine shaped_all (two _ _ (hs _ (by simp)) ⟨lay_dO us, ?_⟩)
    show PyData.depthAll (us.map dO) + 1 ≤ 3
    have := dep_dO us
    omega
def IsHR (ts : List Int) (os : List (List Int)) (r : Rg) : Prop := if os = [] then r = .number 0 else match badOpt ts os with
  | some o => r = .option o
  | none => ∃ us, IsHull ts os us ∧ r = .region us
/-- what Region and hull come to -/
def IsRes (n : Int) (ts : List Int) (os : List (List Int)) (r : Rg) : Prop := if n = 0 then r = mkRg ts os else IsHR ts os r
theorem res_uniq {n : Int} {ts : List Int} {os : List (List Int)} {r r' : Rg} (h : IsRes n ts os r) (h' : IsRes n ts os r') : r = r' := by
  unfold IsRes at h h'
  split at h
  · rename_i e
    rw [if_pos e] at h'
    rw [h, h']
  · rename_i e
    rw [if_neg e] at h'
    unfold IsHR at h h'
    split at h
    · rename_i e0
      rw [if_pos e0] at h'
      rw [h, h']
    · rename_i e0
      rw [if_neg e0] at h'
      cases eb : badOpt ts os with
      | some o =>
        rw [eb] at h h'
        have h : r = .option o := h
        have h' : r' = .option o := h'
        rw [h, h']
      | none =>
        rw [eb] at h h'
        obtain ⟨us, hu, rfl⟩ := h
        obtain ⟨us', hu', rfl⟩ := h'
        rw [hull_uniq hu hu']
def spDueOf (K : PySem.W.Frag) : Sp := fun vs H Q _ => ∃ (n : Int) (ev l : Addr) (es rs : List Addr) (ts : List Int) (os : List (List Int)), vs = [.int n, .ref ev, .ref l] ∧ (n = 0 ∨ n = 1) ∧ SqL K H ev (es.map V.ref) ∧ Each K H es (below ts) ∧ SqL K H l (rs.map V.ref) ∧ Each K H rs os ∧
  Few ts ∧ 1 ≤ ts.length ∧ (below ts).length ≤ 16 ∧ os.length < 60 ∧ ∀ r, IsRes n ts os r → ∀ p H', Same H H' → Dp K H' (.ref p) (resRg r) → Q (.ref p) H'
theorem hull_asc {ts : List Int} {os us : List (List Int)} (hb : ∀ o ∈ os, o ∈ below ts) (h : IsHull ts (ascO ts os) us) : IsHull ts os us :=
  ⟨h.1, h.2.1, fun o ho => h.2.2.1 o (mem_asc.mpr ⟨hb o ho, ho⟩), h.2.2.2.1, fun vs hc hv => h.2.2.2.2 vs hc fun o ho => hv o (mem_asc.mp ho).2⟩
section
variable {P : Program} {w : World} {K : PySem.W.Frag} {mg : Str → Option Value} {base : Heap} {f fS fO : Addr} {fd dS dOo : FuncData}
theorem scDueOf : FnScope nDueOf ["_law_which", "_law_every", "_law_rows"] (defScope sDueOf) := ⟨rfl, rfl, rfl, by decide +kernel, rfl, by decide +kernel, by decide +kernel⟩
theorem ok_dueOf (F : Fun K "_law_due_of" "_law_due_of" sDueOf f fd) (FS : Fun K "_law_hull_of" "_law_hull_of" sLHullOf fS dS) (bS : Binds K dS ["_law_rows"] []) (gS : mg "_law_hull_of" = some (.ref fS)) (GS : FnOk P w K mg base CX0 3 fS dS ["_law_rows"] (spLHullOf K))
    (FO : Fun K "_law_open" "_law_open" sLOpen fO dOo) (bO : Binds K dOo ["_law_rows"] []) (gO : mg "_law_open" = some (.ref fO)) (GO : FnOk P w K mg base CX0 2 fO dOo ["_law_rows"] (spLOpen K)) (mt : mg "tuple" = none) (mo : mg "sorted" = none) (mse : mg "set" = none) :
    FnOk P w K mg base CX0 4 f fd ["_law_which", "_law_every", "_law_rows"] (spDueOf K) := by
  refine F.ok scDueOf (fun vs H Q E h => ?_) (fun cdv A outer s H vs Q E hr h => ?_)
  · obtain ⟨n, ev, l, es, rs, ts, os, rfl, _⟩ := h
    rfl
  · obtain ⟨n, ev, l, es, rs, ts, os, rfl, hn, hev, hEv, hl, hE, hF, h1, h16, hz, q⟩ := h
    refine ⟨_, pss_cons (ps_if (pt_cmpR (op_eqD hr.units) (pv 2) (pe_newL pa_nil) (nomark _)) (pss_one (ps_ret (pe_newL (pa_cons pe_str (pa_cons pe_int pa_nil))))) pss_nil)
      (pss_cons (ps_setLc (i := 3) (own := [("_law_option", 6)]) (g := gName 6) (te := tCB (rTup K) (tCons (tVar 6) tNil)) (tt := tTest (tOp (rNotInD K) (tCB (rTup K) (tCons (tVar 6) tNil)) (tVar 1))) rfl scDueOf.nd rfl rfl (sw_true rfl rfl rfl (by decide +kernel)) (pi_any (pv 2)) (blkOk_by (N := nDueOf) (sc := defScope sDueOf) (by decide +kernel)) (fun _ _ _ _ _ => pg_name (i := 6) scDueOf.nd rfl (Or.inl rfl))
          (fun _ _ _ _ _ => pts_one (pt_cmpR (op_notInD (room65 hr)) (pe_callTy call_tup (by rfl) mt (by decide +kernel) (pa_cons (pv 6) pa_nil)) (pv 1) (by rfl))) (fun _ _ _ _ _ => pe_callTy call_tup (by rfl) mt (by decide +kernel) (pa_cons (pv 6) pa_nil)))
      (pss_cons (ps_if (pt_cmpR (op_neD hr.units) (pv 3) (pe_newL pa_nil) (nomark _)) (pss_one (ps_ret (pe_newL (pa_cons pe_str (pa_cons (pe_ix ix_list (pv 3) pe_int (fun _ _ => rfl)) pa_nil))))) pss_nil)
      (pss_cons (ps_set (i := 4) scDueOf.nd rfl (Or.inl rfl) (pe_callB (cr_sortedT rfl) (by rfl) mo (by decide +kernel) (pa_cons (pe_callTy (cr_setOfT rfl hr.units) (by rfl) mse (by decide +kernel) (pa_cons
          (pe_lc (own := [("_law_option", 6)]) (g := gName 6) (te := tCB (rTup K) (tCons (tVar 6) tNil)) (tt := tYes) rfl scDueOf.nd (pi_any (pv 2)) (blkOk_by (N := nDueOf) (sc := defScope sDueOf) (by decide +kernel)) (fun _ _ _ _ _ => pg_name (i := 6) scDueOf.nd rfl (Or.inl rfl))
          (fun _ _ _ _ _ => pts_nil) (fun _ _ _ _ _ => pe_callTy call_tup (by rfl) mt (by decide +kernel) (pa_cons (pv 6) pa_nil))) pa_nil)) pa_nil)))
      (pss_cons (ps_if (pt_cmpR op_eq (pv 0) pe_int (nomark _)) (pss_one (ps_ret (pe_newL (pa_cons pe_str (pa_cons (pe_call GS (hr.mono (by decide)) (by rfl) gS FS.kp bS .nil pass0 (pa_cons (pv 4) pa_nil)) pa_nil))))) pss_nil)
      (pss_cons (ps_set (i := 5) scDueOf.nd rfl (Or.inl rfl) (pe_call GO (hr.mono (by decide)) (by rfl) gO FO.kp bO .nil pass0 (pa_cons (pv 4) pa_nil)))
      (pss_one (ps_ret (pe_ifExp (pt_cmpR op_isN (pv 5) pe_non (nomark _)) (pe_newL (pa_cons pe_str (pa_cons (pv 4) pa_nil))) (pe_newL (pa_cons pe_str (pa_cons (pe_ix ix_tup (pv 5) pe_int (fun _ _ => rfl)) (pa_cons (pe_ix ix_tup (pv 5) pe_int (fun _ _ => rfl)) pa_nil)))))))))))), ?_⟩
    refine ⟨_, rfl, Nat.zero_le _, fun l0 H1 s1 n1 e1 => ?_⟩
    refine ⟨.list (os.map dO), .list [], .lst (s1.seq hl) (hE.same s1).dp, .lst (SqL.of e1) .nil, shaped_dOl _, by decide +kernel, _, rfl, ?_⟩
    by_cases h0 : os = []
    · subst h0
      refine ite2 (fun _ => ?_) (fun q => absurd rfl q)
      refine ⟨by show 2 ≤ sizeLine; decide, fun p H2 s2 np ep => q (.number 0) ?_ p H2 (s1.trans s2) (.lst (SqL.of ep) (.cons (.str _) (.cons (.int _) .nil)))⟩
      unfold IsRes
      split
      · exact (if_pos rfl).symm
      · unfold IsHR
        rw [if_pos rfl]
    · refine ite2 (fun z => ?_) (fun _ => ?_)
      · cases os with
        | nil => exact absurd rfl h0
        | cons x r => cases z
      have hE1 := hE.same s1
      have hl1 := s1.seq hl
      have hev1 := s1.seq hev
      refine ⟨_, rfl, l, true, _, rfl, SqB.L hl1, fun D nD => ?_⟩
      refine lc_gen (R := fun H' r o => SqT K H' r (o.map V.int)) (p := fun o => !decide (o ∈ below ts)) (fo := id) (SqB.L hl1) hE1.len (fun i r hr' => by
        obtain ⟨o, ho, h⟩ := hE1.get hr'
        exact ⟨o, ho, fun H' s => Same.sqt s h⟩) (by omega) nD (fun _ => rfl) (fun r o H' Q' ho s hR k => ?_) (fun r o H' Q' ho hp s hR k => ?_) (fun rs' H' s g hB => ?_)
      · refine ⟨_, rfl, r, _, rfl, .inr hR, fun q2 H3 s3 hq2 => ⟨_, rfl, dO o, (below ts).map dO, .tup hq2 (dpInts o), .lst ((s1.trans (s.trans s3)).seq hev) (hEv.same (s1.trans (s.trans s3))).dp, shaped_dO o, shaped_dOl _, _, rfl, ?_⟩⟩
        rw [any_dO]
        exact k H3 s3
      · exact ⟨_, rfl, r, _, rfl, .inr hR, fun q2 H3 s3 hq2 => k q2 H3 s3 hq2⟩
      rw [List.map_id] at hB
      have sE := s1.trans s
      refine ⟨_, rfl, Nat.zero_le _, fun l2 H8 s8 n8 e8 => ?_⟩
      have hB8 := hB.same s8
      have hbo := bad_opt (ts := ts) (os := os)
      have mk : mkRg ts os = match badOpt ts os with
        | some o => .option o
        | none => match openO (ascO ts os) (ascO ts os) with
          | some (a, b) => .pair a b
          | none => .region (ascO ts os) := if_neg h0
      refine ⟨.list (((os.filter fun o => !decide (o ∈ below ts))).map dO), .list [], .lst (SqL.of (s8 _ _ g)) hB8.dp, .lst (SqL.of e8) .nil, shaped_dOl _, by decide +kernel, _, rfl, ?_⟩
      cases ef : os.filter (fun o => !decide (o ∈ below ts)) with
      | cons o0 ob =>
        refine ite2 (fun _ => ?_) (fun z => absurd rfl z)
        rw [ef] at hbo hB8
        cases hB8 with
        | cons ho0 _ =>
          rename_i b0 bs
          refine ⟨_, rfl, D, _, _, _, rfl, rfl, SqL.of (s8 _ _ g), atI_nat (j := 0) rfl, (by show 2 ≤ sizeLine; decide), fun p H9 s9 np ep => q (.option o0) ?_ p H9 ((sE.trans s8).trans s9) (.lst (SqL.of ep) (.cons (.str _) (.cons (.tup (Same.sqt s9 ho0) (dpInts _)) .nil)))⟩
          unfold IsRes
          split
          · rw [mk, hbo]
            rfl
          · unfold IsHR
            rw [if_neg h0, hbo]
            rfl
      | nil =>
        refine ite2 (fun q => by cases q) (fun _ => ?_)
        rw [ef] at hbo
        have hall : ∀ o ∈ os, o ∈ below ts := fun o ho => by
          by_cases h : o ∈ below ts
          · exact h
          · have : o ∈ os.filter (fun o => !decide (o ∈ below ts)) := List.mem_filter.mpr ⟨ho, by rw [decide_eq_false h]; rfl⟩
            rw [ef] at this
            cases this
        have hbn : badOpt ts os = none := hbo
        rw [hbn] at mk
        have mk : mkRg ts os = match openO (ascO ts os) (ascO ts os) with
          | some (a, b) => .pair a b
          | none => .region (ascO ts os) := mk
        have sF := sE.trans s8
        have hl8 := sF.seq hl
        have hE8 := hE.same sF
        refine ⟨_, rfl, l, true, _, rfl, SqB.L hl8, fun D2 nD2 => ?_⟩
        refine lc_gen (R := fun H' r o => SqT K H' r (o.map V.int)) (p := fun _ => true) (fo := id) (SqB.L hl8) hE8.len (fun i r hr' => by
          obtain ⟨o, ho, h⟩ := hE8.get hr'
          exact ⟨o, ho, fun H' s => Same.sqt s h⟩) (by omega) nD2 (fun _ => rfl) (fun r o H' Q' ho s hR k => k H' (Same.refl _)) (fun r o H' Q' ho hp s hR k => ?_) (fun rs2 H2 s2 g2 hE2 => ?_)
        · exact ⟨_, rfl, r, _, rfl, .inr hR, fun q2 H3 s3 hq2 => k q2 H3 s3 hq2⟩
        rw [List.map_id, List.filter_eq_self.mpr (fun _ _ => rfl)] at hE2
        dsimp only [tNil]
        refine sort_set (P := P) (w := w) (SqL.of g2) hE2 hall hF h1 (by omega) fun q4 rs4 H4 s4 n4 e4 hE4 => ?_
        have sG := (sF.trans s2).trans s4
        have hla : (ascO ts os).length ≤ 16 := Nat.le_trans (asc_len os) h16
        rcases hn with rfl | rfl
        · refine ⟨_, rfl, rfl, _, rfl, ite2 (fun z => by cases z) (fun _ => ?_)⟩
          refine ⟨_, rfl, q4, rs4, ascO ts os, ts.length, rfl, SqL.of e4, hE4, fun o ho => opt_len (mem_asc.mp ho).1, by have := hF.1; omega, by omega, ?_⟩
          cases eo : openO (ascO ts os) (ascO ts os) with
          | none =>
            rw [eo] at mk
            intro HY sY
            refine ⟨_, rfl, rfl, _, rfl, ite2 (fun _ => ?_) (fun q => absurd (decide_eq_true rfl) q)⟩
            refine ⟨_, rfl, (by show 2 ≤ sizeLine; decide), fun p HZ sZ np2 ep => q _ mk.symm p HZ ((sG.trans sY).trans sZ) (.lst (SqL.of ep) (.cons (.str _) (.cons (.lst (SqL.of ((sY.trans sZ) _ _ e4)) (hE4.same (sY.trans sZ)).dp) .nil)))⟩
          | some ab =>
            obtain ⟨a1, b1⟩ := ab
            rw [eo] at mk
            intro q1 r1 r2 HY sY hq1 hr1 hr2
            refine ⟨_, rfl, rfl, _, rfl, ite2 (fun q => by cases (of_decide_eq_true q)) (fun _ => ?_)⟩
            exact ⟨_, rfl, q1, _, _, _, rfl, rfl, hq1, atI_nat (j := 0) rfl, _, rfl, q1, _, _, _, rfl, rfl, hq1, atI_nat (j := 1) rfl, (by show 3 ≤ sizeLine; decide), fun p HZ sZ np2 ep => q _ mk.symm p HZ ((sG.trans sY).trans sZ)
              (.lst (SqL.of ep) (.cons (.str _) (.cons (.tup (Same.sqt sZ hr1) (dpInts _)) (.cons (.tup (Same.sqt sZ hr2) (dpInts _)) .nil))))⟩
        · refine ⟨_, rfl, rfl, _, rfl, ite2 (fun _ => ?_) (fun z => absurd (decide_eq_true rfl) z)⟩
          refine ⟨_, rfl, q4, rs4, ts, ascO ts os, rfl, SqL.of e4, hE4, fun o ho => (mem_asc.mp ho).1, hF, h1, h16, by omega, fun us hus q5 rs5 H5 s5 n5 e5 hE5 => ⟨by show 2 ≤ sizeLine; decide, fun p H6 s6 np ep => q (.region us) ?_ p H6 ((sG.trans s5).trans s6) (.lst (SqL.of ep) (.cons (.str _) (.cons (.lst (SqL.of (s6 _ _ e5)) (hE5.same s6).dp) .nil)))⟩⟩
          show (if (1 : Int) = 0 then _ else IsHR ts os (.region us))
          rw [if_neg (by decide)]
          unfold IsHR
          rw [if_neg h0, hbn]
          exact ⟨us, hull_asc hall hus, rfl⟩
end
end KL

set_option Elab.async false
set_option linter.all false
set_option maxRecDepth 100000
set_option maxHeartbeats 4000000
namespace KL
open PySem PySem.Spec PyProof.Rows L2 NdefX SX
/-- what an `except` clause of the class C asks of K -/
structure ClTxtX (K : PySem.W.Frag) (mg : Str → Option Value) (nm n n2 : Str) (C : Addr) : Prop where
  gC : mg nm = some (.ref C)
  xf : XfC K C
  no : PySem.W.findIn K (.ref C) n = some none
  no2 : PySem.W.findIn K (.ref C) n2 = some none
  ok : PySem.W.exmOne K (.ref C) (.ref C) = some true
theorem list_reg {K : PySem.W.Frag} {C R x : Addr} {ts : List Int} {us : List (List Int)} {H : Hp} {Q : VK} (hReg : RegAt K C R H x ts us) (hz : us.length ≤ 1000)
    (k : ∀ (q : Addr) (rs : List Addr) H', Same H H' → H q = none → H' q = some (.lst (rs.map V.ref)) → Each K H' rs us → Q (.ref q) H') : rListO K R "options" (spRLen K C R) [.ref x] H Q := by
  obtain ⟨dx, gg, pp, rs, hx, hG, hpp, hE⟩ := id hReg
  exact ⟨x, dx, pp, _, rs.map V.ref, rfl, hx, rfl, hpp, fun H2 s2 => ⟨x, ts, us, rfl, hReg.same s2, _, rfl, by omega, by omega, ⟨_, rfl, by omega⟩, rfl⟩, fun q nq => k q rs _ (same_upd nq) nq upd_same (hE.same (same_upd nq))⟩
def spToldOf (K : PySem.W.Frag) (C : Addr) : Sp := fun vs H Q _ => ∃ (n : Int) (g l : Addr) (ps : List Addr) (ts : List Int) (os : List (List Int)), vs = [.int n, .ref g, .ref l] ∧ (n = 0 ∨ n = 1) ∧ GridAt K C H g ts ∧ Few ts ∧ (below ts).length ≤ 16 ∧ SqL K H l (ps.map V.ref) ∧ Opts K H ps os ∧ os.length ≤ 1000 ∧
  ∀ r, IsRes n ts os r → ∀ p H', Same H H' → Dp K H' (.ref p) (resRg r) → Q (.ref p) H'
theorem mk_reg_len {ts : List Int} {os us : List (List Int)} (hF : Few ts) (h : mkRg ts os = .region us) : us.length ≤ 1000 := by
  have : us = ascO ts os := by
    unfold mkRg at h
    split at h
    · cases h
    · split at h
      · cases h
      · split at h
        · cases h
        · injection h with h
          exact h.symm
  rw [this]
  exact Nat.le_trans (asc_len _) (below_few hF)
theorem hull_len {ts : List Int} {os us : List (List Int)} (hF : Few ts) (h : IsHull ts os us) : us.length ≤ 1000 :=
  Nat.le_trans (nodup_len us (below ts) h.1.nodup h.2.1) (below_few hF)
section
variable {P : Program} {w : World} {K : PySem.W.Frag} {mg : Str → Option Value} {base : Heap} {f fI fH C R N O B U fi fl : Addr} {fd dI dH dl : FuncData}
theorem scToldOf : FnScope nToldOf ["_law_which", "_law_grid", "_law_rows"] (defScope sToldOf) := ⟨rfl, rfl, rfl, by decide +kernel, rfl, by decide +kernel, by decide +kernel⟩
theorem ok_toldOf (F : Fun K "_law_told_of" "_law_told_of" sToldOf f fd) (gR : mg "Region" = some (.ref R)) (M : Mk K R fI) (GI : FnOk P w K mg base (L2.CX P w) 6 fI dI ["self", "grid", "options"] (spRInit K C R N O B)) (bI : Binds K dI ["self", "grid", "options"] [])
    (FH : Fun K "hull" "hull" sHull fH dH) (bH : Binds K dH ["grid", "options"] []) (gH : mg "hull" = some (.ref fH)) (GH : FnOk P w K mg base (L2.CX P w) 8 fH dH ["grid", "options"] (spHull K C R N O B))
    (IT : ItO P w K mg base R fi "options") (DL : Dun K R "__len__" fl) (GL : FnOk P w K mg base CX0 1 fl dl ["self"] (spRLen K C R)) (bL : Binds K dl ["self"] []) (ml : mg "list" = none)
    (tN : ClTxtX K mg "BadNumber" "n" "n" N) (tO : ClTxtX K mg "BadOption" "option" "option" O) (tB : ClTxtX K mg "BadRegion" "first" "second" B)
    (on : PySem.W.exmOne K (.ref O) (.ref N) = some false) (bn : PySem.W.exmOne K (.ref B) (.ref N) = some false) (bo : PySem.W.exmOne K (.ref B) (.ref O) = some false) : FnOk P w K mg base CX0 9 f fd ["_law_which", "_law_grid", "_law_rows"] (spToldOf K C) := by
  refine F.ok scToldOf (fun vs H Q E h => ?_) (fun cdv A outer s H vs Q E hr h => ?_)
  · obtain ⟨n, g, l, ps, ts, os, rfl, _⟩ := h
    rfl
  · obtain ⟨n, g, l, ps, ts, os, rfl, hn, hG, hF, h16, hl, hO, hz, k⟩ := h
    refine ⟨_, pss_one (ps_try_all (Wout := fun _ _ _ _ => False) (l := [(.ref N, 3, fun a cls d => _), (.ref O, 3, fun a cls d => _), (.ref B, 3, fun a cls d => _)])
      (tb := fun W => tSeq (tIfS (tTest (tOp rEq (tVar 0) (tC (.int 0)))) (tRet (tNewL (tCons (tC (.str "options")) (tCons (tCB (rListO K R "options" (spRLen K C R)) (tCons (tMakeS R (spRInit K C R N O B) (WE W) (tCons (tVar 1) (tCons (tVar 2) tNil))) tNil)) tNil)))) tNext)
        (tRet (tNewL (tCons (tC (.str "options")) (tCons (tCB (rListO K R "options" (spRLen K C R)) (tCons (tCallS (spHull K C R N O B) (WE W) (tCons (tVar 1) (tCons (tVar 2) tNil))) tNil)) tNil)))))
      rfl rfl scToldOf.nd noOneT
      (fun W pn xe tk _ => pss_cons (ps_if (pt_cmpR op_eq (pv 0) pe_int (nomark _)) (pss_one (ps_ret (pe_newL (pa_cons pe_str (pa_cons (pe_callTy (call_listO IT DL GL bL (hr.mono (by decide))) (by rfl) ml (by decide +kernel) (pa_cons
            (pe_makeS M GI (hr.mono (by decide)) (by rfl) gR bI (fun σ => passAt tk σ) (pa_cons (pv 1) (pa_cons (pv 2) pa_nil))) pa_nil)) pa_nil))))) pss_nil)
        (pss_one (ps_ret (pe_newL (pa_cons pe_str (pa_cons (pe_callTy (call_listO IT DL GL bL (hr.mono (by decide))) (by rfl) ml (by decide +kernel) (pa_cons
            (pe_callS GH hr (by rfl) gH FH.kp bH (fun σ => passAt tk σ) (pa_cons (pv 1) (pa_cons (pv 2) pa_nil))) pa_nil)) pa_nil))))))
      (.cons ⟨rfl, by decide, Or.inl tN.gC⟩ rfl rfl (fun a oe cls d pn hz hf => pss_one (ps_ret (pe_newL (pa_cons pe_str (pa_cons (pe_xf tN.xf tN.no hz hf (pv 3)) pa_nil)))))
      (.cons ⟨rfl, by decide, Or.inl tO.gC⟩ rfl rfl (fun a oe cls d pn hz hf => pss_one (ps_ret (pe_newL (pa_cons pe_str (pa_cons (pe_xf tO.xf tO.no hz hf (pv 3)) pa_nil)))))
      (.cons ⟨rfl, by decide, Or.inl tB.gC⟩ rfl rfl (fun a oe cls d pn hz hf => pss_one (ps_ret (pe_newL (pa_cons pe_str (pa_cons (pe_xf tB.xf tB.no hz hf (pv 3)) (pa_cons (pe_xf tB.xf tB.no2 hz hf (pv 3)) pa_nil)))))) .nil)))), ?_⟩
    rcases hn with rfl | rfl
    · refine ⟨_, rfl, rfl, _, rfl, ite2 (fun _ => ?_) (fun z => absurd (decide_eq_true rfl) z)⟩
      have hres : ∀ r, mkRg ts os = r → IsRes 0 ts os r := fun r e => by
        unfold IsRes
        rw [if_pos rfl, e]
      refine ⟨_, rfl, _, rfl, fun z dz nz ndz nez => mk_any hG hF (.inl hl) hO hz nz ndz (fun n e => ?_) (fun o e => ?_) (fun a1 b1 e => ?_) (fun us e H' s hReg => ?_)⟩
      · have hres := hres _ e
        refine fun d H' s nd ed => ⟨true, tN.ok, fun _ a na => ?_, fun h => nomatch h⟩
        exact ⟨_, rfl, rfl, rfl, d, _, _, rfl, ed, rfl, by show 2 ≤ sizeLine; decide, fun q H2 s2 nq eq => k _ hres q H2 (s.trans s2) (.lst (SqL.of eq) (.cons (.str _) (.cons (.int _) .nil)))⟩
      · have hres := hres _ e
        refine fun d p H' s nd ed hp => ⟨false, on, (fun h => nomatch h), fun _ => ⟨true, tO.ok, fun _ a na => ?_, fun h => nomatch h⟩⟩
        exact ⟨_, rfl, rfl, rfl, d, _, _, rfl, ed, rfl, by show 2 ≤ sizeLine; decide, fun q H2 s2 nq eq => k _ hres q H2 (s.trans s2) (.lst (SqL.of eq) (.cons (.str _) (.cons (.tup (Same.sqt s2 hp) (dpInts _)) .nil)))⟩
      · have hres := hres _ e
        refine fun d p q1 H' s nd ed hp hq => ⟨false, bn, (fun h => nomatch h), fun _ => ⟨false, bo, (fun h => nomatch h), fun _ => ⟨true, tB.ok, fun _ a na => ?_, fun h => nomatch h⟩⟩⟩
        exact ⟨_, rfl, rfl, rfl, d, _, _, rfl, ed, rfl, _, rfl, rfl, rfl, d, _, _, rfl, ed, rfl, by show 3 ≤ sizeLine; decide, fun q H2 s2 nq eq => k _ hres q H2 (s.trans s2) (.lst (SqL.of eq) (.cons (.str _) (.cons (.tup (Same.sqt s2 hp) (dpInts _)) (.cons (.tup (Same.sqt s2 hq) (dpInts _)) .nil))))⟩
      · have hres := hres _ e
        refine ⟨rfl, ?_⟩
        dsimp only [tNil]
        refine list_reg hReg (mk_reg_len hF e) fun q rs H2 s2 n2 e2 hE2 => ⟨by show 2 ≤ sizeLine; decide, fun q3 H3 s3 n3 e3 => k _ hres q3 H3 ((s.trans s2).trans s3) (.lst (SqL.of e3) (.cons (.str _) (.cons (.lst (SqL.of (s3 _ _ e2)) (hE2.same s3).dp) .nil)))⟩
    · refine ⟨_, rfl, rfl, _, rfl, ite2 (fun z => by cases z) (fun _ => ?_)⟩
      refine ⟨_, rfl, _, rfl, g, l, ts, ps, os, rfl, hG, hF, h16, .inl hl, hO, hz, ?_⟩
      have hres : ∀ r, IsHR ts os r → IsRes 1 ts os r := fun r h => by
        unfold IsRes
        rw [if_neg (by decide)]
        exact h
      unfold IsHR at hres
      by_cases h0 : os = []
      · rw [if_pos h0]
        have hres := hres (.number 0) (by rw [if_pos h0])
        refine fun d H' s nd ed => ⟨true, tN.ok, fun _ a na => ?_, fun h => nomatch h⟩
        exact ⟨_, rfl, rfl, rfl, d, _, _, rfl, ed, rfl, by show 2 ≤ sizeLine; decide, fun q H2 s2 nq eq => k _ hres q H2 (s.trans s2) (.lst (SqL.of eq) (.cons (.str _) (.cons (.int _) .nil)))⟩
      · rw [if_neg h0]
        cases e : badOpt ts os with
        | some o =>
          have hres := hres (.option o) (by rw [if_neg h0, e])
          refine fun d p H' s nd ed hp => ⟨false, on, (fun h => nomatch h), fun _ => ⟨true, tO.ok, fun _ a na => ?_, fun h => nomatch h⟩⟩
          exact ⟨_, rfl, rfl, rfl, d, _, _, rfl, ed, rfl, by show 2 ≤ sizeLine; decide, fun q H2 s2 nq eq => k _ hres q H2 (s.trans s2) (.lst (SqL.of eq) (.cons (.str _) (.cons (.tup (Same.sqt s2 hp) (dpInts _)) .nil)))⟩
        | none =>
          intro us hus x H' s hReg
          have hres := hres (.region us) (by rw [if_neg h0, e]; exact ⟨us, hus, rfl⟩)
          dsimp only [tNil]
          refine list_reg hReg (hull_len hF hus) fun q rs H2 s2 n2 e2 hE2 => ⟨by show 2 ≤ sizeLine; decide, fun q3 H3 s3 n3 e3 => k _ hres q3 H3 ((s.trans s2).trans s3) (.lst (SqL.of e3) (.cons (.str _) (.cons (.lst (SqL.of (s3 _ _ e2)) (hE2.same s3).dp) .nil)))⟩
end
end KL

set_option Elab.async false
set_option linter.all false
set_option maxRecDepth 100000
set_option maxHeartbeats 4000000
namespace KL
open PySem PySem.Spec PyProof.Rows L2 NdefX SX
abbrev sBoxOf : Stmt := top 46
abbrev nBoxOf : List Str := ["_law_grid", "_law_low", "_law_high", "e"]
abbrev sBoxDue : Stmt := top 47
abbrev nBoxDue : List Str := ["_law_every", "_law_low", "_law_high", "_law_bad", "_law_option"]
abbrev sBothOf : Stmt := top 48
abbrev nBothOf : List Str := ["_law_first", "_law_second", "e"]
theorem leO_iff : ∀ {a b : List Int}, a.length = b.length → (leO a b = true ↔ ∀ (j : Nat) (m n : Int), a[j]? = some m → b[j]? = some n → m ≤ n)
  | [], [], _ => ⟨fun _ j m n h _ => (by simp at h), fun _ => rfl⟩
  | x :: a, y :: b, h => by
    have ih := leO_iff (Nat.succ.inj h)
    have e : leO (x :: a) (y :: b) = (decide (x ≤ y) && leO a b) := rfl
    rw [e, Bool.and_eq_true, decide_eq_true_iff, ih]
    constructor
    · rintro ⟨h1, h2⟩ j m n hm hn
      cases j with
      | zero => cases hm; cases hn; exact h1
      | succ j => exact h2 j m n hm hn
    · intro h
      exact ⟨h 0 x y rfl rfl, fun j m n hm hn => h (j + 1) m n hm hn⟩
theorem le_self (a : List Int) : leO a a = true := (leO_iff rfl).mpr fun j m n h1 h2 => by
  rw [h1] at h2
  cases h2
  exact Int.le_refl _
theorem mn_le {m x y : Int} (h1 : m ≤ x) (h2 : m ≤ y) : m ≤ mn x y := by
  unfold mn
  split <;> assumption
theorem mn_ge {n x y : Int} (h1 : x ≤ n) : mn x y ≤ n := by
  unfold mn
  split <;> omega
theorem mx_le {m x y : Int} (h1 : m ≤ x) : m ≤ mx x y := by
  unfold mx
  split <;> omega
theorem mx_ge {n x y : Int} (h1 : x ≤ n) (h2 : y ≤ n) : mx x y ≤ n := by
  unfold mx
  split <;> assumption
theorem bet_closed {ts a b : List Int} (ha : a ∈ below ts) (hb : b ∈ below ts) : Closed (betO ts a b) := by
  intro x hx y hy
  obtain ⟨hx1, hx2⟩ := List.mem_filter.mp hx
  obtain ⟨hy1, hy2⟩ := List.mem_filter.mp hy
  obtain ⟨ax, xb⟩ := Bool.and_eq_true_iff.mp hx2
  obtain ⟨ay, yb⟩ := Bool.and_eq_true_iff.mp hy2
  have la := opt_len ha
  have lb := opt_len hb
  have lx := opt_len hx1
  have ly := opt_len hy1
  have ll := low_len (a := x) (b := y) (by omega)
  have lh := high_len (a := x) (b := y) (by omega)
  rw [leO_iff (by omega)] at ax xb ay yb
  have lowm := low_below hx1 hy1
  have highm := high_below hx1 hy1
  refine ⟨List.mem_filter.mpr ⟨lowm, ?_⟩, List.mem_filter.mpr ⟨highm, ?_⟩⟩
  · rw [Bool.and_eq_true, leO_iff (by omega), leO_iff (by omega)]
    constructor
    · intro j m n hm hn
      obtain ⟨u, v, hu, hv, rfl⟩ := zip_get hn
      exact mn_le (ax j m u hm hu) (ay j m v hm hv)
    · intro j m n hm hn
      obtain ⟨u, v, hu, hv, rfl⟩ := zip_get hm
      exact mn_ge (xb j u n hu hn)
  · rw [Bool.and_eq_true, leO_iff (by omega), leO_iff (by omega)]
    constructor
    · intro j m n hm hn
      obtain ⟨u, v, hu, hv, rfl⟩ := zip_get hn
      exact mx_le (ax j m u hm hu)
    · intro j m n hm hn
      obtain ⟨u, v, hu, hv, rfl⟩ := zip_get hm
      exact mx_ge (xb j u n hu hn) (yb j v n hv hn)
theorem bet_region {ts a b : List Int} (hF : Few ts) (ha : a ∈ below ts) (hb : b ∈ below ts) (hl : leO a b = true) : mkRg ts (betO ts a b) = .region (betO ts a b) :=
  mk_region hF ((asc_all hF.2).filter _) (fun o ho => (List.mem_filter.mp ho).1) (bet_closed ha hb) fun z => by
    have : a ∈ betO ts a b := List.mem_filter.mpr ⟨ha, by rw [le_self, hl]; rfl⟩
    rw [z] at this
    cases this
def boxRg (ts a b : List Int) : Rg := match badOpt ts [a, b] with
  | some o => .option o
  | none => if leO a b = true then .region (betO ts a b) else .pair a b
def spBoxOf (K : PySem.W.Frag) (C : Addr) : Sp := fun vs H Q _ => ∃ (g a b : Addr) (ts o1 o2 : List Int), vs = [.ref g, .ref a, .ref b] ∧ GridAt K C H g ts ∧ Few ts ∧ SqA K H a (o1.map V.int) ∧ SqA K H b (o2.map V.int) ∧ ∀ p H', Same H H' → Dp K H' (.ref p) (resRg (boxRg ts o1 o2)) → Q (.ref p) H'
def spBoxDue (K : PySem.W.Frag) : Sp := fun vs H Q _ => ∃ (ev a b : Addr) (es : List Addr) (ts o1 o2 : List Int), vs = [.ref ev, .ref a, .ref b] ∧ SqL K H ev (es.map V.ref) ∧ Each K H es (below ts) ∧ Few ts ∧ SqT K H a (o1.map V.int) ∧ SqT K H b (o2.map V.int) ∧ o1.length = ts.length ∧ o2.length = ts.length ∧
  ∀ p H', Same H H' → Dp K H' (.ref p) (resRg (boxRg ts o1 o2)) → Q (.ref p) H'
/-- what first & second comes to -/
def resBoth (ts us : List Int) (os ws : List (List Int)) : PyData := if ts = us then (if os.filter (fun o => decide (o ∈ ws)) = [] then .list [.str "number", .int 0] else .list [.str "options", .list ((os.filter fun o => decide (o ∈ ws)).map dO)]) else .list [.str "grids", dO ts, dO us]
def spBothOf (K : PySem.W.Frag) (C R : Addr) : Sp := fun vs H Q _ => ∃ (x y : Addr) (ts us : List Int) (os ws : List (List Int)), vs = [.ref x, .ref y] ∧ RegAt K C R H x ts os ∧ RegAt K C R H y us ws ∧ Few ts ∧ Asc os ∧ (∀ o ∈ os, o ∈ below ts) ∧ Closed os ∧ Closed ws ∧
  ∀ p H', Same H H' → Dp K H' (.ref p) (resBoth ts us os ws) → Q (.ref p) H'
theorem both_closed {os ws : List (List Int)} (h : Closed os) (g : Closed ws) : Closed (os.filter fun o => decide (o ∈ ws)) := by
  intro x hx y hy
  obtain ⟨hx1, hx2⟩ := List.mem_filter.mp hx
  obtain ⟨hy1, hy2⟩ := List.mem_filter.mp hy
  have z1 := h x hx1 y hy1
  have z2 := g x (of_decide_eq_true hx2) y (of_decide_eq_true hy2)
  exact ⟨List.mem_filter.mpr ⟨z1.1, decide_eq_true z2.1⟩, List.mem_filter.mpr ⟨z1.2, decide_eq_true z2.2⟩⟩
section
variable {P : Program} {w : World} {K : PySem.W.Frag} {mg : Str → Option Value} {base : Heap} {f fU fB fA C R N O B U fi fl : Addr} {fd dU dB dA dl : FuncData}
theorem scBoxOf : FnScope nBoxOf ["_law_grid", "_law_low", "_law_high"] (defScope sBoxOf) := ⟨rfl, rfl, rfl, by decide +kernel, rfl, by decide +kernel, by decide +kernel⟩
theorem scBoxDue : FnScope nBoxDue ["_law_every", "_law_low", "_law_high"] (defScope sBoxDue) := ⟨rfl, rfl, rfl, by decide +kernel, rfl, by decide +kernel, by decide +kernel⟩
theorem scBothOf : FnScope nBothOf ["_law_first", "_law_second"] (defScope sBothOf) := ⟨rfl, rfl, rfl, by decide +kernel, rfl, by decide +kernel, by decide +kernel⟩
theorem ok_boxOf (F : Fun K "_law_box_of" "_law_box_of" sBoxOf f fd) (FB : Fun K "box" "box" sBox fB dB) (bB : Binds K dB ["grid", "low", "high"] []) (gB : mg "box" = some (.ref fB)) (GB : FnOk P w K mg base (L2.CX P w) 8 fB dB ["grid", "low", "high"] (spBox K C R N O B))
    (IT : ItO P w K mg base R fi "options") (DL : Dun K R "__len__" fl) (GL : FnOk P w K mg base CX0 1 fl dl ["self"] (spRLen K C R)) (bL : Binds K dl ["self"] []) (ml : mg "list" = none)
    (tO : ClTxtX K mg "BadOption" "option" "option" O) (tB : ClTxtX K mg "BadRegion" "first" "second" B) (bo : PySem.W.exmOne K (.ref B) (.ref O) = some false) : FnOk P w K mg base CX0 9 f fd ["_law_grid", "_law_low", "_law_high"] (spBoxOf K C) := by
  refine F.ok scBoxOf (fun vs H Q E h => ?_) (fun cdv A outer s H vs Q E hr h => ?_)
  · obtain ⟨g, a, b, ts, o1, o2, rfl, _⟩ := h
    rfl
  · obtain ⟨g, a, b, ts, o1, o2, rfl, hG, hF, h1, h2, k⟩ := h
    refine ⟨_, pss_one (ps_try_all (Wout := fun _ _ _ _ => False) (l := [(.ref O, 3, fun a cls d => _), (.ref B, 3, fun a cls d => _)])
      (tb := fun W => tRet (tNewL (tCons (tC (.str "options")) (tCons (tCB (rListO K R "options" (spRLen K C R)) (tCons (tCallS (spBox K C R N O B) (WE W) (tCons (tVar 0) (tCons (tVar 1) (tCons (tVar 2) tNil)))) tNil)) tNil))))
      rfl rfl scBoxOf.nd noOneT
      (fun W pn xe tk _ => pss_one (ps_ret (pe_newL (pa_cons pe_str (pa_cons (pe_callTy (call_listO IT DL GL bL (hr.mono (by decide))) (by rfl) ml (by decide +kernel) (pa_cons
            (pe_callS GB hr (by rfl) gB FB.kp bB (fun σ => passAt tk σ) (pa_cons (pv 0) (pa_cons (pv 1) (pa_cons (pv 2) pa_nil)))) pa_nil)) pa_nil)))))
      (.cons ⟨rfl, by decide, Or.inl tO.gC⟩ rfl rfl (fun a oe cls d pn hz hf => pss_one (ps_ret (pe_newL (pa_cons pe_str (pa_cons (pe_xf tO.xf tO.no hz hf (pv 3)) pa_nil)))))
      (.cons ⟨rfl, by decide, Or.inl tB.gC⟩ rfl rfl (fun a oe cls d pn hz hf => pss_one (ps_ret (pe_newL (pa_cons pe_str (pa_cons (pe_xf tB.xf tB.no hz hf (pv 3)) (pa_cons (pe_xf tB.xf tB.no2 hz hf (pv 3)) pa_nil)))))) .nil))), ?_⟩
    refine ⟨_, rfl, _, rfl, _, rfl, g, a, b, ts, o1, o2, rfl, hG, hF, h1, h2, ?_⟩
    unfold boxRg at k
    cases e : badOpt ts [o1, o2] with
    | some o =>
      rw [e] at k
      refine fun d p H' s nd ed hp => ⟨true, tO.ok, fun _ a na => ?_, fun h => nomatch h⟩
      exact ⟨_, rfl, rfl, rfl, d, _, _, rfl, ed, rfl, by show 2 ≤ sizeLine; decide, fun q H2 s2 nq eq => k q H2 (s.trans s2) (.lst (SqL.of eq) (.cons (.str _) (.cons (.tup (Same.sqt s2 hp) (dpInts _)) .nil)))⟩
    | none =>
      rw [e] at k
      have m1 := bad_none e o1 (by simp)
      have m2 := bad_none e o2 (by simp)
      by_cases hl : leO o1 o2 = true
      · simp only [hl, if_true] at k ⊢
        rw [bet_region hF m1 m2 hl]
        intro x H' s hReg
        dsimp only [tNil]
        refine list_reg hReg (Nat.le_trans (List.length_filter_le _ _) (below_few hF)) fun q rs H2 s2 n2 e2 hE2 => ⟨by show 2 ≤ sizeLine; decide, fun q3 H3 s3 n3 e3 => k q3 H3 ((s.trans s2).trans s3) (.lst (SqL.of e3) (.cons (.str _) (.cons (.lst (SqL.of (s3 _ _ e2)) (hE2.same s3).dp) .nil)))⟩
      · simp only [hl, if_false] at k ⊢
        refine fun d p q1 H' s nd ed hp hq => ⟨false, bo, (fun h => nomatch h), fun _ => ⟨true, tB.ok, fun _ a na => ?_, fun h => nomatch h⟩⟩
        exact ⟨_, rfl, rfl, rfl, d, _, _, rfl, ed, rfl, _, rfl, rfl, rfl, d, _, _, rfl, ed, rfl, by show 3 ≤ sizeLine; decide, fun q H2 s2 nq eq => k q H2 (s.trans s2) (.lst (SqL.of eq) (.cons (.str _) (.cons (.tup (Same.sqt s2 hp) (dpInts _)) (.cons (.tup (Same.sqt s2 hq) (dpInts _)) .nil))))⟩
theorem ok_bothOf (F : Fun K "_law_both_of" "_law_both_of" sBothOf f fd) (cR : PySem.W.selfFirst K R = true) (DA : Dun K R "__and__" fA) (GA : FnOk P w K mg base (L2.CX P w) 8 fA dA ["self", "other"] (spRAnd K C R N O B U)) (bA : Binds K dA ["self", "other"] [])
    (IT : ItO P w K mg base R fi "options") (DL : Dun K R "__len__" fl) (GL : FnOk P w K mg base CX0 1 fl dl ["self"] (spRLen K C R)) (bL : Binds K dl ["self"] []) (ml : mg "list" = none)
    (tN : ClTxtX K mg "BadNumber" "n" "n" N) (tU : ClTxtX K mg "UnlikeGrids" "first" "second" U) (un : PySem.W.exmOne K (.ref U) (.ref N) = some false) : FnOk P w K mg base CX0 9 f fd ["_law_first", "_law_second"] (spBothOf K C R) := by
  refine F.ok scBothOf (fun vs H Q E h => ?_) (fun cdv A outer s H vs Q E hr h => ?_)
  · obtain ⟨x, y, ts, us, os, ws, rfl, _⟩ := h
    rfl
  · obtain ⟨x, y, ts, us, os, ws, rfl, hX, hY, hF, ha, hb, hc, hcw, k⟩ := h
    refine ⟨_, pss_one (ps_try_all (Wout := fun _ _ _ _ => False) (l := [(.ref N, 2, fun a cls d => _), (.ref U, 2, fun a cls d => _)])
      (tb := fun W => tRet (tNewL (tCons (tC (.str "options")) (tCons (tCB (rListO K R "options" (spRLen K C R)) (tCons (tBinS R (spRAnd K C R N O B U) (WE W) (tVar 0) (tVar 1)) tNil)) tNil))))
      rfl rfl scBothOf.nd noOneT
      (fun W pn xe tk _ => pss_one (ps_ret (pe_newL (pa_cons pe_str (pa_cons (pe_callTy (call_listO IT DL GL bL (hr.mono (by decide))) (by rfl) ml (by decide +kernel) (pa_cons
            (pe_binS cR DA GA bA (fun σ => passAt tk σ) hr (pv 0) (pv 1)) pa_nil)) pa_nil)))))
      (.cons ⟨rfl, by decide, Or.inl tN.gC⟩ rfl rfl (fun a oe cls d pn hz hf => pss_one (ps_ret (pe_newL (pa_cons pe_str (pa_cons (pe_xf tN.xf tN.no hz hf (pv 2)) pa_nil)))))
      (.cons ⟨rfl, by decide, Or.inl tU.gC⟩ rfl rfl (fun a oe cls d pn hz hf => pss_one (ps_ret (pe_newL (pa_cons pe_str (pa_cons (pe_xf tU.xf tU.no hz hf (pv 2)) (pa_cons (pe_xf tU.xf tU.no2 hz hf (pv 2)) pa_nil)))))) .nil))), ?_⟩
    obtain ⟨dx, _, _, _, hx, _⟩ := id hX
    obtain ⟨dy, _, _, _, hy, _⟩ := id hY
    have hzo : os.length ≤ 1000 := Nat.le_trans (nodup_len os (below ts) ha.nodup hb) (below_few hF)
    refine ⟨_, rfl, _, rfl, x, y, dx, dy, _, _, rfl, rfl, hx, hy, x, y, ts, us, os, ws, rfl, hX, hY, hF, hzo, ?_⟩
    unfold resBoth at k
    by_cases e : ts = us
    · simp only [e, if_true] at k ⊢
      subst e
      by_cases h0 : os.filter (fun o => decide (o ∈ ws)) = []
      · rw [show mkRg ts (os.filter fun o => decide (o ∈ ws)) = .number 0 from if_pos h0]
        simp only [h0, if_true] at k
        refine fun d H' s nd ed => ⟨true, tN.ok, fun _ a na => ?_, fun h => nomatch h⟩
        exact ⟨_, rfl, rfl, rfl, d, _, _, rfl, ed, rfl, by show 2 ≤ sizeLine; decide, fun q H2 s2 nq eq => k q H2 (s.trans s2) (.lst (SqL.of eq) (.cons (.str _) (.cons (.int _) .nil)))⟩
      · rw [mk_region hF (ha.filter _) (fun o ho => hb o (List.mem_filter.mp ho).1) (both_closed hc hcw) h0]
        simp only [h0, if_false] at k
        refine fun z H' s hReg => ⟨⟨z, rfl⟩, ?_⟩
        dsimp only [tNil]
        refine list_reg hReg (Nat.le_trans (List.length_filter_le _ _) hzo) fun q rs H2 s2 n2 e2 hE2 => ⟨by show 2 ≤ sizeLine; decide, fun q3 H3 s3 n3 e3 => k q3 H3 ((s.trans s2).trans s3) (.lst (SqL.of e3) (.cons (.str _) (.cons (.lst (SqL.of (s3 _ _ e2)) (hE2.same s3).dp) .nil)))⟩
    · simp only [e, if_false] at k ⊢
      refine fun d p q1 H' s nd ed hp hq => ⟨false, un, (fun h => nomatch h), fun _ => ⟨true, tU.ok, fun _ a na => ?_, fun h => nomatch h⟩⟩
      exact ⟨_, rfl, rfl, rfl, d, _, _, rfl, ed, rfl, _, rfl, rfl, rfl, d, _, _, rfl, ed, rfl, by show 3 ≤ sizeLine; decide, fun q H2 s2 nq eq => k q H2 (s.trans s2) (.lst (SqL.of eq) (.cons (.str _) (.cons (.tup (Same.sqt s2 hp) (dpInts _)) (.cons (.tup (Same.sqt s2 hq) (dpInts _)) .nil))))⟩
end
end KL

set_option Elab.async false
set_option linter.all false
set_option maxRecDepth 100000
set_option maxHeartbeats 4000000
namespace KL
open PySem PySem.Spec PyProof.Rows L2 NdefX SX
abbrev sFits : Stmt := top 49
abbrev nFits : List Str := ["_law_region", "_law_every", "_law_rows", "_law_option"]
def spFits (K : PySem.W.Frag) (C R : Addr) : Sp := fun vs H Q _ => ∃ (x ev l : Addr) (es rs : List Addr) (ts : List Int) (us : List (List Int)), vs = [.ref x, .ref ev, .ref l] ∧ RegAt K C R H x ts us ∧ SqL K H ev (es.map V.ref) ∧ Each K H es (below ts) ∧ SqL K H l (rs.map V.ref) ∧ Each K H rs us ∧
  Few ts ∧ us ≠ [] ∧ Asc us ∧ (∀ o ∈ us, o ∈ below ts) ∧ ∀ H', Same H H' → Q (.bl true) H'
theorem eqT (os : List (List Int)) : (!PyData.eqv (.tuple (os.map dO)) (.tuple (os.map dO))) = false := by rw [eqv_dOs]; simp
theorem eqL (os : List (List Int)) : (!PyData.eqv (.list (os.map dO)) (.list (os.map dO))) = false := by rw [eqv_dOl]; simp
theorem eqO (o : List Int) : (!PyData.eqv (dO o) (dO o)) = false := by rw [eqv_dO]; simp
section
variable {P : Program} {w : World} {K : PySem.W.Frag} {mg : Str → Option Value} {base : Heap} {f fU fA fLe fGr fHa C R fi fl : Addr} {fd dU dA dLe dGr dHa dl : FuncData}
theorem ok_boxDue (F : Fun K "_law_box_due" "_law_box_due" sBoxDue f fd) (FU : Fun K "_law_under" "_law_under" sLUnder fU dU) (bU : Binds K dU ["_law_first", "_law_second"] []) (gU : mg "_law_under" = some (.ref fU)) (GU : FnOk P w K mg base CX0 1 fU dU ["_law_first", "_law_second"] (spLUnder K))
    (mt : mg "tuple" = none) : FnOk P w K mg base CX0 2 f fd ["_law_every", "_law_low", "_law_high"] (spBoxDue K) := by
  refine F.ok scBoxDue (fun vs H Q E h => ?_) (fun cdv A outer s H vs Q E hr h => ?_)
  · obtain ⟨ev, a, b, es, ts, o1, o2, rfl, _⟩ := h
    rfl
  · obtain ⟨ev, a, b, es, ts, o1, o2, rfl, hev, hEv, hF, h1, h2, l1, l2, k⟩ := h
    refine ⟨_, pss_cons (ps_setLc (i := 3) (own := [("_law_option", 4)]) (g := gName 4) (te := tCB (rTup K) (tCons (tVar 4) tNil)) (tt := tTest (tOp (rNotInD K) (tCB (rTup K) (tCons (tVar 4) tNil)) (tVar 0))) rfl scBoxDue.nd rfl rfl (sw_true rfl rfl rfl (by decide +kernel)) (pi_any (pe_newL (pa_cons (pv 1) (pa_cons (pv 2) pa_nil)))) (blkOk_by (N := nBoxDue) (sc := defScope sBoxDue) (by decide +kernel)) (fun _ _ _ _ _ => pg_name (i := 4) scBoxDue.nd rfl (Or.inl rfl))
          (fun _ _ _ _ _ => pts_one (pt_cmpR (op_notInD (room65 hr)) (pe_callTy call_tup (by rfl) mt (by decide +kernel) (pa_cons (pv 4) pa_nil)) (pv 0) (by rfl))) (fun _ _ _ _ _ => pe_callTy call_tup (by rfl) mt (by decide +kernel) (pa_cons (pv 4) pa_nil)))
      (pss_cons (ps_if (pt_cmpR (op_neD hr.units) (pv 3) (pe_newL pa_nil) (nomark _)) (pss_one (ps_ret (pe_newL (pa_cons pe_str (pa_cons (pe_ix ix_list (pv 3) pe_int (fun _ _ => rfl)) pa_nil))))) pss_nil)
      (pss_cons (ps_if (pt_not (pt_val (pe_call GU (hr.mono (by decide)) (by rfl) gU FU.kp bU .nil pass0 (pa_cons (pv 1) (pa_cons (pv 2) pa_nil))))) (pss_one (ps_ret (pe_newL (pa_cons pe_str (pa_cons (pe_callTy call_tup (by rfl) mt (by decide +kernel) (pa_cons (pv 1) pa_nil)) (pa_cons (pe_callTy call_tup (by rfl) mt (by decide +kernel) (pa_cons (pv 2) pa_nil)) pa_nil)))))) pss_nil)
      (pss_one (ps_ret (pe_newL (pa_cons pe_str (pa_cons (pe_lc (own := [("_law_option", 4)]) (g := gName 4) (te := tVar 4) (tt := tAnd (L2.tB (tCall (spLUnder K) [] E0 (tCons (tVar 1) (tCons (tVar 4) tNil)))) (L2.tB (tCall (spLUnder K) [] E0 (tCons (tVar 4) (tCons (tVar 2) tNil))))) rfl scBoxDue.nd (pi_any (pv 0)) (blkOk_by (N := nBoxDue) (sc := defScope sBoxDue) (by decide +kernel)) (fun _ _ _ _ _ => pg_name (i := 4) scBoxDue.nd rfl (Or.inl rfl))
          (fun _ _ _ _ _ => pts_one (PW.pt (pw_and (pt_val (pe_call GU (hr.mono (by decide)) (by rfl) gU FU.kp bU .nil pass0 (pa_cons (pv 1) (pa_cons (pv 4) pa_nil)))) (pw_and1 (pt_val (pe_call GU (hr.mono (by decide)) (by rfl) gU FU.kp bU .nil pass0 (pa_cons (pv 4) (pa_cons (pv 2) pa_nil))))))))
          (fun _ _ _ _ _ => pv 4)) pa_nil))))))), ?_⟩
    refine ⟨_, rfl, _, rfl, (by show 2 ≤ sizeLine; decide), fun l0 H1 s1 n1 e1 => ?_⟩
    have hE1 : Each K H1 [a, b] [o1, o2] := .cons (Same.sqt s1 h1) (.cons (Same.sqt s1 h2) .nil)
    have e1 : H1 l0 = some (.lst ([a, b].map V.ref)) := e1
    refine ⟨l0, true, _, rfl, SqB.L (SqL.of e1), fun D nD => ?_⟩
    refine lc_gen (R := fun H' r o => SqT K H' r (o.map V.int)) (p := fun o => !decide (o ∈ below ts)) (fo := id) (SqB.L (SqL.of e1)) hE1.len (fun i r hr' => by
      obtain ⟨o, ho, h⟩ := hE1.get hr'
      exact ⟨o, ho, fun H' s => Same.sqt s h⟩) (by show 2 ≤ 100000; decide) nD (fun _ => rfl) (fun r o H' Q' ho s hR k => ?_) (fun r o H' Q' ho hp s hR k => ?_) (fun rs' H' s g hB => ?_)
    · refine ⟨_, rfl, r, _, rfl, .inr hR, fun q2 H3 s3 hq2 => ⟨_, rfl, dO o, (below ts).map dO, .tup hq2 (dpInts o), .lst ((s1.trans (s.trans s3)).seq hev) (hEv.same (s1.trans (s.trans s3))).dp, shaped_dO o, shaped_dOl _, _, rfl, ?_⟩⟩
      rw [any_dO]
      exact k H3 s3
    · exact ⟨_, rfl, r, _, rfl, .inr hR, fun q2 H3 s3 hq2 => k q2 H3 s3 hq2⟩
    rw [List.map_id] at hB
    have sE := s1.trans s
    refine ⟨_, rfl, Nat.zero_le _, fun l2 H8 s8 n8 e8 => ?_⟩
    have hB8 := hB.same s8
    have hbo := bad_opt (ts := ts) (os := [o1, o2])
    unfold boxRg at k
    refine ⟨.list ((([o1, o2].filter fun o => !decide (o ∈ below ts))).map dO), .list [], .lst (SqL.of (s8 _ _ g)) hB8.dp, .lst (SqL.of e8) .nil, shaped_dOl _, by decide +kernel, _, rfl, ?_⟩
    cases ef : [o1, o2].filter (fun o => !decide (o ∈ below ts)) with
    | cons o0 ob =>
      refine ite2 (fun _ => ?_) (fun z => absurd rfl z)
      rw [ef] at hbo hB8
      have hbo : badOpt ts [o1, o2] = some o0 := hbo
      rw [hbo] at k
      cases hB8 with
      | cons ho0 _ =>
        exact ⟨_, rfl, D, _, _, _, rfl, rfl, SqL.of (s8 _ _ g), atI_nat (j := 0) rfl, (by show 2 ≤ sizeLine; decide), fun p H9 s9 np ep => k p H9 ((sE.trans s8).trans s9) (.lst (SqL.of ep) (.cons (.str _) (.cons (.tup (Same.sqt s9 ho0) (dpInts _)) .nil)))⟩
    | nil =>
      refine ite2 (fun q => by cases q) (fun _ => ?_)
      rw [ef] at hbo
      have hbo : badOpt ts [o1, o2] = none := hbo
      rw [hbo] at k
      have m1 := bad_none hbo o1 (by simp)
      have m2 := bad_none hbo o2 (by simp)
      have sF := sE.trans s8
      have h3 := hF.1
      refine ⟨_, rfl, _, rfl, a, b, o1, o2, rfl, .inr (Same.sqt sF h1), .inr (Same.sqt sF h2), by omega, by omega, fun H9 s9 => ?_⟩
      have sG := sF.trans s9
      refine ⟨_, rfl, ?_⟩
      by_cases hl : leO o1 o2 = true
      · simp only [hl, if_true] at k
        rw [hl]
        refine ⟨_, rfl, ev, true, _, rfl, SqB.L (sG.seq hev), fun D2 nD2 => ?_⟩
        refine lc_filt (p := fun o => leO o1 o && leO o o2) (SqB.L (sG.seq hev)) (hEv.same sG) (Nat.le_trans (below_few hF) (by decide)) nD2 (fun _ => rfl) (fun _ => rfl) (fun r o H' Q' ho s hr' k => ?_) (fun rs' H' s g' hE' => ?_)
        · have lo := opt_len ho
          refine ⟨_, rfl, _, rfl, a, r, o1, o, rfl, .inr (Same.sqt (sG.trans s) h1), .inr hr', by omega, by omega, fun H2 t2 => ?_⟩
          refine ⟨_, rfl, ?_⟩
          by_cases h3' : leO o1 o = true
          · rw [h3']
            refine iteT ?_
            refine ⟨_, rfl, _, rfl, r, b, o, o2, rfl, .inr (Same.sqt t2 hr'), .inr (Same.sqt ((sG.trans s).trans t2) h2), by omega, by omega, fun H3 t3 => ?_⟩
            refine ⟨_, rfl, ?_⟩
            have z := k H3 (t2.trans t3)
            simp only [h3', Bool.true_and] at z
            exact z
          · have h3' : leO o1 o = false := by simpa using h3'
            rw [h3']
            refine iteF ?_
            have z := k H2 t2
            simp only [h3', Bool.false_and] at z
            exact z
        · exact ⟨by show 2 ≤ sizeLine; decide, fun p H9 s9 np ep => k p H9 ((sG.trans s).trans s9) (.lst (SqL.of ep) (.cons (.str _) (.cons (.lst (SqL.of (s9 _ _ g')) (hE'.same s9).dp) .nil)))⟩
      · simp only [hl, if_false] at k
        have hl' : leO o1 o2 = false := by simpa using hl
        rw [hl']
        refine ⟨_, rfl, a, _, rfl, .inr (Same.sqt sG h1), fun p1 K1 t1 hp1 => ?_⟩
        refine ⟨_, rfl, b, _, rfl, .inr (Same.sqt (sG.trans t1) h2), fun p2 K2 t2 hp2 => ?_⟩
        exact ⟨by show 3 ≤ sizeLine; decide, fun p K3 t3 np ep => k p K3 (((sG.trans t1).trans t2).trans t3) (.lst (SqL.of ep) (.cons (.str _) (.cons (.tup (Same.sqt (t2.trans t3) hp1) (dpInts _)) (.cons (.tup (Same.sqt t3 hp2) (dpInts _)) .nil))))⟩
theorem scFits : FnScope nFits ["_law_region", "_law_every", "_law_rows"] (defScope sFits) := ⟨rfl, rfl, rfl, by decide +kernel, rfl, by decide +kernel, by decide +kernel⟩
theorem ok_fits (F : Fun K "_law_fits" "_law_fits" sFits f fd) (TR : RTxt K R) (IT : ItO P w K mg base R fi "options") (DL : Dun K R "__len__" fl) (GL : FnOk P w K mg base CX0 1 fl dl ["self"] (spRLen K C R)) (bL : Binds K dl ["self"] [])
    (ML : Meth K R "least" fLe) (GLe : FnOk P w K mg base CX0 1 fLe dLe ["self"] (spRLeast K C R false)) (bLe : Binds K dLe ["self"] []) (MG : Meth K R "greatest" fGr) (GGr : FnOk P w K mg base CX0 1 fGr dGr ["self"] (spRLeast K C R true)) (bGr : Binds K dGr ["self"] [])
    (DH : Dun K R "__contains__" fHa) (GH : FnOk P w K mg base CX0 1 fHa dHa ["self", "option"] (spRHas K C R)) (bH : Binds K dHa ["self", "option"] [])
    (mt : mg "tuple" = none) (ml : mg "list" = none) (mn : mg "len" = none) : FnOk P w K mg base CX0 7 f fd ["_law_region", "_law_every", "_law_rows"] (spFits K C R) := by
  refine F.ok scFits (fun vs H Q E h => ?_) (fun cdv A outer s H vs Q E hr h => ?_)
  · obtain ⟨x, ev, l, es, rs, ts, us, rfl, _⟩ := h
    rfl
  · obtain ⟨x, ev, l, es, rs, ts, us, rfl, hX, hev, hEv, hl, hE, hF, h0, ha, hb, k⟩ := h
    refine ⟨_, pss_cons (ps_if (PW.pt (pw_or (pt_cmpR (op_neD hr.units) (pe_fld (pv 0) rfl) (pe_callTy call_tup (by rfl) mt (by decide +kernel) (pa_cons (pv 2) pa_nil)) (nomark _))
          (pw_or (pt_cmpR (op_neD hr.units) (pe_callTy (call_listO IT DL GL bL hr) (by rfl) ml (by decide +kernel) (pa_cons (pv 0) pa_nil)) (pv 2) (nomark _))
          (pw_or1 (pt_cmpR op_ne (pe_callB (call_lenO DL GL bL pass0 (hr.mono (by decide))) (by rfl) mn PySem.boot_len (pa_cons (pv 0) pa_nil)) (pe_callB call_len_seq (by rfl) mn PySem.boot_len (pa_cons (pv 2) pa_nil)) (nomark _))))))
        (pss_one (ps_ret pe_bl)) pss_nil)
      (pss_cons (ps_if (PW.pt (pw_or (pt_cmpR (op_neD hr.units) (pe_meth0 (pv 0) TR.cl ML GLe (hr.mono (by decide)) bLe .nil pass0) (pe_ix ix_list (pv 2) pe_int (fun _ _ => rfl)) (nomark _))
          (pw_or1 (pt_cmpR (op_neD hr.units) (pe_meth0 (pv 0) TR.cl MG GGr (hr.mono (by decide)) bGr .nil pass0) (pe_ix ix_list (pv 2) (pe_un un_neg pe_int) (fun _ _ => rfl)) (nomark _)))))
        (pss_one (ps_ret pe_bl)) pss_nil)
      (pss_one (ps_ret (pe_cmpR (op_eqD hr.units) (pe_lc (own := [("_law_option", 3)]) (g := gName 3) (te := tVar 3) (tt := tTest (tOp (rInO R false (spRHas K C R) E0) (tVar 3) (tVar 0))) rfl scFits.nd (pi_any (pv 1)) (blkOk_by (N := nFits) (sc := defScope sFits) (by decide +kernel)) (fun _ _ _ _ _ => pg_name (i := 3) scFits.nd rfl (Or.inl rfl))
          (fun _ _ _ _ _ => pts_one (pt_cmpR (op_inO DH GH bH pass0 (hr.mono (by decide))) (pv 3) (pv 0) (by rfl))) (fun _ _ _ _ _ => pv 3)) (pv 2) (nomark _))))), ?_⟩
    obtain ⟨dx, gx, px, rx, hx, hGx, hpx, hEx⟩ := id hX
    have hzu : us.length ≤ 1000 := Nat.le_trans (nodup_len us (below ts) ha.nodup hb) (below_few hF)
    refine ⟨_, rfl, x, R, dx, _, _, rfl, hx, TR.cl, TR.nO, rfl, _, rfl, l, _, rfl, .inl hl, fun q1 H1 s1 hq1 => ?_⟩
    refine ⟨.tuple (us.map dO), .tuple (us.map dO), .tup (Same.sqt s1 hpx) (hEx.same s1).dp, .tup hq1 (hE.same s1).dp, shaped_dOs _, shaped_dOs _, _, rfl, ?_⟩
    rw [eqT]
    refine iteF ?_
    refine ⟨_, rfl, ?_⟩
    dsimp only [tNil]
    refine list_reg (hX.same s1) hzu fun q2 rs2 H2 s2 n2 e2 hE2 => ?_
    have s12 := s1.trans s2
    refine ⟨_, rfl, .list (us.map dO), .list (us.map dO), .lst (SqL.of e2) hE2.dp, .lst (s12.seq hl) (hE.same s12).dp, shaped_dOl _, shaped_dOl _, _, rfl, ?_⟩
    rw [eqL]
    refine iteF ?_
    refine ⟨_, rfl, x, dx, _, rfl, s12 _ _ hx, x, ts, us, rfl, hX.same s12, _, rfl, by omega, by omega, ?_⟩
    refine ⟨_, rfl, l, _, rfl, .inl (s12.seq hl), rfl, _, rfl, ?_⟩
    rw [List.length_map, hE.len, show (!decide (V.int ((us.length : Nat) : Int) = V.int ((us.length : Nat) : Int))) = false by simp]
    refine iteF ?_
    obtain ⟨u0, hu0⟩ : ∃ u0, us.head? = some u0 := by
      cases us with
      | nil => exact absurd rfl h0
      | cons a r => exact ⟨a, rfl⟩
    obtain ⟨u1, hu1⟩ : ∃ u1, us.getLast? = some u1 := by
      cases e : us.getLast? with
      | none => exact absurd (List.getLast?_eq_none_iff.mp e) h0
      | some z => exact ⟨z, rfl⟩
    refine ⟨_, rfl, x, dx, _, rfl, s12 _ _ hx, rfl, x, ts, us, u0, rfl, hX.same s12, hzu, hu0, fun p hp => ?_⟩
    have hlE := hE.len
    obtain ⟨r0, hr0, hR0⟩ : ∃ r, rs[0]? = some r ∧ SqT K H2 r (u0.map V.int) := by
      rw [List.head?_eq_getElem?] at hu0
      cases e : rs[0]? with
      | none =>
        rw [List.getElem?_eq_none_iff] at e
        have z := (List.getElem?_eq_some_iff.mp hu0).1
        omega
      | some r =>
        obtain ⟨o', ho', h⟩ := hE.get e
        rw [hu0] at ho'
        cases ho'
        exact ⟨r, rfl, Same.sqt s12 h⟩
    obtain ⟨r1, hr1, hR1⟩ : ∃ r, rs[rs.length - 1]? = some r ∧ SqT K H2 r (u1.map V.int) := by
      rw [List.getLast?_eq_getElem?, ← hlE] at hu1
      cases e : rs[rs.length - 1]? with
      | none =>
        rw [List.getElem?_eq_none_iff] at e
        have z := (List.getElem?_eq_some_iff.mp hu1).1
        omega
      | some r =>
        obtain ⟨o', ho', h⟩ := hE.get e
        rw [hu1] at ho'
        cases ho'
        exact ⟨r, rfl, Same.sqt s12 h⟩
    refine ⟨_, rfl, l, _, _, _, rfl, rfl, s12.seq hl, atI_nat (j := 0) (by rw [List.getElem?_map, hr0]; rfl), ?_⟩
    refine ⟨dO u0, dO u0, .tup hp (dpInts _), .tup hR0 (dpInts _), shaped_dO _, shaped_dO _, _, rfl, ?_⟩
    rw [eqO]
    refine iteF ?_
    refine ⟨_, rfl, x, dx, _, rfl, s12 _ _ hx, rfl, x, ts, us, u1, rfl, hX.same s12, hzu, hu1, fun p2 hp2 => ?_⟩
    refine ⟨_, rfl, _, rfl, l, _, _, _, rfl, rfl, s12.seq hl, atI_end (by rw [List.getLast?_eq_getElem?, List.length_map, List.getElem?_map, hr1]; rfl), ?_⟩
    refine ⟨dO u1, dO u1, .tup hp2 (dpInts _), .tup hR1 (dpInts _), shaped_dO _, shaped_dO _, _, rfl, ?_⟩
    rw [eqO]
    refine iteF ?_
    refine ⟨_, rfl, ev, true, _, rfl, SqB.L (s12.seq hev), fun D nD => ?_⟩
    refine lc_filt (p := fun o => decide (o ∈ us)) (SqB.L (s12.seq hev)) (hEv.same s12) (Nat.le_trans (below_few hF) (by decide)) nD (fun _ => rfl) (fun _ => rfl) (fun r o H' Q' ho s hr' k => ?_) (fun rs' H' s g hE' => ?_)
    · refine ⟨_, rfl, _, rfl, x, dx, _, rfl, (s12.trans s) _ _ hx, x, r, ts, o, us, rfl, hX.same (s12.trans s), .inr hr', fun H3 s3 => ?_⟩
      exact ⟨_, rfl, _, rfl, k H3 s3⟩
    · have e5 : (below ts).filter (fun o => decide (o ∈ us)) = us := asc_same hF ha hb
      rw [e5] at hE'
      have s13 := s12.trans s
      refine ⟨_, rfl, .list (us.map dO), .list (us.map dO), .lst (SqL.of g) hE'.dp, .lst (s13.seq hl) (hE.same s13).dp, shaped_dOl _, shaped_dOl _, ?_⟩
      rw [eqv_dOl, decide_eq_true rfl]
      exact k H' s13
end
end KL

set_option Elab.async false
set_option linter.all false
set_option maxRecDepth 100000
set_option maxHeartbeats 4000000
namespace KL
open PySem PySem.Spec PyProof.Rows L2 NdefX SX
abbrev sLists : Stmt := top 50
abbrev nLists : List Str := ["_law_pool", "_law_grid", "_law_every", "_law_options", "_law_rows", "_law_kept", "_law_which", "_law_option"]
def spLists (K : PySem.W.Frag) (C : Addr) : Sp := fun vs H Q _ => ∃ (p g ev l : Addr) (b : Bool) (es rs : List Addr) (ts : List Int) (os : List (List Int)), vs = [.ref p, .ref g, .ref ev, .ref l] ∧ Bag H p b ∧ GridAt K C H g ts ∧ H ev = some (.lst (es.map V.ref)) ∧ Each K H es (below ts) ∧ H l = some (.lst (rs.map V.ref)) ∧ Each K H rs os ∧
  Few ts ∧ 1 ≤ ts.length ∧ (below ts).length ≤ 16 ∧ os.length < 60 ∧ ∀ H', But p H H' → Bag H' p b → Q (.bl true) H'
abbrev sBoxes : Stmt := top 51
abbrev nBoxes : List Str := ["_law_pool", "_law_grid", "_law_every", "_law_pair", "_law_menu"]
def spBoxes (K : PySem.W.Frag) (C : Addr) : Sp := fun vs H Q _ => ∃ (p g ev : Addr) (b : Bool) (es : List Addr) (ts : List Int), vs = [.ref p, .ref g, .ref ev] ∧ Bag H p b ∧ GridAt K C H g ts ∧ H ev = some (.lst (es.map V.ref)) ∧ Each K H es (below ts) ∧ Few ts ∧ 1 ≤ ts.length ∧
  ∀ H', But p H H' → Bag H' p b → Q (.bl true) H'
section
variable {P : Program} {w : World} {K : PySem.W.Frag} {mg : Str → Option Value} {base : Heap} {f fD fT fU fB fE C : Addr} {fd dD dT dU dB dE : FuncData}
theorem scLists : FnScope nLists ["_law_pool", "_law_grid", "_law_every", "_law_options"] (defScope sLists) := ⟨rfl, rfl, rfl, by decide +kernel, rfl, by decide +kernel, by decide +kernel⟩
theorem scBoxes : FnScope nBoxes ["_law_pool", "_law_grid", "_law_every"] (defScope sBoxes) := ⟨rfl, rfl, rfl, by decide +kernel, rfl, by decide +kernel, by decide +kernel⟩
theorem ok_lists (F : Fun K "_law_lists_fit" "_law_lists_fit" sLists f fd) (FD : Fun K "_law_draw" "_law_draw" sDraw fD dD) (bD : Binds K dD ["_law_pool", "_law_limit"] []) (gD : mg "_law_draw" = some (.ref fD)) (GD : FnOk P w K mg base CX0 1 fD dD ["_law_pool", "_law_limit"] spDraw)
    (FT : Fun K "_law_told_of" "_law_told_of" sToldOf fT dT) (bT : Binds K dT ["_law_which", "_law_grid", "_law_rows"] []) (gT : mg "_law_told_of" = some (.ref fT)) (GT : FnOk P w K mg base CX0 9 fT dT ["_law_which", "_law_grid", "_law_rows"] (spToldOf K C))
    (FU : Fun K "_law_due_of" "_law_due_of" sDueOf fU dU) (bU : Binds K dU ["_law_which", "_law_every", "_law_rows"] []) (gU : mg "_law_due_of" = some (.ref fU)) (GU : FnOk P w K mg base CX0 4 fU dU ["_law_which", "_law_every", "_law_rows"] (spDueOf K))
    (mt : mg "tuple" = none) (ml : mg "list" = none) (mr : mg "range" = none) : FnOk P w K mg base CX0 10 f fd ["_law_pool", "_law_grid", "_law_every", "_law_options"] (spLists K C) := by
  refine F.ok scLists (fun vs H Q E h => ?_) (fun cdv A outer s H vs Q E hr h => ?_)
  · obtain ⟨p, g, ev, l, b, es, rs, ts, os, rfl, _⟩ := h
    rfl
  · obtain ⟨p, g, ev, l, b, es, rs, ts, os, rfl, hB, hG, hev, hEv, hl, hE, hF, h1, h16, hz, k⟩ := h
    have hr1 : Room 1 _ := hr.mono (j := 1) (by decide)
    refine ⟨_, pss_cons (ps_setLc (i := 4) (own := [("_law_option", 7)]) (g := gName 7) (tt := tYes) (te := tIf (tTest (tOp rEq (tCall spDraw [] E0 (tCons (tVar 0) (tCons (tC (.int 3)) tNil))) (tC (.int 0)))) (tCB (rListW K) (tCons (tVar 7) tNil)) (tVar 7)) rfl scLists.nd rfl rfl (sw_true rfl rfl rfl (by decide +kernel)) (pi_any (pv 3)) (blkOk_by (N := nLists) (sc := defScope sLists) (by decide +kernel)) (fun _ _ _ _ _ => pg_name (i := 7) scLists.nd rfl (Or.inl rfl)) (fun _ _ _ _ _ => pts_nil)
          (fun _ _ _ _ _ => pe_ifExp (pt_cmpR op_eq (pe_call GD hr1 (by rfl) gD FD.kp bD .nil pass0 (pa_cons (pv 0) (pa_cons pe_int pa_nil))) pe_int (nomark _)) (pe_callTy call_listW (by rfl) ml (by decide +kernel) (pa_cons (pv 7) pa_nil)) (pv 7)))
      (pss_cons (ps_setLc (i := 5) (own := [("_law_option", 7)]) (g := gName 7) (tt := tYes) (te := tCB (rTup K) (tCons (tVar 7) tNil)) rfl scLists.nd rfl rfl (sw_true rfl rfl rfl (by decide +kernel)) (pi_any (pv 4)) (blkOk_by (N := nLists) (sc := defScope sLists) (by decide +kernel)) (fun _ _ _ _ _ => pg_name (i := 7) scLists.nd rfl (Or.inl rfl)) (fun _ _ _ _ _ => pts_nil)
          (fun _ _ _ _ _ => pe_callTy call_tup (by rfl) mt (by decide +kernel) (pa_cons (pv 7) pa_nil)))
      (pss_cons (ps_for PassesOwn.never rfl (pi_range1 rfl mr (pa_cons pe_int pa_nil)) (pg_name (i := 6) scLists.nd rfl (Or.inl rfl))
        (pss_cons (ps_if (pt_cmpR (op_neD hr.units) (pe_call GT (hr.mono (by decide)) (by rfl) gT FT.kp bT .nil pass0 (pa_cons (pv 6) (pa_cons (pv 1) (pa_cons (pv 4) pa_nil)))) (pe_call GU (hr.mono (by decide)) (by rfl) gU FU.kp bU .nil pass0 (pa_cons (pv 6) (pa_cons (pv 2) (pa_cons (pv 5) pa_nil)))) (nomark _)) (pss_one (ps_ret pe_bl)) pss_nil)
        (pss_one (ps_if (pt_cmpR (op_neD hr.units) (pe_lc (own := [("_law_option", 7)]) (g := gName 7) (tt := tYes) (te := tCB (rTup K) (tCons (tVar 7) tNil)) rfl scLists.nd (pi_any (pv 4)) (blkOk_by (N := nLists) (sc := defScope sLists) (by decide +kernel)) (fun _ _ _ _ _ => pg_name (i := 7) scLists.nd rfl (Or.inl rfl)) (fun _ _ _ _ _ => pts_nil)
          (fun _ _ _ _ _ => pe_callTy call_tup (by rfl) mt (by decide +kernel) (pa_cons (pv 7) pa_nil))) (pv 5) (nomark _)) (pss_one (ps_ret pe_bl)) pss_nil))))
      (pss_one (ps_ret pe_bl)))), ?_⟩
    refine ⟨_, rfl, l, true, _, rfl, SqB.L (SqL.of hl), fun D nD => ?_⟩
    have nDp : D ≠ p := hB.ne nD
    refine lc_it (walk_any (K := K) (p := true) (a := l) (xs := rs.map V.ref)) (fun i H' => But p H H' ∧ Bag H' p b ∧ ∃ rs', H' D = some (.lst (rs'.map V.ref)) ∧ RowsAt K H' rs' (os.take i)) ⟨Same.but (same_upd nD), hB.same (same_upd nD), [], upd_same, rfl, fun i r o h1 h2 => by cases h1⟩ (fun i H' _ ⟨s, hB', _⟩ => SqB.L (SqL.of (but_lst hB s hl))) ?_ ?_
    · rintro i y H2 H' hi ⟨b2, hB2, rs', gD, hR⟩ ⟨rfl, hy⟩
      obtain ⟨r, rfl, hr'⟩ := at_refX hy
      obtain ⟨o, ho, hro⟩ := (but_each hB b2 hE).get hr'
      have lr : rs'.length ≤ os.length := by rw [hR.1, List.length_take]; exact Nat.min_le_right _ _
      refine ⟨rfl, ?_⟩
      refine ⟨_, rfl, p, _, b, rfl, hB2, by decide, by decide, fun d H3 d0 d3 b3 hB3 => ⟨rfl, _, rfl, ?_⟩⟩
      have hR3 := hR.but hB2 b3
      have gD3 := but_lst hB2 b3 gD
      have hro3 := but_sqT hB2 b3 hro
      have b13 := b2.trans b3
      refine ite2 (fun _ => ?_) (fun _ => ?_)
      · refine ⟨_, rfl, r, _, rfl, .inr hro3, fun q4 H4 s4 n4 e4 => ?_⟩
        have gD4 := s4 _ _ gD3
        have nq : q4 ≠ D := fun z => by rw [z, gD3] at n4; cases n4
        refine ⟨_, gD4, by rw [List.length_map, sizeLine_eq]; omega, ?_⟩
        have bU : But p H (upd H4 D (.lst (rs'.map V.ref ++ [V.ref q4]))) := fun c u e n => by
          rw [upd_ne (fun z => by rw [z, nD] at e; cases e)]
          exact s4 _ _ (b13 _ _ e n)
        refine ⟨bU, ?_, rs' ++ [q4], by rw [upd_same, List.map_append]; rfl, ?_⟩
        · obtain ⟨c, n, hb⟩ := hB3.same s4
          exact ⟨c, n, by rw [upd_ne nDp.symm]; exact hb⟩
        · rw [List.take_add_one, ho]
          exact ((hR3.same s4).upd gD4).snoc (.inr (by rw [upd_ne nq]; exact e4))
      · refine ⟨_, rfl, ?_⟩
        refine ⟨_, gD3, by rw [List.length_map, sizeLine_eq]; omega, ?_⟩
        have bU : But p H (upd H3 D (.lst (rs'.map V.ref ++ [V.ref r]))) := fun c u e n => by
          rw [upd_ne (fun z => by rw [z, nD] at e; cases e)]
          exact b13 _ _ e n
        refine ⟨bU, ?_, rs' ++ [r], by rw [upd_same, List.map_append]; rfl, ?_⟩
        · obtain ⟨c, n, hb⟩ := hB3
          exact ⟨c, n, by rw [upd_ne nDp.symm]; exact hb⟩
        · rw [List.take_add_one, ho]
          exact (hR3.upd gD3).snoc (.inl (sqT_ne gD3 (fun _ z => nomatch z) (fun _ _ z => nomatch z) (fun c u e n => by rw [upd_ne n]; exact e) hro3))
    · rintro H2 ⟨b2, hB2, rs', gD, hR⟩
      rw [List.length_map, hE.len, List.take_length] at hR
      have hG2 := grid_but hB b2 hG
      have hev2 := but_lst hB b2 hev
      have hEv2 := but_each hB b2 hEv
      have hO := hR.opts
      have hOl := hO.len
      have tup : ∀ {H3 : Hp} {σ : L2.St} {Qd : V → Hp → Prop}, Same H2 H3 → (∀ r : Addr, wipe ((wipe σ [7]).set 7 (some (.ref r))) [7] = wipe σ [7]) → (∀ r : Addr, ((wipe σ [7]).set 7 (some (.ref r)))[7]? = some (some (.ref r))) → σ[4]? = some (some (.ref D)) → (∀ (D3 : Addr) (ks : List Addr) H4, Same H3 H4 → H4 D3 = some (.lst (ks.map V.ref)) → Each K H4 ks os → Qd (.ref D3) H4) →
          tLc (iAny K (tVar 4)) (gName 7) tYes (tCB (rTup K) (tCons (tVar 7) tNil)) [7] σ H3 Qd := by
        intro H3 σ Qd s3 hw hj h4 done
        refine ⟨_, h4, D, true, _, rfl, SqB.L (SqL.of (s3 _ _ gD)), fun D3 nD3 => ?_⟩
        refine lc_gen (R := fun H' r o => SqA K H' r (o.map V.int)) (p := fun _ => true) (fo := id) (SqB.L (SqL.of (s3 _ _ gD))) hOl (fun i r hr' => by
          obtain ⟨o, ho, h⟩ := (hO.same s3).get hr'
          exact ⟨o, ho, fun H' s => sqA_same s h⟩) (by omega) nD3 hw (fun r o H' Q' ho s hR k => k H' (Same.refl _)) (fun r o H' Q' ho hp s hR k => ⟨_, hj r, r, _, rfl, hR, fun q2 H3 s3 hq2 => k q2 H3 s3 hq2⟩) (fun ks H4 s4 g4 hE4 => ?_)
        rw [List.map_id, List.filter_eq_self.mpr (fun _ _ => rfl)] at hE4
        exact done D3 ks H4 s4 g4 hE4
      dsimp only [gName, tSeq, tAsg]
      refine tup (σ := [some (.ref p), some (.ref g), some (.ref ev), some (.ref l), some (.ref D), none, none, none]) (Same.refl H2) (fun _ => rfl) (fun _ => rfl) rfl fun D3 ks H3 s3 g3 hK3 => ?_
      refine ⟨2, rfl, by decide, by decide, ?_⟩
      refine for_range (lo := 0) (n := 2) (fun i σ H' => ∃ u6 : Option V, σ = [some (.ref p), some (.ref g), some (.ref ev), some (.ref l), some (.ref D), some (.ref D3), u6, none] ∧ Same H3 H') ⟨none, rfl, Same.refl H3⟩ ?_ ?_
      · rintro i σ H4 hi ⟨u6, rfl, s4⟩
        have s24 := s3.trans s4
        refine ⟨_, rfl, _, rfl, _, rfl, 0 + (i : Int), g, D, rs', ts, os, rfl, by omega, hG2.same s24, hF, h16, SqL.of (s24 _ _ gD), hO.same s24, by omega, fun r1 hr1' p1 H5 s5 d1 => ?_⟩
        refine ⟨_, rfl, _, rfl, _, rfl, 0 + (i : Int), ev, D3, es, ks, ts, os, rfl, by omega, SqL.of ((s24.trans s5) _ _ hev2), hEv2.same (s24.trans s5), SqL.of ((s4.trans s5) _ _ g3), hK3.same (s4.trans s5), hF, h1, h16, hz, fun r2 hr2' p2 H6 s6 d2 => ?_⟩
        obtain rfl := res_uniq hr1' hr2'
        refine ⟨resRg r1, resRg r1, dpS s6 d1, d2, shapedRg r1, shapedRg r1, _, rfl, ?_⟩
        rw [eqvSelf (shapedRg r1)]
        refine iteF ?_
        have s26 := s24.trans (s5.trans s6)
        dsimp only [tNext, tIfS, tTest, tOp]
        refine tup (σ := [some (.ref p), some (.ref g), some (.ref ev), some (.ref l), some (.ref D), some (.ref D3), some (.int (0 + (i : Int))), none]) s26 (fun _ => rfl) (fun _ => rfl) rfl fun D5 ks5 H7 s7 g7 hK7 => ?_
        have s37 := s4.trans (s5.trans (s6.trans s7))
        refine ⟨_, rfl, .list (os.map dO), .list (os.map dO), .lst (SqL.of g7) hK7.dp, .lst (SqL.of (s37 _ _ g3)) (hK3.same s37).dp, shaped_dOl _, shaped_dOl _, _, rfl, ?_⟩
        rw [eqL]
        refine iteF ?_
        exact ⟨_, rfl, s37⟩
      · rintro σ H4 ⟨u6, rfl, s4⟩
        exact k H4 (b2.trans (Same.but (s3.trans s4))) (hB2.same (s3.trans s4))
end
end KL

set_option Elab.async false
set_option linter.all false
set_option maxRecDepth 100000
set_option maxHeartbeats 4000000
namespace KL
open PySem PySem.Spec PyProof.Rows L2 NdefX SX
/-- a row of n ints -/
def RowN (K : PySem.W.Frag) (H : Hp) (n : Nat) (r : Addr) : Prop := ∃ o : List Int, o.length = n ∧ SqT K H r (o.map V.int)
theorem RowN.same {K : PySem.W.Frag} {H H' : Hp} {n : Nat} {r : Addr} (s : Same H H') (h : RowN K H n r) : RowN K H' n r := by
  obtain ⟨o, hl, h⟩ := h
  exact ⟨o, hl, Same.sqt s h⟩
theorem RowN.but {K : PySem.W.Frag} {H H' : Hp} {n : Nat} {p r : Addr} {b : Bool} (hB : Bag H p b) (s : But p H H') (h : RowN K H n r) : RowN K H' n r := by
  obtain ⟨o, hl, h⟩ := h
  exact ⟨o, hl, but_sqT hB s h⟩
theorem RowN.upd {K : PySem.W.Frag} {H : Hp} {n : Nat} {D r : Addr} {xs ys : List V} (gD : H D = some (.lst xs)) (h : RowN K H n r) : RowN K (upd H D (.lst ys)) n r := by
  obtain ⟨o, hl, h⟩ := h
  exact ⟨o, hl, sqT_ne gD (fun _ z => nomatch z) (fun _ _ z => nomatch z) (fun c u e n => by rw [upd_ne n]; exact e) h⟩
section
variable {P : Program} {w : World} {K : PySem.W.Frag} {mg : Str → Option Value} {base : Heap} {f fD fT fU C : Addr} {fd dD dT dU : FuncData}
theorem ok_boxes (F : Fun K "_law_boxes_fit" "_law_boxes_fit" sBoxes f fd) (FD : Fun K "_law_draw" "_law_draw" sDraw fD dD) (bD : Binds K dD ["_law_pool", "_law_limit"] []) (gD : mg "_law_draw" = some (.ref fD)) (GD : FnOk P w K mg base CX0 1 fD dD ["_law_pool", "_law_limit"] spDraw)
    (FT : Fun K "_law_box_of" "_law_box_of" sBoxOf fT dT) (bT : Binds K dT ["_law_grid", "_law_low", "_law_high"] []) (gT : mg "_law_box_of" = some (.ref fT)) (GT : FnOk P w K mg base CX0 9 fT dT ["_law_grid", "_law_low", "_law_high"] (spBoxOf K C))
    (FU : Fun K "_law_box_due" "_law_box_due" sBoxDue fU dU) (bU : Binds K dU ["_law_every", "_law_low", "_law_high"] []) (gU : mg "_law_box_due" = some (.ref fU)) (GU : FnOk P w K mg base CX0 2 fU dU ["_law_every", "_law_low", "_law_high"] (spBoxDue K))
    (ml : mg "list" = none) (mn : mg "len" = none) : FnOk P w K mg base CX0 10 f fd ["_law_pool", "_law_grid", "_law_every"] (spBoxes K C) := by
  refine F.ok scBoxes (fun vs H Q E h => ?_) (fun cdv A outer s H vs Q E hr h => ?_)
  · obtain ⟨p, g, ev, b, es, ts, rfl, _⟩ := h
    rfl
  · obtain ⟨p, g, ev, b, es, ts, rfl, hB, hG, hev, hEv, hF, h1, k⟩ := h
    have hr1 : Room 1 _ := hr.mono (j := 1) (by decide)
    refine ⟨_, pss_cons (ps_set (i := 3) scBoxes.nd rfl (Or.inl rfl) (pe_newL (pa_cons (pe_ix ix_list (pv 2) (pe_call GD hr1 (by rfl) gD FD.kp bD .nil pass0 (pa_cons (pv 0) (pa_cons (pe_callB call_len_seq (by rfl) mn PySem.boot_len (pa_cons (pv 2) pa_nil)) pa_nil))) (fun _ _ => rfl))
          (pa_cons (pe_ix ix_list (pv 2) (pe_call GD hr1 (by rfl) gD FD.kp bD .nil pass0 (pa_cons (pv 0) (pa_cons (pe_callB call_len_seq (by rfl) mn PySem.boot_len (pa_cons (pv 2) pa_nil)) pa_nil))) (fun _ _ => rfl)) pa_nil))))
      (pss_cons (ps_set (i := 4) scBoxes.nd rfl (Or.inl rfl) (pe_newL (pa_cons (pe_ix ix_list (pv 3) pe_int (fun _ _ => rfl)) (pa_cons (pe_ix ix_list (pv 3) pe_int (fun _ _ => rfl)) (pa_cons (pe_ix ix_list (pv 2) (pe_un un_neg pe_int) (fun _ _ => rfl))
          (pa_cons (pe_op op_catU (pe_newT (pa_cons pe_int pa_nil)) (pe_slice sl_tupU (pe_ix ix_list (pv 2) pe_int (fun _ _ => rfl)) (po_some pe_int) po_none)) pa_nil))))))
      (pss_cons (ps_asg (pe_ix ix_list (pv 4) (pe_call GD hr1 (by rfl) gD FD.kp bD .nil pass0 (pa_cons (pv 0) (pa_cons pe_int pa_nil))) (fun _ _ => rfl)) (pg_sub (pv 3) (pe_call GD hr1 (by rfl) gD FD.kp bD .nil pass0 (pa_cons (pv 0) (pa_cons pe_int pa_nil))) set_list))
      (pss_cons (ps_if (pt_cmpR op_eq (pe_call GD hr1 (by rfl) gD FD.kp bD .nil pass0 (pa_cons (pv 0) (pa_cons pe_int pa_nil))) pe_int (nomark _)) (pss_one (ps_set (i := 3) scBoxes.nd rfl (Or.inl rfl) (pe_newL
          (pa_cons (pe_op op_catU (pe_newT (pa_cons pe_int pa_nil)) (pe_slice sl_tupU (pe_ix ix_list (pv 2) pe_int (fun _ _ => rfl)) (po_some pe_int) po_none)) (pa_cons (pe_op op_catU (pe_newT (pa_cons pe_int pa_nil)) (pe_slice sl_tupU (pe_ix ix_list (pv 2) pe_int (fun _ _ => rfl)) (po_some pe_int) po_none)) pa_nil))))) pss_nil)
      (pss_one (ps_ret (pe_cmpR (op_eqD hr.units) (pe_call GT (hr.mono (by decide)) (by rfl) gT FT.kp bT .nil pass0 (pa_cons (pv 1) (pa_cons (pe_ix ix_list (pv 3) pe_int (fun _ _ => rfl)) (pa_cons (pe_callTy call_listW (by rfl) ml (by decide +kernel) (pa_cons (pe_ix ix_list (pv 3) pe_int (fun _ _ => rfl)) pa_nil)) pa_nil))))
          (pe_call GU (hr.mono (by decide)) (by rfl) gU FU.kp bU .nil pass0 (pa_cons (pv 2) (pa_cons (pe_ix ix_list (pv 3) pe_int (fun _ _ => rfl)) (pa_cons (pe_ix ix_list (pv 3) pe_int (fun _ _ => rfl)) pa_nil)))) (nomark _))))))), ?_⟩
    have hle := hEv.len
    have hpos := below_pos hF
    have hbf := below_few hF
    have h3 := hF.1
    have pick : ∀ (k : Nat) (H' : Hp), Each K H' es (below ts) → k < es.length → ∃ r, es[k]? = some r ∧ RowN K H' ts.length r := fun k H' hE hk => by
      have e : es[k]? = some es[k] := List.getElem?_eq_getElem hk
      obtain ⟨o, ho, h⟩ := hE.get e
      exact ⟨_, e, o, opt_len (List.mem_of_getElem? ho), h⟩
    have odd : ∀ (z : Int) (r : Addr) (o : List Int) (H' : Hp) (t6 t7 : Addr) (Q' : VK), o.length = ts.length → SqT K H' t6 [V.int z] → SqT K H' t7 (cutV (o.map V.int) (some 1) none) → (∀ t8 H8, Same H' H8 → RowN K H8 ts.length t8 → Q' (.ref t8) H8) → rCatU K (.ref t6) (.ref t7) H' Q' := fun z r o H' t6 t7 Q' hl h6 h7 k => by
      rw [cut_tl, ← List.map_drop] at h7
      refine ⟨t6, t7, _, _, rfl, rfl, h6, h7, ?_, fun t8 H8 s8 h8 => k t8 H8 s8 ⟨z :: o.drop 1, ?_, h8⟩⟩
      · rw [List.length_map, List.length_drop, sizeLine_eq]
        show 1 + _ ≤ _
        omega
      · rw [List.length_cons, List.length_drop]
        omega
    -- the pair
    refine ⟨_, rfl, _, rfl, _, rfl, ev, _, rfl, .inl (SqL.of hev), p, _, b, rfl, hB, by rw [List.length_map]; omega, by rw [List.length_map]; omega, fun d1 H1 d10 d11 b1 hB1 => ?_⟩
    rw [List.length_map] at d11
    obtain ⟨k1, rfl⟩ := Int.eq_ofNat_of_zero_le d10
    have ev1 := but_lst hB b1 hev
    have hEv1 := but_each hB b1 hEv
    obtain ⟨r1, er1, hr1'⟩ := pick k1 H1 hEv1 (by omega)
    refine ⟨ev, _, _, _, rfl, rfl, SqL.of ev1, atI_nat (j := k1) (by rw [List.getElem?_map, er1]; rfl), ?_⟩
    refine ⟨_, rfl, _, rfl, _, rfl, ev, _, rfl, .inl (SqL.of ev1), p, _, b, rfl, hB1, by rw [List.length_map]; omega, by rw [List.length_map]; omega, fun d2 H2 d20 d21 b2 hB2 => ?_⟩
    rw [List.length_map] at d21
    obtain ⟨k2, rfl⟩ := Int.eq_ofNat_of_zero_le d20
    have ev2 := but_lst hB1 b2 ev1
    have hEv2 := but_each hB1 b2 hEv1
    obtain ⟨r2, er2, hr2'⟩ := pick k2 H2 hEv2 (by omega)
    refine ⟨ev, _, _, _, rfl, rfl, SqL.of ev2, atI_nat (j := k2) (by rw [List.getElem?_map, er2]; rfl), ?_⟩
    have hr12 := hr1'.but hB1 b2
    have b02 := b1.trans b2
    have hG2 := grid_but hB b02 hG
    refine ⟨(by show 2 ≤ sizeLine; decide), fun pr H3 s3 n3 e3 => ?_⟩
    have npr : pr ≠ p := hB2.ne n3
    -- the menu
    obtain ⟨r0, er0, o0, ho0, hr0⟩ := pick 0 H3 (hEv2.same s3) (by omega)
    obtain ⟨rl, erl, hrl⟩ := pick (es.length - 1) H3 (hEv2.same s3) (by omega)
    have at0 : atI (es.map V.ref) 0 = some (.ref r0) := atI_nat (j := 0) (by rw [List.getElem?_map, er0]; rfl)
    refine ⟨_, rfl, pr, _, _, _, rfl, rfl, SqL.of e3, atI_nat (j := 0) rfl, _, rfl, pr, _, _, _, rfl, rfl, SqL.of e3, atI_nat (j := 1) rfl, _, rfl, _, rfl, ev, _, _, _, rfl, rfl, SqL.of (s3 _ _ ev2), atI_end (by rw [List.getLast?_eq_getElem?, List.length_map, List.getElem?_map, erl]; rfl), ?_⟩
    refine ⟨(by show 1 ≤ sizeLine; decide), fun t6 H6 s6 n6 e6 => ?_⟩
    refine ⟨_, rfl, ev, _, _, _, rfl, rfl, SqL.of ((s3.trans s6) _ _ ev2), at0, _, rfl, r0, _, rfl, Same.sqt s6 hr0, fun t7 H7 s7 h7 => ?_⟩
    refine odd 10 r0 o0 H7 t6 t7 _ ho0 (.inl (.inl (s7 _ _ e6))) h7 fun t8 H8 s8 h8 => ?_
    refine ⟨(by show 4 ≤ sizeLine; decide), fun mu H9 s9 n9 e9 => ?_⟩
    have s39 := s6.trans (s7.trans (s8.trans s9))
    have hB9 := (hB2.same s3).same s39
    have nmu : mu ≠ p := ((hB2.same s3).same (s6.trans (s7.trans s8))).ne n9
    have e39 := s39 _ _ e3
    have nmp : mu ≠ pr := fun z => by
      rw [z] at n9
      rw [(s6.trans (s7.trans s8)) _ _ e3] at n9
      cases n9
    have hmu : ∀ v, v ∈ [r1, r2, rl, t8] → RowN K H9 ts.length v := fun v hv => by
      rcases List.mem_cons.mp hv with rfl | hv
      · exact (hr12.same s3).same s39
      rcases List.mem_cons.mp hv with rfl | hv
      · exact (hr2'.same s3).same s39
      rcases List.mem_cons.mp hv with rfl | hv
      · exact hrl.same s39
      rw [List.mem_singleton.mp hv]
      exact h8.same s9
    have e9 : H9 mu = some (.lst ([r1, r2, rl, t8].map V.ref)) := e9
    -- pair[..] = menu[..]
    refine ⟨_, rfl, _, rfl, p, 4, b, rfl, hB9, by decide, by decide, fun d4 HA d40 d41 bA hBA => ?_⟩
    obtain ⟨k4, rfl⟩ := Int.eq_ofNat_of_zero_le d40
    obtain ⟨v4, ev4⟩ : ∃ v, ([r1, r2, rl, t8] : List Addr)[k4]? = some v := ⟨_, List.getElem?_eq_getElem (show k4 < 4 by omega)⟩
    have hv4 := (hmu v4 (List.mem_of_getElem? ev4)).but hB9 bA
    refine ⟨mu, _, _, _, rfl, rfl, SqL.of (but_lst hB9 bA e9), atI_nat (j := k4) (by rw [List.getElem?_map, ev4]; rfl), ?_⟩
    refine ⟨_, rfl, _, rfl, p, 2, b, rfl, hBA, by decide, by decide, fun d5 HB' d50 d51 bB hBB => ?_⟩
    obtain ⟨k5, rfl⟩ := Int.eq_ofNat_of_zero_le d50
    have eB : HB' pr = some (.lst ([r1, r2].map V.ref)) := but_lst hBA bB (but_lst hB9 bA e39)
    have bAll : But p H HB' := (b02.trans (Same.but (s3.trans s39))).trans (bA.trans bB)
    have hGB : GridAt K C HB' g ts := grid_but hB bAll hG
    have evB := but_lst hB bAll hev
    have hEB := but_each hB bAll hEv
    have hrow1 : RowN K HB' ts.length r1 := (((hr12.same s3).same s39).but hB9 bA).but hBA bB
    have hrow2 : RowN K HB' ts.length r2 := (((hr2'.same s3).same s39).but hB9 bA).but hBA bB
    have hrowv : RowN K HB' ts.length v4 := hv4.but hBA bB
    have hset : ∃ ra rb, RowN K HB' ts.length ra ∧ RowN K HB' ts.length rb ∧ ([r1, r2].map V.ref).set k5 (.ref v4) = [.ref ra, .ref rb] := by
      match k5, d51 with
      | 0, _ => exact ⟨v4, r2, hrowv, hrow2, rfl⟩
      | 1, _ => exact ⟨r1, v4, hrow1, hrowv, rfl⟩
      | k + 2, h => exact absurd h (by omega)
    obtain ⟨ra, rb, hra, hrb, eset⟩ := hset
    refine ⟨pr, _, (k5 : Int), k5, rfl, rfl, eB, (show ixN ([r1, r2].map V.ref).length (k5 : Int) = some k5 by unfold ixN; rw [if_pos (by omega), if_pos (by show (k5 : Int) < 2; omega)]; rfl), ?_⟩
    rw [eset]
    have hra := hra.upd (ys := [V.ref ra, V.ref rb]) eB
    have hrb := hrb.upd (ys := [V.ref ra, V.ref rb]) eB
    have eC : (upd HB' pr (.lst [V.ref ra, V.ref rb])) pr = some (.lst ([ra, rb].map V.ref)) := upd_same
    have hn3 : H pr = none := by
      cases e : H pr with
      | none => rfl
      | some o => rw [b02 _ _ e npr] at n3; cases n3
    have bC : But p H (upd HB' pr (.lst [V.ref ra, V.ref rb])) := fun c u e n => by
      rw [upd_ne (ne_of_none e hn3)]
      exact bAll _ _ e n
    have hBC : Bag (upd HB' pr (.lst [V.ref ra, V.ref rb])) p b := by
      obtain ⟨c, n, hb⟩ := hBB
      exact ⟨c, n, by rw [upd_ne npr.symm]; exact hb⟩
    generalize upd HB' pr (.lst [V.ref ra, V.ref rb]) = HC at hra hrb eC bC hBC ⊢
    refine ⟨_, rfl, p, 6, b, rfl, hBC, by decide, by decide, fun d6 HD d60 d61 bD6 hBD => ⟨rfl, _, rfl, ?_⟩⟩
    have eD := but_lst hBC bD6 eC
    have bHD := bC.trans bD6
    have evD := but_lst hB bHD hev
    have hED := but_each hB bHD hEv
    have hGD := grid_but hB bHD hG
    refine ite2 (fun _ => ?_) (fun _ => ?_)
    · obtain ⟨r0, er0, o0, ho0, hr0⟩ := pick 0 HD hED (by omega)
      have at0 : atI (es.map V.ref) 0 = some (.ref r0) := atI_nat (j := 0) (by rw [List.getElem?_map, er0]; rfl)
      refine ⟨(by show 1 ≤ sizeLine; decide), fun t6 H6 s6 n6 e6 => ?_⟩
      refine ⟨_, rfl, ev, _, _, _, rfl, rfl, SqL.of (s6 _ _ evD), at0, _, rfl, r0, _, rfl, Same.sqt s6 hr0, fun t7 H7 s7 h7 => ?_⟩
      refine odd 11 r0 o0 H7 t6 t7 _ ho0 (.inl (.inl (s7 _ _ e6))) h7 fun t8 H8 s8 h8 => ?_
      have s68 := s6.trans (s7.trans s8)
      refine ⟨(by show 1 ≤ sizeLine; decide), fun t6 H9 s9 n6 e6 => ?_⟩
      refine ⟨_, rfl, ev, _, _, _, rfl, rfl, SqL.of ((s68.trans s9) _ _ evD), at0, _, rfl, r0, _, rfl, Same.sqt (s68.trans s9) hr0, fun t7 HE s7' h7 => ?_⟩
      refine odd 10 r0 o0 HE t6 t7 _ ho0 (.inl (.inl (s7' _ _ e6))) h7 fun t9 HF' s8' h9 => ?_
      refine ⟨(by show 2 ≤ sizeLine; decide), fun pr2 HG' s9' n9' e9' => ?_⟩
      have sDG := (s68.trans s9).trans (s7'.trans (s8'.trans s9'))
      obtain ⟨oa, la, ha⟩ := h8.same (s9.trans (s7'.trans (s8'.trans s9')))
      obtain ⟨ob, lb, hb⟩ := h9.same s9'
      have eG : HG' pr2 = some (.lst ([t8, t9].map V.ref)) := e9'
      have hGG := hGD.same sDG
      have evG := sDG _ _ evD
      have hEG := hED.same sDG
      have bG := bHD.trans (Same.but sDG)
      have hBG := hBD.same sDG
      refine ⟨_, rfl, _, rfl, pr2, _, _, _, rfl, rfl, SqL.of eG, atI_nat (j := 0) rfl, _, rfl, pr2, _, _, _, rfl, rfl, SqL.of eG, atI_nat (j := 1) rfl, t9, _, rfl, .inr hb, fun lq K1 t1 nq eq => ?_⟩
      refine ⟨g, t8, lq, ts, oa, ob, rfl, (hGG).same t1, hF, .inr (Same.sqt t1 ha), .inl (SqL.of eq), fun p1 K2 t2 d1 => ?_⟩
      have t12 := t1.trans t2
      refine ⟨_, rfl, _, rfl, pr2, _, _, _, rfl, rfl, SqL.of (t12 _ _ eG), atI_nat (j := 0) rfl, _, rfl, pr2, _, _, _, rfl, rfl, SqL.of (t12 _ _ eG), atI_nat (j := 1) rfl, ?_⟩
      refine ⟨ev, t8, t9, es, ts, oa, ob, rfl, SqL.of (t12 _ _ evG), (hEG).same t12, hF, Same.sqt t12 ha, Same.sqt t12 hb, la, lb, fun p2 K3 t3 d2 => ?_⟩
      refine ⟨resRg (boxRg ts oa ob), resRg (boxRg ts oa ob), dpS t3 d1, d2, shapedRg _, shapedRg _, ?_⟩
      rw [eqvSelf (shapedRg _)]
      exact k K3 ((bG).trans (Same.but (t12.trans t3))) ((hBG).same (t12.trans t3))
    · obtain ⟨oa, la, ha⟩ := hra.but hBC bD6
      obtain ⟨ob, lb, hb⟩ := hrb.but hBC bD6
      refine ⟨_, rfl, _, rfl, pr, _, _, _, rfl, rfl, SqL.of eD, atI_nat (j := 0) rfl, _, rfl, pr, _, _, _, rfl, rfl, SqL.of eD, atI_nat (j := 1) rfl, rb, _, rfl, .inr hb, fun lq K1 t1 nq eq => ?_⟩
      refine ⟨g, ra, lq, ts, oa, ob, rfl, (hGD).same t1, hF, .inr (Same.sqt t1 ha), .inl (SqL.of eq), fun p1 K2 t2 d1 => ?_⟩
      have t12 := t1.trans t2
      refine ⟨_, rfl, _, rfl, pr, _, _, _, rfl, rfl, SqL.of (t12 _ _ eD), atI_nat (j := 0) rfl, _, rfl, pr, _, _, _, rfl, rfl, SqL.of (t12 _ _ eD), atI_nat (j := 1) rfl, ?_⟩
      refine ⟨ev, ra, rb, es, ts, oa, ob, rfl, SqL.of (t12 _ _ evD), (hED).same t12, hF, Same.sqt t12 ha, Same.sqt t12 hb, la, lb, fun p2 K3 t3 d2 => ?_⟩
      refine ⟨resRg (boxRg ts oa ob), resRg (boxRg ts oa ob), dpS t3 d1, d2, shapedRg _, shapedRg _, ?_⟩
      rw [eqvSelf (shapedRg _)]
      exact k K3 ((bHD).trans (Same.but (t12.trans t3))) ((hBD).same (t12.trans t3))
end
end KL

set_option Elab.async false
set_option linter.all false
set_option maxRecDepth 100000
set_option maxHeartbeats 4000000
namespace KL
open PySem PySem.Spec PyProof.Rows L2 NdefX SX
abbrev sTopsOf : Stmt := top 40
section
variable {P : Program} {w : World} {K : PySem.W.Frag} {mg : Str → Option Value} {base : Heap} {f : Addr} {fd : FuncData}
def menu : List (List Int) := [[0], [1], [2], [4], [9], [1, 1], [1, 2], [2, 1], [2, 2], [0, 3], [3, 3], [1, 1, 1], [1, 2, 1], [0, 1, 2]]
def spTopsOf (K : PySem.W.Frag) : Sp := fun vs H Q _ => ∃ (p : Addr) (b : Bool), vs = [.ref p] ∧ Bag H p b ∧ ∀ (t : Addr) (i : Nat) (o : List Int) H', menu[i]? = some o → But p H H' → Bag H' p b → SqT K H' t (o.map V.int) → Q (.ref t) H'
theorem scTopsOf : FnScope ["_law_pool", "_law_menu"] ["_law_pool"] (defScope sTopsOf) := ⟨rfl, rfl, rfl, by decide +kernel, rfl, by decide +kernel, by decide +kernel⟩
theorem ok_topsOf {fD : Addr} {dD : FuncData} (F : Fun K "_law_tops_of" "_law_tops_of" sTopsOf f fd) (FD : Fun K "_law_draw" "_law_draw" sDraw fD dD) (bD : Binds K dD ["_law_pool", "_law_limit"] []) (gD : mg "_law_draw" = some (.ref fD)) (GD : FnOk P w K mg base CX0 1 fD dD ["_law_pool", "_law_limit"] spDraw) :
    FnOk P w K mg base CX0 2 f fd ["_law_pool"] (spTopsOf K) := by
  refine F.ok scTopsOf (fun vs H Q E h => ?_) (fun cdv A outer s H vs Q E hr h => ?_)
  · obtain ⟨p, b, rfl, _⟩ := h
    rfl
  · obtain ⟨p, b, rfl, hB, k⟩ := h
    refine ⟨_, (pss_cons (ps_set (i := 1) scTopsOf.nd rfl (Or.inl rfl) (pe_newL (pa_cons (pe_newT (pa_cons pe_int pa_nil)) (pa_cons (pe_newT (pa_cons pe_int pa_nil)) (pa_cons (pe_newT (pa_cons pe_int pa_nil)) (pa_cons (pe_newT (pa_cons pe_int pa_nil)) (pa_cons (pe_newT (pa_cons pe_int pa_nil)) (pa_cons (pe_newT (pa_cons pe_int (pa_cons pe_int pa_nil))) (pa_cons (pe_newT (pa_cons pe_int (pa_cons pe_int pa_nil))) (pa_cons (pe_newT (pa_cons pe_int (pa_cons pe_int pa_nil))) (pa_cons (pe_newT (pa_cons pe_int (pa_cons pe_int pa_nil))) pa_nil)))))))))))
      (pss_cons (ps_set (i := 1) scTopsOf.nd rfl (Or.inl rfl) (pe_op op_catW (pv 1) (pe_newL (pa_cons (pe_newT (pa_cons pe_int (pa_cons pe_int pa_nil))) (pa_cons (pe_newT (pa_cons pe_int (pa_cons pe_int pa_nil))) (pa_cons (pe_newT (pa_cons pe_int (pa_cons pe_int (pa_cons pe_int pa_nil)))) (pa_cons (pe_newT (pa_cons pe_int (pa_cons pe_int (pa_cons pe_int pa_nil)))) (pa_cons (pe_newT (pa_cons pe_int (pa_cons pe_int (pa_cons pe_int pa_nil)))) pa_nil))))))))
      (pss_one (ps_ret (pe_ix ix_list (pv 1) (pe_call GD (hr.mono (by decide)) (by rfl) gD FD.kp bD .nil pass0 (pa_cons (pv 0) (pa_cons pe_int pa_nil))) (fun _ _ => rfl)))))), ?_⟩
    refine ⟨(by show 1 ≤ sizeLine; decide), fun t1 H1 s1 n1 e1 => ?_⟩
    have E1 : Each K H1 [t1] [[0]] := .cons (.inl (.inl e1)) .nil
    refine ⟨(by show 1 ≤ sizeLine; decide), fun t2 H2 s2 n2 e2 => ?_⟩
    have E2 : Each K H2 ([t1] ++ [t2]) ([[0]] ++ [[1]]) := (E1.same s2).app (.cons (.inl (.inl e2)) .nil)
    refine ⟨(by show 1 ≤ sizeLine; decide), fun t3 H3 s3 n3 e3 => ?_⟩
    have E3 : Each K H3 ([t1, t2] ++ [t3]) ([[0], [1]] ++ [[2]]) := (E2.same s3).app (.cons (.inl (.inl e3)) .nil)
    refine ⟨(by show 1 ≤ sizeLine; decide), fun t4 H4 s4 n4 e4 => ?_⟩
    have E4 : Each K H4 ([t1, t2, t3] ++ [t4]) ([[0], [1], [2]] ++ [[4]]) := (E3.same s4).app (.cons (.inl (.inl e4)) .nil)
    refine ⟨(by show 1 ≤ sizeLine; decide), fun t5 H5 s5 n5 e5 => ?_⟩
    have E5 : Each K H5 ([t1, t2, t3, t4] ++ [t5]) ([[0], [1], [2], [4]] ++ [[9]]) := (E4.same s5).app (.cons (.inl (.inl e5)) .nil)
    refine ⟨(by show 2 ≤ sizeLine; decide), fun t6 H6 s6 n6 e6 => ?_⟩
    have E6 : Each K H6 ([t1, t2, t3, t4, t5] ++ [t6]) ([[0], [1], [2], [4], [9]] ++ [[1, 1]]) := (E5.same s6).app (.cons (.inl (.inl e6)) .nil)
    refine ⟨(by show 2 ≤ sizeLine; decide), fun t7 H7 s7 n7 e7 => ?_⟩
    have E7 : Each K H7 ([t1, t2, t3, t4, t5, t6] ++ [t7]) ([[0], [1], [2], [4], [9], [1, 1]] ++ [[1, 2]]) := (E6.same s7).app (.cons (.inl (.inl e7)) .nil)
    refine ⟨(by show 2 ≤ sizeLine; decide), fun t8 H8 s8 n8 e8 => ?_⟩
    have E8 : Each K H8 ([t1, t2, t3, t4, t5, t6, t7] ++ [t8]) ([[0], [1], [2], [4], [9], [1, 1], [1, 2]] ++ [[2, 1]]) := (E7.same s8).app (.cons (.inl (.inl e8)) .nil)
    refine ⟨(by show 2 ≤ sizeLine; decide), fun t9 H9 s9 n9 e9 => ?_⟩
    have E9 : Each K H9 ([t1, t2, t3, t4, t5, t6, t7, t8] ++ [t9]) ([[0], [1], [2], [4], [9], [1, 1], [1, 2], [2, 1]] ++ [[2, 2]]) := (E8.same s9).app (.cons (.inl (.inl e9)) .nil)
    refine ⟨(by show 9 ≤ sizeLine; decide), fun l1 K1 c1 nl1 el1 => ?_⟩
    refine ⟨_, rfl, ?_⟩
    refine ⟨(by show 2 ≤ sizeLine; decide), fun t10 H10 s10 n10 e10 => ?_⟩
    have E10 : Each K H10 [t10] [[0, 3]] := .cons (.inl (.inl e10)) .nil
    refine ⟨(by show 2 ≤ sizeLine; decide), fun t11 H11 s11 n11 e11 => ?_⟩
    have E11 : Each K H11 ([t10] ++ [t11]) ([[0, 3]] ++ [[3, 3]]) := (E10.same s11).app (.cons (.inl (.inl e11)) .nil)
    refine ⟨(by show 3 ≤ sizeLine; decide), fun t12 H12 s12 n12 e12 => ?_⟩
    have E12 : Each K H12 ([t10, t11] ++ [t12]) ([[0, 3], [3, 3]] ++ [[1, 1, 1]]) := (E11.same s12).app (.cons (.inl (.inl e12)) .nil)
    refine ⟨(by show 3 ≤ sizeLine; decide), fun t13 H13 s13 n13 e13 => ?_⟩
    have E13 : Each K H13 ([t10, t11, t12] ++ [t13]) ([[0, 3], [3, 3], [1, 1, 1]] ++ [[1, 2, 1]]) := (E12.same s13).app (.cons (.inl (.inl e13)) .nil)
    refine ⟨(by show 3 ≤ sizeLine; decide), fun t14 H14 s14 n14 e14 => ?_⟩
    have E14 : Each K H14 ([t10, t11, t12, t13] ++ [t14]) ([[0, 3], [3, 3], [1, 1, 1], [1, 2, 1]] ++ [[0, 1, 2]]) := (E13.same s14).app (.cons (.inl (.inl e14)) .nil)
    refine ⟨(by show 5 ≤ sizeLine; decide), fun l2 K2 c2 nl2 el2 => ?_⟩
    have sc : Same K1 K2 := (Same.trans s10 (Same.trans s11 (Same.trans s12 (Same.trans s13 (Same.trans s14 c2)))))
    refine ⟨l1, l2, _, _, rfl, rfl, sc _ _ el1, el2, (by show 14 ≤ sizeLine; decide), fun l3 K3 c3 nl3 el3 => ?_⟩
    have sh : Same H K3 := Same.trans (Same.trans s1 (Same.trans s2 (Same.trans s3 (Same.trans s4 (Same.trans s5 (Same.trans s6 (Same.trans s7 (Same.trans s8 (Same.trans s9 c1))))))))) (sc.trans c3)
    have EE : Each K K3 ([t1, t2, t3, t4, t5, t6, t7, t8, t9] ++ [t10, t11, t12, t13, t14]) menu := (E9.same (c1.trans (sc.trans c3))).app (E14.same (c2.trans c3))
    have el3' : K3 l3 = some (.lst (([t1, t2, t3, t4, t5, t6, t7, t8, t9] ++ [t10, t11, t12, t13, t14]).map V.ref)) := el3
    have nlp : l3 ≠ p := (hB.same (Same.trans (Same.trans s1 (Same.trans s2 (Same.trans s3 (Same.trans s4 (Same.trans s5 (Same.trans s6 (Same.trans s7 (Same.trans s8 (Same.trans s9 c1))))))))) sc)).ne nl3
    refine ⟨_, rfl, _, rfl, p, 14, b, rfl, hB.same sh, by decide, by decide, fun r K4 h0 h14 b4 hB4 => ?_⟩
    obtain ⟨i, rfl⟩ : ∃ i : Nat, r = (i : Int) := ⟨r.toNat, (Int.toNat_of_nonneg h0).symm⟩
    obtain ⟨o, ho⟩ : ∃ o, menu[i]? = some o := ⟨_, List.getElem?_eq_getElem (show i < 14 by omega)⟩
    obtain ⟨tt, htt⟩ : ∃ tt, ([t1, t2, t3, t4, t5, t6, t7, t8, t9] ++ [t10, t11, t12, t13, t14] : List Addr)[i]? = some tt := ⟨_, List.getElem?_eq_getElem (show i < 14 by omega)⟩
    obtain ⟨o', ho', hto⟩ := EE.get htt
    obtain rfl : o' = o := Option.some.inj (ho'.symm.trans ho)
    have hbag := fun q (hq : K3 q = none) => (hB.same sh).ne hq
    refine ⟨l3, _, _, _, rfl, rfl, SqL.of (b4 _ _ el3' nlp), atI_nat (by rw [List.getElem?_map, htt]; rfl), ?_⟩
    refine k tt i o' K4 ho (fun c u e n => b4 _ _ (sh _ _ e) n) hB4 ?_
    obtain ⟨c', n', eB⟩ := hB.same sh
    exact sqT_ne eB (fun _ z => nomatch z) (fun _ _ z => nomatch z) (fun c u e n => b4 _ _ e n) hto

end
end KL

set_option Elab.async false
set_option linter.all false
set_option maxRecDepth 100000
set_option maxHeartbeats 4000000
namespace KL
open PySem PySem.Spec PyProof.Rows L2 NdefX SX
theorem menu_facts3 : ∀ o ∈ menu, Few o ∧ chk o = none ∧ o ≠ [] ∧ (below o).length ≤ 16 := by
  unfold Few
  decide +kernel
def moreOf (ts : List Int) : List Int := ts.dropLast ++ [mn 9 (ts.getLastD 0 + 1)]
theorem menu_more : ∀ ts ∈ menu, Few (moreOf ts) ∧ moreOf ts ≠ [] ∧ (17 ≤ (below (moreOf ts)).length ∨ (chk (moreOf ts) = none ∧ (∀ o ∈ below ts, o ∈ below (moreOf ts)))) := by
  unfold Few
  decide +kernel
theorem menu_far : ∀ ts ∈ menu, ts ≠ [1, 1, 2] ∧ ([1, 1, 2] : List Int) ∉ below ts := by decide +kernel
theorem far_in : ([1, 1, 2] : List Int) ∈ below [1, 1, 2] := by decide +kernel
theorem few_far : Few [1, 1, 2] := by
  unfold Few
  decide +kernel
theorem chk_far : chk [1, 1, 2] = none := by decide +kernel
theorem mk_same {ts : List Int} {os' us : List (List Int)} (hF : Few ts) (ha : Asc us) (hb : ∀ o ∈ us, o ∈ below ts) (hc : Closed us) (h0 : us ≠ []) (h : ∀ o, o ∈ os' ↔ o ∈ us) : mkRg ts os' = .region us := by
  have e : ascO ts os' = us := Asc.eq (asc_asc hF os') ha fun o => by
    rw [mem_asc, h o]
    exact ⟨fun z => z.2, fun z => ⟨hb o z, z⟩⟩
  unfold mkRg
  rw [if_neg (fun z => by
    obtain ⟨o, ho⟩ := List.exists_mem_of_ne_nil us h0
    have := (h o).mpr ho
    rw [z] at this
    cases this), bad_of (fun o ho => hb o ((h o).mp ho)), e]
  simp only [open_closed hc]
theorem closed_below (ts : List Int) : Closed (below ts) := fun a ha b hb => ⟨low_below ha hb, high_below ha hb⟩
theorem below_ne {ts : List Int} (hF : Few ts) : below ts ≠ [] := fun z => by
  have := below_pos hF
  rw [z] at this
  cases this
theorem mk_below {ts : List Int} (hF : Few ts) : mkRg ts (below ts) = .region (below ts) := mk_region hF (asc_all hF.2) (fun _ h => h) (closed_below ts) (below_ne hF)
def rLenS3 (K : PySem.W.Frag) : List V → Hp → VK → Prop := fun xs H Q => ∃ p ys, xs = [.ref p] ∧ (SqL K H p ys ∨ SqT K H p ys) ∧ Q (.int ys.length) H
/-- [every[draw(pool, len(every))] for k in range(n)] -/
theorem lc_draws {K : PySem.W.Frag} {p ev : Addr} {b : Bool} {es : List Addr} {ts : List Int} {n : Nat} {vs : List Nat} {σ : L2.St} {H1 : Hp} {D : Addr} {j iP iE : Nat} {Qd : Hp → Prop} (hB : Bag H1 p b) (hev : H1 ev = some (.lst (es.map V.ref))) (hEv : Each K H1 es (below ts)) (hF : Few ts) (nD : H1 D = none) (hn : n ≤ 10)
    (hw : ∀ x : V, wipe ((wipe σ vs).set j (some x)) vs = wipe σ vs) (hP : ∀ x : V, ((wipe σ vs).set j (some x))[iP]? = some (some (.ref p))) (hE : ∀ x : V, ((wipe σ vs).set j (some x))[iE]? = some (some (.ref ev)))
    (done : ∀ (rs : List Addr) (os : List (List Int)) H', But p H1 H' → Bag H' p b → H' D = some (.lst (rs.map V.ref)) → Each K H' rs os → (∀ o ∈ os, o ∈ below ts) → os.length = n → Qd H') :
    ∃ W : Nat → Nat → Hp → Prop, (∃ m, W 0 m (upd H1 D (.lst []))) ∧ ∀ i m H, W i m H →
      ((Itr 0 n).stop i H ∧ Qd H) ∨ ((Itr 0 n).go i H ∧ ∃ Nx : Hp → Prop, (∀ H', Nx H' → ∃ m', m' < m ∧ W (i + 1) m' H') ∧ ∀ x H', (Itr 0 n).yld i H x H' → gName j x (wipe σ vs) H' fun σ2 H2 => wipe σ2 vs = wipe σ vs ∧ tYes σ2 H2 fun b H3 =>
        if b = true then tOp (rIxL K) (tVar iE) (tCall spDraw [] E0 (tCons (tVar iP) (tCons (tCB (rLenS3 K) (tCons (tVar iE) tNil)) tNil))) σ2 H3 fun y H4 => ∃ acc, H4 D = some (.lst acc) ∧ acc.length < sizeLine ∧ Nx (upd H4 D (.lst (acc ++ [y]))) else Nx H3) := by
  have D2p : D ≠ p := hB.ne nD
  have hevl := hEv.len
  have hpos := below_pos hF
  have hbf := below_few hF
  refine lc_range (lo := 0) (n := n) (fun m H' => But p H1 H' ∧ Bag H' p b ∧ ∃ rs os, H' D = some (.lst (rs.map V.ref)) ∧ Each K H' rs os ∧ (∀ o ∈ os, o ∈ below ts) ∧ rs.length = m)
    ⟨Same.but (same_upd nD), bag_keep hB D2p, [], [], upd_same, .nil, (fun o ho => by cases ho), rfl⟩ ?_ ?_
  · rintro m H' hm ⟨bM, hBM, rs, os, gD2, hEr, hin, hml⟩
    refine ⟨hw _, ?_⟩
    have e6 := but_lst hB bM hev
    have hE6 := but_each hB bM hEv
    refine ⟨_, hE _, _, hP _, _, hE _, ev, _, rfl, .inl (SqL.of e6), p, _, b, rfl, hBM, by rw [List.length_map]; omega, by rw [List.length_map]; omega, fun rd H7 d0 d1 b7 hB7 => ?_⟩
    rw [List.length_map] at d1
    obtain ⟨rd, rfl⟩ := Int.eq_ofNat_of_zero_le d0
    have ees : es[rd]? = some (es[rd]'(by omega)) := List.getElem?_eq_getElem (by omega)
    generalize es[rd]'(by omega) = er at ees
    obtain ⟨o, eo, ho⟩ := hE6.get ees
    have ho7 := but_sqT hBM b7 ho
    have gD7 := b7 _ _ gD2 D2p
    refine ⟨ev, _, _, _, rfl, rfl, SqL.of (but_lst hBM b7 e6), atI_nat (by rw [List.getElem?_map, ees]; rfl), _, gD7, ?_, fun c o e n => ?_, bag_keep hB7 D2p, rs ++ [er], os ++ [o], ?_, ?_, ?_, ?_⟩
    · rw [List.length_map, sizeLine_eq]
      omega
    · rw [upd_ne (ne_of_none e nD)]
      exact (bM.trans b7) _ _ e n
    · rw [upd_same, List.map_append]
      rfl
    · exact ((but_each hBM b7 hEr).app (.cons ho7 .nil)).upd gD7
    · intro o' ho'
      rcases List.mem_append.mp ho' with h | h
      · exact hin o' h
      · rw [List.mem_singleton.mp h]
        exact List.mem_of_getElem? eo
    · rw [List.length_append, hml]
      rfl
  · rintro H8 ⟨bM, hB8, rs0, os0, gD2, hE0, hin, hml⟩
    exact done rs0 os0 H8 bM hB8 gD2 hE0 hin (by rw [← hE0.len]; exact hml)
end KL

set_option Elab.async false
set_option linter.all false
set_option maxRecDepth 100000
set_option maxHeartbeats 4000000
namespace KL
open PySem PySem.Spec PyProof.Rows L2 NdefX SX
theorem kp_sqT {K : PySem.W.Frag} {H H' : Hp} {z t : Addr} {ys xs : List V} (e : H z = some (.lst ys)) (s : But z H H') (g : SqT K H t xs) : SqT K H' t xs :=
  sqT_ne e (fun _ z => nomatch z) (fun _ _ z => nomatch z) (fun c u e n => s _ _ e n) g
theorem kp_ins {H : Hp} {z x D d : Addr} {ys : List V} {fs : List (Str × V)} (e : H z = some (.lst ys)) (h : H x = some (.ins D d fs)) : x ≠ z := fun w => by
  rw [w, e] at h
  cases h
theorem kp_each {K : PySem.W.Frag} {H H' : Hp} {z : Addr} {ys : List V} {rs : List Addr} {os : List (List Int)} (e : H z = some (.lst ys)) (s : But z H H') (h : Each K H rs os) : Each K H' rs os := h.carry fun r xs g => kp_sqT e s g
theorem kp_grid {K : PySem.W.Frag} {C : Addr} {H H' : Hp} {z x : Addr} {ys : List V} {ts : List Int} (e : H z = some (.lst ys)) (s : But z H H') (g : GridAt K C H x ts) : GridAt K C H' x ts := by
  obtain ⟨dx, t, q, rs, hx, ht, hq, hE⟩ := g
  exact ⟨dx, t, q, rs, s _ _ hx (kp_ins e hx), kp_sqT e s ht, kp_sqT e s hq, kp_each e s hE⟩
theorem kp_reg {K : PySem.W.Frag} {C R : Addr} {H H' : Hp} {z x : Addr} {ys : List V} {ts : List Int} {os : List (List Int)} (e : H z = some (.lst ys)) (s : But z H H') (g : RegAt K C R H x ts os) : RegAt K C R H' x ts os := by
  obtain ⟨dx, gg, q, rs, hx, hG, hq, hE⟩ := g
  exact ⟨dx, gg, q, rs, s _ _ hx (kp_ins e hx), kp_grid e s hG, kp_sqT e s hq, kp_each e s hE⟩
theorem cut_intsB {z : Int} {ns : List Int} {lo hi : Option Int} {x : V} (h : x ∈ [V.int z] ++ cutV (ns.map V.int) lo hi) : ∃ c, x = .int c := by
  rcases List.mem_append.mp h with h | h
  · exact ⟨z, List.mem_singleton.mp h⟩
  · obtain ⟨c, _, e⟩ := List.mem_map.mp (List.mem_of_mem_drop (List.mem_of_mem_take h))
    exact ⟨c, e.symm⟩
theorem refs_injB : ∀ {a b : List Addr}, a.map V.ref = b.map V.ref → a = b
  | [], [], _ => rfl
  | x :: a, y :: b, h => by
    rw [List.map_cons, List.map_cons] at h
    injection h with h1 h2
    injection h1 with h1
    rw [h1, refs_injB h2]
/-- a pair of the law's: a region and its options; neither stands at what may change -/
def PairAt (K : PySem.W.Frag) (C R : Addr) (A : Addr → Prop) (H : Hp) (ts : List Int) (q : Addr) (us : List (List Int)) : Prop := ∃ (x d : Addr) (ds : List Addr), ¬ A q ∧ ¬ A d ∧ H q = some (.lst ([x, d].map V.ref)) ∧ RegAt K C R H x ts us ∧ H d = some (.lst (ds.map V.ref)) ∧ Each K H ds us ∧ us ≠ [] ∧ Asc us ∧ (∀ o ∈ us, o ∈ below ts) ∧ Closed us
structure Wd (K : PySem.W.Frag) (C R : Addr) (A : Addr → Prop) (H0 : Hp) (g t ev L : Addr) (es qs : List Addr) (ts : List Int) (H : Hp) : Prop where
  base : ∀ c o, H0 c = some o → c ≠ L → H c = some o
  grid : GridAt K C H g ts
  tops : SqT K H t (ts.map V.int)
  evl : H ev = some (.lst (es.map V.ref))
  nev : ¬ A ev
  each : Each K H es (below ts)
  ll : H L = some (.lst (qs.map V.ref))
  pairs : ∀ q ∈ qs, ∃ us, PairAt K C R A H ts q us
variable {K : PySem.W.Frag} {C R : Addr} {A : Addr → Prop} {H0 H H' : Hp} {g t ev L z q : Addr} {es qs : List Addr} {ts : List Int} {us : List (List Int)}
theorem PairAt.same (s : Same H H') (h : PairAt K C R A H ts q us) : PairAt K C R A H' ts q us := by
  obtain ⟨x, d, ds, n1, n2, hq, hr, hd, he, rest⟩ := h
  exact ⟨x, d, ds, n1, n2, s _ _ hq, hr.same s, s _ _ hd, he.same s, rest⟩
theorem PairAt.chg {ys : List V} (hz : A z) (e : H z = some (.lst ys)) (s : But z H H') (h : PairAt K C R A H ts q us) : PairAt K C R A H' ts q us := by
  obtain ⟨x, d, ds, n1, n2, hq, hr, hd, he, rest⟩ := h
  exact ⟨x, d, ds, n1, n2, s _ _ hq (fun w => n1 (w ▸ hz)), kp_reg e s hr, s _ _ hd (fun w => n2 (w ▸ hz)), kp_each e s he, rest⟩
theorem PairAt.add (n : H z = none) (h : PairAt K C R A H ts q us) : PairAt K C R (fun c => A c ∨ c = z) H ts q us := by
  obtain ⟨x, d, ds, n1, n2, hq, hr, hd, rest⟩ := h
  exact ⟨x, d, ds, (fun w => Or.elim w n1 fun w => by rw [w, n] at hq; cases hq), (fun w => Or.elim w n2 fun w => by rw [w, n] at hd; cases hd), hq, hr, hd, rest⟩
theorem PairAt.less {A' : Addr → Prop} (i : ∀ c, A' c → A c) (h : PairAt K C R A H ts q us) : PairAt K C R A' H ts q us := by
  obtain ⟨x, d, ds, n1, n2, rest⟩ := h
  exact ⟨x, d, ds, fun w => n1 (i _ w), fun w => n2 (i _ w), rest⟩
theorem Wd.same (s : Same H H') (h : Wd K C R A H0 g t ev L es qs ts H) : Wd K C R A H0 g t ev L es qs ts H' :=
  ⟨fun c o e n => s _ _ (h.base c o e n), h.grid.same s, Same.sqt s h.tops, s _ _ h.evl, h.nev, h.each.same s, s _ _ h.ll, fun q hq => (h.pairs q hq).imp fun _ z => z.same s⟩
theorem Wd.chg {ys : List V} (hz : A z) (zl : z ≠ L) (n0 : H0 z = none) (e : H z = some (.lst ys)) (s : But z H H') (h : Wd K C R A H0 g t ev L es qs ts H) : Wd K C R A H0 g t ev L es qs ts H' :=
  ⟨fun c o e' n => s _ _ (h.base c o e' n) (ne_of_none e' n0), kp_grid e s h.grid, kp_sqT e s h.tops, s _ _ h.evl (fun w => h.nev (w ▸ hz)), h.nev, kp_each e s h.each, s _ _ h.ll zl.symm, fun q hq => (h.pairs q hq).imp fun _ w => w.chg hz e s⟩
theorem Wd.add (n : H z = none) (h : Wd K C R A H0 g t ev L es qs ts H) : Wd K C R (fun c => A c ∨ c = z) H0 g t ev L es qs ts H :=
  ⟨h.base, h.grid, h.tops, h.evl, (fun w => Or.elim w h.nev fun w => by have e := h.evl; rw [w, n] at e; cases e), h.each, h.ll, fun q hq => (h.pairs q hq).imp fun _ w => w.add n⟩
theorem Wd.less {A' : Addr → Prop} (i : ∀ c, A' c → A c) (h : Wd K C R A H0 g t ev L es qs ts H) : Wd K C R A' H0 g t ev L es qs ts H :=
  ⟨h.base, h.grid, h.tops, h.evl, fun w => h.nev (i _ w), h.each, h.ll, fun q hq => (h.pairs q hq).imp fun _ w => w.less i⟩
theorem Wd.app (hl : A L) (h : Wd K C R A H0 g t ev L es qs ts H) (hp : PairAt K C R A H ts q us) : Wd K C R A H0 g t ev L es (qs ++ [q]) ts (upd H L (.lst (qs.map V.ref ++ [V.ref q]))) := by
  have s : But L H (upd H L (.lst (qs.map V.ref ++ [V.ref q]))) := But.upd
  refine ⟨fun c o e' n => s _ _ (h.base c o e' n) n, kp_grid h.ll s h.grid, kp_sqT h.ll s h.tops, s _ _ h.evl (fun w => h.nev (w ▸ hl)), h.nev, kp_each h.ll s h.each, by rw [upd_same, List.map_append]; rfl, fun q' hq => ?_⟩
  rcases List.mem_append.mp hq with hq | hq
  · exact (h.pairs q' hq).imp fun _ w => w.chg hl h.ll s
  · rw [List.mem_singleton.mp hq]
    exact ⟨us, hp.chg hl h.ll s⟩
theorem Wd.bag {p : Addr} {b : Bool} (hz : A p) (zl : p ≠ L) (n0 : H0 p = none) (hB : Bag H p b) (s : But p H H') (h : Wd K C R A H0 g t ev L es qs ts H) : Wd K C R A H0 g t ev L es qs ts H' := by
  obtain ⟨c, n, e⟩ := hB
  exact h.chg hz zl n0 e s
theorem PairAt.bag {p : Addr} {b : Bool} (hz : A p) (hB : Bag H p b) (s : But p H H') (h : PairAt K C R A H ts q us) : PairAt K C R A H' ts q us := by
  obtain ⟨c, n, e⟩ := hB
  exact h.chg hz e s
theorem one_take (rs : List Addr) : cutV (rs.map V.ref) none (some 1) = (rs.take 1).map V.ref := by
  have := cut_take (rs.map V.ref) 1
  rw [List.map_take]
  exact this
theorem both_rg (ts : List Int) (os ws : List (List Int)) : resBoth ts ts os ws = resRg (if os.filter (fun o => decide (o ∈ ws)) = [] then .number 0 else .region (os.filter fun o => decide (o ∈ ws))) := by
  unfold resBoth
  rw [if_pos rfl]
  split <;> rfl
theorem shaped_far (x : Str) (hx : PyData.canLay0 (.str x) = true) (a b : List Int) : SeqAt.shaped (.list [.str x, dO a, dO b]) = true := shaped_all fun d hd => by
  rcases List.mem_cons.mp hd with rfl | hd
  · exact ⟨hx, by show 0 ≤ 3; decide⟩
  · rcases List.mem_cons.mp hd with rfl | hd
    · exact ok_dO _
    · rw [List.mem_singleton.mp hd]
      exact ok_dO _
end KL

set_option Elab.async false
set_option linter.all false
set_option maxRecDepth 100000
set_option maxHeartbeats 8000000
namespace KL
open PySem PySem.Spec PyProof.Rows L2 NdefX SX
abbrev sLaw : Stmt := top 52
abbrev nLaw : List Str := ["_law_script", "_law_pool", "_law_tops", "_law_grid", "_law_every", "_law_regions", "_law_cell", "_law_rows", "_law_due", "_law_level", "_law_first", "_law_second", "_law_both", "_law_more", "_law_twin", "_law_far", "_law_k", "_law_option"]
theorem scLaw : FnScope nLaw ["_law_script"] (defScope sLaw) := ⟨rfl, rfl, rfl, by decide +kernel, rfl, by decide +kernel, by decide +kernel⟩
section
variable {P : Program} {w : World} {K : PySem.W.Frag} {mg : Str → Option Value} {base : Heap} {f fB fA fO fGo fS fD fH fU fLi fBx fBo fFi fI fW fEq fi fl gI C R N O B : Addr} {fd dB dA dOo dGo dS dD dH dU dLi dBx dBo dFi dI dW dEq dl : FuncData}
theorem ok_law (F : Fun K "law" "law" sLaw f fd) (FB : Fun K "_law_bag" "_law_bag" sBag fB dB) (bB : Binds K dB ["_law_cell"] []) (gB : mg "_law_bag" = some (.ref fB)) (GB : FnOk P w K mg base CX0 1 fB dB ["_law_cell"] spBag)
    (FD : Fun K "_law_draw" "_law_draw" sDraw fD dD) (bD : Binds K dD ["_law_pool", "_law_limit"] []) (gD : mg "_law_draw" = some (.ref fD)) (GD : FnOk P w K mg base CX0 1 fD dD ["_law_pool", "_law_limit"] spDraw)
    (FA : Fun K "_law_at_of" "_law_at_of" sAt fA dA) (bA : Binds K dA ["_law_script", "_law_k"] []) (gA : mg "_law_at_of" = some (.ref fA)) (GA : FnOk P w K mg base CX0 1 fA dA ["_law_script", "_law_k"] (spAt K))
    (FO : Fun K "_law_tops_of" "_law_tops_of" sTopsOf fO dOo) (bO : Binds K dOo ["_law_pool"] []) (gO : mg "_law_tops_of" = some (.ref fO)) (GO : FnOk P w K mg base CX0 2 fO dOo ["_law_pool"] (spTopsOf K))
    (FGo : Fun K "_law_grid_of" "_law_grid_of" sLGridOf fGo dGo) (bGo : Binds K dGo ["_law_tops"] []) (gGo : mg "_law_grid_of" = some (.ref fGo)) (GGo : FnOk P w K mg base CX0 7 fGo dGo ["_law_tops"] (spLGridOf K C))
    (FS : Fun K "_law_spread" "_law_spread" sSpread fS dS) (bS : Binds K dS ["_law_tops"] []) (gS : mg "_law_spread" = some (.ref fS)) (GS : FnOk P w K mg base CX0 1 fS dS ["_law_tops"] (spSpread K))
    (FH : Fun K "_law_hull_of" "_law_hull_of" sLHullOf fH dH) (bH : Binds K dH ["_law_rows"] []) (gH : mg "_law_hull_of" = some (.ref fH)) (GH : FnOk P w K mg base CX0 3 fH dH ["_law_rows"] (spLHullOf K))
    (FU : Fun K "_law_turned" "_law_turned" sTurned fU dU) (bU : Binds K dU ["_law_pool", "_law_row"] []) (gU : mg "_law_turned" = some (.ref fU)) (GU : FnOk P w K mg base CX0 2 fU dU ["_law_pool", "_law_row"] (spTurned K))
    (FLi : Fun K "_law_lists_fit" "_law_lists_fit" sLists fLi dLi) (bLi : Binds K dLi ["_law_pool", "_law_grid", "_law_every", "_law_options"] []) (gLi : mg "_law_lists_fit" = some (.ref fLi)) (GLi : FnOk P w K mg base CX0 10 fLi dLi ["_law_pool", "_law_grid", "_law_every", "_law_options"] (spLists K C))
    (FBx : Fun K "_law_boxes_fit" "_law_boxes_fit" sBoxes fBx dBx) (bBx : Binds K dBx ["_law_pool", "_law_grid", "_law_every"] []) (gBx : mg "_law_boxes_fit" = some (.ref fBx)) (GBx : FnOk P w K mg base CX0 10 fBx dBx ["_law_pool", "_law_grid", "_law_every"] (spBoxes K C))
    (FBo : Fun K "_law_both_of" "_law_both_of" sBothOf fBo dBo) (bBo : Binds K dBo ["_law_first", "_law_second"] []) (gBo : mg "_law_both_of" = some (.ref fBo)) (GBo : FnOk P w K mg base CX0 9 fBo dBo ["_law_first", "_law_second"] (spBothOf K C R))
    (FFi : Fun K "_law_fits" "_law_fits" sFits fFi dFi) (bFi : Binds K dFi ["_law_region", "_law_every", "_law_rows"] []) (gFi : mg "_law_fits" = some (.ref fFi)) (GFi : FnOk P w K mg base CX0 7 fFi dFi ["_law_region", "_law_every", "_law_rows"] (spFits K C R))
    (gR : mg "Region" = some (.ref R)) (M : Mk K R fI) (GI : FnOk P w K mg base (L2.CX P w) 6 fI dI ["self", "grid", "options"] (spRInit K C R N O B)) (bI : Binds K dI ["self", "grid", "options"] [])
    (gGd : mg "Grid" = some (.ref C)) (MG : Mk K C gI) (GIG : FnR P w K mg base (L2.CX P w) 4 gI (spGInit K C N))
    (FW : Fun K "whole" "whole" sWhole fW dW) (bW : Binds K dW ["grid"] []) (gW : mg "whole" = some (.ref fW)) (GW : FnOk P w K mg base (L2.CX P w) 8 fW dW ["grid"] (spWhole K C R N O B))
    (DE : Dun K R "__eq__" fEq) (GEq : FnOk P w K mg base CX0 2 fEq dEq ["self", "other"] (spREq K C R)) (bEq : Binds K dEq ["self", "other"] [])
    (IT : ItO P w K mg base R fi "options") (DL : Dun K R "__len__" fl) (GL : FnOk P w K mg base CX0 1 fl dl ["self"] (spRLen K C R)) (bL : Binds K dl ["self"] [])
    (sL : PySem.W.subIn K (.type "list") (.ref R) = some false) (kL : PySem.W.kitOne K (.type "list") (.ref R) = some false)
    (mr : mg "range" = none) (ml : mg "list" = none) (mn : mg "len" = none) (mmi : mg "min" = none) : FnOk P w K mg base CX0 11 f fd ["_law_script"] (spLaw K) := by
  refine F.ok scLaw (fun vs H Q E h => ?_) (fun cdv A outer s H vs Q E hr h => ?_)
  · obtain ⟨a, ns, rfl, _⟩ := h
    rfl
  · obtain ⟨a, ns, rfl, hS, hlen, k⟩ := h
    have hr1 : Room 1 _ := hr.mono (j := 1) (by decide)
    have hr2 : Room 2 _ := hr.mono (j := 2) (by decide)
    have hr3 : Room 3 _ := hr.mono (j := 3) (by decide)
    have hr5 : Room 5 _ := hr.mono (j := 5) (by decide)
    have hr6 : Room 6 _ := hr.mono (j := 6) (by decide)
    have hr7 : Room 7 _ := hr.mono (j := 7) (by decide)
    have hr8 : Room 8 _ := hr.mono (j := 8) (by decide)
    have hr9 : Room 9 _ := hr.mono (j := 9) (by decide)
    refine ⟨_, (pss_cons (ps_set (i := 1) scLaw.nd rfl (Or.inr rfl) (pe_call GB hr1 (by rfl) gB FB.kp bB .nil pass0 (pa_cons (pe_call GA hr1 (by rfl) gA FA.kp bA .nil pass0 (pa_cons (pv 0) (pa_cons pe_int pa_nil))) pa_nil)))
      (pss_cons (ps_set (i := 2) scLaw.nd rfl (Or.inl rfl) (pe_call GO hr2 (by rfl) gO FO.kp bO .nil pass0 (pa_cons (pv 1) pa_nil)))
      (pss_cons (ps_asg (pe_newT (pa_cons (pe_call GGo hr7 (by rfl) gGo FGo.kp bGo .nil pass0 (pa_cons (pv 2) pa_nil)) (pa_cons (pe_call GS hr1 (by rfl) gS FS.kp bS .nil pass0 (pa_cons (pv 2) pa_nil)) pa_nil))) (pg_tup (by rfl) (pgs_cons (pg_name (i := 3) scLaw.nd rfl (Or.inl rfl)) (pgs_cons (pg_name (i := 4) scLaw.nd rfl (Or.inr rfl)) pgs_nil))))
      (pss_cons (ps_set (i := 5) scLaw.nd rfl (Or.inl rfl) (pe_newL pa_nil))
      (pss_cons (ps_for PassesOwn.never rfl (pi_list (pe_op op_catW (pe_newL (pa_cons (pe_call GA hr1 (by rfl) gA FA.kp bA .nil pass0 (pa_cons (pv 0) (pa_cons pe_int pa_nil))) pa_nil)) (pe_callTy call_listW (by rfl) ml (by decide +kernel) (pa_cons (pe_slice sl_list (pv 0) (po_some pe_int) (po_some pe_int)) pa_nil)))) (pg_name (i := 6) scLaw.nd rfl (Or.inl rfl))
      (pss_cons (ps_set (i := 1) scLaw.nd rfl (Or.inr rfl) (pe_call GB hr1 (by rfl) gB FB.kp bB .nil pass0 (pa_cons (pv 6) pa_nil)))
      (pss_cons (ps_setLc (i := 7) (own := [("_law_k", 16)]) (g := gName 16) (tt := tYes) (te := tOp (rIxL K) (tVar 4) (tCall spDraw [] E0 (tCons (tVar 1) (tCons (tCB (rLenS3 K) (tCons (tVar 4) tNil)) tNil)))) rfl scLaw.nd rfl rfl (sw_true rfl rfl rfl (by decide +kernel))
          (pi_range1 rfl mr (pa_cons (pe_op op_add pe_int (pe_call GD hr1 (by rfl) gD FD.kp bD .nil pass0 (pa_cons (pv 1) (pa_cons pe_int pa_nil)))) pa_nil)) (blkOk_by (N := nLaw) (sc := defScope sLaw) (by decide +kernel)) (fun _ _ _ _ _ => (pg_name (i := 16) scLaw.nd rfl (Or.inl rfl))) (fun _ _ _ _ _ => pts_nil) (fun _ _ _ _ _ => (pe_ix ix_list (pv 4) (pe_call GD hr1 (by rfl) gD FD.kp bD .nil pass0 (pa_cons (pv 1) (pa_cons (pe_callB call_len_seq (by rfl) mn PySem.boot_len (pa_cons (pv 4) pa_nil)) pa_nil))) (fun _ _ => rfl))))
      (pss_cons (ps_set (i := 8) scLaw.nd rfl (Or.inl rfl) (pe_call GH hr3 (by rfl) gH FH.kp bH .nil pass0 (pa_cons (pv 7) pa_nil)))
      (pss_cons (ps_expr (pe_bm PySem.F.plainAttrs_list PySem.F.slot_list_append PySem.F.type_list_append mt_append (pv 5) (pa_cons (pe_newL (pa_cons (pe_makeS M GI hr7 (by rfl) gR bI (fun σ => passAt noOneT σ) (pa_cons (pv 3) (pa_cons (pe_call GU hr2 (by rfl) gU FU.kp bU .nil pass0 (pa_cons (pv 1) (pa_cons (pe_op op_catW (pv 8) (pe_slice sl_list (pv 7) po_none (po_some pe_int))) pa_nil))) pa_nil))) (pa_cons (pv 8) pa_nil))) pa_nil)))
      (pss_cons (ps_for PassesOwn.never rfl (pi_list (pe_newL (pa_cons pe_int (pa_cons pe_int pa_nil)))) (pg_name (i := 9) scLaw.nd rfl (Or.inl rfl)) (pss_one (ps_if (pt_cmpR op_eq (pe_call GD hr1 (by rfl) gD FD.kp bD .nil pass0 (pa_cons (pv 1) (pa_cons pe_int pa_nil))) pe_int (nomark _)) (pss_one (ps_expr (pe_bm PySem.F.plainAttrs_list PySem.F.slot_list_insert PySem.F.type_list_insert mt_insert (pv 7) (pa_cons (pe_call GD hr1 (by rfl) gD FD.kp bD .nil pass0 (pa_cons (pv 1) (pa_cons (pe_op op_add (pe_callB call_len_seq (by rfl) mn PySem.boot_len (pa_cons (pv 7) pa_nil)) pe_int) pa_nil))) (pa_cons (pe_op op_catU (pe_newT (pa_cons (pv 9) pa_nil)) (pe_slice sl_tupU (pe_ix ix_list (pv 4) pe_int (fun _ _ => rfl)) (po_some pe_int) po_none)) pa_nil))))) pss_nil)))
      (pss_cons (ps_if (pt_not (pt_val (pe_call GLi hr (by rfl) gLi FLi.kp bLi .nil pass0 (pa_cons (pv 1) (pa_cons (pv 3) (pa_cons (pv 4) (pa_cons (pe_slice sl_list (pv 7) (po_some (pe_call GD hr1 (by rfl) gD FD.kp bD .nil pass0 (pa_cons (pv 1) (pa_cons pe_int pa_nil)))) po_none) pa_nil))))))) (pss_one (ps_ret pe_bl)) pss_nil)
      (pss_cons (ps_if (pt_not (pt_val (pe_call GBx hr (by rfl) gBx FBx.kp bBx .nil pass0 (pa_cons (pv 1) (pa_cons (pv 3) (pa_cons (pv 4) pa_nil)))))) (pss_one (ps_ret pe_bl)) pss_nil)
      (pss_cons (ps_asg (pe_newT (pa_cons (pe_ix ix_list (pv 5) (pe_call GD hr1 (by rfl) gD FD.kp bD .nil pass0 (pa_cons (pv 1) (pa_cons (pe_callB call_len_seq (by rfl) mn PySem.boot_len (pa_cons (pv 5) pa_nil)) pa_nil))) (fun _ _ => rfl)) (pa_cons (pe_ix ix_list (pv 5) pe_int (fun _ _ => rfl)) pa_nil))) (pg_tup (by rfl) (pgs_cons (pg_name (i := 10) scLaw.nd rfl (Or.inl rfl)) (pgs_cons (pg_name (i := 11) scLaw.nd rfl (Or.inr rfl)) pgs_nil))))
      (pss_cons (ps_setLc (i := 12) (own := [("_law_option", 17)]) (g := gName 17) (tt := tTest (tOp (rInD K) (tVar 17) (tOp (rIxL K) (tVar 11) (tC (.int 1))))) (te := tVar 17) rfl scLaw.nd rfl rfl (sw_true rfl rfl rfl (by decide +kernel))
          (pi_any (pe_ix ix_list (pv 10) pe_int (fun _ _ => rfl))) (blkOk_by (N := nLaw) (sc := defScope sLaw) (by decide +kernel)) (fun _ _ _ _ _ => (pg_name (i := 17) scLaw.nd rfl (Or.inl rfl))) (fun _ _ _ _ _ => pts_one (pt_cmpR (op_inD (room65 hr)) (pv 17) (pe_ix ix_list (pv 11) pe_int (fun _ _ => rfl)) (by rfl))) (fun _ _ _ _ _ => pv 17))
      (pss_cons (ps_if (pt_cmpR (op_neD hr.units) (pe_call GBo hr9 (by rfl) gBo FBo.kp bBo .nil pass0 (pa_cons (pe_ix ix_list (pv 10) pe_int (fun _ _ => rfl)) (pa_cons (pe_ix ix_list (pv 11) pe_int (fun _ _ => rfl)) pa_nil))) (pe_ifExp (pt_cmpR (op_neD hr.units) (pv 12) (pe_newL pa_nil) (nomark _)) (pe_newL (pa_cons pe_str (pa_cons (pv 12) pa_nil))) (pe_newL (pa_cons pe_str (pa_cons pe_int pa_nil)))) (by rfl)) (pss_one (ps_ret pe_bl)) pss_nil)
      (pss_cons (ps_if (pt_not (pt_val (pe_call GFi hr7 (by rfl) gFi FFi.kp bFi .nil pass0 (pa_cons (pe_ix ix_list (pv 10) pe_int (fun _ _ => rfl)) (pa_cons (pv 4) (pa_cons (pe_ix ix_list (pv 10) pe_int (fun _ _ => rfl)) pa_nil)))))) (pss_one (ps_ret pe_bl)) pss_nil)
      (pss_one (ps_if (pt_cmpR op_ne (pe_cmpR (op_eqO DE GEq bEq pass0 hr2) (pe_ix ix_list (pv 10) pe_int (fun _ _ => rfl)) (pe_ix ix_list (pv 11) pe_int (fun _ _ => rfl)) (nomark _)) (pe_cmpR (op_eqD hr.units) (pe_ix ix_list (pv 10) pe_int (fun _ _ => rfl)) (pe_ix ix_list (pv 11) pe_int (fun _ _ => rfl)) (nomark _)) (by rfl)) (pss_one (ps_ret pe_bl)) pss_nil))))))))))))))
      (pss_cons (ps_set (i := 13) scLaw.nd rfl (Or.inl rfl) (pe_op op_catU (pe_slice sl_tupU (pv 2) po_none (po_some (pe_un un_neg pe_int))) (pe_newT (pa_cons (pe_callB (call_min2 rfl) (by rfl) mmi (by decide +kernel) (pa_cons pe_int (pa_cons (pe_op op_add (pe_ix ix_tup (pv 2) (pe_un un_neg pe_int) (fun _ _ => rfl)) pe_int) pa_nil))) pa_nil))))
      (pss_cons (ps_if (PW.pt (pw_and (pt_cmpR (op_neD hr.units) (pv 13) (pv 2) (nomark _)) (pw_and1 (pt_cmpR op_lt (pe_callB call_len_seq (by rfl) mn PySem.boot_len (pa_cons (pe_call GS hr1 (by rfl) gS FS.kp bS .nil pass0 (pa_cons (pv 13) pa_nil)) pa_nil)) pe_int (nomark _))))) (pss_cons (ps_set (i := 14) scLaw.nd rfl (Or.inl rfl) (pe_makeS M GI hr7 (by rfl) gR bI (fun σ => passAt noOneT σ) (pa_cons (pe_call GGo hr7 (by rfl) gGo FGo.kp bGo .nil pass0 (pa_cons (pv 13) pa_nil)) (pa_cons (pe_ix ix_list (pe_ix ix_list (pv 5) pe_int (fun _ _ => rfl)) pe_int (fun _ _ => rfl)) pa_nil))))
      (pss_one (ps_if (PW.pt (pw_or (pt_cmpR (op_eqO DE GEq bEq pass0 hr2) (pv 14) (pe_ix ix_list (pe_ix ix_list (pv 5) pe_int (fun _ _ => rfl)) pe_int (fun _ _ => rfl)) (nomark _)) (pw_or1 (pt_cmpR (op_eqO DE GEq bEq pass0 hr2) (pe_ix ix_list (pe_ix ix_list (pv 5) pe_int (fun _ _ => rfl)) pe_int (fun _ _ => rfl)) (pv 14) (nomark _))))) (pss_one (ps_ret pe_bl)) pss_nil))) pss_nil)
      (pss_cons (ps_set (i := 15) scLaw.nd rfl (Or.inl rfl) (pe_callS GW hr8 (by rfl) gW FW.kp bW (fun σ => passAt noOneT σ) (pa_cons (pe_makeRS MG GIG hr5 (by rfl) gGd (fun σ => passAt noOneT σ) (pa_cons pe_int (pa_cons pe_int (pa_cons pe_int pa_nil)))) pa_nil)))
      (pss_cons (ps_if (PW.pt (pw_or (pt_cmpR (op_neD hr.units) (pe_callTy (call_listO IT DL GL bL hr6) (by rfl) ml (by decide +kernel) (pa_cons (pe_callS GW hr8 (by rfl) gW FW.kp bW (fun σ => passAt noOneT σ) (pa_cons (pv 3) pa_nil)) pa_nil)) (pv 4) (nomark _)) (pw_or1 (pt_cmpR (op_eqW DE GEq bEq pass0 hr2) (pe_ix ix_list (pe_ix ix_list (pv 5) pe_int (fun _ _ => rfl)) pe_int (fun _ _ => rfl)) (pe_ix ix_list (pe_ix ix_list (pv 5) pe_int (fun _ _ => rfl)) pe_int (fun _ _ => rfl)) (nomark _))))) (pss_one (ps_ret pe_bl)) pss_nil)
      (pss_cons (ps_if (pt_cmpR op_ne (pe_cmpR (op_eqO DE GEq bEq pass0 hr2) (pe_ix ix_list (pe_ix ix_list (pv 5) pe_int (fun _ _ => rfl)) pe_int (fun _ _ => rfl)) (pv 15) (nomark _)) (pe_cmpR (op_eqD hr.units) (pe_callTy (call_listO IT DL GL bL hr6) (by rfl) ml (by decide +kernel) (pa_cons (pe_ix ix_list (pe_ix ix_list (pv 5) pe_int (fun _ _ => rfl)) pe_int (fun _ _ => rfl)) pa_nil)) (pe_callTy (call_listO IT DL GL bL hr6) (by rfl) ml (by decide +kernel) (pa_cons (pv 15) pa_nil)) (nomark _)) (by rfl)) (pss_one (ps_ret pe_bl)) pss_nil)
      (pss_one (ps_ret (pe_or (pe_cmpR (op_eqD hr.units) (pv 2) (pe_newT (pa_cons pe_int (pa_cons pe_int (pa_cons pe_int pa_nil)))) (nomark _)) (pe_one (pe_cmpR (op_eqD hr.units) (pe_call GBo hr9 (by rfl) gBo FBo.kp bBo .nil pass0 (pa_cons (pv 15) (pa_cons (pe_ix ix_list (pe_ix ix_list (pv 5) pe_int (fun _ _ => rfl)) pe_int (fun _ _ => rfl)) pa_nil))) (pe_newL (pa_cons pe_str (pa_cons (pe_newT (pa_cons pe_int (pa_cons pe_int (pa_cons pe_int pa_nil)))) (pa_cons (pv 2) pa_nil)))) (nomark _)))))))))))))))), ?_⟩
    refine ⟨_, rfl, a, ns, 0, rfl, hS, fun z0 => ⟨z0, rfl, fun p H1 b s1 np hB1 => ?_⟩⟩
    refine ⟨_, rfl, p, b, rfl, hB1, fun t i ts H2 hi b2 hB2 ht => ?_⟩
    have htm := List.mem_of_getElem? hi
    obtain ⟨hF, hck, hne, h16⟩ := menu_facts3 ts htm
    have h1t : 1 ≤ ts.length := List.length_pos_iff.mpr hne
    have s2 : Same H H2 := fun c o e => b2 c o (s1 c o e) (ne_of_none e np)
    refine ⟨_, rfl, t, ts, rfl, ht, hF, hck, hne, fun g H3 s3 hG => ?_⟩
    refine ⟨_, rfl, t, ts, rfl, .inr (Same.sqt s3 ht), hF, fun ev es H4 s4 eev hEv => ?_⟩
    refine ⟨(by show 2 ≤ sizeLine; decide), fun T H5 s5 nT eT => ?_⟩
    refine ⟨T, _, rfl, .inl (.inl eT), rfl, _, _, rfl, _, _, rfl, rfl, ?_⟩
    refine ⟨Nat.zero_le _, fun L H6 s6 nL eL => ?_⟩
    have sH6 : Same H H6 := ((s2.trans s3).trans (s4.trans s5)).trans s6
    have eL : H6 L = some (.lst (([] : List Addr).map V.ref)) := eL
    refine ⟨_, rfl, a, ns, 1, rfl, sH6.seq hS, fun z1 => ⟨(by show 1 ≤ sizeLine; decide), fun lB HB sB nB eB => ?_⟩⟩
    refine ⟨_, rfl, _, rfl, _, rfl, a, ns.map V.int, rfl, (sH6.trans sB).seq hS, fun lC nC => ?_⟩
    refine ⟨lC, _, rfl, .inl (SqL.of upd_same), fun lE HE sE nE eE => ?_⟩
    refine ⟨lB, lE, _, _, rfl, rfl, (Same.trans (same_upd nC) sE) _ _ eB, eE, ?_, fun l0 H0 s0 n0 e0 => ?_⟩
    · have := cutV_length (ns.map V.int) (some 2) (some 6)
      rw [List.length_map] at this
      rw [sizeLine_eq]
      show 1 + _ ≤ _
      omega
    have s60 := ((sB.trans (same_upd nC)).trans sE).trans s0
    have sHH : Same H H0 := sH6.trans s60
    have ne0L : l0 ≠ L := fun z => by
      rw [z, ((sB.trans (same_upd nC)).trans sE) _ _ eL] at n0
      cases n0
    have nevL : ev ≠ L := fun z => by
      rw [← z, s5 _ _ eev] at nL
      cases nL
    have w0 : Wd K C R (fun c => c = L) H0 g t ev L es [] ts H0 :=
      ⟨fun c o e _ => e, hG.same (s4.trans (s5.trans (s6.trans s60))), Same.sqt (s3.trans (s4.trans (s5.trans (s6.trans s60)))) ht, (s5.trans (s6.trans s60)) _ _ eev, nevL, hEv.same (s5.trans (s6.trans s60)), s60 _ _ eL, fun q hq => by cases hq⟩
    clear eE eB eL hG eT
    refine ⟨l0, rfl, ⟨_, SqL.of e0⟩, for_list (K := K) (a := l0) (fun j σ H' => ∃ (u1 u6 u7 u8 u9 u10 u11 u12 : Option V) (qs : List Addr), σ = [some (.ref a), u1, some (.ref t), some (.ref g), some (.ref ev), some (.ref L), u6, u7, u8, u9, u10, u11, u12, none, none, none, none, none] ∧ Wd K C R (fun c => c = L) H0 g t ev L es qs ts H' ∧ qs.length = j)
      ⟨_, _, _, _, _, _, _, _, [], rfl, w0, rfl⟩ (fun j σ H' _ ⟨_, _, _, _, _, _, _, _, _, _, w, _⟩ => SqL.of (w.base _ _ e0 ne0L)) ?_ ?_⟩
    · rintro j x σ H' hx ⟨u1, u6, u7, u8, u9, u10, u11, u12, qs, rfl, wd, hqs⟩
      obtain ⟨cc, rfl⟩ := cut_intsB (List.mem_of_getElem? hx)
      refine ⟨_, rfl, cc, rfl, fun p K1 b t1 np hB1 => ?_⟩
      have hj : j < 70 := by
        have z := (List.getElem?_eq_some_iff.mp hx).1
        have := cutV_length (ns.map V.int) (some 2) (some 6)
        rw [List.length_map] at this
        rw [List.length_append] at z
        have : ([V.int z1] : List V).length = 1 := rfl
        omega
      have pL : p ≠ L := fun z => by
        have e := wd.ll
        rw [← z, np] at e
        cases e
      have n0p : H0 p = none := by
        cases e : H0 p with
        | none => rfl
        | some o => rw [wd.base _ _ e pL] at np; cases np
      have w1 := (wd.add np).same t1
      have Ap : (fun c => c = L ∨ c = p) p := .inr rfl
      -- the rows
      refine ⟨_, rfl, p, 5, b, rfl, hB1, by decide, by decide, fun rr K2 r0 r5 bt hBt => ⟨_, _, rfl, rfl, _, rfl, by omega, by omega, fun rl nrl => ?_⟩⟩
      have w2 := w1.bag Ap pL n0p hB1 bt
      have rlp : rl ≠ p := hBt.ne nrl
      have rlL : rl ≠ L := fun z => by
        have e := w2.ll
        rw [← z, nrl] at e
        cases e
      have n0rl : H0 rl = none := by
        cases e : H0 rl with
        | none => rfl
        | some o => rw [w2.base _ _ e rlL] at nrl; cases nrl
      refine lc_draws (p := p) (ev := ev) (b := b) (es := es) (ts := ts) (n := (1 + rr).toNat) (j := 16) (iP := 1) (iE := 4) hBt w2.evl w2.each hF nrl (by omega) (fun _ => rfl) (fun _ => rfl) (fun _ => rfl) fun rs os K3 bM hB3 gD hEr hin hml => ?_
      have w3 := (w2.add nrl).bag (.inl Ap) pL n0p hBt bM
      have os0 : os ≠ [] := fun z => by
        rw [z] at hml
        have : (0 : Nat) = (1 + rr).toNat := hml
        omega
      -- the region
      refine ⟨_, rfl, rl, rs, ts, os, rfl, SqL.of gD, hEr, hin, hF, h1t, h16, by omega, fun us hus d ds K4 t4 nd ed hEd => ?_⟩
      obtain ⟨asc, bel, sup, clo, _⟩ := hus
      have us0 : us ≠ [] := fun z => by
        obtain ⟨o, ho⟩ := List.exists_mem_of_ne_nil os os0
        have := sup o ho
        rw [z] at this
        cases this
      have usl : us.length ≤ 16 := Nat.le_trans (nodup_len us (below ts) asc.nodup bel) h16
      have dp : d ≠ p := hB3.ne nd
      have drl : d ≠ rl := fun z => by rw [z, gD] at nd; cases nd
      have dL : d ≠ L := fun z => by
        have e := w3.ll
        rw [← z, nd] at e
        cases e
      have w4 := w3.same t4
      have hB4 := hB3.same t4
      have hEr4 := hEr.same t4
      refine ⟨_, rfl, .inl ⟨rfl, _, SqL.of w4.ll⟩, ?_⟩
      refine ⟨_, rfl, _, rfl, _, rfl, _, rfl, _, rfl, rl, _, rfl, SqL.of (t4 _ _ gD), fun l5 n5 => ?_⟩
      rw [one_take]
      refine ⟨d, l5, _, _, rfl, rfl, (same_upd n5) _ _ ed, upd_same, ?_, fun l6 K6 t6 n6 e6 => ?_⟩
      · rw [List.length_map, List.length_map, hEd.len, List.length_take, sizeLine_eq]
        omega
      have e6 : K6 l6 = some (.lst ((ds ++ rs.take 1).map V.ref)) := by rw [List.map_append]; exact e6
      have t46 : Same K4 K6 := (same_upd n5).trans t6
      have hB6 := hB4.same t46
      have l6p : l6 ≠ p := (hB4.same (same_upd n5)).ne n6
      have hE6 : Each K K6 (ds ++ rs.take 1) (us ++ os.take 1) := (hEd.same t46).app ((hEr4.take 1).same t46)
      have l6len : (ds ++ rs.take 1).length ≤ 1000 := by
        rw [hE6.len, List.length_append, List.length_take]
        omega
      refine ⟨p, l6, b, _, rfl, hB6, e6, l6p, l6len, fun q7 rs7 K7 hperm b7 hB7 n7 e7 => ?_⟩
      obtain ⟨rs7', os7, erw, hE7, hpu⟩ := Each.perm (hperm.map V.ref) rfl hE6
      obtain rfl := refs_injB erw
      have hE7 := but_each hB6 b7 hE7
      have w7 := (w4.same t46).bag (.inl Ap) pL n0p hB6 b7
      have hmk : mkRg ts os7 = .region us := mk_same hF asc bel clo us0 fun o => by
        rw [hpu.mem_iff, List.mem_append]
        exact ⟨fun h => h.elim id fun h => sup o (List.mem_of_mem_take h), .inl⟩
      have ol7 : os7.length ≤ 1000 := by
        rw [hpu.length_eq, List.length_append, List.length_take]
        omega
      refine fun z dz nz ndz nez => mk_any w7.grid hF (.inl (SqL.of e7)) hE7.opts ol7 nz ndz (fun n e => by rw [hmk] at e; cases e) (fun o e => by rw [hmk] at e; cases e) (fun a b e => by rw [hmk] at e; cases e) (fun us' e K8 t8 hR => ?_)
      obtain rfl : us = us' := by rw [hmk] at e; injection e
      refine ⟨rfl, _, rfl, (by show 2 ≤ sizeLine; decide), fun q9 K9 t9 n9 e9 => ?_⟩
      have t79 := t8.trans t9
      have w9 := w7.same t79
      have hB9 := hB7.same t79
      have gD7 : K7 rl = some (.lst (rs.map V.ref)) := b7 _ _ (t46 _ _ (t4 _ _ gD)) rlp
      have ed9 : K9 d = some (.lst (ds.map V.ref)) := t79 _ _ (b7 _ _ (t46 _ _ ed) dp)
      have hEd9 : Each K K9 ds us := (but_each hB6 b7 (hEd.same t46)).same t79
      have q9L : q9 ≠ L := fun z => by
        have e := (w7.same t8).ll
        rw [← z, n9] at e
        cases e
      have q9p : q9 ≠ p := (hB7.same t8).ne n9
      have q9rl : q9 ≠ rl := fun z => by rw [z, t8 _ _ gD7] at n9; cases n9
      refine ⟨L, _, _, rfl, rfl, w9.ll, by rw [List.length_map, sizeLine_eq]; omega, ?_⟩
      have w10 := w9.app (.inl (.inl rfl)) (q := q9) (us := us) ⟨z, d, ds, (fun h => h.elim (fun h => h.elim q9L q9p) q9rl), (fun h => h.elim (fun h => h.elim dL dp) drl), e9, hR.same t9, ed9, hEd9, us0, asc, bel, clo⟩
      have hB10 : Bag (upd K9 L (.lst (qs.map V.ref ++ [V.ref q9]))) p b := bag_keep hB9 pL.symm
      have gD10 : (upd K9 L (.lst (qs.map V.ref ++ [V.ref q9]))) rl = some (.lst (rs.map V.ref)) := by
        rw [upd_ne rlL]
        exact t79 _ _ gD7
      have hEr10 : Each K (upd K9 L (.lst (qs.map V.ref ++ [V.ref q9]))) rs os := kp_each w9.ll But.upd ((but_each hB6 b7 (hEr4.same t46)).same t79)
      generalize upd K9 L (.lst (qs.map V.ref ++ [V.ref q9])) = KA at w10 hB10 gD10 hEr10 ⊢
      clear w1 w2 w3 w4 w7 w9 hB1 hBt hB3 hB4 hB6 hB7 hB9 hE6 hE7 e7 e6 gD gD7 ed ed9 hEd hEd9 hEr hEr4 e9 hR hperm hpu
      -- two levels that are none
      refine ⟨(by show 2 ≤ sizeLine; decide), fun lv KB tB nB eB => ?_⟩
      have lvp : lv ≠ p := hB10.ne nB
      have lvrl : lv ≠ rl := fun z => by rw [z, gD10] at nB; cases nB
      have wB := w10.same tB
      have hBB := hB10.same tB
      have gB' := tB _ _ gD10
      have hEB := hEr10.same tB
      have pick0 : ∀ {Hx : Hp}, Each K Hx es (below ts) → ∃ (r : Addr) (o : List Int), es[0]? = some r ∧ o.length ≤ 3 ∧ SqT K Hx r (o.map V.int) := fun {Hx} hE => by
        have hl := hE.len
        have hp := below_pos hF
        have e : es[0]? = some (es[0]'(by omega)) := List.getElem?_eq_getElem (by omega)
        obtain ⟨o, ho, h⟩ := hE.get e
        exact ⟨_, o, e, by have := opt_len (List.mem_of_getElem? ho); have := hF.1; omega, h⟩
      refine ⟨lv, rfl, ⟨_, SqL.of eB⟩, for_list (K := K) (a := lv) (xs := [V.int 10, V.int 11]) (fun i σ H' => ∃ (u9 : Option V) (rs' : List Addr) (os' : List (List Int)), σ = [some (.ref a), some (.ref p), some (.ref t), some (.ref g), some (.ref ev), some (.ref L), some (.int cc), some (.ref rl), some (.ref d), u9, u10, u11, u12, none, none, none, none, none] ∧ Wd K C R (fun c => (c = L ∨ c = p) ∨ c = rl) H0 g t ev L es (qs ++ [q9]) ts H' ∧ Bag H' p b ∧ H' rl = some (.lst (rs'.map V.ref)) ∧ Each K H' rs' os' ∧ os'.length ≤ 5 + i ∧ H' lv = some (.lst [V.int 10, V.int 11]))
        ⟨_, rs, os, rfl, wB, hBB, gB', hEB, by omega, eB⟩ (fun i σ H' _ ⟨_, _, _, _, _, _, _, _, _, e⟩ => SqL.of e) ?_ ?_⟩
      · rintro i y σ H5 hy ⟨u9', rs5, os5, rfl, w5, hB5, g5, hE5, l5', elv⟩
        have hi2 : i < 2 := (List.getElem?_eq_some_iff.mp hy).1
        obtain ⟨lev, rfl⟩ : ∃ lev : Int, y = .int lev := by
          match i, hi2, hy with
          | 0, _, hy => exact ⟨10, by cases hy; rfl⟩
          | 1, _, hy => exact ⟨11, by cases hy; rfl⟩
        refine ⟨_, rfl, p, 4, b, rfl, hB5, by decide, by decide, fun dd H6 d0 d1 b6 hB6 => ⟨rfl, _, rfl, ?_⟩⟩
        have w6 := w5.bag (.inl Ap) pL n0p hB5 b6
        have g6 := b6 _ _ g5 rlp
        have hE6 := but_each hB5 b6 hE5
        have elv6 := b6 _ _ elv lvp
        have l56 := hE6.len
        refine ite2 (fun _ => ?_) (fun _ => ⟨_, rs5, os5, rfl, w6, hB6, g6, hE6, by omega, elv6⟩)
        refine ⟨_, rfl, .inl ⟨rfl, _, SqL.of g6⟩, ?_⟩
        refine ⟨_, rfl, _, rfl, rl, _, rfl, .inl (SqL.of g6), _, _, rfl, rfl, p, _, b, rfl, hB6, by omega, by rw [List.length_map]; omega, fun k7 H7 k70 k71 b7 hB7 => ?_⟩
        obtain ⟨k7, rfl⟩ := Int.eq_ofNat_of_zero_le k70
        have w7 := w6.bag (.inl Ap) pL n0p hB6 b7
        obtain ⟨r0, o0, er0, r0l, hr0⟩ := pick0 w7.each
        refine ⟨_, rfl, (by show 1 ≤ sizeLine; decide), fun t8 H8 s8 n8 e8 => ?_⟩
        refine ⟨_, rfl, ev, _, _, _, rfl, rfl, SqL.of (s8 _ _ w7.evl), atI_nat (j := 0) (by rw [List.getElem?_map, er0]; rfl), _, rfl, r0, _, rfl, Same.sqt s8 hr0, fun t9 H9 s9 h9 => ?_⟩
        rw [cut_tl, ← List.map_drop] at h9
        refine ⟨t8, t9, _, _, rfl, rfl, .inl (.inl (s9 _ _ e8)), h9, ?_, fun tA HA sA hA => ?_⟩
        · rw [List.length_map, List.length_drop, sizeLine_eq]
          show 1 + _ ≤ _
          omega
        have hA : SqT K HA tA ((lev :: o0.drop 1).map V.int) := hA
        have s7A := s8.trans (s9.trans sA)
        have gA := s7A _ _ (b7 _ _ g6 rlp)
        have wA := w7.same s7A
        have hEA := (but_each hB6 b7 hE6).same s7A
        have hBA := hB7.same s7A
        refine ⟨rl, _, _, _, rfl, rfl, gA, by rw [List.length_map, sizeLine_eq]; omega, by omega, by rw [List.length_map] at k71; omega, ?_⟩
        rw [Int.toNat_natCast, show (rs5.map V.ref).take k7 ++ [V.ref tA] ++ (rs5.map V.ref).drop k7 = (rs5.take k7 ++ [tA] ++ rs5.drop k7).map V.ref by rw [List.map_append, List.map_append, List.map_take, List.map_drop]; rfl]
        have sU : But rl HA (upd HA rl (.lst ((rs5.take k7 ++ [tA] ++ rs5.drop k7).map V.ref))) := But.upd
        refine ⟨_, _, os5.take k7 ++ [lev :: o0.drop 1] ++ os5.drop k7, rfl, wA.chg (.inr rfl) rlL n0rl gA sU, bag_keep hBA rlp, upd_same, kp_each gA sU (((hEA.take k7).app (.cons hA .nil)).app (hEA.dropX k7)), ?_, sU _ _ (s7A _ _ (b7 _ _ elv6 lvp)) lvrl⟩
        rw [List.length_append, List.length_append, List.length_take, List.length_drop]
        show _ + 1 + _ ≤ _
        omega
      · rintro σ HC ⟨u9', rs5, os5, rfl, wC, hBC, gC, hEC, lC', elv⟩
        have lC' : os5.length ≤ 7 := lC'
        have ApC : (fun c => (c = L ∨ c = p) ∨ c = rl) p := .inl (.inr rfl)
        refine ⟨_, rfl, _, rfl, _, rfl, _, rfl, _, rfl, p, 2, b, rfl, hBC, by decide, by decide, fun k2 HD k20 k21 bD2 hBD => ?_⟩
        obtain ⟨k2, rfl⟩ := Int.eq_ofNat_of_zero_le k20
        have wD := wC.bag ApC pL n0p hBC bD2
        have gD := bD2 _ _ gC rlp
        have hED := but_each hBC bD2 hEC
        refine ⟨_, rfl, rl, _, rfl, SqL.of gD, fun l8 n8 => ?_⟩
        have e8 : (upd HD l8 (.lst (cutV (rs5.map V.ref) (some (k2 : Int)) none))) l8 = some (.lst ((rs5.drop k2).map V.ref)) := by rw [upd_same, cut_drop, List.map_drop]
        have s8 : Same HD (upd HD l8 (.lst (cutV (rs5.map V.ref) (some (k2 : Int)) none))) := same_upd n8
        generalize upd HD l8 (.lst (cutV (rs5.map V.ref) (some (k2 : Int)) none)) = HE at e8 s8 ⊢
        have wE := wD.same s8
        have hBE := hBD.same s8
        refine ⟨p, g, ev, l8, b, es, _, ts, _, rfl, hBE, wE.grid, wE.evl, wE.each, e8, (hED.same s8).dropX k2, hF, h1t, h16, by rw [List.length_drop]; omega, fun HG bG hBG => ⟨true, rfl, iteF ?_⟩⟩
        have wG := wE.bag ApC pL n0p hBE bG
        refine ⟨_, rfl, _, rfl, _, rfl, p, g, ev, b, es, ts, rfl, hBG, wG.grid, wG.evl, wG.each, hF, h1t, fun HI bI' hBI => ⟨true, rfl, iteF ?_⟩⟩
        have wI := wG.bag ApC pL n0p hBG bI'
        -- two of the regions
        refine ⟨_, rfl, _, rfl, _, rfl, L, _, rfl, .inl (SqL.of wI.ll), p, _, b, rfl, hBI, by rw [List.length_map, List.length_append]; show (0 : Int) < ((_ + 1 : Nat) : Int); omega, by rw [List.length_map, List.length_append]; show ((_ + 1 : Nat) : Int) < _; omega, fun kf HJ kf0 kf1 bJ hBJ => ?_⟩
        rw [List.length_map] at kf1
        obtain ⟨kf, rfl⟩ := Int.eq_ofNat_of_zero_le kf0
        have wJ := wI.bag ApC pL n0p hBI bJ
        have eqf : (qs ++ [q9])[kf]? = some ((qs ++ [q9])[kf]'(by omega)) := List.getElem?_eq_getElem (by omega)
        generalize (qs ++ [q9])[kf]'(by omega) = q1 at eqf
        obtain ⟨q0, eq0⟩ : ∃ q0, (qs ++ [q9])[0]? = some q0 := ⟨_, List.getElem?_eq_getElem (by rw [List.length_append]; show 0 < _ + 1; omega)⟩
        refine ⟨L, _, _, _, rfl, rfl, SqL.of wJ.ll, atI_nat (j := kf) (by rw [List.getElem?_map, eqf]; rfl), ?_⟩
        refine ⟨_, rfl, L, _, _, _, rfl, rfl, SqL.of wJ.ll, atI_nat (j := 0) (by rw [List.getElem?_map, eq0]; rfl), ?_⟩
        refine ⟨(by show 2 ≤ sizeLine; decide), fun T2 HK sK nK eK => ?_⟩
        refine ⟨T2, _, rfl, .inl (.inl eK), rfl, _, _, rfl, _, _, rfl, rfl, ?_⟩
        have wK := wJ.same sK
        obtain ⟨us1, x1, d1, ds1, _, _, hq1, hR1, hd1, hE1, ne1, as1, be1, cl1⟩ := wK.pairs q1 (List.mem_of_getElem? eqf)
        obtain ⟨us0', x0, d0, ds0, _, _, hq0, hR0, hd0, hE0, ne0', as0, be0, cl0⟩ := wK.pairs q0 (List.mem_of_getElem? eq0)
        have l1 : us1.length ≤ 1000 := Nat.le_trans (nodup_len us1 (below ts) as1.nodup be1) (by omega)
        refine ⟨_, rfl, q1, _, _, _, rfl, rfl, SqL.of hq1, atI_nat (j := 1) rfl, d1, true, _, rfl, SqB.L (SqL.of hd1), fun D8 n8 => ?_⟩
        refine lc_filt (p := fun o => decide (o ∈ us0')) (SqB.L (SqL.of hd1)) hE1 (by omega) n8 (fun _ => rfl) (fun _ => rfl) (fun r o H' Q' ho s hr' k => ?_) (fun rsb HM sM gM hEM => ?_)
        · refine ⟨_, rfl, _, rfl, q0, _, _, _, rfl, rfl, SqL.of (s _ _ hq0), atI_nat (j := 1) rfl, dO o, us0'.map dO, .tup hr' (dpInts o), .lst (SqL.of (s _ _ hd0)) (hE0.same s).dp, shaped_dO o, shaped_dOl _, _, rfl, ?_⟩
          rw [any_dO]
          exact k H' (Same.refl _)
        have wM := wK.same sM
        have hR1 := hR1.same sM
        have hR0 := hR0.same sM
        have hq1 := sM _ _ hq1
        have hq0 := sM _ _ hq0
        have hd1 := sM _ _ hd1
        have hd0 := sM _ _ hd0
        have hE1 := hE1.same sM
        have hE0 := hE0.same sM
        refine ⟨_, rfl, q1, _, _, _, rfl, rfl, SqL.of hq1, atI_nat (j := 0) rfl, _, rfl, q0, _, _, _, rfl, rfl, SqL.of hq0, atI_nat (j := 0) rfl, x1, x0, ts, ts, us1, us0', rfl, hR1, hR0, hF, as1, be1, cl1, cl0, fun pa HN sN dN => ?_⟩
        rw [both_rg] at dN
        have fin : ∀ (pb : Addr) (HP : Hp), Same HN HP → Dp K HP (.ref pb) (resRg (if us1.filter (fun o => decide (o ∈ us0')) = [] then .number 0 else .region (us1.filter fun o => decide (o ∈ us0')))) →
            ∃ d1' d2', Dp K HP (.ref pa) d1' ∧ Dp K HP (.ref pb) d2' ∧ SeqAt.shaped d1' = true ∧ SeqAt.shaped d2' = true ∧ (!PyData.eqv d1' d2') = false := fun pb HP s d => ⟨_, _, dpS s dN, d, shapedRg _, shapedRg _, by rw [eqvSelf (shapedRg _)]; rfl⟩
        have tail : ∀ (HP : Hp), Same HM HP → tSeq (tIfS (tNot (L2.tB (tCall (spFits K C R) [] E0 (tCons (tOp (rIxL K) (tVar 10) (tC (.int 0))) (tCons (tVar 4) (tCons (tOp (rIxL K) (tVar 10) (tC (.int 1))) tNil)))))) (tRet (tC (.bl false))) tNext)
            (tIfS (tTest (tOp rNe (tOp (rEqO K R (spREq K C R) E0) (tOp (rIxL K) (tVar 10) (tC (.int 0))) (tOp (rIxL K) (tVar 11) (tC (.int 0)))) (tOp (rEqD K) (tOp (rIxL K) (tVar 10) (tC (.int 1))) (tOp (rIxL K) (tVar 11) (tC (.int 1)))))) (tRet (tC (.bl false))) tNext)
            { nx := fun σ H' => ∃ (u1 u6 u7 u8 u9 u10 u11 u12 : Option V) (qs : List Addr), σ = [some (.ref a), u1, some (.ref t), some (.ref g), some (.ref ev), some (.ref L), u6, u7, u8, u9, u10, u11, u12, none, none, none, none, none] ∧ Wd K C R (fun c => c = L) H0 g t ev L es qs ts H' ∧ qs.length = j + 1, rt := Q, bk := fun _ _ => False, ct := fun _ _ => False }
            [some (.ref a), some (.ref p), some (.ref t), some (.ref g), some (.ref ev), some (.ref L), some (.int cc), some (.ref rl), some (.ref d), u9', some (.ref q1), some (.ref q0), some (.ref D8), none, none, none, none, none] HP := by
          intro HP sP
          have hR1 := hR1.same sP
          have hR0 := hR0.same sP
          have hq1 := sP _ _ hq1
          have hq0 := sP _ _ hq0
          have hd1 := sP _ _ hd1
          have hd0 := sP _ _ hd0
          have hE1 := hE1.same sP
          have hE0 := hE0.same sP
          have wP := wM.same sP
          refine ⟨_, rfl, q1, _, _, _, rfl, rfl, SqL.of hq1, atI_nat (j := 0) rfl, _, rfl, _, rfl, q1, _, _, _, rfl, rfl, SqL.of hq1, atI_nat (j := 1) rfl, x1, ev, d1, es, ds1, ts, us1, rfl, hR1, SqL.of wP.evl, wP.each, SqL.of hd1, hE1, hF, ne1, as1, be1, fun HS sS => ⟨true, rfl, iteF ?_⟩⟩
          have hR1 := hR1.same sS
          have hR0 := hR0.same sS
          obtain ⟨dx1, _, _, _, hx1, _⟩ := id hR1
          obtain ⟨dx0, _, _, _, hx0, _⟩ := id hR0
          refine ⟨_, rfl, q1, _, _, _, rfl, rfl, SqL.of (sS _ _ hq1), atI_nat (j := 0) rfl, _, rfl, q0, _, _, _, rfl, rfl, SqL.of (sS _ _ hq0), atI_nat (j := 0) rfl, x1, dx1, _, rfl, hx1, .inl ⟨x0, dx0, _, rfl, hx0⟩, x1, x0, ts, us1, rfl, hR1, .inl ⟨ts, us0', hR0, _, rfl, ?_⟩⟩
          refine ⟨_, rfl, q1, _, _, _, rfl, rfl, SqL.of (sS _ _ hq1), atI_nat (j := 1) rfl, _, rfl, q0, _, _, _, rfl, rfl, SqL.of (sS _ _ hq0), atI_nat (j := 1) rfl, .list (us1.map dO), .list (us0'.map dO), .lst (SqL.of (sS _ _ hd1)) (hE1.same sS).dp, .lst (SqL.of (sS _ _ hd0)) (hE0.same sS).dp, shaped_dOl _, shaped_dOl _, ?_⟩
          rw [eqv_dOl, decide_eq_true (show ts = ts from rfl), Bool.true_and]
          refine ⟨rfl, false, by simp, ?_⟩
          refine iteF ?_
          exact ⟨_, _, _, _, _, _, _, _, qs ++ [q9], rfl, (wP.same sS).less (fun c h => .inl (.inl h)), by rw [List.length_append, hqs]; rfl⟩
        refine ⟨_, rfl, Nat.zero_le _, fun lN HO sO nO eO => ?_⟩
        refine ⟨.list ((us1.filter fun o => decide (o ∈ us0')).map dO), .list [], .lst (SqL.of (sO _ _ (sN _ _ gM))) ((hEM.same sN).same sO).dp, .lst (SqL.of eO) .nil, shaped_dOl _, by decide +kernel, _, rfl, ?_⟩
        by_cases hempty : us1.filter (fun o => decide (o ∈ us0')) = []
        · rw [if_pos hempty] at fin
          refine ite2 (fun z => by rw [hempty] at z; cases z) (fun _ => ?_)
          refine ⟨(by show 2 ≤ sizeLine; decide), fun pb HP sP nP eP => ?_⟩
          obtain ⟨e1', e2', D1, D2, S1, S2, e3'⟩ := fin pb HP (sO.trans sP) (.lst (SqL.of eP) (.cons (.str _) (.cons (.int _) .nil)))
          exact ⟨e1', e2', D1, D2, S1, S2, false, by rw [e3'], iteF (tail HP (sN.trans (sO.trans sP)))⟩
        · rw [if_neg hempty] at fin
          refine ite2 (fun _ => ?_) (fun z => ?_)
          · refine ⟨_, rfl, (by show 2 ≤ sizeLine; decide), fun pb HP sP nP eP => ?_⟩
            obtain ⟨e1', e2', D1, D2, S1, S2, e3'⟩ := fin pb HP (sO.trans sP) (.lst (SqL.of eP) (.cons (.str _) (.cons (.lst (SqL.of ((sO.trans sP) _ _ (sN _ _ gM))) (hEM.same (sN.trans (sO.trans sP))).dp) .nil)))
            exact ⟨e1', e2', D1, D2, S1, S2, false, by rw [e3'], iteF (tail HP (sN.trans (sO.trans sP)))⟩
          · exfalso
            cases hu : us1.filter (fun o => decide (o ∈ us0')) with
            | nil => exact hempty hu
            | cons x r => rw [hu] at z; exact z rfl
    · rintro σ H' ⟨u1, u6, u7, u8, u9, u10, u11, u12, qs, rfl, wd, hqs⟩
      obtain ⟨q0, eq0⟩ : ∃ q0, qs[0]? = some q0 := by
        refine ⟨_, List.getElem?_eq_getElem ?_⟩
        rw [hqs, List.length_append]
        show 0 < 1 + _
        omega
      obtain ⟨us0, x0, d0, ds0, _, _, hq0, hR0, hd0, hE0, ne0', as0, be0, cl0⟩ := wd.pairs q0 (List.mem_of_getElem? eq0)
      have l0 : us0.length ≤ 1000 := Nat.le_trans (nodup_len us0 (below ts) as0.nodup be0) (by omega)
      obtain ⟨far1, far2⟩ := menu_far ts htm
      have far3 : us0 ≠ below [1, 1, 2] := fun z => far2 (be0 _ (z ▸ far_in))
      have aL : atI (qs.map V.ref) 0 = some (.ref q0) := atI_nat (j := 0) (by rw [List.getElem?_map, eq0]; rfl)
      have rest : ∀ (HH : Hp) (v13 v14 : Option V), Same H' HH → tSeq (tAsg (tCallS (spWhole K C R N O B) (WE fun _ _ _ _ => False) (tCons (tMakeS C (spGInit K C N) (WE fun _ _ _ _ => False) (tCons (tC (.int 1)) (tCons (tC (.int 1)) (tCons (tC (.int 2)) tNil)))) tNil)) (gName 15))
          (tSeq (tIfS (tOr (tTest (tOp (rNeD K) (tCB (rListO K R "options" (spRLen K C R)) (tCons (tCallS (spWhole K C R N O B) (WE fun _ _ _ _ => False) (tCons (tVar 3) tNil)) tNil)) (tVar 4))) (tTest (tOp (rEqW K R (spREq K C R) E0) (tOp (rIxL K) (tOp (rIxL K) (tVar 5) (tC (.int 0))) (tC (.int 0))) (tOp (rIxL K) (tOp (rIxL K) (tVar 5) (tC (.int 0))) (tC (.int 1)))))) (tRet (tC (.bl false))) tNext)
          (tSeq (tIfS (tTest (tOp rNe (tOp (rEqO K R (spREq K C R) E0) (tOp (rIxL K) (tOp (rIxL K) (tVar 5) (tC (.int 0))) (tC (.int 0))) (tVar 15)) (tOp (rEqD K) (tCB (rListO K R "options" (spRLen K C R)) (tCons (tOp (rIxL K) (tOp (rIxL K) (tVar 5) (tC (.int 0))) (tC (.int 0))) tNil)) (tCB (rListO K R "options" (spRLen K C R)) (tCons (tVar 15) tNil))))) (tRet (tC (.bl false))) tNext)
          (tRet (tOrV (tOp (rEqD K) (tVar 2) (tNewT (tCons (tC (.int 1)) (tCons (tC (.int 1)) (tCons (tC (.int 2)) tNil))))) (tOp (rEqD K) (tCall (spBothOf K C R) [] E0 (tCons (tVar 15) (tCons (tOp (rIxL K) (tOp (rIxL K) (tVar 5) (tC (.int 0))) (tC (.int 0))) tNil))) (tNewL (tCons (tC (.str "grids")) (tCons (tNewT (tCons (tC (.int 1)) (tCons (tC (.int 1)) (tCons (tC (.int 2)) tNil)))) (tCons (tVar 2) tNil)))))))))
          { nx := fun _ H' => Q .non H', rt := Q, bk := fun _ _ => False, ct := fun _ _ => False }
          [some (.ref a), u1, some (.ref t), some (.ref g), some (.ref ev), some (.ref L), u6, u7, u8, u9, u10, u11, u12, v13, v14, none, none, none] HH := by
        intro HH v13 v14 sH
        refine fun z dz nz ndz nez => ⟨[.ref z], [.int 1, .int 1, .int 2], rfl, rfl, (by show 3 ≤ sizeLine; decide), fun pT nT => ⟨z, pT, dz, [1, 1, 2], rfl, by rw [upd_ne (ne_of_none upd_same nT)]; exact upd_same, .inl (.inl upd_same), ?_⟩⟩
        rw [chk_far]
        refine fun H7 k7 hG7 => ⟨rfl, ?_⟩
        have s7 : Same HH H7 := fun c o e => by
          have e1 : (upd (upd HH dz (.own z)) z (.ins C dz [])) c = some o := by
            rw [upd_ne (ne_of_none e nz), upd_ne (ne_of_none e ndz)]
            exact e
          refine k7 c o ?_ (ne_of_none e nz)
          rw [upd_ne (ne_of_none e1 nT)]
          exact e1
        refine ⟨z, [1, 1, 2], rfl, hG7, few_far, ?_⟩
        rw [mk_below few_far]
        intro fr H8 s8 hFar
        have w8 := wd.same (sH.trans (s7.trans s8))
        have sA := sH.trans (s7.trans s8)
        refine ⟨_, rfl, g, ts, rfl, w8.grid, hF, ?_⟩
        rw [mk_below hF]
        intro wr H9 s9 hW
        dsimp only [tNil]
        refine list_reg hW (below_few hF) fun q10 rsw HA sA' nA eA hEA => ?_
        have wA := (w8.same s9).same sA'
        refine ⟨_, rfl, .list ((below ts).map dO), .list ((below ts).map dO), .lst (SqL.of eA) hEA.dp, .lst (SqL.of wA.evl) wA.each.dp, shaped_dOl _, shaped_dOl _, _, rfl, ?_⟩
        rw [eqL]
        refine iteF ?_
        have sB := sA.trans (s9.trans sA')
        have hR0 := hR0.same sB
        have hq0 := sB _ _ hq0
        have hd0 := sB _ _ hd0
        have hFar := hFar.same (s9.trans sA')
        obtain ⟨dx0, _, _, _, hx0, _⟩ := id hR0
        obtain ⟨dfr, _, _, _, hfr, _⟩ := id hFar
        refine ⟨_, rfl, L, _, _, _, rfl, rfl, SqL.of wA.ll, aL, q0, _, _, _, rfl, rfl, SqL.of hq0, atI_nat (j := 0) rfl, _, rfl, L, _, _, _, rfl, rfl, SqL.of wA.ll, aL, q0, _, _, _, rfl, rfl, SqL.of hq0, atI_nat (j := 1) rfl, ?_⟩
        refine ⟨x0, dx0, _, rfl, hx0, .inr ⟨d0, _, rfl, SqL.of hd0, sL⟩, x0, d0, ts, us0, rfl, hR0, .inr ⟨_, tyX_L hd0, kL, _, rfl, ?_⟩⟩
        refine ⟨_, rfl, iteF ?_⟩
        refine ⟨_, rfl, L, _, _, _, rfl, rfl, SqL.of wA.ll, aL, q0, _, _, _, rfl, rfl, SqL.of hq0, atI_nat (j := 0) rfl, _, rfl, x0, dx0, _, rfl, hx0, .inl ⟨fr, dfr, _, rfl, hfr⟩, x0, fr, ts, us0, rfl, hR0, .inl ⟨[1, 1, 2], below [1, 1, 2], hFar, _, rfl, ?_⟩⟩
        refine ⟨_, rfl, L, _, _, _, rfl, rfl, SqL.of wA.ll, aL, q0, _, _, _, rfl, rfl, SqL.of hq0, atI_nat (j := 0) rfl, ?_⟩
        dsimp only [tNil]
        refine list_reg hR0 l0 fun qa rsa HB sB' nB eB hEB => ?_
        refine ⟨_, rfl, ?_⟩
        dsimp only [tNil]
        refine list_reg (hFar.same sB') (below_few few_far) fun qb rsb HC sC nC eC hEC => ?_
        refine ⟨.list (us0.map dO), .list ((below [1, 1, 2]).map dO), .lst (SqL.of (sC _ _ eB)) (hEB.same sC).dp, .lst (SqL.of eC) hEC.dp, shaped_dOl _, shaped_dOl _, ?_⟩
        rw [eqv_dOl, decide_eq_false far1, decide_eq_false far3]
        refine ⟨rfl, false, rfl, iteF ?_⟩
        have sBC := sB'.trans sC
        have wC := wA.same sBC
        refine ⟨_, rfl, (by show 3 ≤ sizeLine; decide), fun t7 HD sD nD eD => ?_⟩
        have eD : HD t7 = some (.tup (([1, 1, 2] : List Int).map V.int)) := eD
        have wD := wC.same sD
        refine ⟨dO ts, dO [1, 1, 2], .tup wD.tops (dpInts _), .tup (.inl (.inl eD)) (dpInts _), shaped_dO _, shaped_dO _, ?_⟩
        rw [eqv_dO, decide_eq_false far1]
        refine ⟨false, rfl, iteF ?_⟩
        have sBD := sBC.trans sD
        refine ⟨_, rfl, _, rfl, L, _, _, _, rfl, rfl, SqL.of wD.ll, aL, q0, _, _, _, rfl, rfl, SqL.of (sBD _ _ hq0), atI_nat (j := 0) rfl, fr, x0, [1, 1, 2], ts, below [1, 1, 2], us0, rfl, hFar.same sBD, hR0.same sBD, few_far, asc_all few_far.2, (fun _ h => h), closed_below _, cl0, fun pa HE sE dE => ?_⟩
        have er : resBoth [1, 1, 2] ts (below [1, 1, 2]) us0 = .list [.str "grids", dO [1, 1, 2], dO ts] := if_neg fun z => far1 z.symm
        rw [er] at dE
        refine ⟨(by show 3 ≤ sizeLine; decide), fun t8 HF sF nF eF => ⟨_, rfl, (by show 3 ≤ sizeLine; decide), fun l9 HG sG nG eG => ?_⟩⟩
        have eF : HF t8 = some (.tup (([1, 1, 2] : List Int).map V.int)) := eF
        refine ⟨_, .list [.str "grids", dO [1, 1, 2], dO ts], dpS (sF.trans sG) dE, .lst (SqL.of eG) (.cons (.str _) (.cons (.tup (Same.sqt sG (.inl (.inl eF))) (dpInts _)) (.cons (.tup (Same.sqt (sE.trans (sF.trans sG)) wD.tops) (dpInts _)) .nil))), shaped_far _ (by decide +kernel) _ _, shaped_far _ (by decide +kernel) _ _, ?_⟩
        rw [eqvSelf (shaped_far _ (by decide +kernel) _ _)]
        exact k HG
      -- the tops with one more
      obtain ⟨fewM, neM, moreM⟩ := menu_more ts htm
      obtain ⟨tl, etl⟩ : ∃ tl, ts.getLast? = some tl := by
        cases e : ts.getLast? with
        | none => exact absurd (List.getLast?_eq_none_iff.mp e) hne
        | some z => exact ⟨z, rfl⟩
      have etD : ts.getLastD 0 = tl := by rw [List.getLastD_eq_getLast?, etl]; rfl
      refine ⟨_, rfl, _, rfl, _, rfl, t, _, rfl, wd.tops, fun t1 H1 s1 h1 => ?_⟩
      refine ⟨_, rfl, _, rfl, t, _, _, _, rfl, rfl, Same.sqt s1 wd.tops, atI_end (by rw [List.getLast?_map, etl]; rfl), _, _, rfl, rfl, _, _, rfl, (by show 1 ≤ sizeLine; decide), fun t2 H2 s2 n2 e2 => ?_⟩
      refine ⟨t1, t2, _, _, rfl, rfl, Same.sqt s2 h1, .inl (.inl e2), ?_, fun t3 H3 s3 h3 => ?_⟩
      · rw [cut_last, List.length_dropLast, List.length_map, sizeLine_eq]
        have := hF.1
        show _ + 1 ≤ _
        omega
      have h3 : SqT K H3 t3 ((moreOf ts).map V.int) := by
        unfold moreOf
        rw [List.map_append, List.map_dropLast, ← cut_last, etD]
        exact h3
      have s13 := s1.trans (s2.trans s3)
      have w3 := wd.same s13
      refine ⟨_, rfl, _, rfl, dO (moreOf ts), dO ts, .tup h3 (dpInts _), .tup w3.tops (dpInts _), shaped_dO _, shaped_dO _, _, rfl, ?_⟩
      rw [eqv_dO]
      by_cases em : moreOf ts = ts
      · rw [decide_eq_true em]
        exact iteF (iteF (rest H3 _ _ s13))
      rw [decide_eq_false em]
      refine iteT ?_
      refine ⟨_, rfl, t3, moreOf ts, rfl, .inr h3, fewM, fun l4 rs4 H4 s4 e4 hE4 => ?_⟩
      refine ⟨l4, _, rfl, .inl (SqL.of e4), _, _, rfl, rfl, _, rfl, ?_⟩
      rw [List.length_map, hE4.len]
      have s14 := s13.trans s4
      refine ite2 (fun hlt => ?_) (fun _ => rest H4 _ _ s14)
      have hlt := of_decide_eq_true hlt
      obtain ⟨chkM, subM⟩ : chk (moreOf ts) = none ∧ ∀ o ∈ below ts, o ∈ below (moreOf ts) := moreM.elim (fun h => by omega) id
      refine ⟨_, rfl, t3, moreOf ts, rfl, Same.sqt s4 h3, fewM, chkM, neM, fun g2 H5 s5 hG2 => ?_⟩
      have s15 := s14.trans s5
      have w5 := wd.same s15
      refine ⟨_, rfl, L, _, _, _, rfl, rfl, SqL.of w5.ll, aL, q0, _, _, _, rfl, rfl, SqL.of (s15 _ _ hq0), atI_nat (j := 1) rfl, ?_⟩
      have hmk := mk_region fewM as0 (fun o ho => subM o (be0 o ho)) cl0 ne0'
      refine fun z dz nz ndz nez => mk_any hG2 fewM (.inl (SqL.of (s15 _ _ hd0))) (hE0.same s15).opts l0 nz ndz (fun n e => by rw [hmk] at e; cases e) (fun o e => by rw [hmk] at e; cases e) (fun a b e => by rw [hmk] at e; cases e) (fun us' e K8 t8 hR => ?_)
      obtain rfl : us0 = us' := by rw [hmk] at e; injection e
      refine ⟨rfl, ?_⟩
      have s18 := s15.trans t8
      have w8 := wd.same s18
      have hR0' := hR0.same s18
      obtain ⟨dx0, _, _, _, hx0, _⟩ := id hR0'
      obtain ⟨dzz, _, _, _, hz, _⟩ := id hR
      refine ⟨_, rfl, _, rfl, L, _, _, _, rfl, rfl, SqL.of w8.ll, aL, q0, _, _, _, rfl, rfl, SqL.of (s18 _ _ hq0), atI_nat (j := 0) rfl, z, dzz, _, rfl, hz, .inl ⟨x0, dx0, _, rfl, hx0⟩, z, x0, moreOf ts, us0, rfl, hR, .inl ⟨ts, us0, hR0', _, rfl, ?_⟩⟩
      rw [decide_eq_false em]
      refine ⟨_, rfl, iteF ?_⟩
      refine ⟨_, rfl, L, _, _, _, rfl, rfl, SqL.of w8.ll, aL, q0, _, _, _, rfl, rfl, SqL.of (s18 _ _ hq0), atI_nat (j := 0) rfl, _, rfl, x0, dx0, _, rfl, hx0, .inl ⟨z, dzz, _, rfl, hz⟩, x0, z, ts, us0, rfl, hR0', .inl ⟨moreOf ts, us0, hR, _, rfl, ?_⟩⟩
      rw [decide_eq_false (fun w => em w.symm)]
      refine ⟨_, rfl, iteF ?_⟩
      exact rest K8 _ _ s18
end
end KL

set_option Elab.async false
set_option linter.all false
set_option maxRecDepth 100000
set_option maxHeartbeats 4000000
namespace KL
open PySem PySem.Spec PyProof.Rows L2 NdefX SX
abbrev sRIter : Stmt := inClass (top 26) 6
theorem exm_own {P : Program} {K : PySem.W.Frag} {mg : Str → Option Value} {x qual f1 f2 : Str} {st : Stmt} {C fI cc c R : Addr} {fd : FuncData} (E : ErrPack P K mg x qual st f1 f2 C fI cc c fd R) : PySem.W.exmOne K (.ref C) (.ref C) = some true := by
  obtain ⟨cd, hc, hm, hn⟩ := E.mro
  have e1 : (PySem.W.subIn K (.ref C) (.type "BaseException") == some true) = true := by rw [E.xf.exC] <;> rfl
  have e2 : ((PySem.W.clsIn K C).isSome && PySem.W.typeIn K (.ref C) == some (.type "type")) = true := by rw [hc, E.T.ox.tyC] <;> rfl
  show (if (PySem.W.subIn K (.ref C) (.type "BaseException") == some true) = true then (if ((PySem.W.clsIn K C).isSome && PySem.W.typeIn K (.ref C) == some (.type "type")) = true then PySem.W.subIn K (.ref C) (.ref C) else none) else none) = some true
  rw [if_pos e1, if_pos e2]
  exact E.T.sub
theorem exm_other {P : Program} {K : PySem.W.Frag} {mg : Str → Option Value} {x x' qual qual' f1 f2 f1' f2' : Str} {st st' : Stmt} {C fI cc c R C' fI' cc' c' R' : Addr} {fd fd' : FuncData}
    (E : ErrPack P K mg x qual st f1 f2 C fI cc c fd R) (E' : ErrPack P K mg x' qual' st' f1' f2' C' fI' cc' c' fd' R') (hx : x ≠ x') (hx' : ("RiseError" : Str) ≠ x') : PySem.W.exmOne K (.ref C) (.ref C') = some false := by
  have k := kit_other E E' hx hx'
  have e1 : (PySem.W.subIn K (.ref C') (.type "BaseException") == some true) = true := by rw [E'.xf.exC] <;> rfl
  unfold PySem.W.exmOne
  rw [if_pos e1]
  unfold PySem.W.kitOne at k
  split at k
  · cases k
  · exact k
theorem meth_pack {K : PySem.W.Frag} {x q : Str} {st : Stmt} {f : Addr} {oc kV doc pm cdv ct : Value} {od an : Option Addr} {osl : Array (Option Value)}
    (l : K.lookup f = some ⟨oc, od, .func (PySem.W.fnOf x q (defArgs st) (defBody st) (defScope st) .none kV doc pm an cdv ct), osl⟩)
    (c : PySem.W.codeIn K cdv q = true) (k : PySem.W.keepIn K (.ref f) = true) : ∃ fd, Fun K x q st f fd := ⟨_, fun_mk l c k⟩
structure GPackB (K : PySem.W.Frag) (mg : Str → Option Value) (C fI fR fE fH fCk fL fG fB p : Addr) (dI dR dE dH dCk dL dG dB : FuncData) : Prop where
  gm : mg "Grid" = some (.ref C)
  T : GTxt K C
  M : Mk K C fI
  F_I : Fun K "__init__" "Grid.__init__" sGInit fI dI
  rd : ClX.CRead K C (.type "type")
  cm : ClX.CMet K C (.type "type") "read" p fR
  F_R : Fun K "read" "Grid.read" sGRead fR dR
  d_E : Dun K C "__eq__" fE
  F_E : Fun K "__eq__" "Grid.__eq__" sGEq fE dE
  d_H : Dun K C "__contains__" fH
  F_H : Fun K "__contains__" "Grid.__contains__" sGHas fH dH
  m_Ck : Meth K C "check" fCk
  F_Ck : Fun K "check" "Grid.check" sGCheck fCk dCk
  m_L : Meth K C "lesser" fL
  F_L : Fun K "lesser" "Grid.lesser" sGLow fL dL
  m_G : Meth K C "greater" fG
  F_G : Fun K "greater" "Grid.greater" sGHigh fG dG
  m_B : Meth K C "is_below" fB
  F_B : Fun K "is_below" "Grid.is_below" sGUnder fB dB
  nE : PySem.W.findIn K (.ref C) "__ne__" = some (some (.builtin "object.__ne__"))
theorem GPackB_mk {K : PySem.W.Frag} {h : Heap} {mg : Str → Option Value} (X : K.In h) (G : h.Ns mainGlobals mg) {C fI fR fE fH fCk fL fG fB p : Addr} {rest : List Value}
    (aC : PySem.W.nsIn K mainGlobals "Grid" = some (some (.ref C)))
    (pg : PySem.W.plainGet K C Str.empty = true) (hd : PySem.W.hasDictIn K C = true) (po : PySem.W.plainOver K C = true)
    (sa : PySem.W.findIn K (.ref C) "__setattr__" = some (some (.builtin "object.__setattr__")))
    (n_t : PySem.W.findIn K (.ref C) "tops" = some none)
    (n_o : PySem.W.findIn K (.ref C) "options" = some none)
    (ha : PySem.W.findIn K (.ref C) "__class__" = some (some (.builtin "object.__class__")))
    (hn : PySem.W.specialIn K (.builtin "object.__class__") "__get__" = some (some (.builtin "getset_descriptor.__get__")))
    (ht : PySem.W.takesIn K (.builtin "object.__class__") = some true)
    (hm : PySem.W.mroIn K C (.type "object") = some true)
    (mk : PySem.W.makesIn K C = true) (iC : PySem.W.findIn K (.ref C) "__init__" = some (some (.ref fI))) (iF : PySem.W.isFn K (.ref fI) = true) (kC : PySem.W.keepIn K (.ref C) = true)
    (rd : PySem.W.readsIn K C (.type "type") = true) (gC : PySem.W.specialIn K (.ref C) "__getattribute__" = some (some (.builtin "type.__getattribute__")))
    (at_ : PySem.W.findCls K (.ref C) (.type "type") "read" = some (.get (.builtin "classmethod.__get__") (.ref p) .none (.ref C))) (rc : PySem.W.recIn K p "classmethod" = some (.ref fR :: rest)) (fR1 : PySem.W.fnIn K fR = true)
    (aE : PySem.W.findIn K (.ref C) "__eq__" = some (some (.ref fE))) (bE : PySem.W.isFn K (.ref fE) = true)
    (aH : PySem.W.findIn K (.ref C) "__contains__" = some (some (.ref fH))) (bH : PySem.W.isFn K (.ref fH) = true)
    (aCk : PySem.W.findIn K (.ref C) "check" = some (some (.ref fCk))) (bCk : PySem.W.isFn K (.ref fCk) = true)
    (aL : PySem.W.findIn K (.ref C) "lesser" = some (some (.ref fL))) (bL : PySem.W.isFn K (.ref fL) = true)
    (aG : PySem.W.findIn K (.ref C) "greater" = some (some (.ref fG))) (bG : PySem.W.isFn K (.ref fG) = true)
    (aB : PySem.W.findIn K (.ref C) "is_below" = some (some (.ref fB))) (bB : PySem.W.isFn K (.ref fB) = true)
    (nE : PySem.W.findIn K (.ref C) "__ne__" = some (some (.builtin "object.__ne__")))
    (FI : ∃ d, Fun K "__init__" "Grid.__init__" sGInit fI d)
    (FR : ∃ d, Fun K "read" "Grid.read" sGRead fR d)
    (FE : ∃ d, Fun K "__eq__" "Grid.__eq__" sGEq fE d)
    (FH : ∃ d, Fun K "__contains__" "Grid.__contains__" sGHas fH d)
    (FCk : ∃ d, Fun K "check" "Grid.check" sGCheck fCk d)
    (FL : ∃ d, Fun K "lesser" "Grid.lesser" sGLow fL d)
    (FG : ∃ d, Fun K "greater" "Grid.greater" sGHigh fG d)
    (FB : ∃ d, Fun K "is_below" "Grid.is_below" sGUnder fB d)
    : ∃ C fI fR fE fH fCk fL fG fB p dI dR dE dH dCk dL dG dB, GPackB K mg C fI fR fE fH fCk fL fG fB p dI dR dE dH dCk dL dG dB := by
  obtain ⟨dI, FI⟩ := FI
  obtain ⟨dR, FR⟩ := FR
  obtain ⟨dE, FE⟩ := FE
  obtain ⟨dH, FH⟩ := FH
  obtain ⟨dCk, FCk⟩ := FCk
  obtain ⟨dL, FL⟩ := FL
  obtain ⟨dG, FG⟩ := FG
  obtain ⟨dB, FB⟩ := FB
  exact ⟨C, fI, fR, fE, fH, fCk, fL, fG, fB, p, dI, dR, dE, dH, dCk, dL, dG, dB,
    { gm := PySem.W.mg_of X G aC, T := ⟨⟨pg, hd, po, sa⟩, n_t, n_o, ha, hn, ht, hm⟩, M := ⟨mk, iC, iF, kC⟩, rd := ⟨rd, gC⟩, cm := ⟨at_, ⟨rest, rc⟩, fR1⟩, d_E := ⟨aE, bE⟩, d_H := ⟨aH, bH⟩, m_Ck := ⟨aCk, bCk, FCk.kp⟩, m_L := ⟨aL, bL, FL.kp⟩, m_G := ⟨aG, bG, FG.kp⟩, m_B := ⟨aB, bB, FB.kp⟩, nE := nE, F_I := FI, F_R := FR, F_E := FE, F_H := FH, F_Ck := FCk, F_L := FL, F_G := FG, F_B := FB }⟩
structure RPackB (K : PySem.W.Frag) (mg : Str → Option Value) (C fI fE fL fH fT fA fLe fGr : Addr) (dI dE dL dH dT dA dLe dGr : FuncData) : Prop where
  gm : mg "Region" = some (.ref C)
  T : RTxt K C
  M : Mk K C fI
  F_I : Fun K "__init__" "Region.__init__" sRInit fI dI
  d_E : Dun K C "__eq__" fE
  F_E : Fun K "__eq__" "Region.__eq__" sREq fE dE
  d_L : Dun K C "__len__" fL
  F_L : Fun K "__len__" "Region.__len__" sRLen fL dL
  d_H : Dun K C "__contains__" fH
  F_H : Fun K "__contains__" "Region.__contains__" sRHas fH dH
  d_T : Dun K C "__iter__" fT
  F_T : Fun K "__iter__" "Region.__iter__" sRIter fT dT
  d_A : Dun K C "__and__" fA
  F_A : Fun K "__and__" "Region.__and__" sRAnd fA dA
  m_Le : Meth K C "least" fLe
  F_Le : Fun K "least" "Region.least" sRLeast fLe dLe
  m_Gr : Meth K C "greatest" fGr
  F_Gr : Fun K "greatest" "Region.greatest" sRGreat fGr dGr
  sF : PySem.W.selfFirst K C = true
  sL : PySem.W.subIn K (.type "list") (.ref C) = some false
  isC : PySem.W.isClsIn K C = true
  tyC : PySem.W.typeIn K (.ref C) = some (.type "type")
theorem RPackB_mk {K : PySem.W.Frag} {h : Heap} {mg : Str → Option Value} (X : K.In h) (G : h.Ns mainGlobals mg) {C fI fE fL fH fT fA fLe fGr : Addr}
    (aC : PySem.W.nsIn K mainGlobals "Region" = some (some (.ref C)))
    (pg : PySem.W.plainGet K C Str.empty = true) (hd : PySem.W.hasDictIn K C = true) (po : PySem.W.plainOver K C = true)
    (sa : PySem.W.findIn K (.ref C) "__setattr__" = some (some (.builtin "object.__setattr__")))
    (n_g : PySem.W.findIn K (.ref C) "grid" = some none)
    (n_o : PySem.W.findIn K (.ref C) "options" = some none)
    (ha : PySem.W.findIn K (.ref C) "__class__" = some (some (.builtin "object.__class__")))
    (hn : PySem.W.specialIn K (.builtin "object.__class__") "__get__" = some (some (.builtin "getset_descriptor.__get__")))
    (ht : PySem.W.takesIn K (.builtin "object.__class__") = some true)
    (hm : PySem.W.mroIn K C (.type "object") = some true)
    (mk : PySem.W.makesIn K C = true) (iC : PySem.W.findIn K (.ref C) "__init__" = some (some (.ref fI))) (iF : PySem.W.isFn K (.ref fI) = true) (kC : PySem.W.keepIn K (.ref C) = true)
    (aE : PySem.W.findIn K (.ref C) "__eq__" = some (some (.ref fE))) (bE : PySem.W.isFn K (.ref fE) = true)
    (aL : PySem.W.findIn K (.ref C) "__len__" = some (some (.ref fL))) (bL : PySem.W.isFn K (.ref fL) = true)
    (aH : PySem.W.findIn K (.ref C) "__contains__" = some (some (.ref fH))) (bH : PySem.W.isFn K (.ref fH) = true)
    (aT : PySem.W.findIn K (.ref C) "__iter__" = some (some (.ref fT))) (bT : PySem.W.isFn K (.ref fT) = true)
    (aA : PySem.W.findIn K (.ref C) "__and__" = some (some (.ref fA))) (bA : PySem.W.isFn K (.ref fA) = true)
    (aLe : PySem.W.findIn K (.ref C) "least" = some (some (.ref fLe))) (bLe : PySem.W.isFn K (.ref fLe) = true)
    (aGr : PySem.W.findIn K (.ref C) "greatest" = some (some (.ref fGr))) (bGr : PySem.W.isFn K (.ref fGr) = true)
    (sF : PySem.W.selfFirst K C = true)
    (sL : PySem.W.subIn K (.type "list") (.ref C) = some false)
    (isC : PySem.W.isClsIn K C = true)
    (tyC : PySem.W.typeIn K (.ref C) = some (.type "type"))
    (FI : ∃ d, Fun K "__init__" "Region.__init__" sRInit fI d)
    (FE : ∃ d, Fun K "__eq__" "Region.__eq__" sREq fE d)
    (FL : ∃ d, Fun K "__len__" "Region.__len__" sRLen fL d)
    (FH : ∃ d, Fun K "__contains__" "Region.__contains__" sRHas fH d)
    (FT : ∃ d, Fun K "__iter__" "Region.__iter__" sRIter fT d)
    (FA : ∃ d, Fun K "__and__" "Region.__and__" sRAnd fA d)
    (FLe : ∃ d, Fun K "least" "Region.least" sRLeast fLe d)
    (FGr : ∃ d, Fun K "greatest" "Region.greatest" sRGreat fGr d)
    : ∃ C fI fE fL fH fT fA fLe fGr dI dE dL dH dT dA dLe dGr, RPackB K mg C fI fE fL fH fT fA fLe fGr dI dE dL dH dT dA dLe dGr := by
  obtain ⟨dI, FI⟩ := FI
  obtain ⟨dE, FE⟩ := FE
  obtain ⟨dL, FL⟩ := FL
  obtain ⟨dH, FH⟩ := FH
  obtain ⟨dT, FT⟩ := FT
  obtain ⟨dA, FA⟩ := FA
  obtain ⟨dLe, FLe⟩ := FLe
  obtain ⟨dGr, FGr⟩ := FGr
  exact ⟨C, fI, fE, fL, fH, fT, fA, fLe, fGr, dI, dE, dL, dH, dT, dA, dLe, dGr,
    { gm := PySem.W.mg_of X G aC, T := ⟨⟨pg, hd, po, sa⟩, n_g, n_o, ha, hn, ht, hm⟩, M := ⟨mk, iC, iF, kC⟩, d_E := ⟨aE, bE⟩, d_L := ⟨aL, bL⟩, d_H := ⟨aH, bH⟩, d_T := ⟨aT, bT⟩, d_A := ⟨aA, bA⟩, m_Le := ⟨aLe, bLe, FLe.kp⟩, m_Gr := ⟨aGr, bGr, FGr.kp⟩, sF := sF, sL := sL, isC := isC, tyC := tyC, F_I := FI, F_E := FE, F_L := FL, F_H := FH, F_T := FT, F_A := FA, F_Le := FLe, F_Gr := FGr }⟩
/-- the module's constants -/
structure CPack (K : PySem.W.Frag) (mg : Str → Option Value) (aD : Addr) (t1 t2 t3 : Tok) : Prop where
  m1 : mg "MOST_KNOBS" = some (.int 3 t1)
  m2 : mg "MOST_TOP" = some (.int 9 t2)
  m3 : mg "MOST_OPTIONS" = some (.int 16 t3)
  md : mg "DIGITS" = some (.ref aD)
  hD : ∀ H, SqT K H aD digVs
theorem cons_mk {K : PySem.W.Frag} {h : Heap} {mg : Str → Option Value} (X : K.In h) (G : h.Ns mainGlobals mg) {aD : Addr} {t1 t2 t3 : Tok} {od : Option Addr} {its : Array Value} {n : Nat} {sl : Array (Option Value)}
    (a1 : PySem.W.nsIn K mainGlobals "MOST_KNOBS" = some (some (.int 3 t1))) (a2 : PySem.W.nsIn K mainGlobals "MOST_TOP" = some (some (.int 9 t2))) (a3 : PySem.W.nsIn K mainGlobals "MOST_OPTIONS" = some (some (.int 16 t3)))
    (aD' : PySem.W.nsIn K mainGlobals "DIGITS" = some (some (.ref aD))) (l : K.lookup aD = some ⟨.type "tuple", od, .seq its n, sl⟩) (v : Vals digVs its.toList) : ∃ aD t1 t2 t3, CPack K mg aD t1 t2 t3 :=
  ⟨aD, t1, t2, t3, PySem.W.mg_of X G a1, PySem.W.mg_of X G a2, PySem.W.mg_of X G a3, PySem.W.mg_of X G aD', fun H => .inr ⟨_, its, n, l, rfl, rfl, by
    have e : digVs.length = its.toList.length := v.length
    have e2 : its.toList.length = its.size := Array.length_toList
    rw [show its.size = 10 from e2.symm.trans e.symm]
    decide, v⟩⟩
theorem kit_list {K : PySem.W.Frag} {C : Addr} (h1 : PySem.W.isClsIn K C = true) (h2 : PySem.W.typeIn K (.ref C) = some (.type "type")) (h3 : PySem.W.subIn K (.type "list") (.ref C) = some false) : PySem.W.kitOne K (.type "list") (.ref C) = some false := by
  unfold PySem.W.kitOne
  rw [if_neg (by simp)]
  unfold PySem.W.kitCls
  have e1 : ((PySem.W.clsIn K C).isSome && PySem.W.typeIn K (.ref C) == some (.type "type")) = true := by
    unfold PySem.W.isClsIn at h1
    rw [h1, h2]
    rfl
  show (if ((PySem.W.clsIn K C).isSome && PySem.W.typeIn K (.ref C) == some (.type "type")) = true then PySem.W.subIn K (.type "list") (.ref C) else none) = some false
  rw [if_pos e1]
  exact h3
theorem clt {P : Program} {K : PySem.W.Frag} {mg : Str → Option Value} {x qual f1 f2 : Str} {st : Stmt} {C fI cc c R : Addr} {fd : FuncData} (E : ErrPack P K mg x qual st f1 f2 C fI cc c fd R) : ClTxtX K mg x f1 f2 C := ⟨E.gm, E.xf, E.n1, E.n2, exm_own E⟩
theorem iter_own {P : Program} {w : World} {K : PySem.W.Frag} {mg : Str → Option Value} {base : Heap} {f C : Addr} {fd : FuncData} (F : Fun K "__iter__" "Region.__iter__" sRIter f fd) (T : RTxt K C) (D : Dun K C "__iter__" f) (mi : mg "iter" = none) : ItO P w K mg base C f "options" := by
  refine ⟨D.at_, D.fn, fn_iter F T.cl T.nO ⟨rfl, rfl, rfl, by decide +kernel, rfl, by decide +kernel, by decide +kernel⟩ ?_ ?_⟩
  · obtain ⟨oc, od, kV', doc, pm, an, cdv, ct, osl, rfl, lk, hcd⟩ := id F.ex
    exact fun s u => .of_eq rfl
  · intro cdv A outer s H E hr
    exact pss_one (ps_ret (pe_callB call_iterT (by rfl) mi (by decide +kernel) (pa_cons (pe_fld (pv 0) rfl) pa_nil)))
theorem all_of {P : Program} {w : World} {K : PySem.W.Frag} {mg : Str → Option Value} {fa : Addr} (hfa : mg "law" = some (.ref fa))
    (E0 : ∃ (C fI cc c : Addr) (fd : FuncData) (R : Addr), ErrPack P K mg "BadNumber" "BadNumber.__init__" iNum "n" "n" C fI cc c fd R)
    (E1 : ∃ (C fI cc c : Addr) (fd : FuncData) (R : Addr), ErrPack P K mg "BadText" "BadText.__init__" iTxt "at" "at" C fI cc c fd R)
    (E2 : ∃ (C fI cc c : Addr) (fd : FuncData) (R : Addr), ErrPack P K mg "BadOption" "BadOption.__init__" iOpt "option" "option" C fI cc c fd R)
    (E3 : ∃ (C fI cc c : Addr) (fd : FuncData) (R : Addr), ErrPack P K mg "BadRegion" "BadRegion.__init__" iReg "first" "second" C fI cc c fd R)
    (E4 : ∃ (C fI cc c : Addr) (fd : FuncData) (R : Addr), ErrPack P K mg "UnlikeGrids" "UnlikeGrids.__init__" iUnl "first" "second" C fI cc c fd R)
    (GP : ∃ C fI fR fE fH fCk fL fG fB p dI dR dE dH dCk dL dG dB, GPackB K mg C fI fR fE fH fCk fL fG fB p dI dR dE dH dCk dL dG dB)
    (RP : ∃ C fI fE fL fH fT fA fLe fGr dI dE dL dH dT dA dLe dGr, RPackB K mg C fI fE fL fH fT fA fLe fGr dI dE dL dH dT dA dLe dGr)
    (CC : ∃ aD t1 t2 t3, CPack K mg aD t1 t2 t3)
    (W0 : ∃ f fd, mg "bad_word" = some (.ref f) ∧ Fun K "bad_word" "bad_word" sWord f fd)
    (W1 : ∃ f fd, mg "levels_of" = some (.ref f) ∧ Fun K "levels_of" "levels_of" sLevels f fd)
    (W2 : ∃ f fd, mg "check_tops" = some (.ref f) ∧ Fun K "check_tops" "check_tops" sCheck f fd)
    (W3 : ∃ f fd, mg "options_below" = some (.ref f) ∧ Fun K "options_below" "options_below" sBelow f fd)
    (W4 : ∃ f fd, mg "check_alike" = some (.ref f) ∧ Fun K "check_alike" "check_alike" sAlike f fd)
    (W5 : ∃ f fd, mg "ascending" = some (.ref f) ∧ Fun K "ascending" "ascending" sAsc f fd)
    (W6 : ∃ f fd, mg "open_pair" = some (.ref f) ∧ Fun K "open_pair" "open_pair" sOpen f fd)
    (W7 : ∃ f fd, mg "widened" = some (.ref f) ∧ Fun K "widened" "widened" sWide f fd)
    (W8 : ∃ f fd, mg "hull" = some (.ref f) ∧ Fun K "hull" "hull" sHull f fd)
    (W9 : ∃ f fd, mg "box" = some (.ref f) ∧ Fun K "box" "box" sBox f fd)
    (W10 : ∃ f fd, mg "whole" = some (.ref f) ∧ Fun K "whole" "whole" sWhole f fd)
    (W11 : ∃ f fd, mg "_law_bag" = some (.ref f) ∧ Fun K "_law_bag" "_law_bag" sBag f fd)
    (W12 : ∃ f fd, mg "_law_draw" = some (.ref f) ∧ Fun K "_law_draw" "_law_draw" sDraw f fd)
    (W13 : ∃ f fd, mg "_law_at_of" = some (.ref f) ∧ Fun K "_law_at_of" "_law_at_of" sAt f fd)
    (W14 : ∃ f fd, mg "_law_spread" = some (.ref f) ∧ Fun K "_law_spread" "_law_spread" sSpread f fd)
    (W15 : ∃ f fd, mg "_law_low_of" = some (.ref f) ∧ Fun K "_law_low_of" "_law_low_of" sLLow f fd)
    (W16 : ∃ f fd, mg "_law_high_of" = some (.ref f) ∧ Fun K "_law_high_of" "_law_high_of" sLHigh f fd)
    (W17 : ∃ f fd, mg "_law_under" = some (.ref f) ∧ Fun K "_law_under" "_law_under" sLUnder f fd)
    (W18 : ∃ f fd, mg "_law_turned" = some (.ref f) ∧ Fun K "_law_turned" "_law_turned" sTurned f fd)
    (W19 : ∃ f fd, mg "_law_tops_of" = some (.ref f) ∧ Fun K "_law_tops_of" "_law_tops_of" sTopsOf f fd)
    (W20 : ∃ f fd, mg "_law_grid_of" = some (.ref f) ∧ Fun K "_law_grid_of" "_law_grid_of" sLGridOf f fd)
    (W21 : ∃ f fd, mg "_law_open" = some (.ref f) ∧ Fun K "_law_open" "_law_open" sLOpen f fd)
    (W22 : ∃ f fd, mg "_law_hull_of" = some (.ref f) ∧ Fun K "_law_hull_of" "_law_hull_of" sLHullOf f fd)
    (W23 : ∃ f fd, mg "_law_due_of" = some (.ref f) ∧ Fun K "_law_due_of" "_law_due_of" sDueOf f fd)
    (W24 : ∃ f fd, mg "_law_told_of" = some (.ref f) ∧ Fun K "_law_told_of" "_law_told_of" sToldOf f fd)
    (W25 : ∃ f fd, mg "_law_box_of" = some (.ref f) ∧ Fun K "_law_box_of" "_law_box_of" sBoxOf f fd)
    (W26 : ∃ f fd, mg "_law_box_due" = some (.ref f) ∧ Fun K "_law_box_due" "_law_box_due" sBoxDue f fd)
    (W27 : ∃ f fd, mg "_law_both_of" = some (.ref f) ∧ Fun K "_law_both_of" "_law_both_of" sBothOf f fd)
    (W28 : ∃ f fd, mg "_law_fits" = some (.ref f) ∧ Fun K "_law_fits" "_law_fits" sFits f fd)
    (W29 : ∃ f fd, mg "_law_lists_fit" = some (.ref f) ∧ Fun K "_law_lists_fit" "_law_lists_fit" sLists f fd)
    (W30 : ∃ f fd, mg "_law_boxes_fit" = some (.ref f) ∧ Fun K "_law_boxes_fit" "_law_boxes_fit" sBoxes f fd)
    (W31 : ∃ f fd, mg "law" = some (.ref f) ∧ Fun K "law" "law" sLaw f fd)
    (z_int : mg "int" = none)
    (z_range : mg "range" = none)
    (z_tuple : mg "tuple" = none)
    (z_list : mg "list" = none)
    (z_isinstance : mg "isinstance" = none)
    (z_len : mg "len" = none)
    (z_enumerate : mg "enumerate" = none)
    (z_str : mg "str" = none)
    (z_sorted : mg "sorted" = none)
    (z_set : mg "set" = none)
    (z_min : mg "min" = none)
    (z_max : mg "max" = none)
    (z_zip : mg "zip" = none)
    (z_iter : mg "iter" = none)
    (z_all : mg "all" = none)
    : ∃ fd : FuncData, (∀ (s : Shared) (v : Value), BindsTo s fd ⟨[v], []⟩ [("_law_script", v)]) ∧ ∀ base : Heap, FnOk P w K mg base CX0 11 fa fd ["_law_script"] (spLaw K) := by
  obtain ⟨c0, i0, cc0, cd0, ed0, R0, E0⟩ := E0
  obtain ⟨c1, i1, cc1, cd1, ed1, R1, E1⟩ := E1
  obtain ⟨c2, i2, cc2, cd2, ed2, R2, E2⟩ := E2
  obtain ⟨c3, i3, cc3, cd3, ed3, R3, E3⟩ := E3
  obtain ⟨c4, i4, cc4, cd4, ed4, R4, E4⟩ := E4
  obtain ⟨GPc, GPfI, GPfR, GPfE, GPfH, GPfCk, GPfL, GPfG, GPfB, GPp, GPdI, GPdR, GPdE, GPdH, GPdCk, GPdL, GPdG, GPdB, GP⟩ := GP
  obtain ⟨RPc, RPfI, RPfE, RPfL, RPfH, RPfT, RPfA, RPfLe, RPfGr, RPdI, RPdE, RPdL, RPdH, RPdT, RPdA, RPdLe, RPdGr, RP⟩ := RP
  obtain ⟨aD, t1, t2, t3, CP⟩ := CC
  obtain ⟨f0, d0, m0, F0⟩ := W0
  obtain ⟨f1, d1, m1, F1⟩ := W1
  obtain ⟨f2, d2, m2, F2⟩ := W2
  obtain ⟨f3, d3, m3, F3⟩ := W3
  obtain ⟨f4, d4, m4, F4⟩ := W4
  obtain ⟨f5, d5, m5, F5⟩ := W5
  obtain ⟨f6, d6, m6, F6⟩ := W6
  obtain ⟨f7, d7, m7, F7⟩ := W7
  obtain ⟨f8, d8, m8, F8⟩ := W8
  obtain ⟨f9, d9, m9, F9⟩ := W9
  obtain ⟨f10, d10, m10, F10⟩ := W10
  obtain ⟨f11, d11, m11, F11⟩ := W11
  obtain ⟨f12, d12, m12, F12⟩ := W12
  obtain ⟨f13, d13, m13, F13⟩ := W13
  obtain ⟨f14, d14, m14, F14⟩ := W14
  obtain ⟨f15, d15, m15, F15⟩ := W15
  obtain ⟨f16, d16, m16, F16⟩ := W16
  obtain ⟨f17, d17, m17, F17⟩ := W17
  obtain ⟨f18, d18, m18, F18⟩ := W18
  obtain ⟨f19, d19, m19, F19⟩ := W19
  obtain ⟨f20, d20, m20, F20⟩ := W20
  obtain ⟨f21, d21, m21, F21⟩ := W21
  obtain ⟨f22, d22, m22, F22⟩ := W22
  obtain ⟨f23, d23, m23, F23⟩ := W23
  obtain ⟨f24, d24, m24, F24⟩ := W24
  obtain ⟨f25, d25, m25, F25⟩ := W25
  obtain ⟨f26, d26, m26, F26⟩ := W26
  obtain ⟨f27, d27, m27, F27⟩ := W27
  obtain ⟨f28, d28, m28, F28⟩ := W28
  obtain ⟨f29, d29, m29, F29⟩ := W29
  obtain ⟨f30, d30, m30, F30⟩ := W30
  obtain ⟨f31, d31, m31, F31⟩ := W31
  obtain rfl : fa = f31 := by
    have z := hfa.symm.trans m31
    cases z
    rfl
  have b0 := F0.binds (ps := ["text"]) fun _ _ _ _ _ _ us hl => match us, hl with | [_], _ => rfl
  have b1 := F1.binds (ps := ["text"]) fun _ _ _ _ _ _ us hl => match us, hl with | [_], _ => rfl
  have b2 := F2.binds (ps := ["tops"]) fun _ _ _ _ _ _ us hl => match us, hl with | [_], _ => rfl
  have b3 := F3.binds (ps := ["tops"]) fun _ _ _ _ _ _ us hl => match us, hl with | [_], _ => rfl
  have b4 := F4.binds (ps := ["first", "second"]) fun _ _ _ _ _ _ us hl => match us, hl with | [_, _], _ => rfl
  have b5 := F5.binds (ps := ["grid", "options"]) fun _ _ _ _ _ _ us hl => match us, hl with | [_, _], _ => rfl
  have b6 := F6.binds (ps := ["grid", "options"]) fun _ _ _ _ _ _ us hl => match us, hl with | [_, _], _ => rfl
  have b7 := F7.binds (ps := ["grid", "options"]) fun _ _ _ _ _ _ us hl => match us, hl with | [_, _], _ => rfl
  have b8 := F8.binds (ps := ["grid", "options"]) fun _ _ _ _ _ _ us hl => match us, hl with | [_, _], _ => rfl
  have b9 := F9.binds (ps := ["grid", "low", "high"]) fun _ _ _ _ _ _ us hl => match us, hl with | [_, _, _], _ => rfl
  have b10 := F10.binds (ps := ["grid"]) fun _ _ _ _ _ _ us hl => match us, hl with | [_], _ => rfl
  have b11 := F11.binds (ps := ["_law_cell"]) fun _ _ _ _ _ _ us hl => match us, hl with | [_], _ => rfl
  have b12 := F12.binds (ps := ["_law_pool", "_law_limit"]) fun _ _ _ _ _ _ us hl => match us, hl with | [_, _], _ => rfl
  have b13 := F13.binds (ps := ["_law_script", "_law_k"]) fun _ _ _ _ _ _ us hl => match us, hl with | [_, _], _ => rfl
  have b14 := F14.binds (ps := ["_law_tops"]) fun _ _ _ _ _ _ us hl => match us, hl with | [_], _ => rfl
  have b15 := F15.binds (ps := ["_law_first", "_law_second"]) fun _ _ _ _ _ _ us hl => match us, hl with | [_, _], _ => rfl
  have b16 := F16.binds (ps := ["_law_first", "_law_second"]) fun _ _ _ _ _ _ us hl => match us, hl with | [_, _], _ => rfl
  have b17 := F17.binds (ps := ["_law_first", "_law_second"]) fun _ _ _ _ _ _ us hl => match us, hl with | [_, _], _ => rfl
  have b18 := F18.binds (ps := ["_law_pool", "_law_row"]) fun _ _ _ _ _ _ us hl => match us, hl with | [_, _], _ => rfl
  have b19 := F19.binds (ps := ["_law_pool"]) fun _ _ _ _ _ _ us hl => match us, hl with | [_], _ => rfl
  have b20 := F20.binds (ps := ["_law_tops"]) fun _ _ _ _ _ _ us hl => match us, hl with | [_], _ => rfl
  have b21 := F21.binds (ps := ["_law_rows"]) fun _ _ _ _ _ _ us hl => match us, hl with | [_], _ => rfl
  have b22 := F22.binds (ps := ["_law_rows"]) fun _ _ _ _ _ _ us hl => match us, hl with | [_], _ => rfl
  have b23 := F23.binds (ps := ["_law_which", "_law_every", "_law_rows"]) fun _ _ _ _ _ _ us hl => match us, hl with | [_, _, _], _ => rfl
  have b24 := F24.binds (ps := ["_law_which", "_law_grid", "_law_rows"]) fun _ _ _ _ _ _ us hl => match us, hl with | [_, _, _], _ => rfl
  have b25 := F25.binds (ps := ["_law_grid", "_law_low", "_law_high"]) fun _ _ _ _ _ _ us hl => match us, hl with | [_, _, _], _ => rfl
  have b26 := F26.binds (ps := ["_law_every", "_law_low", "_law_high"]) fun _ _ _ _ _ _ us hl => match us, hl with | [_, _, _], _ => rfl
  have b27 := F27.binds (ps := ["_law_first", "_law_second"]) fun _ _ _ _ _ _ us hl => match us, hl with | [_, _], _ => rfl
  have b28 := F28.binds (ps := ["_law_region", "_law_every", "_law_rows"]) fun _ _ _ _ _ _ us hl => match us, hl with | [_, _, _], _ => rfl
  have b29 := F29.binds (ps := ["_law_pool", "_law_grid", "_law_every", "_law_options"]) fun _ _ _ _ _ _ us hl => match us, hl with | [_, _, _, _], _ => rfl
  have b30 := F30.binds (ps := ["_law_pool", "_law_grid", "_law_every"]) fun _ _ _ _ _ _ us hl => match us, hl with | [_, _, _], _ => rfl
  have GPbR := GP.F_R.binds (ps := ["cls", "text"]) fun _ _ _ _ _ _ us hl => match us, hl with | [_, _], _ => rfl
  have GPbE := GP.F_E.binds (ps := ["self", "other"]) fun _ _ _ _ _ _ us hl => match us, hl with | [_, _], _ => rfl
  have GPbH := GP.F_H.binds (ps := ["self", "option"]) fun _ _ _ _ _ _ us hl => match us, hl with | [_, _], _ => rfl
  have GPbCk := GP.F_Ck.binds (ps := ["self", "options"]) fun _ _ _ _ _ _ us hl => match us, hl with | [_, _], _ => rfl
  have GPbL := GP.F_L.binds (ps := ["self", "first", "second"]) fun _ _ _ _ _ _ us hl => match us, hl with | [_, _, _], _ => rfl
  have GPbG := GP.F_G.binds (ps := ["self", "first", "second"]) fun _ _ _ _ _ _ us hl => match us, hl with | [_, _, _], _ => rfl
  have GPbB := GP.F_B.binds (ps := ["self", "first", "second"]) fun _ _ _ _ _ _ us hl => match us, hl with | [_, _, _], _ => rfl
  have RPbI := RP.F_I.binds (ps := ["self", "grid", "options"]) fun _ _ _ _ _ _ us hl => match us, hl with | [_, _, _], _ => rfl
  have RPbE := RP.F_E.binds (ps := ["self", "other"]) fun _ _ _ _ _ _ us hl => match us, hl with | [_, _], _ => rfl
  have RPbL := RP.F_L.binds (ps := ["self"]) fun _ _ _ _ _ _ us hl => match us, hl with | [_], _ => rfl
  have RPbH := RP.F_H.binds (ps := ["self", "option"]) fun _ _ _ _ _ _ us hl => match us, hl with | [_, _], _ => rfl
  have RPbA := RP.F_A.binds (ps := ["self", "other"]) fun _ _ _ _ _ _ us hl => match us, hl with | [_, _], _ => rfl
  have RPbLe := RP.F_Le.binds (ps := ["self"]) fun _ _ _ _ _ _ us hl => match us, hl with | [_], _ => rfl
  have RPbGr := RP.F_Gr.binds (ps := ["self"]) fun _ _ _ _ _ _ us hl => match us, hl with | [_], _ => rfl
  have be0 := init_binds (ps := ["self", "n"]) E0.I fun _ _ _ _ _ us hl => match us, hl with | [_, _], _ => rfl
  have be1 := init_binds (ps := ["self", "at"]) E1.I fun _ _ _ _ _ us hl => match us, hl with | [_, _], _ => rfl
  have be2 := init_binds (ps := ["self", "option"]) E2.I fun _ _ _ _ _ us hl => match us, hl with | [_, _], _ => rfl
  have be3 := init_binds (ps := ["self", "first", "second"]) E3.I fun _ _ _ _ _ us hl => match us, hl with | [_, _, _], _ => rfl
  have be4 := init_binds (ps := ["self", "first", "second"]) E4.I fun _ _ _ _ _ us hl => match us, hl with | [_, _, _], _ => rfl
  obtain ⟨oc, od, kV', doc, pm, an, cdv, ct, osl, rfl, lk, hcd⟩ := id F31.ex
  refine ⟨PySem.W.fnOf "law" "law" (defArgs sLaw) (defBody sLaw) (defScope sLaw) .none kV' doc pm an cdv ct, fun s v => .of_eq rfl, fun base => ?_⟩
  have Nn : ∀ base, FnOk P w K mg base CX0 1 i0 ed0 ["self", "n"] (spI1 c0 "n") := fun base => ok_num E0.T E0.n1 E0.I
  have Tt : FnOk P w K mg base CX0 1 i1 ed1 ["self", "at"] (spI1 c1 "at") := ok_txt E1.T E1.n1 E1.I
  have Oo : FnOk P w K mg base CX0 1 i2 ed2 ["self", "option"] (spT1 K c2 "option") := ok_opt E2.T z_tuple E2.n1 E2.I
  have Bb : FnOk P w K mg base CX0 1 i3 ed3 ["self", "first", "second"] (spT2 K c3 "first" "second") := ok_reg E3.T z_tuple E3.n1 E3.n2 E3.I
  have Uu : FnOk P w K mg base CX0 1 i4 ed4 ["self", "first", "second"] (spI2 c4 "first" "second") := ok_unl E4.T E4.n1 E4.n2 E4.I
  have G3 : FnOk P w K mg base (L2.CX P w) 3 f2 d2 ["tops"] (spCheck K c0) := ok_check F2 z_len E0.gm E0.T.ox E0.iC E0.tI Nn be0 CP.m1 CP.m2 CP.m3
  have GI : FnR P w K mg base (L2.CX P w) 4 GPfI (spGInit K GPc c0) := ok_ginit GP.F_I GP.T F2 b2 m2 G3 F3 b3 m3 (ok_below F3 z_range z_tuple)
  have Wo := ok_word (P := P) (w := w) (base := base) F0 z_enumerate CP.md CP.hD
  have Lv := ok_levels (P := P) (w := w) (base := base) F1 z_int
  have GR : FnOk P w K mg base (L2.CX P w) 6 GPfR GPdR ["cls", "text"] (spRead K GPc c0 c1) := ok_gread GP.F_R GP.M GI F0 b0 m0 Wo F1 b1 m1 Lv E1.gm E1.T.ox E1.iC E1.tI Tt be1
  have GRr : FnR P w K mg base (L2.CX P w) 6 GPfR (spRead K GPc c0 c1) := (GR.raw GPbR .nil).imp fun vs H Q E h => by rw [List.append_nil]; exact h
  have GQ := ok_geq (P := P) (w := w) (base := base) GP.F_E GP.T z_isinstance GP.gm
  have GH := ok_ghas (P := P) (w := w) (base := base) GP.F_H GP.T z_tuple
  have GC : FnOk P w K mg base (L2.CX P w) 3 GPfCk GPdCk ["self", "options"] (spGCheck K GPc c2) := ok_gcheck GP.F_Ck GP.d_H GH GPbH E2.gm E2.T.ox E2.iC E2.tI Oo be2
  have GLo := ok_lesser (P := P) (w := w) (base := base) GP.F_L GP.T GP.m_Ck GC GPbCk z_tuple z_min z_zip
  have GHi := ok_greater (P := P) (w := w) (base := base) GP.F_G GP.T GP.m_Ck GC GPbCk z_tuple z_max z_zip
  have GBe := ok_under (P := P) (w := w) (base := base) GP.F_B GP.T GP.m_Ck GC GPbCk z_all z_zip
  have AS : FnOk P w K mg base (L2.CX P w) 4 f5 d5 ["grid", "options"] (spAsc K GPc c0 c2) := ok_asc F5 GP.T GP.m_Ck GC GPbCk E0.gm E0.T.ox E0.iC E0.tI (Nn base) be0 z_tuple z_len
  have OP := ok_open (P := P) (w := w) (base := base) F6 GP.T GP.m_L GLo GPbL GP.m_G GHi GPbG z_enumerate
  have RI : FnOk P w K mg base (L2.CX P w) 6 RPfI RPdI ["self", "grid", "options"] (spRInit K GPc RPc c0 c2 c3) := ok_rinit RP.F_I GP.T RP.T F5 m5 AS b5 F6 m6 OP b6 E3.gm E3.T.ox E3.iC E3.tI Bb be3
  have WI := ok_wide (P := P) (w := w) (base := base) F7 GP.T GP.m_L GLo GPbL GP.m_G GHi GPbG F5 m5 AS b5
  have HU := ok_hull (P := P) (w := w) (base := base) F8 RP.gm RP.M RI RPbI F5 m5 AS b5 F7 m7 WI b7 z_len
  have RE := ok_req (P := P) (w := w) (base := base) RP.F_E GP.T RP.T z_isinstance RP.gm GP.d_E GQ GPbE
  have RL := ok_rlen (P := P) (w := w) (base := base) (C := GPc) RP.F_L RP.T z_len
  have RH := ok_rhas (P := P) (w := w) (base := base) (C := GPc) RP.F_H RP.T z_tuple
  have AL : FnOk P w K mg base (L2.CX P w) 3 f4 d4 ["first", "second"] (spAlike K GPc c4) := ok_alike F4 GP.T GP.d_E GP.nE GQ GPbE E4.gm E4.T.ox E4.iC E4.tI Uu be4
  have RA : FnOk P w K mg base (L2.CX P w) 8 RPfA RPdA ["self", "other"] (spRAnd K GPc RPc c0 c2 c3 c4) := ok_rand RP.F_A GP.T RP.T RP.gm RP.M RI RPbI F4 m4 AL b4
  have RLe := ok_rleast (P := P) (w := w) (base := base) (mg := mg) (C := GPc) RP.F_Le RP.T
  have RGr := ok_rgreat (P := P) (w := w) (base := base) (mg := mg) (C := GPc) RP.F_Gr RP.T
  have WH : FnOk P w K mg base (L2.CX P w) 8 f10 d10 ["grid"] (spWhole K GPc RPc c0 c2 c3) := ok_whole F10 GP.T RP.gm RP.M RI RPbI
  have BX : FnOk P w K mg base (L2.CX P w) 8 f9 d9 ["grid", "low", "high"] (spBox K GPc RPc c0 c2 c3) := ok_box F9 GP.T RP.gm RP.M RI RPbI GP.m_B GBe GPbB E3.gm E3.T.ox E3.iC E3.tI Bb be3
  have IT : ItO P w K mg base RPc RPfT "options" := iter_own RP.F_T RP.T RP.d_T z_iter
  have DR := ok_draw (P := P) (w := w) (base := base) F12 z_int
  have SP := ok_spread (P := P) (w := w) (base := base) F14 z_range
  have LO := ok_llow (P := P) (w := w) (base := base) F15 z_tuple z_min z_zip
  have HI := ok_lhigh (P := P) (w := w) (base := base) F16 z_tuple z_max z_zip
  have UN := ok_lunder (P := P) (w := w) (base := base) F17 z_zip
  have GO := ok_lgridOf (P := P) (w := w) (base := base) F20 z_str GP.gm GP.rd GP.cm GRr
  have LP := ok_lopen (P := P) (w := w) (base := base) F21 F15 b15 m15 LO F16 b16 m16 HI z_range z_len
  have HO := ok_lhullOf (P := P) (w := w) (base := base) F22 F15 b15 m15 LO F16 b16 m16 HI F21 b21 m21 LP z_sorted z_set
  have DU := ok_dueOf (P := P) (w := w) (base := base) F23 F22 b22 m22 HO F21 b21 m21 LP z_tuple z_sorted z_set
  have on := exm_other E2 E0 (by decide +kernel) (by decide +kernel)
  have bn := exm_other E3 E0 (by decide +kernel) (by decide +kernel)
  have bo := exm_other E3 E2 (by decide +kernel) (by decide +kernel)
  have un := exm_other E4 E0 (by decide +kernel) (by decide +kernel)
  have TL := ok_toldOf (P := P) (w := w) (base := base) F24 RP.gm RP.M RI RPbI F8 b8 m8 HU IT RP.d_L RL RPbL z_list (clt E0) (clt E2) (clt E3) on bn bo
  have BO := ok_boxOf (P := P) (w := w) (base := base) F25 F9 b9 m9 BX IT RP.d_L RL RPbL z_list (clt E2) (clt E3) bo
  have BD := ok_boxDue (P := P) (w := w) (base := base) F26 F17 b17 m17 UN z_tuple
  have BT := ok_bothOf (P := P) (w := w) (base := base) F27 RP.sF RP.d_A RA RPbA IT RP.d_L RL RPbL z_list (clt E0) (clt E4) un
  have FT := ok_fits (P := P) (w := w) (base := base) F28 RP.T IT RP.d_L RL RPbL RP.m_Le RLe RPbLe RP.m_Gr RGr RPbGr RP.d_H RH RPbH z_tuple z_list z_len
  have LS := ok_lists (P := P) (w := w) (base := base) F29 F12 b12 m12 DR F24 b24 m24 TL F23 b23 m23 DU z_tuple z_list z_range
  have BF := ok_boxes (P := P) (w := w) (base := base) F30 F12 b12 m12 DR F25 b25 m25 BO F26 b26 m26 BD z_list z_len
  exact ok_law F31 F11 b11 m11 (ok_bag F11) F12 b12 m12 DR F13 b13 m13 (ok_at F13 z_len) F19 b19 m19 (ok_topsOf F19 F12 b12 m12 DR)
    F20 b20 m20 GO F14 b14 m14 SP F22 b22 m22 HO F18 b18 m18 (ok_turned F18 F12 b12 m12 DR z_list z_len z_range)
    F29 b29 m29 LS F30 b30 m30 BF F27 b27 m27 BT F28 b28 m28 FT
    RP.gm RP.M RI RPbI GP.gm GP.M GI F10 b10 m10 WH RP.d_E RE RPbE IT RP.d_L RL RPbL RP.sL (kit_list RP.isC RP.tyC RP.sL) z_range z_list z_len z_min
end KL

set_option Elab.async false
set_option linter.all false
open PySem PySem.W PyProof.Rows
set_option maxRecDepth 100000 in
set_option maxHeartbeats 0 in
theorem PySem.Challenge.cw_risingknobs_k13_regions_holds : PySem.Challenge.rw_risingknobs_k13_regions.Holds := by
  w_on; o_law; k_head; (case hw => w_witness2)
  k_fill
  refine L2.walk_of (l := PySem.Challenge.rw_risingknobs_k13_regions) (n := 63) (k := 11) (x := "_law_script") (CX := fun _ => L2.CX0) (sp := fun w => SX.spLaw _) rfl (by decide) rfl ⟨rfl, by decide, by decide⟩ (fun w h Y => PySem.W.kIn_of Y) ?F (fun _ _ a ns hl _ hS => ⟨a, ns, rfl, hS, hl, fun _ => rfl⟩) (fun _ _ _ _ _ h => h)
  case F =>
    intro w mg fa h KX G hmg
    refine' SX.use_all (KL.all_of (w := w) hmg ?pE0 ?pE1 ?pE2 ?pE3 ?pE4 ?p_GP ?p_RP ?pC ?pf0 ?pf1 ?pf2 ?pf3 ?pf4 ?pf5 ?pf6 ?pf7 ?pf8 ?pf9 ?pf10 ?pf11 ?pf12 ?pf13 ?pf14 ?pf15 ?pf16 ?pf17 ?pf18 ?pf19 ?pf20 ?pf21 ?pf22 ?pf23 ?pf24 ?pf25 ?pf26 ?pf27 ?pf28 ?pf29 ?pf30 ?pf31 (mg_none_of KX G ?pz0) (mg_none_of KX G ?pz1) (mg_none_of KX G ?pz2) (mg_none_of KX G ?pz3) (mg_none_of KX G ?pz4) (mg_none_of KX G ?pz5) (mg_none_of KX G ?pz6) (mg_none_of KX G ?pz7) (mg_none_of KX G ?pz8) (mg_none_of KX G ?pz9) (mg_none_of KX G ?pz10) (mg_none_of KX G ?pz11) (mg_none_of KX G ?pz12) (mg_none_of KX G ?pz13) (mg_none_of KX G ?pz14))
    case pE0 =>
      refine' SX.err_mk KX G ?aR ?tR ?xR ?aC ?xL ?xc ?iC ?tI ?lI ?cI ?lc ?lo ?su ?sa ?exC ?tyC ?kC ?ga ?gg ?hd ?ha ?hn ?ht ?hm ?sc ?ve ?op ?gs ?n1 ?n2 ?hbm ?hvs ?hfile ?htop ?hmro ?hname ?hnameR
      (case aR => k_is); (case tR => k_is); (case xR => k_is); (case aC => k_is); (case xL => k_is); (case xc => k_is); (case iC => k_is); (case tI => k_is); (case lI => k_is); (case cI => k_is); (case lc => k_is); (case lo => k_is); (case su => ks_is); (case sa => k_is); (case exC => k_is); (case tyC => k_is); (case kC => k_is); (case ga => k_is); (case gg => k_is); (case hd => k_is); (case ha => k_is); (case hn => k_is); (case ht => k_is); (case hm => k_is); (case sc => k_is); (case ve => k_is); (case op => k_is); (case gs => k_is); (case n1 => k_is); (case n2 => k_is); (case hbm => decide +kernel); (case hvs => rfl); (case hfile => decide +kernel); (case htop => decide +kernel); (case hmro => rfl); (case hname => rfl); (case hnameR => rfl)
    case pE1 =>
      refine' SX.err_mk KX G ?aR ?tR ?xR ?aC ?xL ?xc ?iC ?tI ?lI ?cI ?lc ?lo ?su ?sa ?exC ?tyC ?kC ?ga ?gg ?hd ?ha ?hn ?ht ?hm ?sc ?ve ?op ?gs ?n1 ?n2 ?hbm ?hvs ?hfile ?htop ?hmro ?hname ?hnameR
      (case aR => k_is); (case tR => k_is); (case xR => k_is); (case aC => k_is); (case xL => k_is); (case xc => k_is); (case iC => k_is); (case tI => k_is); (case lI => k_is); (case cI => k_is); (case lc => k_is); (case lo => k_is); (case su => ks_is); (case sa => k_is); (case exC => k_is); (case tyC => k_is); (case kC => k_is); (case ga => k_is); (case gg => k_is); (case hd => k_is); (case ha => k_is); (case hn => k_is); (case ht => k_is); (case hm => k_is); (case sc => k_is); (case ve => k_is); (case op => k_is); (case gs => k_is); (case n1 => k_is); (case n2 => k_is); (case hbm => decide +kernel); (case hvs => rfl); (case hfile => decide +kernel); (case htop => decide +kernel); (case hmro => rfl); (case hname => rfl); (case hnameR => rfl)
    case pE2 =>
      refine' SX.err_mk KX G ?aR ?tR ?xR ?aC ?xL ?xc ?iC ?tI ?lI ?cI ?lc ?lo ?su ?sa ?exC ?tyC ?kC ?ga ?gg ?hd ?ha ?hn ?ht ?hm ?sc ?ve ?op ?gs ?n1 ?n2 ?hbm ?hvs ?hfile ?htop ?hmro ?hname ?hnameR
      (case aR => k_is); (case tR => k_is); (case xR => k_is); (case aC => k_is); (case xL => k_is); (case xc => k_is); (case iC => k_is); (case tI => k_is); (case lI => k_is); (case cI => k_is); (case lc => k_is); (case lo => k_is); (case su => ks_is); (case sa => k_is); (case exC => k_is); (case tyC => k_is); (case kC => k_is); (case ga => k_is); (case gg => k_is); (case hd => k_is); (case ha => k_is); (case hn => k_is); (case ht => k_is); (case hm => k_is); (case sc => k_is); (case ve => k_is); (case op => k_is); (case gs => k_is); (case n1 => k_is); (case n2 => k_is); (case hbm => decide +kernel); (case hvs => rfl); (case hfile => decide +kernel); (case htop => decide +kernel); (case hmro => rfl); (case hname => rfl); (case hnameR => rfl)
    case pE3 =>
      refine' SX.err_mk KX G ?aR ?tR ?xR ?aC ?xL ?xc ?iC ?tI ?lI ?cI ?lc ?lo ?su ?sa ?exC ?tyC ?kC ?ga ?gg ?hd ?ha ?hn ?ht ?hm ?sc ?ve ?op ?gs ?n1 ?n2 ?hbm ?hvs ?hfile ?htop ?hmro ?hname ?hnameR
      (case aR => k_is); (case tR => k_is); (case xR => k_is); (case aC => k_is); (case xL => k_is); (case xc => k_is); (case iC => k_is); (case tI => k_is); (case lI => k_is); (case cI => k_is); (case lc => k_is); (case lo => k_is); (case su => ks_is); (case sa => k_is); (case exC => k_is); (case tyC => k_is); (case kC => k_is); (case ga => k_is); (case gg => k_is); (case hd => k_is); (case ha => k_is); (case hn => k_is); (case ht => k_is); (case hm => k_is); (case sc => k_is); (case ve => k_is); (case op => k_is); (case gs => k_is); (case n1 => k_is); (case n2 => k_is); (case hbm => decide +kernel); (case hvs => rfl); (case hfile => decide +kernel); (case htop => decide +kernel); (case hmro => rfl); (case hname => rfl); (case hnameR => rfl)
    case pE4 =>
      refine' SX.err_mk KX G ?aR ?tR ?xR ?aC ?xL ?xc ?iC ?tI ?lI ?cI ?lc ?lo ?su ?sa ?exC ?tyC ?kC ?ga ?gg ?hd ?ha ?hn ?ht ?hm ?sc ?ve ?op ?gs ?n1 ?n2 ?hbm ?hvs ?hfile ?htop ?hmro ?hname ?hnameR
      (case aR => k_is); (case tR => k_is); (case xR => k_is); (case aC => k_is); (case xL => k_is); (case xc => k_is); (case iC => k_is); (case tI => k_is); (case lI => k_is); (case cI => k_is); (case lc => k_is); (case lo => k_is); (case su => ks_is); (case sa => k_is); (case exC => k_is); (case tyC => k_is); (case kC => k_is); (case ga => k_is); (case gg => k_is); (case hd => k_is); (case ha => k_is); (case hn => k_is); (case ht => k_is); (case hm => k_is); (case sc => k_is); (case ve => k_is); (case op => k_is); (case gs => k_is); (case n1 => k_is); (case n2 => k_is); (case hbm => decide +kernel); (case hvs => rfl); (case hfile => decide +kernel); (case htop => decide +kernel); (case hmro => rfl); (case hname => rfl); (case hnameR => rfl)
    case p_GP =>
      refine' KL.GPackB_mk KX G ?g_aC ?g_pg ?g_hd ?g_po ?g_sa ?g_n_t ?g_n_o ?g_ha ?g_hn ?g_ht ?g_hm ?g_mk ?g_iC ?g_iF ?g_kC ?g_rd ?g_gC ?g_at_ ?g_rc ?g_fR1 ?g_aE ?g_bE ?g_aH ?g_bH ?g_aCk ?g_bCk ?g_aL ?g_bL ?g_aG ?g_bG ?g_aB ?g_bB ?g_nE (KL.meth_pack ?l0 ?c0 ?k0) (KL.meth_pack ?l1 ?c1 ?k1) (KL.meth_pack ?l2 ?c2 ?k2) (KL.meth_pack ?l3 ?c3 ?k3) (KL.meth_pack ?l4 ?c4 ?k4) (KL.meth_pack ?l5 ?c5 ?k5) (KL.meth_pack ?l6 ?c6 ?k6) (KL.meth_pack ?l7 ?c7 ?k7)
      (case g_aC => k_is); (case g_pg => k_is); (case g_hd => k_is); (case g_po => k_is); (case g_sa => k_is); (case g_n_t => k_is); (case g_n_o => k_is); (case g_ha => k_is); (case g_hn => k_is); (case g_ht => k_is); (case g_hm => k_is); (case g_mk => k_is); (case g_iC => k_is); (case g_iF => k_is); (case g_kC => k_is); (case g_rd => k_is); (case g_gC => k_is); (case g_at_ => k_is); (case g_rc => k_is); (case g_fR1 => k_is); (case g_aE => k_is); (case g_bE => k_is); (case g_aH => k_is); (case g_bH => k_is); (case g_aCk => k_is); (case g_bCk => k_is); (case g_aL => k_is); (case g_bL => k_is); (case g_aG => k_is); (case g_bG => k_is); (case g_aB => k_is); (case g_bB => k_is); (case g_nE => k_is)
      (case l0 => k_is); (case c0 => k_is); (case k0 => k_is); (case l1 => k_is); (case c1 => k_is); (case k1 => k_is); (case l2 => k_is); (case c2 => k_is); (case k2 => k_is); (case l3 => k_is); (case c3 => k_is); (case k3 => k_is); (case l4 => k_is); (case c4 => k_is); (case k4 => k_is); (case l5 => k_is); (case c5 => k_is); (case k5 => k_is); (case l6 => k_is); (case c6 => k_is); (case k6 => k_is); (case l7 => k_is); (case c7 => k_is); (case k7 => k_is)
    case p_RP =>
      refine' KL.RPackB_mk KX G ?g_aC ?g_pg ?g_hd ?g_po ?g_sa ?g_n_g ?g_n_o ?g_ha ?g_hn ?g_ht ?g_hm ?g_mk ?g_iC ?g_iF ?g_kC ?g_aE ?g_bE ?g_aL ?g_bL ?g_aH ?g_bH ?g_aT ?g_bT ?g_aA ?g_bA ?g_aLe ?g_bLe ?g_aGr ?g_bGr ?g_sF ?g_sL ?g_isC ?g_tyC (KL.meth_pack ?l0 ?c0 ?k0) (KL.meth_pack ?l1 ?c1 ?k1) (KL.meth_pack ?l2 ?c2 ?k2) (KL.meth_pack ?l3 ?c3 ?k3) (KL.meth_pack ?l4 ?c4 ?k4) (KL.meth_pack ?l5 ?c5 ?k5) (KL.meth_pack ?l6 ?c6 ?k6) (KL.meth_pack ?l7 ?c7 ?k7)
      (case g_aC => k_is); (case g_pg => k_is); (case g_hd => k_is); (case g_po => k_is); (case g_sa => k_is); (case g_n_g => k_is); (case g_n_o => k_is); (case g_ha => k_is); (case g_hn => k_is); (case g_ht => k_is); (case g_hm => k_is); (case g_mk => k_is); (case g_iC => k_is); (case g_iF => k_is); (case g_kC => k_is); (case g_aE => k_is); (case g_bE => k_is); (case g_aL => k_is); (case g_bL => k_is); (case g_aH => k_is); (case g_bH => k_is); (case g_aT => k_is); (case g_bT => k_is); (case g_aA => k_is); (case g_bA => k_is); (case g_aLe => k_is); (case g_bLe => k_is); (case g_aGr => k_is); (case g_bGr => k_is); (case g_sF => k_is); (case g_sL => k_is); (case g_isC => k_is); (case g_tyC => k_is)
      (case l0 => k_is); (case c0 => k_is); (case k0 => k_is); (case l1 => k_is); (case c1 => k_is); (case k1 => k_is); (case l2 => k_is); (case c2 => k_is); (case k2 => k_is); (case l3 => k_is); (case c3 => k_is); (case k3 => k_is); (case l4 => k_is); (case c4 => k_is); (case k4 => k_is); (case l5 => k_is); (case c5 => k_is); (case k5 => k_is); (case l6 => k_is); (case c6 => k_is); (case k6 => k_is); (case l7 => k_is); (case c7 => k_is); (case k7 => k_is)
    case pC =>
      refine' KL.cons_mk KX G ?a1 ?a2 ?a3 ?aD ?l ?v
      (case a1 => k_is); (case a2 => k_is); (case a3 => k_is); (case aD => k_is); (case l => k_is); (case v => exact (.cons ⟨_, rfl⟩ (.cons ⟨_, rfl⟩ (.cons ⟨_, rfl⟩ (.cons ⟨_, rfl⟩ (.cons ⟨_, rfl⟩ (.cons ⟨_, rfl⟩ (.cons ⟨_, rfl⟩ (.cons ⟨_, rfl⟩ (.cons ⟨_, rfl⟩ (.cons ⟨_, rfl⟩ .nil)))))))))))
    case pf0 => refine' SX.fun_pack KX G ?a ?l ?c ?k; (case a => k_is); (case l => k_is); (case c => k_is); (case k => k_is)
    case pf1 => refine' SX.fun_pack KX G ?a ?l ?c ?k; (case a => k_is); (case l => k_is); (case c => k_is); (case k => k_is)
    case pf2 => refine' SX.fun_pack KX G ?a ?l ?c ?k; (case a => k_is); (case l => k_is); (case c => k_is); (case k => k_is)
    case pf3 => refine' SX.fun_pack KX G ?a ?l ?c ?k; (case a => k_is); (case l => k_is); (case c => k_is); (case k => k_is)
    case pf4 => refine' SX.fun_pack KX G ?a ?l ?c ?k; (case a => k_is); (case l => k_is); (case c => k_is); (case k => k_is)
    case pf5 => refine' SX.fun_pack KX G ?a ?l ?c ?k; (case a => k_is); (case l => k_is); (case c => k_is); (case k => k_is)
    case pf6 => refine' SX.fun_pack KX G ?a ?l ?c ?k; (case a => k_is); (case l => k_is); (case c => k_is); (case k => k_is)
    case pf7 => refine' SX.fun_pack KX G ?a ?l ?c ?k; (case a => k_is); (case l => k_is); (case c => k_is); (case k => k_is)
    case pf8 => refine' SX.fun_pack KX G ?a ?l ?c ?k; (case a => k_is); (case l => k_is); (case c => k_is); (case k => k_is)
    case pf9 => refine' SX.fun_pack KX G ?a ?l ?c ?k; (case a => k_is); (case l => k_is); (case c => k_is); (case k => k_is)
    case pf10 => refine' SX.fun_pack KX G ?a ?l ?c ?k; (case a => k_is); (case l => k_is); (case c => k_is); (case k => k_is)
    case pf11 => refine' SX.fun_pack KX G ?a ?l ?c ?k; (case a => k_is); (case l => k_is); (case c => k_is); (case k => k_is)
    case pf12 => refine' SX.fun_pack KX G ?a ?l ?c ?k; (case a => k_is); (case l => k_is); (case c => k_is); (case k => k_is)
    case pf13 => refine' SX.fun_pack KX G ?a ?l ?c ?k; (case a => k_is); (case l => k_is); (case c => k_is); (case k => k_is)
    case pf14 => refine' SX.fun_pack KX G ?a ?l ?c ?k; (case a => k_is); (case l => k_is); (case c => k_is); (case k => k_is)
    case pf15 => refine' SX.fun_pack KX G ?a ?l ?c ?k; (case a => k_is); (case l => k_is); (case c => k_is); (case k => k_is)
    case pf16 => refine' SX.fun_pack KX G ?a ?l ?c ?k; (case a => k_is); (case l => k_is); (case c => k_is); (case k => k_is)
    case pf17 => refine' SX.fun_pack KX G ?a ?l ?c ?k; (case a => k_is); (case l => k_is); (case c => k_is); (case k => k_is)
    case pf18 => refine' SX.fun_pack KX G ?a ?l ?c ?k; (case a => k_is); (case l => k_is); (case c => k_is); (case k => k_is)
    case pf19 => refine' SX.fun_pack KX G ?a ?l ?c ?k; (case a => k_is); (case l => k_is); (case c => k_is); (case k => k_is)
    case pf20 => refine' SX.fun_pack KX G ?a ?l ?c ?k; (case a => k_is); (case l => k_is); (case c => k_is); (case k => k_is)
    case pf21 => refine' SX.fun_pack KX G ?a ?l ?c ?k; (case a => k_is); (case l => k_is); (case c => k_is); (case k => k_is)
    case pf22 => refine' SX.fun_pack KX G ?a ?l ?c ?k; (case a => k_is); (case l => k_is); (case c => k_is); (case k => k_is)
    case pf23 => refine' SX.fun_pack KX G ?a ?l ?c ?k; (case a => k_is); (case l => k_is); (case c => k_is); (case k => k_is)
    case pf24 => refine' SX.fun_pack KX G ?a ?l ?c ?k; (case a => k_is); (case l => k_is); (case c => k_is); (case k => k_is)
    case pf25 => refine' SX.fun_pack KX G ?a ?l ?c ?k; (case a => k_is); (case l => k_is); (case c => k_is); (case k => k_is)
    case pf26 => refine' SX.fun_pack KX G ?a ?l ?c ?k; (case a => k_is); (case l => k_is); (case c => k_is); (case k => k_is)
    case pf27 => refine' SX.fun_pack KX G ?a ?l ?c ?k; (case a => k_is); (case l => k_is); (case c => k_is); (case k => k_is)
    case pf28 => refine' SX.fun_pack KX G ?a ?l ?c ?k; (case a => k_is); (case l => k_is); (case c => k_is); (case k => k_is)
    case pf29 => refine' SX.fun_pack KX G ?a ?l ?c ?k; (case a => k_is); (case l => k_is); (case c => k_is); (case k => k_is)
    case pf30 => refine' SX.fun_pack KX G ?a ?l ?c ?k; (case a => k_is); (case l => k_is); (case c => k_is); (case k => k_is)
    case pf31 => refine' SX.fun_pack KX G ?a ?l ?c ?k; (case a => k_is); (case l => k_is); (case c => k_is); (case k => k_is)
    (case pz0 => k_is)
    (case pz1 => k_is)
    (case pz2 => k_is)
    (case pz3 => k_is)
    (case pz4 => k_is)
    (case pz5 => k_is)
    (case pz6 => k_is)
    (case pz7 => k_is)
    (case pz8 => k_is)
    (case pz9 => k_is)
    (case pz10 => k_is)
    (case pz11 => k_is)
    (case pz12 => k_is)
    (case pz13 => k_is)
    (case pz14 => k_is)

