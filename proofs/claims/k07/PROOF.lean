import PyProof.Rows.All
import Wide.All
import OpenK.AllK
import Wide.FinOn
import KE.KExcSuper
import HandS.Exc
import HandS.ExcInit
import HandS.ExcSuper
import HandS.ExcField
import KE.KIsAll
import KE.KTryMore
import HandS.Base
import HandS.Call
import HandS.ExcIs
import HandS.IsInst
import PyProof.ListMulRoad
import PyProof.FactsAll.tuple_2
import PyProof.StrOps2
import HandS.List
import HandS.TupMul
import KE.GoesEnum
import HandS.Iter
import HandS.Wide
import HandS.Conv
import HandS.DictComp
import PyProof.EqAt
import PyProof.EqKinds
import PyProof.TupleCall
import KE.RegKIsAll
import HandS.ForMost
import HandS.ForExc
import HandS.Zip
import HandS.Defaults
import HandS.CallSlots
import HandS.StrMore
import HandS.Replace
import HandS.Small
import HandS.Style
import HandS.Walk
import HandS.Codes
import HandS.TupLe
import HandS.TupAny
import HandS.More
import PySem.Challenge.RW_boughkept_k07_woods_refused
set_option Elab.async false
set_option linter.all false
set_option maxRecDepth 100000
set_option maxHeartbeats 2000000
namespace PySem
namespace BX
open PySem.W PySem.Calls PyProof.Rows PySem.HandSPX
/-- what the written part says of an own exception class at C whose __init__ (at fI) begins with super().__init__(text) -/
structure ETxt (P : Program) (K : Frag) (mg : Str → Option Value) (C fI cc cda : Addr) (B newId initId : String) (bmB : List Value) (nmC qual : Str) (params : Arguments) (first : Stmt) (rest : List Stmt) (scope : Scope) : Prop where
  gC : mg nmC = some (.ref C)
  cls : ∃ nm q N bs bm sn sub ab col dd k0 k1 k2 k3 k5, K.lookup C = some (excClassObj nm q C N bs bm true sn sub ab col dd k0 k1 k2 k3 k5 newId) ∧ (∀ X : String, bm.contains (.type X) = bmB.contains (.type X))
  base : ExcBaseFacts B newId initId bmB
  kxs : KxsFacts B initId
  iC : findIn K (.ref C) "__init__" = some (some (.ref fI))
  tI : typeIn K (.ref fI) = some (.type "function")
  fn : ∃ (oc : Value) (od : Option Addr) (kV doc pm : Value) (an : Option Addr) (ct : Value) (osl : Array (Option Value)), K.lookup fI = some ⟨oc, od, .func (ksFn "__init__" qual params (first :: rest) scope .none kV doc pm an (.ref cda) ct cc), osl⟩
  code : codeIn K (.ref cda) qual = true
  cdo : ∃ (ccl : Value) (cdd : Option Addr) (vs : Array Value) (ccs : Array (Option Value)) (file : Str) (tf : Tok), K.lookup cda = some ⟨ccl, cdd, .fields vs, ccs⟩ ∧ vs[2]? = some (.str file tf) ∧ ((P.main.file : Str) == file) = true
  cell : ∃ (cl : Value) (cld : Option Addr) (csl : Array (Option Value)), K.lookup cc = some ⟨cl, cld, .cell (some (.ref C)), csl⟩
  sup : ks_superIn K C C "__init__" = some (some (.builtin initId))
  opq : nsIn K cStatics "thirdparty.any" = some none
  noS : mg "super" = none
  topS : (P.main.scope.names.lookup ("super" : Str)).isSome = false
  subB : subIn K (.ref C) (.type B) = some true
  subC : mroIn K C (.ref C) = some true
  kC : keepIn K (.ref C) = true
  exC : subIn K (.ref C) (.type "BaseException") = some true
  tyC : typeIn K (.ref C) = some (.type "type")
  kS : scope.names.lookup ("super" : Str) = some .globalImplicit
  kCl : scope.names.lookup ("__class__" : Str) = some .free
  kSf : scope.names.lookup ("self" : Str) = some .local
  kF : scope.kind = .function
  st : ∃ (p0 p1 p2 p3 p4 p5 : Pos) (msg : Str) (j : Nat), first = .Expr (.Call (.Attribute (.Call (.Name "super" p0) [] [] p1) "__init__" p2) [.Constant (.str msg) j p3] [] p4) p5 ∧ ∀ L : Addr,
    interactive (ksEnv qual scope L fI (.ref cda) cc) = false ∧ swapsWith (.Call (.Attribute (.Call (.Name "super" p0) [] [] p1) "__init__" p2) [.Constant (.str msg) j p3] [] p4) none p5.line (ksEnv qual scope L fI (.ref cda) cc) = pure false ∧
    ∃ pl : Sem Bool, eval (.Call (.Attribute (.Call (.Name "super" p0) [] [] p1) "__init__" p2) [.Constant (.str msg) j p3] [] p4) (ksEnv qual scope L fI (.ref cda) cc) = (do
      let ov ← attributeBase (.Call (.Name "super" p0) [] [] p1) "__init__" (ksEnv qual scope L fI (.ref cda) cc) (eval (.Call (.Name "super" p0) [] [] p1) (ksEnv qual scope L fI (.ref cda) cc))
      standAt p2.atName
      let (f, fst) ← holding [ov] (getMethod ov "__init__" pl)
      callWith p4 f fst (backTo p4 (starEach [.Constant (.str msg) j p3] (ksEnv qual scope L fI (.ref cda) cc))) [])
  hd : ∃ ar : Arg, (params.posonlyargs ++ params.args).head? = some ar ∧ ar.arg = ("self" : Str)
section
variable {prog : Program} {w : World} {A : Around} {E : Value → Shared → Prop} {K : Frag} {mg mb : Str → Option Value} {C fI cc cda : Addr} {B newId initId : String} {bmB : List Value} {nmC qual : Str} {params : Arguments} {first : Stmt} {rest : List Stmt} {scope : Scope}
variable {h : Heap} {g : Array GenState} {d : Drawn} {t : Nat} {os : OsState}
/-- super().__init__(text): the args are laid anew -/
theorem call_mw (T : ETxt prog K mg C fI cc cda B newId initId bmB nmC qual params first rest scope) {u e t0 : Addr} {us : List Value} {Q : Value → Shared → Prop} (X : K.In h)
    (he : h.get? e = some (excO C t0)) (hu : h.get? u = some (kxs_mw initId e)) (hrest : us.length ≤ sizeLine)
    (hq : ∀ h' t1, (∀ b o, b ≠ e → h.get? b = some o → h'.get? b = some o) → h'.get? e = some (excO C t1) → Q .none ⟨h', g, d, t, os⟩) :
    wpAny (model prog w) A (call (.ref u) us) Q E ⟨h, g, d, t, os⟩ := by
  obtain ⟨nm, q, N, bs, bm, sn, sub, ab, col, dd, k0, k1, k2, k3, k5, hC, hbm⟩ := T.cls
  refine wpAny_call (codeAny_of_tree ?_)
  show wpAny _ A.in1 (callAny (.ref u) ⟨us, []⟩) _ _ _
  simp only [callAny]
  refine wpAny_bind (wpAny_load hu ?_)
  simp only [kxs_mw, show (Value.type "method-wrapper" == Value.type "method" || Value.type "method-wrapper" == Value.type "builtin_function_or_method" || Value.type "method-wrapper" == Value.type "method-wrapper") = true by decide, if_true]
  refine KFB.if_so (by decide) ?_
  refine wpAny_bind (check_bound_init T.base.toExcCallFacts (X _ _ hC) he rfl ?_)
  refine wpAny_bind (wpAny_pure (wpAny_pure ?_))
  refine ⟨plainId_quiet T.base.init.plain _, codeAny_builtin T.base.initEntry ?_⟩
  exact exc_init_tree (cls := .ref C) (t0 := t0) (dv := none) (c2 := .none) (c3 := .none) (b4 := .bool false) he hrest fun h' k e' _ => hq h' h.objs.size k e'

theorem super_stmt (T : ETxt prog K mg C fI cc cda B newId initId bmB nmC qual params first rest scope) {L x t0 : Addr} {m : Str → Option Value} {Q : Flow → Shared → Prop} (X : K.In h)
    (hg : h.Ns mainGlobals mg) (hb : h.Ns builtinsNs mb) (hS : mb "super" = some (.type "super")) (hL : h.Ns L m) (hself : m "self" = some (.ref x)) (hx : h.get? x = some (excO C t0)) (hxC : x ≠ C)
    (hq : ∀ h' tk t1, (∀ b o, b ≠ x → h.get? b = some o → h'.get? b = some o) → h'.get? x = some (excO C t1) → Q .next ⟨h', g, d, tk, os⟩) :
    _root_.PySem.wpAt (model prog w) A (.func (first :: rest) (ksEnv qual scope L fI (.ref cda) cc))
      (exec first (ksEnv qual scope L fI (.ref cda) cc)) Q E ⟨h, g, d, t, os⟩ := by
  obtain ⟨nm, q, N, bs, bm, sn, sub, ab, col, dd, k0, k1, k2, k3, k5, hC, hbm⟩ := T.cls
  obtain ⟨oc, od, kV, doc, pm, an, ct, osl, hf⟩ := T.fn
  obtain ⟨ccl, cdd, vs, ccs, file, tf, hcda, hvs, hfile⟩ := T.cdo
  obtain ⟨cl, cld, csl, hcc⟩ := T.cell
  obtain ⟨ar, har, harg⟩ := T.hd
  have hcd : clsIn K C = some { name := nm, bases := bs, mro := .ref C :: bm, ns := N, qualname := q, hasDict := true, slotNames := sn, subclasses := sub, abstract := ab, collection := col, hasDel := false } := by unfold clsIn; rw [hC] <;> rfl
  have hD := X _ _ hC
  obtain ⟨p0, p1, p2, p3, p4, p5, msg, j, rfl, hst⟩ := T.st
  obtain ⟨hi, hsw, pl, hev⟩ := hst L
  refine ks_wpAt_Expr_any (hi := hi) (hs := hsw) ?_
  refine ks_wpAt_MethodCall (pl := pl) (he := hev) ?_
  refine ks_wpAt_super_base (env := ksEnv qual scope L fI (.ref cda) cc) T.kS T.kCl (by decide) rfl (X _ _ hf) rfl har rfl (X _ _ hcda) rfl hvs hfile T.topS ?_
  refine ks_loadName_global T.kF T.kS (loadGlobal_builtin (env := ksEnv qual scope L fI (.ref cda) cc) hg T.noS hb hS ⟨rfl, ?_⟩)
  refine wpAny_loadName_free T.kF T.kCl rfl ⟨_, X _ _ hcc, rfl⟩ ?_
  rw [harg]
  refine wpAny_loadName_local T.kF T.kSf hL hself ?_
  refine ks_wpAny_isType_cls hD rfl ⟨rfl, ?_⟩
  refine ks_wpAny_call_super hD rfl hx rfl (fun c e => by cases e) (looks_mroIn X T.subC) (fun h1 e1 k1' => ?_)
  have X1 : K.In h1 := X.keeps k1'
  have hx1 := k1' _ _ hx
  have hsup : alongIn K "__init__" (((Value.ref C :: bm).dropWhile (· != .ref C)).drop 1) = some (some (.builtin initId)) := by
    have z := T.sup
    unfold ks_superIn at z
    rw [hcd] at z
    exact z
  have hI1 : InstAt h1 x (excO C t0) C none := ⟨hx1, rfl, rfl, trivial⟩
  have hmro : Looks (model prog w) h1 (mroOf (.ref C)) (Value.ref C :: bm) := (looks_clsIn X1 hcd).andThen .now
  refine kxs_getMethod T.kxs e1 (looks_opaque X1 T.opq) hmro rfl X1 hsup (hI1.type.andThen (looks_subIn X1 T.subB)) hxC (by decide) ?_
  have hx2 : (h1.push (kxs_mw initId x)).get? x = some (excO C t0) := Heap.get?_push_of_some _ hx1
  have hu2 : (h1.push (kxs_mw initId x)).get? h1.objs.size = some (kxs_mw initId x) := Heap.get?_push_size _ rfl
  have X2 : K.In (h1.push (kxs_mw initId x)) := X1.keeps fun b o e => Heap.get?_push_of_some _ e
  refine kxs_callWith (i := initId) (x := x) (by rfl) ?_
  refine evalArgs_plain ?_
  refine Calls.spliced_cons ?_
  show wpAny _ _ (eval (.Constant (.str msg) j p3) _) _ _ _
  refine Calls.Constant_str ?_
  refine Calls.spliced_nil ?_
  refine ⟨hu2, ?_⟩
  refine call_mw T X2 hx2 hu2 (by rw [sizeLine_eq]; exact (by decide : 1 ≤ 16777216)) fun h' t1 k e => ?_
  exact hq h' _ t1 (fun b o hb z => k b o hb (Heap.get?_push_of_some _ (k1' b o z))) e
/-- __init__ without fields of its own -/
theorem init0 (T : ETxt prog K mg C fI cc cda B newId initId bmB nmC qual params first [] scope) {R : Result → Shared → Prop} {s : Shared} {x t0 : Addr} (X : K.In s.heap) (hlim : s.heap.NoLimit)
    (hg : s.heap.Ns mainGlobals mg) (hb : s.heap.Ns builtinsNs mb) (hS : mb "super" = some (.type "super")) (hx : s.heap.get? x = some (excO C t0)) (hxC : x ≠ C) (hroom : A.depth < recursionLimit)
    (hbind : ∀ (kV doc pm : Value) (an : Option Addr) (ct : Value), BindsTo s (ksFn "__init__" qual params [first] scope .none kV doc pm an (.ref cda) ct cc) ⟨[.ref x], []⟩ [("self", .ref x)])
    (hcell : ∀ z ∈ scope.names, z.2 ≠ .cell) (hco : scope.isCoroutine = false) (hgen : scope.isGenerator = false)
    (hq : ∀ h' tk t1, (∀ b o, b ≠ x → s.heap.get? b = some o → h'.get? b = some o) → h'.get? x = some (excO C t1) → R (.ok (.ret .none)) { s with heap := h', toks := tk }) :
    codeAny (model prog w) A (.call (.ref fI) ⟨[.ref x], []⟩) R s := by
  obtain ⟨oc, od, kV, doc, pm, an, ct, osl, hf⟩ := T.fn
  refine ks_codeAny_call_defAt (fd := ksFn "__init__" qual params [first] scope .none kV doc pm an (.ref cda) ct cc) (body := [first]) (binds := [("self", .ref x)]) hroom (X _ _ hf) rfl hlim (codeRec_of X T.code) rfl (hbind kV doc pm an ct) hcell ?_ (fun h₁ hns hk => ?_) hco hgen T.kF
  · intro y hy
    rw [List.mem_singleton.mp hy]
    exact T.kSf
  obtain ⟨hp, g, d, t, os⟩ := s
  refine ks_wpAt_execs_cons ?_
  refine super_stmt (mb := mb) (m := fun x_1 => List.lookup x_1 [(("self" : Str), Value.ref x)].reverse) T (X.keeps hk) ?_ ?_ hS hns (by simp [List.lookup]) (hk _ _ hx) hxC (fun h' tk t1 k e => ?_)
  · exact hg.keeps hk
  · exact hb.keeps hk
  · refine wpAt_of_wpAny (wpAny_execs_nil ?_)
    exact hq h' tk t1 (fun b o hb z => k b o hb (hk b o z)) e
/-- C() -/
theorem made0 (T : ETxt prog K mg C fI cc cda B newId initId bmB nmC qual params first [] scope) {R : Result → Shared → Prop} {s : Shared} (X : K.In s.heap) (hlim : s.heap.NoLimit)
    (hg : s.heap.Ns mainGlobals mg) (hb : s.heap.Ns builtinsNs mb) (hS : mb "super" = some (.type "super")) (hroom : A.depth + 1 < recursionLimit)
    (hbind : ∀ (x : Addr) (s : Shared) (kV doc pm : Value) (an : Option Addr) (ct : Value), BindsTo s (ksFn "__init__" qual params [first] scope .none kV doc pm an (.ref cda) ct cc) ⟨[.ref x], []⟩ [("self", .ref x)])
    (hcell : ∀ z ∈ scope.names, z.2 ≠ .cell) (hco : scope.isCoroutine = false) (hgen : scope.isGenerator = false)
    (hq : ∀ h' tk t1, (∀ b o, s.heap.get? b = some o → h'.get? b = some o) → h'.get? (s.heap.objs.size + 1) = some (excO C t1) → R (.ok (.ret (.ref (s.heap.objs.size + 1)))) { s with heap := h', toks := tk }) :
    codeAny (model prog w) A (.call (.ref C) ⟨[], []⟩) R s := by
  obtain ⟨nm, q, N, bs, bm, sn, sub, ab, col, dd, k0, k1, k2, k3, k5, hC, hbm⟩ := T.cls
  obtain ⟨hp, g, dr, tk, os⟩ := s
  have k : ∀ b o, hp.get? b = some o → ((hp.push (kdv_tup [])).push (excO C hp.objs.size)).get? b = some o := fun b o e => Heap.get?_push_of_some _ (Heap.get?_push_of_some _ e)
  have hget : ((hp.push (kdv_tup [])).push (excO C hp.objs.size)).get? (hp.objs.size + 1) = some (excO C hp.objs.size) := by heap_get
  have hne : hp.objs.size + 1 ≠ C := fun z => by
    have := Heap.lt_size (X _ _ hC)
    rw [← z] at this
    exact absurd this (by show ¬ (hp.objs.size + 1 < hp.objs.size); omega)
  refine call_own T.base hbm (X _ _ hC) (looks_findIn X T.iC) (fun self => bind_fn X self T.tI) (by rw [sizeLine_eq]; exact (by decide : 0 ≤ 16777216)) ?_
  refine init0 (mb := mb) (s := ⟨(hp.push (kdv_tup [])).push (excO C hp.objs.size), g, dr, tk, os⟩) T (X.keeps k) (hlim.keeps k) (hg.keeps k) (hb.keeps k) hS hget hne ?_ (hbind _ _) hcell hco hgen fun h' tk' t1 k' e => ?_
  · show A.depth + 1 < recursionLimit
    exact hroom
  · refine ⟨rfl, hq h' tk' t1 (fun b o z => k' b o (Nat.ne_of_lt (Nat.lt_succ_of_lt (Heap.lt_size z))) (k b o z)) e⟩
end
end BX
end PySem
namespace L2
open PySem PySem.Spec PyProof.Rows
theorem pmk_e0 {X : Cx} {C fI cc cda : Addr} {B newId initId : String} {bmB : List Value} {nmC qual : Str} {params : Arguments} {first : Stmt} {scope : Scope} {p pos : Pos} {k : Nat}
    (T : PySem.BX.ETxt X.prog X.K X.mg C fI cc cda B newId initId bmB nmC qual params first [] scope) (hr : Room k X.A) (hg : Gl X nmC)
    (hbind : ∀ (x : Addr) (s : Shared) (kV doc pm : Value) (an : Option Addr) (ct : Value), BindsTo s (PySem.W.ksFn "__init__" qual params [first] scope .none kV doc pm an (.ref cda) ct cc) ⟨[.ref x], []⟩ [("self", .ref x)])
    (hcell : ∀ z ∈ scope.names, z.2 ≠ .cell) (hco : scope.isCoroutine = false) (hgen : scope.isGenerator = false) (hdb : (nmC == ("__debug__" : Str)) = false := by decide) :
    PMk X (.Call (.Name nmC p) [] [] pos) (fun _ H Q => Q (.ref C) none H) := by
  intro pins s σ H Q I h
  refine wpAny_Call_Name_kw (ld_glob I hg T.gC ?_ hdb)
  refine PySem.W.callWith_K0 I.kIn T.kC ?_
  show wpAny _ _ (call (.ref C) []) _ _ _
  have hlim := I.nolimit
  obtain ⟨mb, hb1, hb2⟩ := I.mod.blt
  have hbS : mb "super" = some (.type "super") := (hb2 _ (by decide)).trans (by first | rfl | decide +kernel)
  obtain ⟨hp, gg, dr, tk, os⟩ := s
  refine wpAny_call (PySem.BX.made0 (mb := mb) T I.kIn hlim (I.mod.glob.keeps I.bk) (hb1.keeps I.bk) hbS (by have := hr.dp; omega) hbind hcell hco hgen fun h' tk' t1 kp e => ?_)
  show MkP X pins σ Q (.ref (hp.objs.size + 1)) ⟨h', gg, dr, tk', os⟩
  obtain ⟨G', g1, g2⟩ := restrict h' fun b => decide (b ≠ hp.objs.size + 1)
  have gk : ∀ b, b ≠ hp.objs.size + 1 → G'.get? b = h'.get? b := fun b hb => g1 b (decide_eq_true hb)
  have ge : G'.get? (hp.objs.size + 1) = none := g2 _ (by simp)
  have old : ∀ b o, hp.get? b = some o → G'.get? b = some o := fun b o q => (gk b (Nat.ne_of_lt (Nat.lt_succ_of_lt (Heap.lt_size q)))).trans (kp b o q)
  have J : Inv X pins σ H ⟨G', gg, dr, tk', os⟩ := I.kept (t' := tk') old
  refine ⟨hp.objs.size + 1, _, _, ⟨G', gg, dr, tk', os⟩, H, .ref C, none, rfl, J, fun b o q => ?_, ge, e, ⟨rfl, rfl⟩, rfl, rfl, I.hok.fresh (Nat.le_succ _), rfl, I.bare, raises_own T.exC T.tyC, h⟩
  by_cases hb : b = hp.objs.size + 1
  · have q' : G'.get? b = some o := q
    rw [hb, ge] at q'; cases q'
  · exact (gk b hb).symm.trans q
end L2
set_option Elab.async false
set_option linter.all false
set_option maxRecDepth 100000
set_option maxHeartbeats 2000000
namespace PySem
namespace BX
open PySem.W PySem.Calls PyProof.Rows PySem.HandSPX
section
variable {prog : Program} {w : World} {A : Around} {E : Value → Shared → Prop} {K : Frag} {C : Addr} {cd : ClassData}
variable {h : Heap} {g : Array GenState} {d : Drawn} {t : Nat} {os : OsState}
/-- self.f = p, the first field -/
theorem st_new {env : Env} {m : Str → Option Value} {x t1 : Addr} {f p : Str} {v : Value} {p1 p2 p3 pos : Pos} {Q : Flow → Shared → Prop} (X : K.In h) (hL : h.Ns env.locals m) (hself : m "self" = some (.ref x)) (hp : m p = some v)
    (hx : h.get? x = some (excO C t1)) (hcl : clsIn K C = some cd) (hm : refsVE cd.mro = true) (hh : cd.hasDict = true) (sa : findIn K (.ref C) "__setattr__" = some (some (.builtin "object.__setattr__"))) (hno : findIn K (.ref C) f = some none)
    (hk : env.scope.kind = .function) (hl : env.kindOf p = some .local) (hls : env.kindOf "self" = some .local) (hd : (p == ("__debug__" : Str)) = false) (hs : swapsWith (.Name p p3) (some (.Attribute (.Name "self" p1) f p2)) pos.line env = pure false)
    (hq : ∀ h' tk' dx, (∀ b o, b ≠ x → h.get? b = some o → h'.get? b = some o) → h.objs.size ≤ dx → dx ≠ x → h'.get? x = some { cls := .ref C, dict := some dx, data := .fields #[.ref t1, .none, .none, .none, .bool false, .none] } →
      h'.Ns1 dx (fun y => if y = f then some v else none) → Q .next ⟨h', g, d, tk', os⟩) :
    wpAny (model prog w) A (exec (.Assign [.Attribute (.Name "self" p1) f p2] (.Name p p3) pos) env) Q E ⟨h, g, d, t, os⟩ := by
  refine plainObj_wpAny_Assign_Attribute (ESX.ldL (s := ⟨h, g, d, t, os⟩) hL hp (ESX.ldL (s := ⟨h, g, d, t, os⟩) hL hself ?_ hk hls) hk hl hd) hs
  refine set_plain (s := ⟨h, g, d, t, os⟩) X (ox := excO C t1) (od := none) ⟨hx, rfl, rfl, trivial⟩ sa ?_
  exact exc_osa X hx hcl hm hh hno (fun h' tk' dx k dn dne hx' hn => hq h' tk' dx k dn dne hx' hn)
/-- self.f = p, a further field -/
theorem st_old {env : Env} {m m0 : Str → Option Value} {nl : List Str} {x t1 dx : Addr} {f p : Str} {v : Value} {p1 p2 p3 pos : Pos} {Q : Flow → Shared → Prop} (X : K.In h) (hL : h.Ns env.locals m) (hself : m "self" = some (.ref x)) (hp : m p = some v)
    (hx : h.get? x = some { cls := .ref C, dict := some dx, data := .fields #[.ref t1, .none, .none, .none, .bool false, .none] }) (hns : h.Ns1 dx m0) (hw : Within m0 nl) (hz : nl.length ≤ 1000) (hcl : clsIn K C = some cd) (hm : refsVE cd.mro = true) (hh : cd.hasDict = true)
    (sa : findIn K (.ref C) "__setattr__" = some (some (.builtin "object.__setattr__"))) (hno : findIn K (.ref C) f = some none)
    (hk : env.scope.kind = .function) (hl : env.kindOf p = some .local) (hls : env.kindOf "self" = some .local) (hd : (p == ("__debug__" : Str)) = false) (hs : swapsWith (.Name p p3) (some (.Attribute (.Name "self" p1) f p2)) pos.line env = pure false)
    (hq : ∀ h' tk', (∀ b o, b ≠ dx → h.get? b = some o → h'.get? b = some o) → h'.Ns1 dx (fun y => if y = f then some v else m0 y) → Q .next ⟨h', g, d, tk', os⟩) :
    wpAny (model prog w) A (exec (.Assign [.Attribute (.Name "self" p1) f p2] (.Name p p3) pos) env) Q E ⟨h, g, d, t, os⟩ := by
  refine plainObj_wpAny_Assign_Attribute (ESX.ldL (s := ⟨h, g, d, t, os⟩) hL hp (ESX.ldL (s := ⟨h, g, d, t, os⟩) hL hself ?_ hk hls) hk hl hd) hs
  obtain ⟨oD, _, _, hoD, _, _⟩ := hns.count hw
  refine set_plain (s := ⟨h, g, d, t, os⟩) X (ox := { cls := .ref C, dict := some dx, data := .fields #[.ref t1, .none, .none, .none, .bool false, .none] }) (od := some oD) ⟨hx, rfl, rfl, hoD⟩ sa ?_
  exact PySem.OEX.osa_old X hx hns hw hz hcl hm hh hno (fun h' tk' k hn => hq h' tk' k hn)
end
/-- what is asked of a class whose fields are set -/
structure FTxt (K : Frag) (C : Addr) (names : List Str) : Prop where
  cl : ∃ cd : ClassData, clsIn K C = some cd ∧ refsVE cd.mro = true ∧ cd.hasDict = true
  sa : findIn K (.ref C) "__setattr__" = some (some (.builtin "object.__setattr__"))
  no : ∀ f ∈ names, findIn K (.ref C) f = some none
/-- self.f = p -/
def IsF (qual : Str) (scope : Scope) (fI cda cc : Addr) (st : Stmt) (f p : Str) : Prop := ∃ a1 a2 a3 pos : Pos, st = .Assign [.Attribute (.Name "self" a1) f a2] (.Name p a3) pos ∧ scope.names.lookup p = some .local ∧ (p == ("__debug__" : Str)) = false ∧
  ∀ L : Addr, swapsWith (.Name p a3) (some (.Attribute (.Name "self" a1) f a2)) pos.line (ksEnv qual scope L fI (.ref cda) cc) = pure false
section
variable {prog : Program} {w : World} {A : Around} {E : Value → Shared → Prop} {K : Frag} {mg mb : Str → Option Value} {C fI cc cda : Addr} {B newId initId : String} {bmB : List Value} {nmC qual : Str} {params : Arguments} {first s1 s2 : Stmt} {scope : Scope}
theorem init1 {f p : Str} {u : Value} (T : ETxt prog K mg C fI cc cda B newId initId bmB nmC qual params first [s1] scope) (F : FTxt K C [f]) (i1 : IsF qual scope fI cda cc s1 f p) {R : Result → Shared → Prop} {s : Shared} {x t0 : Addr} (X : K.In s.heap) (hlim : s.heap.NoLimit)
    (hg : s.heap.Ns mainGlobals mg) (hb : s.heap.Ns builtinsNs mb) (hS : mb "super" = some (.type "super")) (hx : s.heap.get? x = some (excO C t0)) (hxK : ∀ b o, K.lookup b = some o → b ≠ x) (hroom : A.depth < recursionLimit)
    (hbind : ∀ (kV doc pm : Value) (an : Option Addr) (ct : Value), BindsTo s (ksFn "__init__" qual params [first, s1] scope .none kV doc pm an (.ref cda) ct cc) ⟨[.ref x, u], []⟩ [("self", .ref x), (p, u)])
    (hps : p ≠ "self") (hcell : ∀ z ∈ scope.names, z.2 ≠ .cell) (hco : scope.isCoroutine = false) (hgen : scope.isGenerator = false)
    (hq : ∀ h' tk t1 dx, (∀ b o, b ≠ x → s.heap.get? b = some o → h'.get? b = some o) → s.heap.objs.size ≤ dx → dx ≠ x → h'.get? x = some { cls := .ref C, dict := some dx, data := .fields #[.ref t1, .none, .none, .none, .bool false, .none] } →
      h'.Ns1 dx (fun y => if y = f then some u else none) → R (.ok (.ret .none)) { s with heap := h', toks := tk }) :
    codeAny (model prog w) A (.call (.ref fI) ⟨[.ref x, u], []⟩) R s := by
  obtain ⟨oc, od, kV, doc, pm, an, ct, osl, hf⟩ := T.fn
  obtain ⟨cd, hcl, hm, hh⟩ := F.cl
  obtain ⟨a1, a2, a3, pos, rfl, hlp, hdp, hsw⟩ := i1
  have hxC : x ≠ C := fun z => by
    obtain ⟨nm, q, N, bs, bm, sn, sub, ab, col, dd, k0, k1, k2, k3, k5, hC, hbm⟩ := T.cls
    exact hxK _ _ hC z.symm
  refine ks_codeAny_call_defAt (fd := ksFn "__init__" qual params [first, .Assign [.Attribute (.Name "self" a1) f a2] (.Name p a3) pos] scope .none kV doc pm an (.ref cda) ct cc) (body := [first, .Assign [.Attribute (.Name "self" a1) f a2] (.Name p a3) pos]) (binds := [("self", .ref x), (p, u)]) hroom (X _ _ hf) rfl hlim (codeRec_of X T.code) rfl (hbind kV doc pm an ct) hcell ?_ (fun h₁ hns hk => ?_) hco hgen T.kF
  · intro y hy
    rcases List.mem_cons.mp hy with rfl | hy
    · exact T.kSf
    · rw [List.mem_singleton.mp hy]
      exact hlp
  have hms : List.lookup ("self" : Str) [(("self" : Str), Value.ref x), (p, u)].reverse = some (.ref x) := by
    show List.lookup ("self" : Str) [(p, u), (("self" : Str), Value.ref x)] = _
    rw [List.lookup_cons, show (("self" : Str) == p) = false from beq_false_of_ne (Ne.symm hps)]
    rfl
  have hmp : List.lookup p [(("self" : Str), Value.ref x), (p, u)].reverse = some u := by
    show List.lookup p [(p, u), (("self" : Str), Value.ref x)] = _
    rw [List.lookup_cons, show (p == p) = true from beq_self_eq_true p]
  obtain ⟨hp, g, d, t, os⟩ := s
  have hLx : hp.objs.size ≠ x := (Nat.ne_of_lt (Heap.lt_size hx)).symm
  refine ks_wpAt_execs_cons ?_
  refine super_stmt (mb := mb) (m := fun y => List.lookup y [(("self" : Str), Value.ref x), (p, u)].reverse) T (X.keeps hk) (hg.keeps hk) (hb.keeps hk) hS hns hms (hk _ _ hx) hxC (fun h' tk t1 k e => ?_)
  have X' : K.In h' := fun b o l => k b o (hxK b o l) (hk _ _ (X b o l))
  have hns' : h'.Ns hp.objs.size (fun y => List.lookup y [(("self" : Str), Value.ref x), (p, u)].reverse) := hns.at fun o z => k _ _ hLx z
  refine wpAt_of_wpAny (wpAny_execs_cons ?_)
  refine st_new X' hns' hms hmp e hcl hm hh F.sa (F.no f List.mem_cons_self) T.kF hlp T.kSf hdp (hsw _) fun h2 tk2 dx k2 dn dne hx2 hn2 => ?_
  refine wpAny_execs_nil ?_
  refine hq h2 tk2 t1 dx (fun b o hb z => k2 b o hb (k b o hb (hk _ _ z))) ?_ dne hx2 hn2
  have : hp.objs.size < h'.objs.size := by
    obtain ⟨o, _, _, z, _⟩ := hns'
    exact Heap.lt_size z
  show hp.objs.size ≤ dx
  omega
theorem init2 {f1 f2 p1 p2 : Str} {u1 u2 : Value} (T : ETxt prog K mg C fI cc cda B newId initId bmB nmC qual params first [s1, s2] scope) (F : FTxt K C [f1, f2]) (i1 : IsF qual scope fI cda cc s1 f1 p1) (i2 : IsF qual scope fI cda cc s2 f2 p2) {R : Result → Shared → Prop} {s : Shared} {x t0 : Addr} (X : K.In s.heap) (hlim : s.heap.NoLimit)
    (hg : s.heap.Ns mainGlobals mg) (hb : s.heap.Ns builtinsNs mb) (hS : mb "super" = some (.type "super")) (hx : s.heap.get? x = some (excO C t0)) (hxK : ∀ b o, K.lookup b = some o → b ≠ x) (hroom : A.depth < recursionLimit)
    (hbind : ∀ (kV doc pm : Value) (an : Option Addr) (ct : Value), BindsTo s (ksFn "__init__" qual params [first, s1, s2] scope .none kV doc pm an (.ref cda) ct cc) ⟨[.ref x, u1, u2], []⟩ [("self", .ref x), (p1, u1), (p2, u2)])
    (hps : p1 ≠ "self" ∧ p2 ≠ "self" ∧ p1 ≠ p2) (hcell : ∀ z ∈ scope.names, z.2 ≠ .cell) (hco : scope.isCoroutine = false) (hgen : scope.isGenerator = false)
    (hq : ∀ h' tk t1 dx, (∀ b o, b ≠ x → s.heap.get? b = some o → h'.get? b = some o) → s.heap.objs.size ≤ dx → dx ≠ x → h'.get? x = some { cls := .ref C, dict := some dx, data := .fields #[.ref t1, .none, .none, .none, .bool false, .none] } →
      h'.Ns1 dx (fun y => if y = f2 then some u2 else if y = f1 then some u1 else none) → R (.ok (.ret .none)) { s with heap := h', toks := tk }) :
    codeAny (model prog w) A (.call (.ref fI) ⟨[.ref x, u1, u2], []⟩) R s := by
  obtain ⟨oc, od, kV, doc, pm, an, ct, osl, hf⟩ := T.fn
  obtain ⟨cd, hcl, hm, hh⟩ := F.cl
  obtain ⟨a1, a2, a3, pos, rfl, hlp, hdp, hsw⟩ := i1
  obtain ⟨b1, b2, b3, pos', rfl, hlp', hdp', hsw'⟩ := i2
  have hxC : x ≠ C := fun z => by
    obtain ⟨nm, q, N, bs, bm, sn, sub, ab, col, dd, k0, k1, k2, k3, k5, hC, hbm⟩ := T.cls
    exact hxK _ _ hC z.symm
  refine ks_codeAny_call_defAt (fd := ksFn "__init__" qual params [first, .Assign [.Attribute (.Name "self" a1) f1 a2] (.Name p1 a3) pos, .Assign [.Attribute (.Name "self" b1) f2 b2] (.Name p2 b3) pos'] scope .none kV doc pm an (.ref cda) ct cc) (body := [first, .Assign [.Attribute (.Name "self" a1) f1 a2] (.Name p1 a3) pos, .Assign [.Attribute (.Name "self" b1) f2 b2] (.Name p2 b3) pos']) (binds := [("self", .ref x), (p1, u1), (p2, u2)]) hroom (X _ _ hf) rfl hlim (codeRec_of X T.code) rfl (hbind kV doc pm an ct) hcell ?_ (fun h₁ hns hk => ?_) hco hgen T.kF
  · intro y hy
    rcases List.mem_cons.mp hy with rfl | hy
    · exact T.kSf
    · rcases List.mem_cons.mp hy with rfl | hy
      · exact hlp
      · rw [List.mem_singleton.mp hy]
        exact hlp'
  have hms : List.lookup ("self" : Str) [(("self" : Str), Value.ref x), (p1, u1), (p2, u2)].reverse = some (.ref x) := by
    show List.lookup ("self" : Str) [(p2, u2), (p1, u1), (("self" : Str), Value.ref x)] = _
    rw [List.lookup_cons, show (("self" : Str) == p2) = false from beq_false_of_ne (Ne.symm hps.2.1)]
    show List.lookup ("self" : Str) [(p1, u1), (("self" : Str), Value.ref x)] = _
    rw [List.lookup_cons, show (("self" : Str) == p1) = false from beq_false_of_ne (Ne.symm hps.1)]
    rfl
  have hmp : List.lookup p1 [(("self" : Str), Value.ref x), (p1, u1), (p2, u2)].reverse = some u1 := by
    show List.lookup p1 [(p2, u2), (p1, u1), (("self" : Str), Value.ref x)] = _
    rw [List.lookup_cons, show (p1 == p2) = false from beq_false_of_ne hps.2.2]
    show List.lookup p1 [(p1, u1), (("self" : Str), Value.ref x)] = _
    rw [List.lookup_cons, show (p1 == p1) = true from beq_self_eq_true p1]
  have hmp2 : List.lookup p2 [(("self" : Str), Value.ref x), (p1, u1), (p2, u2)].reverse = some u2 := by
    show List.lookup p2 [(p2, u2), (p1, u1), (("self" : Str), Value.ref x)] = _
    rw [List.lookup_cons, show (p2 == p2) = true from beq_self_eq_true p2]
  obtain ⟨hp, g, d, t, os⟩ := s
  have hLx : hp.objs.size ≠ x := (Nat.ne_of_lt (Heap.lt_size hx)).symm
  refine ks_wpAt_execs_cons ?_
  refine super_stmt (mb := mb) (m := fun y => List.lookup y [(("self" : Str), Value.ref x), (p1, u1), (p2, u2)].reverse) T (X.keeps hk) (hg.keeps hk) (hb.keeps hk) hS hns hms (hk _ _ hx) hxC (fun h' tk t1 k e => ?_)
  have X' : K.In h' := fun b o l => k b o (hxK b o l) (hk _ _ (X b o l))
  have hns' : h'.Ns hp.objs.size (fun y => List.lookup y [(("self" : Str), Value.ref x), (p1, u1), (p2, u2)].reverse) := hns.at fun o z => k _ _ hLx z
  have hlt : hp.objs.size < h'.objs.size := by
    obtain ⟨o, _, _, z, _⟩ := hns'
    exact Heap.lt_size z
  refine wpAt_of_wpAny (wpAny_execs_cons ?_)
  refine st_new X' hns' hms hmp e hcl hm hh F.sa (F.no f1 List.mem_cons_self) T.kF hlp T.kSf hdp (hsw _) fun h2 tk2 dx k2 dn dne hx2 hn2 => ?_
  have X2 : K.In h2 := fun b o l => k2 b o (hxK b o l) (X' b o l)
  have hns2 : h2.Ns hp.objs.size (fun y => List.lookup y [(("self" : Str), Value.ref x), (p1, u1), (p2, u2)].reverse) := hns'.at fun o z => k2 _ _ hLx z
  refine wpAny_execs_cons ?_
  refine st_old X2 hns2 hms hmp2 hx2 hn2 (Within.cons f1 u1 Within.nil) (by show 1 ≤ 1000; decide) hcl hm hh F.sa (F.no f2 (List.mem_cons_of_mem _ List.mem_cons_self)) T.kF hlp' T.kSf hdp' (hsw' _) fun h3 tk3 k3 hn3 => ?_
  refine wpAny_execs_nil ?_
  have ndx : ∀ {b : Addr} {o : Obj}, hp.get? b = some o → b ≠ dx := fun {b o} z y => by
    have := Heap.lt_size z
    rw [y] at this
    exact Nat.lt_irrefl _ (Nat.lt_of_lt_of_le this (Nat.le_trans (Nat.le_of_lt hlt) dn))
  refine hq h3 tk3 t1 dx (fun b o hb z => k3 b o (ndx z) (k2 b o hb (k b o hb (hk _ _ z)))) (by show hp.objs.size ≤ dx; omega) dne (k3 _ _ (Ne.symm dne) hx2) hn3
/-- C(u) -/
theorem made1 {f p : Str} {u : Value} (T : ETxt prog K mg C fI cc cda B newId initId bmB nmC qual params first [s1] scope) (F : FTxt K C [f]) (i1 : IsF qual scope fI cda cc s1 f p) {R : Result → Shared → Prop} {s : Shared} (X : K.In s.heap) (hlim : s.heap.NoLimit)
    (hg : s.heap.Ns mainGlobals mg) (hb : s.heap.Ns builtinsNs mb) (hS : mb "super" = some (.type "super")) (hroom : A.depth + 1 < recursionLimit)
    (hbind : ∀ (x : Addr) (s : Shared) (kV doc pm : Value) (an : Option Addr) (ct : Value), BindsTo s (ksFn "__init__" qual params [first, s1] scope .none kV doc pm an (.ref cda) ct cc) ⟨[.ref x, u], []⟩ [("self", .ref x), (p, u)])
    (hps : p ≠ "self") (hcell : ∀ z ∈ scope.names, z.2 ≠ .cell) (hco : scope.isCoroutine = false) (hgen : scope.isGenerator = false)
    (hq : ∀ h' tk t1 dx, (∀ b o, s.heap.get? b = some o → h'.get? b = some o) → s.heap.objs.size ≤ dx → dx ≠ s.heap.objs.size + 1 → h'.get? (s.heap.objs.size + 1) = some { cls := .ref C, dict := some dx, data := .fields #[.ref t1, .none, .none, .none, .bool false, .none] } →
      h'.Ns1 dx (fun y => if y = f then some u else none) → R (.ok (.ret (.ref (s.heap.objs.size + 1)))) { s with heap := h', toks := tk }) :
    codeAny (model prog w) A (.call (.ref C) ⟨[u], []⟩) R s := by
  obtain ⟨nm, q, N, bs, bm, sn, sub, ab, col, dd, k0, k1, k2, k3, k5, hC, hbm⟩ := T.cls
  obtain ⟨hp, g, dr, tk, os⟩ := s
  have k : ∀ b o, hp.get? b = some o → ((hp.push (kdv_tup [u])).push (excO C hp.objs.size)).get? b = some o := fun b o e => Heap.get?_push_of_some _ (Heap.get?_push_of_some _ e)
  have hget : ((hp.push (kdv_tup [u])).push (excO C hp.objs.size)).get? (hp.objs.size + 1) = some (excO C hp.objs.size) := by heap_get
  have hne : ∀ {b : Addr} {o : Obj}, hp.get? b = some o → b ≠ hp.objs.size + 1 := fun {b o} z y => by
    have := Heap.lt_size z
    rw [y] at this
    exact absurd this (by show ¬ (hp.objs.size + 1 < hp.objs.size); omega)
  refine call_own T.base hbm (X _ _ hC) (looks_findIn X T.iC) (fun self => bind_fn X self T.tI) (by rw [sizeLine_eq]; exact (by decide : 1 ≤ 16777216)) ?_
  refine init1 (mb := mb) (s := ⟨(hp.push (kdv_tup [u])).push (excO C hp.objs.size), g, dr, tk, os⟩) T F i1 (X.keeps k) (hlim.keeps k) (hg.keeps k) (hb.keeps k) hS hget (fun b o l => hne (X b o l)) ?_ (hbind _ _) hps hcell hco hgen fun h' tk' t1 dx k' hdx ndx e hn => ?_
  · show A.depth + 1 < recursionLimit
    exact hroom
  · refine ⟨rfl, hq h' tk' t1 dx (fun b o z => k' b o (hne z) (k b o z)) ?_ ndx e hn⟩
    have : hp.objs.size + 2 ≤ dx := by
      have z : ((hp.push (kdv_tup [u])).push (excO C hp.objs.size)).objs.size = hp.objs.size + 2 := by simp [Heap.push]
      rw [← z]
      exact hdx
    show hp.objs.size ≤ dx
    omega
/-- C(u1, u2) -/
theorem made2 {f1 f2 p1 p2 : Str} {u1 u2 : Value} (T : ETxt prog K mg C fI cc cda B newId initId bmB nmC qual params first [s1, s2] scope) (F : FTxt K C [f1, f2]) (i1 : IsF qual scope fI cda cc s1 f1 p1) (i2 : IsF qual scope fI cda cc s2 f2 p2) {R : Result → Shared → Prop} {s : Shared} (X : K.In s.heap) (hlim : s.heap.NoLimit)
    (hg : s.heap.Ns mainGlobals mg) (hb : s.heap.Ns builtinsNs mb) (hS : mb "super" = some (.type "super")) (hroom : A.depth + 1 < recursionLimit)
    (hbind : ∀ (x : Addr) (s : Shared) (kV doc pm : Value) (an : Option Addr) (ct : Value), BindsTo s (ksFn "__init__" qual params [first, s1, s2] scope .none kV doc pm an (.ref cda) ct cc) ⟨[.ref x, u1, u2], []⟩ [("self", .ref x), (p1, u1), (p2, u2)])
    (hps : p1 ≠ "self" ∧ p2 ≠ "self" ∧ p1 ≠ p2) (hcell : ∀ z ∈ scope.names, z.2 ≠ .cell) (hco : scope.isCoroutine = false) (hgen : scope.isGenerator = false)
    (hq : ∀ h' tk t1 dx, (∀ b o, s.heap.get? b = some o → h'.get? b = some o) → s.heap.objs.size ≤ dx → dx ≠ s.heap.objs.size + 1 → h'.get? (s.heap.objs.size + 1) = some { cls := .ref C, dict := some dx, data := .fields #[.ref t1, .none, .none, .none, .bool false, .none] } →
      h'.Ns1 dx (fun y => if y = f2 then some u2 else if y = f1 then some u1 else none) → R (.ok (.ret (.ref (s.heap.objs.size + 1)))) { s with heap := h', toks := tk }) :
    codeAny (model prog w) A (.call (.ref C) ⟨[u1, u2], []⟩) R s := by
  obtain ⟨nm, q, N, bs, bm, sn, sub, ab, col, dd, k0, k1, k2, k3, k5, hC, hbm⟩ := T.cls
  obtain ⟨hp, g, dr, tk, os⟩ := s
  have k : ∀ b o, hp.get? b = some o → ((hp.push (kdv_tup [u1, u2])).push (excO C hp.objs.size)).get? b = some o := fun b o e => Heap.get?_push_of_some _ (Heap.get?_push_of_some _ e)
  have hget : ((hp.push (kdv_tup [u1, u2])).push (excO C hp.objs.size)).get? (hp.objs.size + 1) = some (excO C hp.objs.size) := by heap_get
  have hne : ∀ {b : Addr} {o : Obj}, hp.get? b = some o → b ≠ hp.objs.size + 1 := fun {b o} z y => by
    have := Heap.lt_size z
    rw [y] at this
    exact absurd this (by show ¬ (hp.objs.size + 1 < hp.objs.size); omega)
  refine call_own T.base hbm (X _ _ hC) (looks_findIn X T.iC) (fun self => bind_fn X self T.tI) (by rw [sizeLine_eq]; exact (by decide : 2 ≤ 16777216)) ?_
  refine init2 (mb := mb) (s := ⟨(hp.push (kdv_tup [u1, u2])).push (excO C hp.objs.size), g, dr, tk, os⟩) T F i1 i2 (X.keeps k) (hlim.keeps k) (hg.keeps k) (hb.keeps k) hS hget (fun b o l => hne (X b o l)) ?_ (hbind _ _) hps hcell hco hgen fun h' tk' t1 dx k' hdx ndx e hn => ?_
  · show A.depth + 1 < recursionLimit
    exact hroom
  · refine ⟨rfl, hq h' tk' t1 dx (fun b o z => k' b o (hne z) (k b o z)) ?_ ndx e hn⟩
    have : hp.objs.size + 2 ≤ dx := by
      have z : ((hp.push (kdv_tup [u1, u2])).push (excO C hp.objs.size)).objs.size = hp.objs.size + 2 := by simp [Heap.push]
      rw [← z]
      exact hdx
    show hp.objs.size ≤ dx
    omega
end
end BX
end PySem
namespace L2
open PySem PySem.Spec PyProof.Rows
/-- C(e) -/
def tMk1 (C : Addr) (f : Str) (ta : TA) : St → Hp → XK → Prop := fun σ H Q => ta σ H fun vs H1 => ∃ y, vs = [y] ∧ ∀ dx, H1 dx = none → Q (.ref C) (some dx) (upd H1 dx (.xd [(f, y)]))
/-- C(e1, e2) -/
def tMk2 (C : Addr) (f1 f2 : Str) (ta : TA) : St → Hp → XK → Prop := fun σ H Q => ta σ H fun vs H1 => ∃ y1 y2, vs = [y1, y2] ∧ ∀ dx, H1 dx = none → Q (.ref C) (some dx) (upd H1 dx (.xd [(f2, y2), (f1, y1)]))
section
variable {X : Cx} {C fI cc cda : Addr} {B newId initId : String} {bmB : List Value} {nmC qual : Str} {params : Arguments} {first s1 s2 : Stmt} {scope : Scope} {p pos : Pos} {k : Nat} {ta : TA}
theorem mk_fin {pins : List (Addr × Obj)} {σ : St} {H : Hp} {Q : XK} {hp h' : Heap} {gg : Array GenState} {dr : Drawn} {tk tk' : Nat} {os : OsState} {t1 dx : Addr} {fs : List (Str × V)} {mA : Str → Option Value} (I : Inv X pins σ H ⟨hp, gg, dr, tk, os⟩) (r : Raises X (.ref C))
    (kp : ∀ b o, hp.get? b = some o → h'.get? b = some o) (hdx : hp.objs.size ≤ dx) (ndx : dx ≠ hp.objs.size + 1) (e : h'.get? (hp.objs.size + 1) = some ({ cls := .ref C, dict := some dx, data := .fields #[.ref t1, .none, .none, .none, .bool false, .none] } : Obj)) (hn : h'.Ns1 dx mA) (rel : ∀ f, RelO (fs.lookup f) (mA f))
    (q : Q (.ref C) (some dx) (upd H dx (.xd fs))) : MkP X pins σ Q (.ref (hp.objs.size + 1)) ⟨h', gg, dr, tk', os⟩ := by
  obtain ⟨G', g1, g2⟩ := restrict h' fun b => decide (b ≠ hp.objs.size + 1)
  have gk : ∀ b, b ≠ hp.objs.size + 1 → G'.get? b = h'.get? b := fun b hb => g1 b (decide_eq_true hb)
  have ge : G'.get? (hp.objs.size + 1) = none := g2 _ (by simp)
  have old : ∀ b o, hp.get? b = some o → G'.get? b = some o := fun b o q => (gk b (Nat.ne_of_lt (Nat.lt_succ_of_lt (Heap.lt_size q)))).trans (kp b o q)
  have J : Inv X pins σ (upd H dx (.xd fs)) ⟨G', gg, dr, tk', os⟩ := I.laid (t' := tk') old hdx ⟨mA, hn.at fun o y => (gk dx ndx).trans y, rel⟩
  refine ⟨hp.objs.size + 1, _, _, ⟨G', gg, dr, tk', os⟩, _, .ref C, some dx, rfl, J, fun b o q => ?_, ge, e, ⟨rfl, rfl⟩, rfl, rfl, ?_, rfl, I.bare, r, q⟩
  · by_cases hb : b = hp.objs.size + 1
    · have q' : G'.get? b = some o := q
      rw [hb, ge] at q'; cases q'
    · exact (gk b hb).symm.trans q
  · rw [upd_ne (Ne.symm ndx)]
    exact I.hok.fresh (Nat.le_succ _)
theorem pmk_e1 {f pn : Str} {e : Expr} (T : PySem.BX.ETxt X.prog X.K X.mg C fI cc cda B newId initId bmB nmC qual params first [s1] scope) (F : PySem.BX.FTxt X.K C [f]) (i1 : PySem.BX.IsF qual scope fI cda cc s1 f pn) (hr : Room k X.A) (hg : Gl X nmC)
    (hbind : ∀ (u : Value) (x : Addr) (s : Shared) (kV doc pm : Value) (an : Option Addr) (ct : Value), BindsTo s (PySem.W.ksFn "__init__" qual params [first, s1] scope .none kV doc pm an (.ref cda) ct cc) ⟨[.ref x, u], []⟩ [("self", .ref x), (pn, u)])
    (hps : pn ≠ "self") (hcell : ∀ z ∈ scope.names, z.2 ≠ .cell) (hco : scope.isCoroutine = false) (hgen : scope.isGenerator = false) (ha : PA X [e] ta) (hdb : (nmC == ("__debug__" : Str)) = false := by decide)
    (he : starEach [e] X.env = (false, eval e X.env) :: starEach [] X.env := by rfl) (hpl : (backTo pos (starEach [] X.env)).any (·.1) = false := by rfl) :
    PMk X (.Call (.Name nmC p) [e] [] pos) (tMk1 C f ta) := by
  intro pins s σ H Q I h
  refine wpAny_Call_Name_kw (ld_glob I hg T.gC ?_ hdb)
  refine PySem.W.callWith_K (h₀ := X.base) I.ok.mod.kin T.kC (thn (ha.run pos pins s σ H _ I h) fun us s1 ⟨vs, H1, I1, r1, y, ev, q1⟩ => ⟨I1.kIn, ?_⟩) he hpl
  subst ev
  cases r1 with
  | @cons _ u _ ur ry rr =>
    cases rr
    show wpAny _ _ (call (.ref C) [u]) _ _ _
    have hlim := I1.nolimit
    obtain ⟨mb, hb1, hb2⟩ := I1.mod.blt
    have hbS : mb "super" = some (.type "super") := (hb2 _ (by decide)).trans (by first | rfl | decide +kernel)
    obtain ⟨hp, gg, dr, tk, os⟩ := s1
    refine wpAny_call (PySem.BX.made1 (mb := mb) T F i1 I1.kIn hlim (I1.mod.glob.keeps I1.bk) (hb1.keeps I1.bk) hbS (by have := hr.dp; omega) (hbind u) hps hcell hco hgen fun h' tk' t1 dx kp hdx ndx e hn => ?_)
    exact mk_fin I1 (raises_own T.exC T.tyC) kp hdx ndx e hn (relO_put (fs := []) ry fun g => True.intro) (q1 dx (I1.hok.fresh hdx))
theorem pmk_e2 {f1 f2 p1 p2 : Str} {e e' : Expr} (T : PySem.BX.ETxt X.prog X.K X.mg C fI cc cda B newId initId bmB nmC qual params first [s1, s2] scope) (F : PySem.BX.FTxt X.K C [f1, f2]) (i1 : PySem.BX.IsF qual scope fI cda cc s1 f1 p1) (i2 : PySem.BX.IsF qual scope fI cda cc s2 f2 p2) (hr : Room k X.A) (hg : Gl X nmC)
    (hbind : ∀ (u1 u2 : Value) (x : Addr) (s : Shared) (kV doc pm : Value) (an : Option Addr) (ct : Value), BindsTo s (PySem.W.ksFn "__init__" qual params [first, s1, s2] scope .none kV doc pm an (.ref cda) ct cc) ⟨[.ref x, u1, u2], []⟩ [("self", .ref x), (p1, u1), (p2, u2)])
    (hps : p1 ≠ "self" ∧ p2 ≠ "self" ∧ p1 ≠ p2) (hcell : ∀ z ∈ scope.names, z.2 ≠ .cell) (hco : scope.isCoroutine = false) (hgen : scope.isGenerator = false) (ha : PA X [e, e'] ta) (hdb : (nmC == ("__debug__" : Str)) = false := by decide)
    (he : starEach [e, e'] X.env = (false, eval e X.env) :: starEach [e'] X.env := by rfl) (hpl : (backTo pos (starEach [e'] X.env)).any (·.1) = false := by rfl) :
    PMk X (.Call (.Name nmC p) [e, e'] [] pos) (tMk2 C f1 f2 ta) := by
  intro pins s σ H Q I h
  refine wpAny_Call_Name_kw (ld_glob I hg T.gC ?_ hdb)
  refine PySem.W.callWith_K (h₀ := X.base) I.ok.mod.kin T.kC (thn (ha.run pos pins s σ H _ I h) fun us s1 ⟨vs, H1, I1, r1, y1, y2, ev, q1⟩ => ⟨I1.kIn, ?_⟩) he hpl
  subst ev
  cases r1 with
  | @cons _ u _ ur ry rr =>
    cases rr with
    | @cons _ u2 _ ur2 ry2 rr2 =>
      cases rr2
      show wpAny _ _ (call (.ref C) [u, u2]) _ _ _
      have hlim := I1.nolimit
      obtain ⟨mb, hb1, hb2⟩ := I1.mod.blt
      have hbS : mb "super" = some (.type "super") := (hb2 _ (by decide)).trans (by first | rfl | decide +kernel)
      obtain ⟨hp, gg, dr, tk, os⟩ := s1
      refine wpAny_call (PySem.BX.made2 (mb := mb) T F i1 i2 I1.kIn hlim (I1.mod.glob.keeps I1.bk) (hb1.keeps I1.bk) hbS (by have := hr.dp; omega) (hbind u u2) hps hcell hco hgen fun h' tk' t1 dx kp hdx ndx e hn => ?_)
      exact mk_fin I1 (raises_own T.exC T.tyC) kp hdx ndx e hn (relO_put ry2 (relO_put (fs := []) ry fun g => True.intro)) (q1 dx (I1.hok.fresh hdx))
end
end L2
set_option Elab.async false
set_option linter.all false
set_option maxRecDepth 100000
set_option maxHeartbeats 4000000
namespace BI
open PySem PySem.W PySem.Spec PySem.Calls PyProof.Rows L2
section
variable {prog : Program} {w : World} {A : Around} {E : Value → Shared → Prop} {s : Shared} {K : Frag} {x D : Addr} {ob : Obj} {own : Option Obj}
theorem find_data {name : Str} {a g : Value} (isc : (clsIn K D).isSome = true) (at' : findIn K (.ref D) name = some (some a)) (ge : specialIn K a "__get__" = some (some g)) (tk : takesIn K a = some true) : findObj K D own name = some (.bind g a) := by
  obtain ⟨cd, e⟩ := Option.isSome_iff_exists.mp isc
  unfold findObj
  rw [e, Option.bind_some, at', Option.bind_some]
  simp [ge, tk]
/-- e.__class__, e with fields or without -/
theorem class_of {Q : Option Value → Shared → Prop} (Z : ExcC K D) (kin : K.In s.heap) (at' : InstAt s.heap x ob D own) (hq : Q (some (.ref D)) { s with toks := s.toks + 1 }) : wpAny (model prog w) A (getAttr? (.ref x) "__class__") Q E s := by
  have fo : findObj K D own "__class__" = some (.bind (.builtin "getset_descriptor.__get__") (.builtin "object.__class__")) := find_data (by obtain ⟨cd, e, _⟩ := any_some Z.hd; rw [e]; rfl) Z.ha Z.hn Z.ht
  obtain ⟨hp, g, d, t, os⟩ := s
  have l0 := at'.type (M := model prog w)
  have l1 := looks_findIn (M := model prog w) kin Z.hg
  have l2 := looks_findIn (M := model prog w) kin Z.hk
  have l3 := looks_find (M := model prog w) kin at' fo
  have isb : Looks (model prog w) hp (isInstance (.ref x) (.type "BaseException")) true := l0.andThen (looks_subIn kin Z.hs)
  have n2 : (Value.builtin "BaseException.__getattribute__" == Value.builtin "object.__getattribute__") = false := by decide +kernel
  have n1 : (onTheHeap (Value.ref D) && Value.builtin "BaseException.__getattribute__" == Value.builtin "object.__getattribute__") = false := by rw [n2]; rfl
  have n0 : (false && onTheHeap (Value.builtin "BaseException.__getattribute__")) = false := rfl
  unfold getAttr? getAttrBy? getAttrBy
  refine wpAny_bind (wpAny_mkText (wpAny_bind (wpAny_attempt (wpAny_holding (wpAny_bind (l0.at (wpAny_bind (l1.at ?_))))))))
  show wpAny _ _ (if (onTheHeap (Value.ref D) && Value.builtin "BaseException.__getattribute__" == Value.builtin "object.__getattribute__") = true then _ else _) _ _ _
  rw [n1, if_neg Bool.false_ne_true]
  unfold getAttrByItsOwn hookBefore
  refine wpAny_bind ?_
  rw [if_pos (show onTheHeap (Value.ref D) = true from rfl)]
  refine l2.at (wpAny_bind (wpAny_attempt (wpAny_holding ?_)))
  unfold callGetattribute
  rw [n0, if_neg Bool.false_ne_true]
  unfold boundAndCalled
  rw [PySem.F.excAttr_ValueError.ga.bind (.ref x)]
  refine wpAny_bind (wpAny_pure ?_)
  show wpAny _ _ (call (.builtin "BaseException.__getattribute__") [.ref x, .str "__class__" t]) _ _ _
  refine wpAny_call (codeAny_call_builtin PySem.F.excAttr_ValueError.ga.plain PySem.F.entry_bexc_ga ?_)
  refine @check_slot (model prog w) _ _ ⟨hp, g, d, t + 1, os⟩ "BaseException.__getattribute__" "BaseException" "__getattribute__" (.ref x) [.str "__class__" t] [] _ (by decide +kernel) (by decide +kernel) isb (PySem.F.args_bexc_ga (.ref x) (.str "__class__" t)) ?_
  unfold Builtin.«object.__getattribute__»
  refine wpAny_bind (wpAny_of_eq (a := ((Value.ref x : Value), [Value.str "__class__" t])) (by first | rfl | (simp only [slotArgs]; rfl)) ?_)
  refine wpAny_bind (wpAny_pure (wpAny_bind (l0.at (wpAny_bind (l3.at ?_)))))
  show wpAny _ _ (holding [Value.builtin "object.__class__"] (call (.builtin "getset_descriptor.__get__") [.builtin "object.__class__", .ref x, .ref D]) >>= ret) _ _ _
  refine wpAny_bind (wpAny_holding (wpAny_call (class_get (s := ⟨hp, g, d, t + 1, os⟩) (ox := ob) (od := own) kin at' Z.hm ?_)))
  refine wpAny_pure ?_
  show wpAny _ _ (handedOut (.ref D)) _ _ _
  rw [handedOut_of (v := .ref D) rfl]
  first
    | exact wpAny_pure (wpAny_pure hq)
    | exact wpAny_pure hq
    | exact wpAny_pure (wpAny_bind (wpAny_pure (wpAny_pure hq)))
theorem kitx (Z : ExcC K D) : KitX K (.ref x) (.ref D) (fun h => InstAt h x ob D own) where
  ty := fun _ _ _ at' => at'.type
  it := fun _ _ kin _ => by
    obtain ⟨cd, e, _⟩ := any_some Z.hd
    unfold clsIn at e
    split at e
    · rename_i c' d' cd' sl' ho
      intro A' Q' E' s' k q
      unfold isType loadHead
      exact wpAny_bind (wpAny_loadPart (k _ _ (kin _ _ ho)) (wpAny_pure q))
    · cases e
  ne := fun h tp dd its n sl kin htp => by
    obtain ⟨cd, e, _⟩ := any_some Z.hd
    refine Bool.eq_false_iff.mpr fun q => ?_
    have e1 : D = tp := Value.ref.inj (beq_iff_eq.mp q)
    subst e1
    unfold clsIn at e
    split at e
    · rename_i c' d' cd' sl' ho
      have z := (kin _ _ ho).symm.trans htp
      cases z
    · cases e
  ca := fun kin at' k => class_of Z kin at' k
end
/-- isinstance(e, c): e the exception that the suite holds, of class D -/
def rF (K : Frag) (D a : Addr) (cls : Value) (d : Option Addr) : List V → Hp → VK → Prop := fun xs H Q => ∃ (c : V) (cv : Value) (b : Bool) (dd : Addr) (fs : List (Str × V)), cls = .ref D ∧ d = some dd ∧ H dd = some (.xd fs) ∧ xs = [.ref a, c] ∧ (∀ u, RelV c u → u = cv) ∧ kitOne K (.ref D) cv = some b ∧ Q (.bl b) H
/-- isinstance(e, (c, ..)) -/
def rFT (K : Frag) (D a : Addr) (cls : Value) (d : Option Addr) : List V → Hp → VK → Prop := fun xs H Q => ∃ (tp : Addr) (cs : List V) (ws : List Value) (b : Bool) (dd : Addr) (fs : List (Str × V)), cls = .ref D ∧ d = some dd ∧ H dd = some (.xd fs) ∧ xs = [.ref a, .ref tp] ∧ H tp = some (.tup cs) ∧ Paired (fun c cv => ∀ u, RelV c u → u = cv) cs ws ∧ kitAny K (.ref D) ws = some b ∧ Q (.bl b) H
theorem vals_all : ∀ {cs : List V} {ws us : List Value}, Paired (fun c cv => ∀ u, RelV c u → u = cv) cs ws → Vals cs us → us = ws
  | _, _, _, .nil, .nil => rfl
  | _, _, _, .cons r t, .cons r' t' => by rw [r _ r', vals_all t t']
section
variable {X : Cx} {a D : Addr} {oe : Obj} {cls : Value} {d : Option Addr} {pn : List (Addr × Obj)}
theorem inst_at {pins : List (Addr × Obj)} {s : Shared} {σ : L2.St} {H : Hp} {dd : Addr} {fs : List (Str × V)} (I : Inv (X.suite a ((a, oe) :: pn)) pins σ H s) (hz : Zc (.ref D) (some dd) oe) (hf : ∃ vs, oe.data = .fields vs) (ed : H dd = some (.xd fs)) : ∃ od, InstAt s.heap a oe D (some od) := by
  obtain ⟨hget, _⟩ := I.pin (a, oe) (List.mem_append.mpr (.inl List.mem_cons_self))
  obtain ⟨vs, hv⟩ := hf
  have hx : ObjOk X.prog X.w H s.heap dd (.xd fs) := I.hok dd _ ed
  obtain ⟨mA, hns, hr⟩ := hx
  obtain ⟨od, ho, hl⟩ := lookIn_ns hns
  exact ⟨od, hget, hz.1, by unfold notCls; rw [hv] <;> rfl, by rw [hz.2]; exact ho⟩
theorem call_F (Z : ExcC X.K D) (hz : Zc cls d oe) (hf : ∃ vs, oe.data = .fields vs) : CallR (X.suite a ((a, oe) :: pn)) (.builtin "isinstance") (rF X.K D a cls d) := by
  intro pins s σ H xs us Q I r h
  obtain ⟨c, cv, b, dd, fs, rfl, rfl, ed, rfl, hcv, e, q⟩ := h
  cases r with
  | cons rx rr =>
    cases rr with
    | cons rt rr =>
      cases rr
      cases rx
      have ec := hcv _ rt
      subst ec
      obtain ⟨od, J⟩ := inst_at I hz hf ed
      exact kia_one (kitx Z) I.kIn J e (fun z => nomatch z) fun tk => ⟨.bl b, H, I.kept (t' := tk) fun _ _ z => z, rfl, q⟩
theorem call_FT (Z : ExcC X.K D) (hz : Zc cls d oe) (hf : ∃ vs, oe.data = .fields vs) : CallR (X.suite a ((a, oe) :: pn)) (.builtin "isinstance") (rFT X.K D a cls d) := by
  intro pins s σ H xs us Q I r h
  obtain ⟨tp, cs, ws, b, dd, fs, rfl, rfl, ed, rfl, hT, hcs, e, q⟩ := h
  cases r with
  | cons rx rr =>
    cases rr with
    | cons rt rr =>
      cases rr
      cases rx
      cases rt
      obtain ⟨od, J⟩ := inst_at I hz hf ed
      have hx : ObjOk X.prog X.w H s.heap tp (.tup cs) := I.hok tp _ hT
      obtain ⟨_, its, rv, o, h1, h2, n, h3⟩ := hx
      have e3 := vals_all hcs rv
      subst e3
      obtain ⟨oc, od', dt, sl⟩ := o
      simp only at h2 h3
      subst h2 h3
      exact kia_tup (kitx Z) I.kIn J h1 e (fun z => nomatch z) fun tk => ⟨.bl b, H, I.kept (t' := tk) fun _ _ z => z, rfl, q⟩
end
end BI
set_option Elab.async false
set_option linter.all false
set_option maxRecDepth 100000
set_option maxHeartbeats 4000000
namespace BO
open PySem PySem.Spec PyProof.Rows L2
theorem tuple_one (l : Addr) (items : Array Value) (n : Nat) (dd : Option Addr) (sl : Array (Option Value)) (u : Tok) (c1 : (items.isEmpty || (1 : Int) == 1) = true) :
    Meets (Builtin.«tuple.__mul__» ⟨[.ref l, .int 1 u], []⟩) (fun _ R s => s.heap.get? l = some { cls := .type "tuple", dict := dd, data := .seq items n, slots := sl } ∧ R (.ok (.ret (Value.ref l))) s) :=
  .of_wp fun prog w A R s h => by
    obtain ⟨hp, g, d, tk, os⟩ := s
    obtain ⟨hl, h⟩ := h
    have f1 := AutoSeq1.idx_int
    wp_walk using wpAny_loadPart' hl
    exact ⟨_, rfl, h⟩
theorem tuple_zero (l : Addr) (items : Array Value) (n : Nat) (dd : Option Addr) (sl : Array (Option Value)) (u : Tok) (c1 : (items.isEmpty || (0 : Int) == 1) = false) :
    Meets (Builtin.«tuple.__mul__» ⟨[.ref l, .int 0 u], []⟩) (fun _ R s => s.heap.get? l = some { cls := .type "tuple", dict := dd, data := .seq items n, slots := sl } ∧
      R (.ok (.ret (Value.ref s.heap.objs.size))) { s with heap := s.heap.push { cls := Value.type "tuple", data := Data.seq #[] }, toks := s.toks }) :=
  .of_wp fun prog w A R s h => by
    obtain ⟨hp, g, d, tk, os⟩ := s
    obtain ⟨hl, h⟩ := h
    have f1 := AutoSeq1.idx_int
    wp_walk using wpAny_loadPart' hl
    repeat (first
      | (refine wpAny_ite_false (decide_eq_false (by rw [c1]; exact Bool.false_ne_true)) ?_; wp_walk using wpAny_loadPart' hl))
    exact ⟨_, rfl, h⟩
/-- t * 0, t * 1, t not empty -/
def rRep01 (K : PySem.W.Frag) : R2 := fun x y H Q => ∃ l k xs, x = .ref l ∧ y = .int k ∧ SqT K H l xs ∧ xs ≠ [] ∧ ((k = 1 ∧ Q (.ref l) H) ∨ (k = 0 ∧ ∀ p, H p = none → Q (.ref p) (upd H p (.tup []))))
/-- z * n -/
def repS (z : Str) (n : Nat) : Str := if n = 1 then z else ⟨(List.replicate n z.cps).foldl (· ++ ·) #[]⟩
def rRepS : R2 := fun x y H Q => ∃ (z : Str) (n : Nat), x = .str z ∧ y = .int (n : Int) ∧ 1 ≤ n ∧ n ≤ 100 ∧ 1 ≤ z.length ∧ z.length ≤ 100 ∧ Q (.str (repS z n)) H
section
variable {X : Cx}
theorem op_rep01 : OpR X (binaryOp .Mult) (rRep01 X.K) := by
  intro pins s σ H x y v u Q I rx ry h
  obtain ⟨l, k, xs, rfl, rfl, hT, hne, q⟩ := h
  cases rx
  obtain ⟨t, rfl⟩ := ry
  obtain ⟨its, r, ⟨⟨cls, dd, data, sl⟩, ho, hc, n, hd⟩, hs⟩ := I.tuple hT
  simp only at hc hd
  subst hc hd
  have hi : its.toArray.isEmpty = false := by
    cases its with
    | nil =>
      cases r
      exact absurd rfl hne
    | cons a b => rfl
  rcases q with ⟨rfl, q⟩ | ⟨rfl, q⟩
  · refine wpAny_binaryOp_repeat_ref (T := "tuple") (U := "int") (by decide) ⟨_, ho, rfl⟩ (fun s' => typeIs_int s' 1 t) noFill_tuple_mul F.fills_int_mul F.slot_int_rmul repeat_tuple F.slot_int_index.lookup
      (call_meets F.slot_int_rmul (typeIs_int s 1 t) F.entry_int_rmul (F.args_int_rmul_2 _ _) (int_rmul_tuple 1 t l its.toArray n dd sl)
        ⟨ho, rfl, ⟨_, ho, rfl⟩, call_meets F.slot_tuple_mul ⟨_, ho, rfl⟩ F.entry_tuple_mul (F.args_tuple_mul_2 _ _) (tuple_one l its.toArray n dd sl t (by rw [hi]; rfl)) ⟨ho, ?_⟩⟩)
    exact ⟨.ref l, H, I, rfl, q⟩
  · refine wpAny_binaryOp_repeat_ref (T := "tuple") (U := "int") (by decide) ⟨_, ho, rfl⟩ (fun s' => typeIs_int s' 0 t) noFill_tuple_mul F.fills_int_mul F.slot_int_rmul repeat_tuple F.slot_int_index.lookup
      (call_meets F.slot_int_rmul (typeIs_int s 0 t) F.entry_int_rmul (F.args_int_rmul_2 _ _) (int_rmul_tuple 0 t l its.toArray n dd sl)
        ⟨ho, rfl, ⟨_, ho, rfl⟩, call_meets F.slot_tuple_mul ⟨_, ho, rfl⟩ F.entry_tuple_mul (F.args_tuple_mul_2 _ _) (tuple_zero l its.toArray n dd sl t (by rw [hi]; rfl)) ⟨ho, ?_⟩⟩)
    refine ⟨.ref s.heap.objs.size, _, I.laid (t' := s.toks) (o := .tup []) (fun b ob q => Heap.get?_push_of_some _ q) (Nat.le_refl _) ?_, rfl, q _ (I.hok.fresh (Nat.le_refl _))⟩
    exact ⟨by rw [sizeLine_eq]; exact (by decide : 0 ≤ 16777216), [], .nil, IsTup.new _ _⟩
theorem fold_rep (a : Array Nat) : ∀ (m : Nat) (b : Array Nat), (List.replicate m a).foldl (fun x1 x2 => x1 ++ x2) b = (b.toList ++ (List.replicate m a.toList).flatten).toArray
  | 0, b => by simp
  | m + 1, b => by
    rw [List.replicate_succ, List.foldl_cons, fold_rep a m (b ++ a), List.replicate_succ, List.flatten_cons]
    simp
theorem repS_eq {z : Str} {n : Nat} (h : 1 ≤ n) : repS z n = ⟨(List.replicate n z.cps.toList).flatten.toArray⟩ := by
  unfold repS
  by_cases e : n = 1
  · subst e
    rw [if_pos rfl]
    simp
  · rw [if_neg e, fold_rep]
    simp
theorem short {k : Nat} (h : k ≤ 100 * 100) : Builtin.Str.tooLong k = false := by
  unfold Builtin.Str.tooLong
  exact decide_eq_false (by rw [sizeLine_eq]; omega)
theorem op_repS : OpR X (binaryOp .Mult) rRepS := by
  intro pins s σ H x y v u Q I rx ry h
  obtain ⟨z, n, rfl, rfl, h1, h2, h3, h4, q⟩ := h
  obtain ⟨t, rfl⟩ := rx
  obtain ⟨t', rfl⟩ := ry
  have hn : ¬ ((n : Int) < 1) := by omega
  have hz : (z.length == 0) = false := beq_false_of_ne (by omega)
  refine P.mul_str (by rw [decide_eq_false (by omega), decide_eq_false (by omega)]; rfl) (fun _ c => ?_) (fun _ c => ?_) ?_
  · have : (100 : Int) ≤ (2 ^ 63 - 1) / (n : Int) := Int.le_ediv_of_mul_le (by omega) (by omega)
    omega
  · rw [Int.toNat_natCast]
    exact short (Nat.mul_le_mul h4 h2)
  · rw [if_neg hn]
    unfold repS at q
    by_cases e : n = 1
    · subst e
      rw [if_pos rfl] at q
      rw [if_pos (by rfl)]
      exact ⟨.str z, H, I, ⟨t, rfl⟩, q⟩
    · rw [if_neg e] at q
      rw [if_neg (by rw [hz, Bool.or_false]; exact fun w => e (by have := beq_iff_eq.mp w; omega))]
      refine ⟨?_, .str _, H, I.tok _, ⟨_, rfl⟩, ?_⟩
      · rw [Int.toNat_natCast, fold_rep]
        show (List.toArray _).size ≤ sizeLine
        rw [List.size_toArray, List.length_append, List.length_flatten, List.map_replicate, List.sum_replicate_nat, sizeLine_eq]
        show (#[] : Array Nat).toList.length + n * z.cps.toList.length ≤ _
        have e3 : z.cps.toList.length = z.length := by simp [Str.length]
        rw [e3]
        have := Nat.mul_le_mul h2 h4
        show 0 + n * z.length ≤ 16777216
        omega
      · rw [Int.toNat_natCast]
        exact q
end
end BO
set_option Elab.async false
set_option linter.all false
set_option maxRecDepth 100000
set_option maxHeartbeats 4000000
/-! for i, x in enumerate(t), t a tuple -/
namespace EnT
open PySem
theorem new_one {v : Value} {o : Obj} {H : Heap → Prop} (B : Begins v o H) :
    Meets (Builtin.«enumerate.__new__» ⟨[.type "enumerate", v], []⟩) (fun _ R s => H s.heap ∧
      R (.ok (.ret (.ref (s.heap.push o).objs.size))) { s with heap := (s.heap.push o).push { cls := .type "enumerate", data := .fields #[.none, .bool false, .ref s.heap.objs.size, rawInt 0, .none, .none] } }) :=
  .of_wp fun prog w A R s h => by
    obtain ⟨h0, g0, d0, k0, o0⟩ := s; obtain ⟨hH, hR⟩ := h
    have sube := sub_enumerate
    have it1 : ∀ {A' : Around} {E' : Value → Shared → Prop} {Q' : Value → Shared → Prop}, Q' (.ref h0.objs.size) ⟨h0.push o, g0, d0, k0, o0⟩ → wpAny (model prog w) A' (pyIter v) Q' E' ⟨h0, g0, d0, k0, o0⟩ :=
      fun q => B.iter prog w _ _ ⟨h0, g0, d0, k0, o0⟩ _ hH q
    wp_walk using it1
    refine wpAny_stack_any fun st => wpAny_pure ?_
    split
    · rename_i c _ _ _ _ _
      cases (c == Value.type "enumerate") <;> (wp_walk using it1; exact ⟨_, rfl, hR⟩)
    · wp_walk using it1
      exact ⟨_, rfl, hR⟩
section
variable {prog : Program} {w : World} {A : Around} {E : Value → Shared → Prop} {s : Shared}
theorem call_one {v : Value} {o : Obj} {H : Heap → Prop} {Q : Value → Shared → Prop} (B : Begins v o H) (hH : H s.heap)
    (q : ∀ h', IsEnum h' (s.heap.objs.size + 1) s.heap.objs.size 0 .none → h'.get? s.heap.objs.size = some o → h'.objs.size = s.heap.objs.size + 2 → (∀ b u, s.heap.get? b = some u → h'.get? b = some u) → Q (.ref (s.heap.objs.size + 1)) { s with heap := h' }) :
    wpAny (model prog w) A (call (.type "enumerate") [v]) Q E s := by
  refine callType_new F.called_enumerate (by decide) (F.typeCall_enumerate_1 _) (F.newCall_enumerate_1 _) (fun obj => F.args_object_init_2 obj _) F.entry_enumerate_new (new_one B) ⟨hH, ?_⟩
  have z1 : (s.heap.push o).objs.size = s.heap.objs.size + 1 := Heap.size_push ..
  show _ ∧ _
  rw [z1]
  have e1 : IsEnum ((s.heap.push o).push { cls := .type "enumerate", data := .fields #[.none, .bool false, .ref s.heap.objs.size, rawInt 0, .none, .none] }) (s.heap.objs.size + 1) s.heap.objs.size 0 .none := by
    have z2 := Heap.get?_push_size (s.heap.push o) (o := { cls := .type "enumerate", data := .fields #[.none, .bool false, .ref s.heap.objs.size, rawInt 0, .none, .none] }) rfl
    rw [z1] at z2; exact z2
  exact ⟨⟨_, e1, rfl⟩, q _ e1 (Heap.get?_push_of_some _ (Heap.get?_push_size _ B.free)) (by rw [Heap.size_push, z1]) fun b u x => Heap.get?_push_of_some _ (Heap.get?_push_of_some _ x)⟩
end
end EnT
namespace EnT
open PySem PySem.Spec PyProof.Rows L2
/-- the tuple at a, each item in a new pair with its number -/
def IteT (K : PySem.W.Frag) (a : Addr) (n : Nat) : It :=
  ⟨fun i H => ∃ (xs : List V) (x : V), SqT K H a xs ∧ xs.length = n ∧ xs[i]? = some x, fun i H v H' => ∃ T x, v = .ref T ∧ H T = none ∧ H' = upd H T (.tup [.int (i : Nat), x]) ∧ ∀ xs, SqT K H a xs → xs[i]? = some x, fun i H => ∃ xs : List V, SqT K H a xs ∧ xs.length = n ∧ n ≤ i⟩
theorem turnT {P : Program} {w : World} {K : PySem.W.Frag} {elts : List Expr} {kk : Nat} {tpos : Pos} (a e it : Addr) (n : Nat) (nei : e ≠ it) (nai : a ≠ it) (nae : a ≠ e) :
    Turn P w K (.Tuple elts kk tpos) (IteT K a n) [e, it] e (fun i h => (∃ old, IsEnum h e it ((i : Nat) : Int) old) ∧ h.IsTupleIter it a i ∧ i ≤ n) where
  mem := by simp
  obj := fun i h st b hb => by
    obtain ⟨⟨old, he⟩, ⟨o, ho, _, hd⟩, _⟩ := st
    rcases (show b = e ∨ b = it by simpa using hb) with z | z
    · subst z
      exact ⟨_, he, fun v q => nomatch q⟩
    · subst z
      exact ⟨o, ho, fun v q => by rw [hd] at q; cases q⟩
  keep := fun i h h' st k => ⟨st.1.imp fun old he => k e (by simp) _ he, st.2.1.at fun o q => k it (by simp) o q, st.2.2⟩
  item := by
    intro X hP hw hK hc i pins s σ H E I hf st hg
    subst hP hw hK
    obtain ⟨⟨old, he⟩, hit, hin⟩ := st
    obtain ⟨xs, x, hq, hxn, hx⟩ := hg
    have hlx : i < xs.length := (List.getElem?_eq_some_iff.mp hx).1
    obtain ⟨its, rv, pt, _⟩ := I.tuple hq
    obtain ⟨u, hu, ru⟩ := rv.get hx
    have le : e < s.heap.objs.size := Heap.lt_size he
    have li : it < s.heap.objs.size := by obtain ⟨_, q, _⟩ := hit; exact Heap.lt_size q
    have hlt : i < its.toArray.size := by
      have := (List.getElem?_eq_some_iff.mp hu).1
      simpa using this
    refine wpAny_pyNext_enum_itemC (Draws.tuple (A := X.A.in1) (I.ok.hd hc) it a nai its.toArray) he (i := i) ⟨hit, pt⟩ hlt nei (by
      intro z
      rcases (show e = it ∨ e = a by simpa using z) with z | z
      · exact nei z
      · exact nae z.symm) fun x' h' tk hx' ho hst' hT hsz hk => ?_
    have ex : x' = u := by
      have z : its[i]? = some x' := by simpa using hx'
      exact Option.some.inj (z.symm.trans hu)
    subst ex
    refine ⟨_, rfl, wpAny_letOwnedTupleGo_enum (s := { s with heap := h', toks := tk + 1 }) ho fun h2 he' sb => ?_⟩
    have hT2 : h2.get? s.heap.objs.size = some { cls := .type "tuple", data := .seq #[.int i tk, x'] } := (sb.2 _ (Nat.ne_of_gt le)).trans hT
    have nw : ObjOk X.prog X.w (upd H s.heap.objs.size (.tup [.int (i : Nat), x])) h2 s.heap.objs.size (.tup [.int (i : Nat), x]) :=
      ⟨by show 2 ≤ sizeLine; decide, [.int i tk, x'], .cons ⟨_, rfl⟩ (.cons ru .nil), ⟨_, hT2, rfl, _, rfl⟩⟩
    have I1 : Inv X pins σ (upd H s.heap.objs.size (.tup [.int (i : Nat), x])) { s with heap := h2, toks := tk + 1 } :=
      I.turnedNew (ch := [e, it]) (fun b ob hb q => (sb.2 b (fun z => hb (by simp [z]))).trans (hk b ob (fun z => hb (by simp [z])) (fun z => hb (by simp [z])) q)) hf (Nat.le_refl _) nw
    refine ⟨.ref s.heap.objs.size, _, I1, rfl, ⟨_, x, rfl, I.hok.fresh (Nat.le_refl _), rfl, fun ys hy => by rw [I.tuple_inj hy hq]; exact hx⟩, ⟨⟨x', ?_⟩, hst'.1.at fun o q => (sb.2 it nei.symm).trans q, by omega⟩, fun b hb => ?_⟩
    · rw [show ((i + 1 : Nat) : Int) = (i : Int) + 1 by omega]
      exact he'
    · have lb : b < s.heap.objs.size := by
        rcases (show b = e ∨ b = it by simpa using hb) with z | z <;> (subst z; assumption)
      rw [upd_ne (Nat.ne_of_lt lb)]
      exact (hf b hb).1
  done := by
    intro X hP hw hK hc i pins s σ H E I hf st hg
    subst hP hw hK
    obtain ⟨⟨old, he⟩, hit, hin⟩ := st
    obtain ⟨xs, hq, hxn, hx⟩ := hg
    obtain ⟨its, rv, pt, _⟩ := I.tuple hq
    obtain ⟨f0, f1, f2, f3, f4, f5⟩ := hf it (by simp)
    have hl := rv.length
    have ei : its.toArray.size = i := by simp; omega
    subst ei
    exact wpAny_pyNext_enum_endD (Draws.tuple (A := X.A.in1) (I.ok.hd hc) it a nai its.toArray) he ⟨hit, pt⟩ fun h' eb => ⟨rfl, I.turned (t' := s.toks) (fun b o hb q => eb b o hb q) f0 f1 f3 f4 f5⟩
  self := fun A i s Q E st h => by
    obtain ⟨⟨_, he⟩, _⟩ := st
    exact wpAny_pyIter_enum he h
def iEnumT (K : PySem.W.Frag) (ta : TA) : TI := fun σ H R => ta σ H fun vs H1 => ∃ a xs, vs = [.ref a] ∧ SqT K H1 a xs ∧ R (IteT K a xs.length) H1
theorem pi_enumT {X : Cx} {e : Expr} {ta : TA} {p pos tpos : Pos} {elts : List Expr} {kk : Nat} (hg : Gl X "enumerate") (hm : X.mg "enumerate" = none) (ha : PA X [e] ta) (hs : starEach [e] X.env = [(false, eval e X.env)] := by rfl) :
    PI X (.Tuple elts kk tpos) (.Call (.Name "enumerate" p) [e] [] pos) (iEnumT X.K ta) := by
  refine ⟨fun pins s0 σ H R I h => Call_ (ld_blt I hg hm boot_enumerate (PyProof.Rows.callWith_type1 (thn (ha.run pos pins s0 σ H _ I h) fun us s1 ⟨vs, H1, I1, r1, q1⟩ => ?_) hs rfl))⟩
  obtain ⟨a, xs, ex, hq, q⟩ := q1
  subst ex
  cases r1 with
  | cons r rr =>
    cases rr
    cases r
    obtain ⟨its, rv, pt, _⟩ := I1.tuple hq
    have la : a < s1.heap.objs.size := by obtain ⟨_, z, _⟩ := pt; exact Heap.lt_size z
    refine call_one (begins_tuple a its.toArray) pt fun h' he hit hsz hk => wpAny_pyIter_enum he ?_
    have I2 : Inv X pins σ H1 { s1 with heap := h' } := I1.kept (t' := s1.toks) hk
    refine ⟨s1.heap.objs.size + 1, [s1.heap.objs.size + 1, s1.heap.objs.size], _, _, H1, rfl, I2, turnT a (s1.heap.objs.size + 1) s1.heap.objs.size xs.length (Nat.succ_ne_self _) (Nat.ne_of_lt la) (Nat.ne_of_lt (Nat.lt_succ_of_lt la)), ⟨⟨.none, he⟩, ⟨_, hit, rfl, rfl⟩, Nat.zero_le _⟩, fun b hb => ?_, q⟩
    have hle : s1.heap.objs.size ≤ b := by
      rcases (show b = s1.heap.objs.size + 1 ∨ b = s1.heap.objs.size by simpa using hb) with z | z <;> (subst z; first | exact Nat.le_succ _ | exact Nat.le_refl _)
    exact I1.fpOk hle (I1.hok.fresh hle)
/-- a for over it, by an invariant -/
theorem for_enumT {K : PySem.W.Frag} {a : Addr} {xs : List V} {g : TG} {tb : TS} {D : Ends} {σ : L2.St} {H : Hp} (Pv : Nat → L2.St → Hp → Prop) (h0 : Pv 0 σ H) (hq : ∀ i σ H, Pv i σ H → SqT K H a xs)
    (hs : ∀ (i : Nat) (x : V) (T : Addr) (σ : L2.St) (H : Hp), xs[i]? = some x → Pv i σ H → H T = none → g (.ref T) σ (upd H T (.tup [.int (i : Nat), x])) fun σ2 H2 => tb { D with nx := Pv (i + 1), ct := Pv (i + 1), bk := D.nx } σ2 H2) (hd : ∀ σ H, Pv xs.length σ H → D.nx σ H) :
    ∃ W : Nat → Nat → L2.St → Hp → Prop, (∃ m, W 0 m σ H) ∧ ∀ i m σ H, W i m σ H →
      ((IteT K a xs.length).stop i H ∧ D.nx σ H) ∨ ((IteT K a xs.length).go i H ∧ ∃ N : L2.St → Hp → Prop, (∀ σ' H', N σ' H' → ∃ m', m' < m ∧ W (i + 1) m' σ' H') ∧ ∀ v H', (IteT K a xs.length).yld i H v H' → g v σ H' fun σ2 H2 => tb { D with nx := N, ct := N, bk := D.nx } σ2 H2) := by
  refine ⟨fun i m σ H => m = xs.length - i ∧ i ≤ xs.length ∧ Pv i σ H, ⟨xs.length, rfl, Nat.zero_le _, h0⟩, ?_⟩
  rintro i m σ H ⟨rfl, hi, pv⟩
  have qx := hq i σ H pv
  by_cases hlt : i < xs.length
  · refine .inr ⟨⟨xs, xs[i], qx, rfl, List.getElem?_eq_getElem hlt⟩, Pv (i + 1), fun σ' H' p' => ⟨xs.length - (i + 1), by omega, rfl, hlt, p'⟩, fun v H' y => ?_⟩
    obtain ⟨T, x, rfl, nT, rfl, fx⟩ := y
    exact hs i x T σ H (fx xs qx) pv nT
  · have e : i = xs.length := by omega
    subst e
    exact .inl ⟨⟨xs, qx, rfl, Nat.le_refl _⟩, hd σ H pv⟩
end EnT
set_option linter.all false
namespace KX
open PySem PySem.Spec L2
theorem pg_tupK {X : Cx} {pos : Pos} (K : PySem.W.Frag) {es : List Expr} {k : Nat} {t : TGs} {n : Nat} (hc : X.calm = true) (h : PGs X es t)
    (hn : (assignEach es X.env).length = n := by rfl) (hst : (assignEach es X.env).findIdx? (·.1) = none := by rfl) (hK : X.K = K := by rfl) : PG X (.Tuple es k pos) (gTup K n t) := by
  subst hK
  exact pg_tup hc h hn hst
def rTup (K : PySem.W.Frag) : List V → Hp → VK → Prop := fun xs H Q => ∃ p ys, xs = [V.ref p] ∧ ((SqL K H p ys ∧ ∀ (l : Addr), H l = none → Q (V.ref l) (upd H l (HO.tup ys))) ∨ SqT K H p ys ∧ Q (V.ref p) H)
theorem call_tuple_K {X : Cx} (K : PySem.W.Frag) (hK : X.K = K := by rfl) : CallR X (Value.type "tuple") (rTup K) := by
  subst hK
  exact call_tuple_of
theorem ix_listK {X : Cx} (K : PySem.W.Frag) (hK : X.K = K := by rfl) : IxR X (rIxL K) := by
  subst hK
  exact ix_list
theorem ix_tupK {X : Cx} (K : PySem.W.Frag) (hK : X.K = K := by rfl) : IxR X (rIxT K) := by
  subst hK
  exact ix_tup
theorem in_seqK {X : Cx} (K : PySem.W.Frag) (hK : X.K = K := by rfl) : OpR X (compareOp CmpOp.In) (rIn K false) := by
  subst hK
  exact op_in_seq
theorem mt_indexK {X : Cx} (K : PySem.W.Frag) (hK : X.K = K := by rfl) : MtR X "list.index" (rIndex K) := by
  subst hK
  exact mt_index
theorem pi_tupK {X : Cx} (K : PySem.W.Frag) {tg l : Expr} {tl : TE} (h : PE X l tl) (hK : X.K = K := by rfl) : PI X tg l (iTup K tl) := by
  subst hK
  exact pi_tup h
theorem pi_listK {X : Cx} (K : PySem.W.Frag) {tg l : Expr} {tl : TE} (h : PE X l tl) (hK : X.K = K := by rfl) : PI X tg l (iList K tl) := by
  subst hK
  exact pi_list h
theorem hu {A : Around} {k : Nat} (hr : Room k A) : A.units + 1 < cLine := by have := hr.units; omega
theorem pe_bmK {X : Cx} (K : PySem.W.Frag) {o e : Expr} {es : List Expr} {to : TE} {t : TA} {name : Str} {apos cpos : Pos} {T id : String} {r : V → List V → Hp → VK → Prop} (h1 : PlainAttrs T) (h2 : Slot T name id) (h3 : typeOf (Value.builtin id) = pure (Value.type "method_descriptor")) (h4 : MtR X id r) (h5 : PE X o to) (h6 : PA X (e :: es) t)
    (a1 : attributeBase o name X.env (eval o X.env) = eval o X.env := by rfl)
    (a2 : ((((backTo cpos (starEach (e :: es) X.env)).all fun x => !x.fst) && (backToKw cpos (keywordEach [] X.env)).all fun x => x.fst.isSome) && decide (((e :: es).length + ([] : List Keyword).length + if ([] : List Keyword).isEmpty = true then 0 else 1) < 30)) = true := by rfl)
    (a3 : (apos.endLine == cpos.line) = true := by rfl) (a4 : starEach (e :: es) X.env = (false, eval e X.env) :: starEach es X.env := by rfl) (a5 : ((backTo cpos (starEach es X.env)).any fun x => x.fst) = false := by rfl) (hK : X.K = K := by rfl) :
    PE X ((o.Attribute name apos).Call (e :: es) [] cpos) (tBM K T r to t) := by
  subst hK
  exact pe_bm h1 h2 h3 h4 h5 h6 a1 a2 a3 a4 a5
theorem notin_seqK {X : Cx} (K : PySem.W.Frag) (hK : X.K = K := by rfl) : OpR X (compareOp CmpOp.NotIn) (rIn K true) := by
  subst hK
  exact op_notIn_seq
theorem call_list_K {X : Cx} (K : PySem.W.Frag) (hK : X.K = K := by rfl) : CallR X (Value.type "list") (fun xs H Q => ∃ p ys, xs = [V.ref p] ∧ (SqL K H p ys ∨ SqT K H p ys) ∧ ∀ (l : Addr), H l = none → Q (V.ref l) (upd H l (HO.lst ys))) := by
  subst hK
  exact call_list_of
def rLenK (K : PySem.W.Frag) : List V → Hp → VK → Prop := fun xs H Q => ∃ p ys, xs = [V.ref p] ∧ (SqL K H p ys ∨ SqT K H p ys) ∧ Q (V.int (ys.length : Nat)) H
theorem len_seqK {X : Cx} (K : PySem.W.Frag) (hK : X.K = K := by rfl) : CallR X (Value.builtin "len") (rLenK K) := by
  subst hK
  exact call_len_seq
end KX
set_option Elab.async false
set_option linter.all false
set_option maxRecDepth 100000
set_option maxHeartbeats 2000000
namespace B07
open PySem PySem.Spec PyProof.Rows L2
def topS (i : Nat) : Stmt := PySem.Challenge.pw_boughkept_k07_woods_refused.main.body.getD i (.Pass ⟨0, 0, 0, 0⟩)
abbrev st_isname : Stmt := topS 19
theorem sc_isname : FnScope ["text", "sign"] ["text"] (defScope st_isname) := ⟨rfl, rfl, rfl, by decide +kernel, rfl, by decide +kernel, by decide +kernel⟩
abbrev st_lookwood : Stmt := topS 20
theorem sc_lookwood : FnScope ["wood", "kinds", "makers", "kind", "own", "maker"] ["wood"] (defScope st_lookwood) := ⟨rfl, rfl, rfl, by decide +kernel, rfl, by decide +kernel, by decide +kernel⟩
abbrev st_lookkinds : Stmt := topS 21
theorem sc_lookkinds : FnScope ["wood", "kinds", "name", "makers"] ["wood"] (defScope st_lookkinds) := ⟨rfl, rfl, rfl, by decide +kernel, rfl, by decide +kernel, by decide +kernel⟩
abbrev st_lookmakers : Stmt := topS 22
theorem sc_lookmakers : FnScope ["kinds", "makers", "ahead", "name", "parts", "part"] ["kinds", "makers"] (defScope st_lookmakers) := ⟨rfl, rfl, rfl, by decide +kernel, rfl, by decide +kernel, by decide +kernel⟩
abbrev st_box : Stmt := topS 24
theorem sc_box : FnScope ["_law_script", "_law_k", "_law_cell", "_law_seed"] ["_law_script", "_law_k"] (defScope st_box) := ⟨rfl, rfl, rfl, by decide +kernel, rfl, by decide +kernel, by decide +kernel⟩
abbrev st_take : Stmt := topS 25
theorem sc_take : FnScope ["_law_box_here", "_law_many", "_law_digit", "_law_one"] ["_law_box_here", "_law_many"] (defScope st_take) := ⟨rfl, rfl, rfl, by decide +kernel, rfl, by decide +kernel, by decide +kernel⟩
abbrev st_names : Stmt := topS 26
theorem sc_names : FnScope ["_law_box_here", "_law_many", "_law_letters", "_law_k", "_law_stem", "_law_found", "_law_form", "_law_at", "_law_name", "_law_j"] ["_law_box_here", "_law_many"] (defScope st_names) := ⟨rfl, rfl, rfl, by decide +kernel, rfl, by decide +kernel, by decide +kernel⟩
abbrev st_wood : Stmt := topS 27
theorem sc_wood : FnScope ["_law_box_here", "_law_most", "_law_plain", "_law_many", "_law_kinds", "_law_names_here", "_law_k", "_law_rows", "_law_name", "_law_kind", "_law_wide", "_law_parts", "_law_row", "_law_j"] ["_law_box_here", "_law_most"] (defScope st_wood) := ⟨rfl, rfl, rfl, by decide +kernel, rfl, by decide +kernel, by decide +kernel⟩
abbrev st_lisname : Stmt := topS 28
theorem sc_lisname : FnScope ["_law_text", "_law_sign"] ["_law_text"] (defScope st_lisname) := ⟨rfl, rfl, rfl, by decide +kernel, rfl, by decide +kernel, by decide +kernel⟩
abbrev st_anytext : Stmt := topS 29
theorem sc_anytext : FnScope ["_law_box_here", "_law_some", "_law_signs", "_law_many", "_law_k"] ["_law_box_here"] (defScope st_anytext) := ⟨rfl, rfl, rfl, by decide +kernel, rfl, by decide +kernel, by decide +kernel⟩
abbrev st_lookdue : Stmt := topS 30
theorem sc_lookdue : FnScope ["_law_wood_here", "_law_kinds", "_law_seen", "_law_kind", "_law_makers", "_law_maker", "_law_parts", "_law_part"] ["_law_wood_here"] (defScope st_lookdue) := ⟨rfl, rfl, rfl, by decide +kernel, rfl, by decide +kernel, by decide +kernel⟩
abbrev st_spoilt : Stmt := topS 31
theorem sc_spoilt : FnScope ["_law_box_here", "_law_wood_here", "_law_makers", "_law_rows", "_law_way", "_law_at", "_law_row", "_law_names_here", "_law_word", "_law_full", "_law_one", "_law_spot", "_law_kind", "_law_maker", "_law_k"] ["_law_box_here", "_law_wood_here"] (defScope st_spoilt) := ⟨rfl, rfl, rfl, by decide +kernel, rfl, by decide +kernel, by decide +kernel⟩
abbrev st_told : Stmt := topS 32
theorem sc_told : FnScope ["_law_wood_here", "_law_found", "e", "_law_others"] ["_law_wood_here"] (defScope st_told) := ⟨rfl, rfl, rfl, by decide +kernel, rfl, by decide +kernel, by decide +kernel⟩
abbrev st_due : Stmt := topS 33
theorem sc_due : FnScope ["_law_wood_here", "_law_due_here"] ["_law_wood_here"] (defScope st_due) := ⟨rfl, rfl, rfl, by decide +kernel, rfl, by decide +kernel, by decide +kernel⟩
abbrev st_law : Stmt := topS 34
theorem sc_law : FnScope ["_law_script", "_law_k", "_law_box_here", "_law_good", "_law_bad", "_law_turn", "_law_wood_here"] ["_law_script"] (defScope st_law) := ⟨rfl, rfl, rfl, by decide +kernel, rfl, by decide +kernel, by decide +kernel⟩
abbrev st_nw : Stmt := inClass (topS 3) 0
abbrev fs_nw : Stmt := (defBody st_nw).getD 0 (.Pass ⟨0, 0, 0, 0⟩)
abbrev fs_nw1 : Stmt := (defBody st_nw).getD 1 (.Pass ⟨0, 0, 0, 0⟩)
abbrev fs_nw2 : Stmt := (defBody st_nw).getD 2 (.Pass ⟨0, 0, 0, 0⟩)

structure Tx (P : Program) (K : PySem.W.Frag) (mg : Str → Option Value) : Type where
  f_isname : Addr
  fd_isname : FuncData
  F_isname : Fun K "is_name" "is_name" st_isname f_isname fd_isname
  g_isname : mg "is_name" = some (.ref f_isname)
  b_isname : Binds K fd_isname ["text"] []
  f_lookwood : Addr
  fd_lookwood : FuncData
  F_lookwood : Fun K "look_wood" "look_wood" st_lookwood f_lookwood fd_lookwood
  g_lookwood : mg "look_wood" = some (.ref f_lookwood)
  b_lookwood : Binds K fd_lookwood ["wood"] []
  f_lookkinds : Addr
  fd_lookkinds : FuncData
  F_lookkinds : Fun K "look_kinds" "look_kinds" st_lookkinds f_lookkinds fd_lookkinds
  g_lookkinds : mg "look_kinds" = some (.ref f_lookkinds)
  b_lookkinds : Binds K fd_lookkinds ["wood"] []
  f_lookmakers : Addr
  fd_lookmakers : FuncData
  F_lookmakers : Fun K "look_makers" "look_makers" st_lookmakers f_lookmakers fd_lookmakers
  g_lookmakers : mg "look_makers" = some (.ref f_lookmakers)
  b_lookmakers : Binds K fd_lookmakers ["kinds", "makers"] []
  f_box : Addr
  fd_box : FuncData
  F_box : Fun K "_law_box" "_law_box" st_box f_box fd_box
  g_box : mg "_law_box" = some (.ref f_box)
  b_box : Binds K fd_box ["_law_script", "_law_k"] []
  f_take : Addr
  fd_take : FuncData
  F_take : Fun K "_law_take" "_law_take" st_take f_take fd_take
  g_take : mg "_law_take" = some (.ref f_take)
  b_take : Binds K fd_take ["_law_box_here", "_law_many"] []
  f_names : Addr
  fd_names : FuncData
  F_names : Fun K "_law_names" "_law_names" st_names f_names fd_names
  g_names : mg "_law_names" = some (.ref f_names)
  b_names : Binds K fd_names ["_law_box_here", "_law_many"] []
  f_wood : Addr
  fd_wood : FuncData
  F_wood : Fun K "_law_wood" "_law_wood" st_wood f_wood fd_wood
  g_wood : mg "_law_wood" = some (.ref f_wood)
  b_wood : Binds K fd_wood ["_law_box_here", "_law_most"] []
  f_lisname : Addr
  fd_lisname : FuncData
  F_lisname : Fun K "_law_is_name" "_law_is_name" st_lisname f_lisname fd_lisname
  g_lisname : mg "_law_is_name" = some (.ref f_lisname)
  b_lisname : Binds K fd_lisname ["_law_text"] []
  f_anytext : Addr
  fd_anytext : FuncData
  F_anytext : Fun K "_law_any_text" "_law_any_text" st_anytext f_anytext fd_anytext
  g_anytext : mg "_law_any_text" = some (.ref f_anytext)
  b_anytext : Binds K fd_anytext ["_law_box_here"] []
  f_lookdue : Addr
  fd_lookdue : FuncData
  F_lookdue : Fun K "_law_look_due" "_law_look_due" st_lookdue f_lookdue fd_lookdue
  g_lookdue : mg "_law_look_due" = some (.ref f_lookdue)
  b_lookdue : Binds K fd_lookdue ["_law_wood_here"] []
  f_spoilt : Addr
  fd_spoilt : FuncData
  F_spoilt : Fun K "_law_spoilt_wood" "_law_spoilt_wood" st_spoilt f_spoilt fd_spoilt
  g_spoilt : mg "_law_spoilt_wood" = some (.ref f_spoilt)
  b_spoilt : Binds K fd_spoilt ["_law_box_here", "_law_wood_here"] []
  f_told : Addr
  fd_told : FuncData
  F_told : Fun K "_law_told" "_law_told" st_told f_told fd_told
  g_told : mg "_law_told" = some (.ref f_told)
  b_told : Binds K fd_told ["_law_wood_here"] []
  f_due : Addr
  fd_due : FuncData
  F_due : Fun K "_law_due" "_law_due" st_due f_due fd_due
  g_due : mg "_law_due" = some (.ref f_due)
  b_due : Binds K fd_due ["_law_wood_here"] []
  m_len : mg "len" = none
  m_int : mg "int" = none
  m_bool : mg "bool" = none
  m_list : mg "list" = none
  m_tuple : mg "tuple" = none
  m_zip : mg "zip" = none
  m_isinstance : mg "isinstance" = none
  m_max : mg "max" = none
  m_min : mg "min" = none
  m_range : mg "range" = none
  m_enumerate : mg "enumerate" = none
  m_all : mg "all" = none
  m_ValueError : mg "ValueError" = none
  m_super : mg "super" = none
  t_LETTERS : Tok
  c_LETTERS : mg "LETTERS" = some (.str (Str.ofString "abcdefghijklmnopqrstuvwxyz") t_LETTERS)
  t_MOST_LETTERS : Tok
  c_MOST_LETTERS : mg "MOST_LETTERS" = some (.int 6 t_MOST_LETTERS)
  t_MOST_KINDS : Tok
  c_MOST_KINDS : mg "MOST_KINDS" = some (.int 4 t_MOST_KINDS)
  t_MOST_MAKERS : Tok
  c_MOST_MAKERS : mg "MOST_MAKERS" = some (.int 12 t_MOST_MAKERS)
  t_MOST_PARTS : Tok
  c_MOST_PARTS : mg "MOST_PARTS" = some (.int 2 t_MOST_PARTS)
  C : Addr
  fI : Addr
  cc : Addr
  cda : Addr
  CB : Addr
  exc : PySem.BX.ETxt P K mg C fI cc cda "ValueError" "ValueError.__new__" "ValueError.__init__" [.type "ValueError", .type "Exception", .type "BaseException", .type "object"] "NoWood" "NoWood.__init__" (defArgs st_nw) fs_nw [fs_nw1, fs_nw2] (defScope st_nw)
  fld : PySem.BX.FTxt K C ["word", "name"]
  is1 : PySem.BX.IsF "NoWood.__init__" (defScope st_nw) fI cda cc fs_nw1 "word" "word"
  is2 : PySem.BX.IsF "NoWood.__init__" (defScope st_nw) fI cda cc fs_nw2 "name" "name"
  exI : ExcC K C
  xfc : XfC K C
  noWord : PySem.W.findIn K (.ref C) "word" = some none
  noName : PySem.W.findIn K (.ref C) "name" = some none
  g_BoughError : mg "BoughError" = some (.ref CB)
  exm : PySem.W.exmOne K (.ref C) (.ref CB) = some true
  kC : PySem.W.kitOne K (.ref C) (.ref C) = some true
  kV : PySem.W.kitOne K (.ref C) (.type "ValueError") = some true
  C_NoFit : Addr
  g_NoFit : mg "NoFit" = some (.ref C_NoFit)
  k_NoFit : PySem.W.kitOne K (.ref C) (.ref C_NoFit) = some false
  C_NoPrinter : Addr
  g_NoPrinter : mg "NoPrinter" = some (.ref C_NoPrinter)
  k_NoPrinter : PySem.W.kitOne K (.ref C) (.ref C_NoPrinter) = some false
  C_NoReader : Addr
  g_NoReader : mg "NoReader" = some (.ref C_NoReader)
  k_NoReader : PySem.W.kitOne K (.ref C) (.ref C_NoReader) = some false
  C_NoRow : Addr
  g_NoRow : mg "NoRow" = some (.ref C_NoRow)
  k_NoRow : PySem.W.kitOne K (.ref C) (.ref C_NoRow) = some false
  C_NoText : Addr
  g_NoText : mg "NoText" = some (.ref C_NoText)
  k_NoText : PySem.W.kitOne K (.ref C) (.ref C_NoText) = some false
  C_NoTree : Addr
  g_NoTree : mg "NoTree" = some (.ref C_NoTree)
  k_NoTree : PySem.W.kitOne K (.ref C) (.ref C_NoTree) = some false
  C_NoTurner : Addr
  g_NoTurner : mg "NoTurner" = some (.ref C_NoTurner)
  k_NoTurner : PySem.W.kitOne K (.ref C) (.ref C_NoTurner) = some false
  C_NoWord : Addr
  g_NoWord : mg "NoWord" = some (.ref C_NoWord)
  k_NoWord : PySem.W.kitOne K (.ref C) (.ref C_NoWord) = some false
  C_TooLong : Addr
  g_TooLong : mg "TooLong" = some (.ref C_TooLong)
  k_TooLong : PySem.W.kitOne K (.ref C) (.ref C_TooLong) = some false
  C_TooWide : Addr
  g_TooWide : mg "TooWide" = some (.ref C_TooWide)
  k_TooWide : PySem.W.kitOne K (.ref C) (.ref C_TooWide) = some false
/-! ### heaps -/
theorem same_new {H : Hp} {p : Addr} {o : HO} (h : H p = none) : Same H (upd H p o) := fun b x e => by
  rw [upd_ne (ne_of_none e h)]
  exact e
/-- three ints at a: the law's draw -/
def Drw (H : Hp) (a : Addr) : Prop := ∃ x y z : Int, H a = some (.lst [.int x, .int y, .int z])
theorem Drw.ne {H : Hp} {a p : Addr} (d : Drw H a) (n : H p = none) : a ≠ p := by
  obtain ⟨x, y, z, e⟩ := d
  exact ne_of_none e n
theorem Drw.mono {H H' : Hp} {a : Addr} (d : Drw H a) (s : Same H H') : Drw H' a := by
  obtain ⟨x, y, z, e⟩ := d
  exact ⟨x, y, z, s _ _ e⟩
/-- all but the draw at a is as it was, and a draw stands there -/
def Gr (a : Addr) (H H' : Hp) : Prop := (∀ b o, b ≠ a → H b = some o → H' b = some o) ∧ Drw H' a
theorem Gr.trans {a : Addr} {H H1 H2 : Hp} (x : Gr a H H1) (y : Gr a H1 H2) : Gr a H H2 := ⟨fun b o n e => y.1 b o n (x.1 b o n e), y.2⟩
theorem Gr.of {a : Addr} {H H' : Hp} (s : Same H H') (d : Drw H a) : Gr a H H' := ⟨fun b o _ e => s b o e, by
  obtain ⟨x, y, z, e⟩ := d
  exact ⟨x, y, z, s _ _ e⟩⟩
theorem Gr.set {a : Addr} {H : Hp} {x y z : Int} : Gr a H (upd H a (.lst [.int x, .int y, .int z])) := ⟨fun b o n e => by
  rw [upd_ne n]
  exact e, ⟨x, y, z, upd_same⟩⟩
theorem Gr.same {a : Addr} {H0 H H' : Hp} (n : H0 a = none) (s : Same H0 H) (g : Gr a H H') : Same H0 H' := fun b o e => g.1 b o (ne_of_none e n) (s b o e)
/-! ### mathematics -/
theorem nz {j : Int} (h : (j == 0) = false) : j ≠ 0 := by simpa using h
theorem fmod_pos {i j : Int} (h : 0 < j) : 0 ≤ i.fmod j ∧ i.fmod j < j := by
  rw [Int.fmod_eq_emod_of_nonneg i (Int.le_of_lt h)]
  exact ⟨Int.emod_nonneg i (by omega), Int.emod_lt_of_pos i h⟩
/-- a comprehension that changes nothing that stood before, its list told -/
theorem lc_pure {J : It} {n : Nat} {G : Hp → Prop} {Y : Nat → Hp → V → Hp → Prop} (wk : Walk J n G Y) {g : TG} {tt : TT} {te : TE} {vs : List Nat} {σ : L2.St} {H1 : Hp} {D : Addr} {Qd : Hp → Prop} (nD : H1 D = none) (ys : List V) (hn : ys.length = n) (h1000 : n ≤ 100000)
    (hG : ∀ H, Same H1 H → G H)
    (hs : ∀ i x y H H', ys[i]? = some y → Same H1 H → Y i H x H' → g x (wipe σ vs) H' fun σ2 H2 => wipe σ2 vs = wipe σ vs ∧ tt σ2 H2 fun b H3 => b = true ∧ te σ2 H3 fun y' H4 => y' = y ∧ Same H H4)
    (mg : ∀ x σ H Q Q', (∀ σ2 H2, Q σ2 H2 → Q' σ2 H2) → g x σ H Q → g x σ H Q') (mt : ∀ σ H Q Q', (∀ b H2, Q b H2 → Q' b H2) → tt σ H Q → tt σ H Q') (me : ∀ σ H Q Q', (∀ v H2, Q v H2 → Q' v H2) → te σ H Q → te σ H Q')
    (hd : ∀ H, Same H1 H → H D = some (.lst ys) → Qd H) :
    ∃ W : Nat → Nat → Hp → Prop, (∃ m, W 0 m (upd H1 D (.lst []))) ∧ ∀ i m H, W i m H →
      (J.stop i H ∧ Qd H) ∨ (J.go i H ∧ ∃ Nx : Hp → Prop, (∀ H', Nx H' → ∃ m', m' < m ∧ W (i + 1) m' H') ∧ ∀ x H', J.yld i H x H' → g x (wipe σ vs) H' fun σ2 H2 => wipe σ2 vs = wipe σ vs ∧ tt σ2 H2 fun b H3 =>
        if b = true then te σ2 H3 fun y H4 => ∃ acc, H4 D = some (.lst acc) ∧ acc.length < sizeLine ∧ Nx (upd H4 D (.lst (acc ++ [y]))) else Nx H3) := by
  refine lc_it wk (fun i H => Same H1 H ∧ H D = some (.lst (ys.take i))) ⟨same_new nD, upd_same⟩ (fun i H hi p => hG H p.1) (fun i x H H' hi p y => ?_) (fun H p => hd H p.1 (by rw [p.2, ← hn, List.take_length]))
  have hi' : i < ys.length := by omega
  have gy : ys[i]? = some ys[i] := List.getElem?_eq_getElem hi'
  refine mg _ _ _ _ _ (fun σ2 H2 q => ⟨q.1, mt _ _ _ _ (fun b H3 q => ?_) q.2⟩) (hs i x ys[i] H H' gy p.1 y)
  obtain ⟨rfl, q⟩ := q
  refine iteT (me _ _ _ _ (fun v H4 q => ?_) q)
  obtain ⟨rfl, s4⟩ := q
  refine ⟨_, s4 _ _ p.2, Nat.lt_of_le_of_lt (show _ ≤ 100000 by rw [List.length_take]; omega) (by decide), ?_, ?_⟩
  · exact fun b o e => by
      rw [upd_ne (ne_of_none e nD)]
      exact s4 _ _ (p.1 _ _ e)
  · rw [upd_same, List.take_add_one, gy]
    rfl
section
variable {P : Program} {w : World} {K : PySem.W.Frag} {mg : Str → Option Value} {base : Heap}
/-! ### the draw -/
def spTake : Sp := fun vs H Q _ => ∃ (a : Addr) (many : Int), vs = [.ref a, .int many] ∧ Drw H a ∧ 0 < many ∧ many.natAbs < 2 ^ 8000 ∧ ∀ (d : Int) (H' : Hp), 0 ≤ d → d < many → Gr a H H' → Q (.int d) H'
theorem ok_take (T : Tx P K mg) : FnOk P w K mg base CX0 1 T.f_take T.fd_take ["_law_box_here", "_law_many"] spTake := by
  refine T.F_take.ok sc_take (fun vs H Q E h => ?_) (fun cdv A outer s H vs Q E hr h => ?_)
  · obtain ⟨a, b, rfl, _⟩ := h
    rfl
  · obtain ⟨a, many, rfl, ⟨x, y, z, ea⟩, hm, hb, q⟩ := h
    refine ⟨_, (pss_cons (ps_if (pt_cmpR op_gt (pe_ix ix_list (pv 0) pe_int (fun _ _ => rfl)) pe_int (nomark _)) (pss_cons (ps_set (i := 2) sc_take.nd rfl (.inl rfl) (pe_op op_modN (pe_ix ix_list (pv 0) pe_int (fun _ _ => rfl)) (pv 1))) (pss_cons (ps_asg (pe_op op_fdivW (pe_ix ix_list (pv 0) pe_int (fun _ _ => rfl)) (pv 1)) (pg_sub (pv 0) pe_int set_list)) (pss_one (ps_ret (pv 2))))) pss_nil) (pss_cons (ps_asg (pe_op op_add (pe_ix ix_list (pv 0) pe_int (fun _ _ => rfl)) pe_int) (pg_sub (pv 0) pe_int set_list)) (pss_cons (ps_set (i := 3) sc_take.nd rfl (.inl rfl) (pe_op op_modN (pe_op op_mul (pe_op op_add (pe_ix ix_list (pv 0) pe_int (fun _ _ => rfl)) (pe_op op_mul pe_int (pe_ix ix_list (pv 0) pe_int (fun _ _ => rfl)))) pe_int) pe_int)) (pss_cons (ps_asg (pe_op op_add (pe_op op_modN (pe_op op_add (pe_op op_mul (pv 3) pe_int) pe_int) pe_int) pe_int) (pg_sub (pv 0) pe_int set_list)) (pss_one (ps_ret (pe_op op_modN (pe_op op_fdivW (pe_op op_add (pe_op op_mul (pv 3) pe_int) (pe_ix ix_list (pv 0) pe_int (fun _ _ => rfl))) pe_int) (pv 1)))))))), ?_⟩
    have at0 : ∀ {u v t : V}, atI [u, v, t] 0 = some u := fun {u v t} => rfl
    have at1 : ∀ {u v t : V}, atI [u, v, t] 1 = some v := fun {u v t} => rfl
    have at2 : ∀ {u v t : V}, atI [u, v, t] 2 = some t := fun {u v t} => rfl
    refine ⟨.ref a, rfl, a, _, 0, .int x, rfl, rfl, SqL.of ea, at0, _, _, rfl, rfl, _, rfl, ite2 (fun c => ?_) (fun c => ?_)⟩
    · refine ⟨.ref a, rfl, a, _, 0, .int x, rfl, rfl, SqL.of ea, at0, .int many, rfl, _, _, rfl, rfl, by omega, ?_⟩
      refine ⟨.ref a, rfl, a, _, 0, .int x, rfl, rfl, SqL.of ea, at0, .int many, rfl, _, _, rfl, rfl, wide_div hm hb (by decide) (by decide), .ref a, rfl, a, _, 0, 0, rfl, rfl, ea, rfl, ?_⟩
      have f := fmod_pos (i := x) hm
      exact ⟨_, rfl, q _ _ f.1 f.2 Gr.set⟩
    · refine ⟨.ref a, rfl, a, _, 2, .int z, rfl, rfl, SqL.of ea, at2, _, _, rfl, rfl, .ref a, rfl, a, _, 2, 2, rfl, rfl, ea, rfl, ?_⟩
      have e1 : upd H a (.lst ([V.int x, .int y, .int z].set 2 (.int (z + 1)))) a = some (.lst [.int x, .int y, .int (z + 1)]) := upd_same
      refine ⟨.ref a, rfl, a, _, 1, .int y, rfl, rfl, SqL.of e1, at1, .ref a, rfl, a, _, 2, .int (z + 1), rfl, rfl, SqL.of e1, at2, _, _, rfl, rfl, .inl ⟨by decide, by decide⟩, _, _, rfl, rfl, _, _, rfl, rfl, .inr ⟨by decide, by decide⟩, _, _, rfl, rfl, nz rfl, ?_⟩
      refine ⟨_, rfl, _, _, rfl, rfl, .inr ⟨by decide, by decide⟩, _, _, rfl, rfl, _, _, rfl, rfl, nz rfl, _, _, rfl, rfl, .ref a, rfl, a, _, 1, 1, rfl, rfl, e1, rfl, ?_⟩
      refine ⟨_, rfl, _, _, rfl, rfl, .inr ⟨by decide, by decide⟩, .ref a, rfl, a, _, 1, _, rfl, rfl, SqL.of upd_same, at1, _, _, rfl, rfl, _, _, rfl, rfl, ⟨by decide, by decide⟩, .int many, rfl, _, _, rfl, rfl, by omega, ?_⟩
      have f := fun i => fmod_pos (i := i) hm
      refine q _ _ (f _).1 (f _).2 (Gr.trans Gr.set Gr.set)
/-! ### a fresh draw -/
def spBox (K : PySem.W.Frag) : Sp := fun vs H Q _ => ∃ (a : Addr) (ns : List Int) (k : Int), vs = [.ref a, .int k] ∧ SqL K H a (ns.map V.int) ∧ 0 ≤ k ∧ k ≤ 1000 ∧ ∀ (p : Addr) (H' : Hp), H p = none → Same H H' → Drw H' p → Q (.ref p) H'
theorem at_int {ns : List Int} {k : Int} (h0 : 0 ≤ k) (h1 : k < ns.length) : ∃ v, atI (ns.map V.int) k = some (.int v) := by
  have l : k.toNat < ns.length := by omega
  refine ⟨ns[k.toNat], at_of (j := k.toNat) (by omega) ?_⟩
  rw [List.getElem?_map, List.getElem?_eq_getElem l]
  rfl
theorem s0 : 0 ≤ sizeLine := by decide
theorem s1 : 1 ≤ sizeLine := by decide
theorem s2 : 2 ≤ sizeLine := by decide
theorem s3 : 3 ≤ sizeLine := by decide
theorem s4 : 4 ≤ sizeLine := by decide
theorem ix01 {c : Int} {b : Bool} : ∃ v, atI [V.int 0, V.int c] (if b = true then 1 else 0) = some (.int v) := by
  cases b
  · exact ⟨0, rfl⟩
  · exact ⟨c, rfl⟩
theorem new2 {H : Hp} {p p2 : Addr} {o : HO} (h : H p = none) (h2 : upd H p o p2 = none) : H p2 = none := Same.free (same_new h) h2
theorem ok_box (T : Tx P K mg) : FnOk P w K mg base CX0 1 T.f_box T.fd_box ["_law_script", "_law_k"] (spBox K) := by
  refine T.F_box.ok sc_box (fun vs H Q E h => ?_) (fun cdv A outer s H vs Q E hr h => ?_)
  · obtain ⟨a, b, k, rfl, _⟩ := h
    rfl
  · obtain ⟨a, ns, k, rfl, hS, h0, h1, q⟩ := h
    refine ⟨_, (pss_cons (ps_set (i := 2) sc_box.nd rfl (.inl rfl) (pe_op op_add (pe_op op_mul pe_int (pv 1)) pe_int)) (pss_cons (ps_if (pt_cmpR op_lt (pv 1) (pe_callB call_len_seq (by rfl) T.m_len PySem.boot_len (pa_cons (pv 0) pa_nil)) (nomark _)) (pss_one (ps_set (i := 2) sc_box.nd rfl (.inl rfl) (pe_ix ix_list (pv 0) (pv 1) (fun _ _ => rfl)))) (pss_one (ps_if (pt_cmpR op_gt (pe_callB call_len_seq (by rfl) T.m_len PySem.boot_len (pa_cons (pv 0) pa_nil)) pe_int (nomark _)) (pss_one (ps_set (i := 2) sc_box.nd rfl (.inl rfl) (pe_op op_add (pv 2) (pe_op op_mul (pe_op op_modN (pe_ix ix_list (pv 0) (pe_op op_modN (pv 1) (pe_callB call_len_seq (by rfl) T.m_len PySem.boot_len (pa_cons (pv 0) pa_nil))) (fun _ _ => rfl)) pe_int) pe_int)))) pss_nil))) (pss_cons (ps_set (i := 3) sc_box.nd rfl (.inl rfl) (pe_op op_add (pe_op op_modN (pe_op op_add (pe_op op_mul (pe_op op_modN (pv 2) pe_int) pe_int) (pe_op op_mul pe_int (pv 1))) pe_int) pe_int)) (pss_one (ps_ret (pe_lst (pa_cons (pe_ix ix_list (pe_lst (pa_cons pe_int (pa_cons (pv 2) pa_nil))) (pe_callTy call_int1 (by rfl) T.m_int (by decide +kernel) (pa_cons (pe_cmpR op_ge (pv 2) (pe_op op_pow pe_int pe_int) (nomark _)) pa_nil)) (fun _ _ => rfl)) (pa_cons (pv 3) (pa_cons pe_int pa_nil))))))))), ?_⟩
    refine ⟨_, rfl, _, _, rfl, rfl, .inl ⟨by decide, by decide⟩, _, _, rfl, rfl, ?_⟩
    refine ⟨_, rfl, .ref a, rfl, a, _, rfl, .inl hS, _, _, rfl, rfl, _, rfl, ite2 (fun c => ?_) (fun c => ?_)⟩
    rotate_left
    · refine ⟨.ref a, rfl, a, _, rfl, .inl hS, _, _, rfl, rfl, _, rfl, ite2 (fun c2 => ?_) (fun c2 => ?_)⟩
      · have l0 : (0 : Int) < ((ns.map V.int).length : Int) := of_decide_eq_true c2
        have f := fmod_pos (i := k) l0
        obtain ⟨v, hv⟩ := at_int (ns := ns) (k := k.fmod ((ns.map V.int).length : Int)) f.1 (by rw [List.length_map] at f ⊢; exact f.2)
        refine ⟨_, rfl, .ref a, rfl, _, rfl, .ref a, rfl, a, _, rfl, .inl hS, _, _, rfl, rfl, by omega, a, _, _, _, rfl, rfl, hS, hv, _, _, rfl, rfl, nz rfl, _, _, rfl, rfl, .inr ⟨by decide, by decide⟩, _, _, rfl, rfl, ?_⟩
        refine ⟨_, rfl, _, _, rfl, rfl, nz rfl, _, _, rfl, rfl, .inr ⟨by decide, by decide⟩, _, rfl, _, _, rfl, rfl, .inl ⟨by decide, by decide⟩, _, _, rfl, rfl, _, _, rfl, rfl, nz rfl, _, _, rfl, rfl, ?_⟩
        refine ⟨_, rfl, s2, fun p hp => ⟨_, rfl, _, _, rfl, rfl, ⟨by decide, by decide, by decide⟩, _, _, rfl, rfl, .inr ⟨_, rfl, ?_⟩⟩⟩
        obtain ⟨v, hv⟩ := ix01 (c := _) (b := _)
        refine ⟨p, _, _, _, rfl, rfl, SqL.of upd_same, hv, _, rfl, s3, fun p2 hp2 => ?_⟩
        exact q p2 _ (new2 hp hp2) ((same_new hp).trans (same_new hp2)) ⟨_, _, _, upd_same⟩
      · refine ⟨_, rfl, _, _, rfl, rfl, nz rfl, _, _, rfl, rfl, .inr ⟨by decide, by decide⟩, _, rfl, _, _, rfl, rfl, .inl ⟨by decide, by decide⟩, _, _, rfl, rfl, _, _, rfl, rfl, nz rfl, _, _, rfl, rfl, ?_⟩
        refine ⟨_, rfl, s2, fun p hp => ⟨_, rfl, _, _, rfl, rfl, ⟨by decide, by decide, by decide⟩, _, _, rfl, rfl, .inr ⟨_, rfl, ?_⟩⟩⟩
        obtain ⟨v, hv⟩ := ix01 (c := _) (b := _)
        refine ⟨p, _, _, _, rfl, rfl, SqL.of upd_same, hv, _, rfl, s3, fun p2 hp2 => ?_⟩
        exact q p2 _ (new2 hp hp2) ((same_new hp).trans (same_new hp2)) ⟨_, _, _, upd_same⟩
    · have l0 : k < ((ns.map V.int).length : Int) := of_decide_eq_true c
      obtain ⟨v, hv⟩ := at_int (ns := ns) h0 (by rw [List.length_map] at l0; exact l0)
      refine ⟨.ref a, rfl, _, rfl, a, _, _, _, rfl, rfl, hS, hv, ?_⟩
      refine ⟨_, rfl, _, _, rfl, rfl, nz rfl, _, _, rfl, rfl, .inr ⟨by decide, by decide⟩, _, rfl, _, _, rfl, rfl, .inl ⟨by decide, by decide⟩, _, _, rfl, rfl, _, _, rfl, rfl, nz rfl, _, _, rfl, rfl, ?_⟩
      refine ⟨_, rfl, s2, fun p hp => ⟨_, rfl, _, _, rfl, rfl, ⟨by decide, by decide, by decide⟩, _, _, rfl, rfl, .inr ⟨_, rfl, ?_⟩⟩⟩
      obtain ⟨v, hv⟩ := ix01 (c := _) (b := _)
      refine ⟨p, _, _, _, rfl, rfl, SqL.of upd_same, hv, _, rfl, s3, fun p2 hp2 => ?_⟩
      exact q p2 _ (new2 hp hp2) ((same_new hp).trans (same_new hp2)) ⟨_, _, _, upd_same⟩
end

/-! ### names -/
def abc : List Nat := (Str.ofString "abcdefghijklmnopqrstuvwxyz").cps.toList
/-- whether z is a name -/
def nmB (z : Str) : Bool := decide (1 ≤ z.length) && decide (z.length ≤ 6) && !decide (z = Str.ofString "kind") && z.cps.toList.all fun c => decide (c ∈ abc)
theorem nmB_no {z : Str} (h : ¬ (1 ≤ z.length ∧ z.length ≤ 6) ∨ z = Str.ofString "kind") : nmB z = false := by
  unfold nmB
  rcases h with h | h
  · by_cases h1 : 1 ≤ z.length
    · have h2 : ¬ z.length ≤ 6 := fun z => h ⟨h1, z⟩
      simp [h2]
    · simp [h1]
  · simp [h]
theorem nmB_yes {z : Str} (h1 : 1 ≤ z.length) (h2 : z.length ≤ 6) (h3 : z ≠ Str.ofString "kind") : nmB z = z.cps.toList.all fun c => decide (c ∈ abc) := by
  unfold nmB
  simp [h1, h2, h3]
theorem tNext_mono {g : TG} : True := trivial
section
variable {P : Program} {w : World} {K : PySem.W.Frag} {mg : Str → Option Value} {base : Heap}
def spIs : Sp := fun vs H Q _ => ∃ z : Str, vs = [.str z] ∧ z.length ≤ 10000 ∧ ∀ H', Same H H' → Q (.bl (nmB z)) H'
theorem ok_isname (T : Tx P K mg) : FnOk P w K mg base CX0 1 T.f_isname T.fd_isname ["text"] spIs := by
  refine T.F_isname.ok sc_isname (fun vs H Q E h => ?_) (fun cdv A outer s H vs Q E hr h => ?_)
  · obtain ⟨a, rfl, _⟩ := h
    rfl
  · obtain ⟨z, rfl, hz, q⟩ := h
    refine ⟨_, (pss_cons (ps_if (PW.pt (pw_or (pt_not (pt_chain op_le op_le pe_int (pe_callB call_len_str (by rfl) T.m_len PySem.boot_len (pa_cons (pv 0) pa_nil)) (pe_glob (v := .int 6) (by rfl) T.c_MOST_LETTERS ⟨_, rfl⟩))) (pw_or1 (pt_cmpR op_eq (pv 0) pe_str (nomark _))))) (pss_one (ps_ret pe_bl)) pss_nil) (pss_one (ps_ret (pe_callB (cr_all rfl) (by rfl) T.m_all (by decide +kernel) (pa_cons (pe_lc (own := [("sign", 1)]) (by rfl) sc_isname.nd (pi_str (pv 0)) (blkOk_by (own := [("sign", 1)]) (N := ["text", "sign"]) (sc := defScope st_isname) (by decide +kernel)) (fun _ _ _ _ _ => (pg_name (i := 1) sc_isname.nd rfl (.inl rfl))) (fun _ _ _ _ _ => pts_nil) (fun _ _ _ _ _ => (pe_cmpR op_in_sign (pv 1) (pe_glob (v := .str (Str.ofString "abcdefghijklmnopqrstuvwxyz")) (by rfl) T.c_LETTERS ⟨_, rfl⟩) (by rfl)))) pa_nil))))), ?_⟩
    have hz' : z.length ≤ sizeLine := Nat.le_trans hz (by decide)
    have rest : ∀ (H0 : Hp), True := fun _ => trivial
    refine ⟨_, rfl, _, rfl, hz', _, _, rfl, rfl, _, rfl, ?_⟩
    by_cases h1 : (1 : Int) ≤ (z.length : Int)
    · rw [decide_eq_true h1]
      refine iteT ⟨_, _, rfl, rfl, _, rfl, ?_⟩
      by_cases h2 : (z.length : Int) ≤ 6
      · rw [decide_eq_true h2]
        refine iteF ?_
        refine ⟨_, rfl, rfl, _, rfl, ?_⟩
        by_cases h3 : z = Str.ofString "kind"
        · rw [show decide (V.str z = V.str (Str.ofString "kind")) = true by simp [h3]]
          refine iteT ?_
          have := q H (Same.refl H)
          rw [nmB_no (.inr h3)] at this
          exact this
        · rw [show decide (V.str z = V.str (Str.ofString "kind")) = false by simp [h3]]
          refine iteF ?_
          rw [nmB_yes (by omega) (by omega) h3] at q
          refine ⟨_, rfl, z, rfl, fun D nD => ?_⟩
          refine lc_pure walk_str nD (z.cps.toList.map fun c => V.bl (decide (c ∈ abc))) (by simp) (by show z.length ≤ 100000; omega) (fun _ _ => trivial) (fun i x y H2 H3 hy s2 hY => ?_) (fun x σ H Q Q' f h => f _ _ h) (fun σ H Q Q' f h => f _ _ h) (fun σ H Q Q' f h => ?_) (fun H2 s2 e2 => ?_)
          · obtain ⟨rfl, c, hc, rfl⟩ := hY
            refine ⟨rfl, rfl, _, rfl, c, _, rfl, rfl, ?_, Same.refl _⟩
            rw [List.getElem?_map] at hy
            have hc' : z.cps.toList[i]? = some c := by simpa using hc
            rw [hc'] at hy
            exact Option.some.inj hy
          · obtain ⟨v, e, c, z', e1, e2, q⟩ := h
            exact ⟨v, e, c, z', e1, e2, f _ _ q⟩
          · refine ⟨D, z.cps.toList.map fun c => decide (c ∈ abc), rfl, SqL.of (by rw [e2, List.map_map]; rfl), ?_⟩
            rw [List.all_map]
            exact q H2 s2
      · rw [decide_eq_false h2]
        refine iteT ?_
        have := q H (Same.refl H)
        rw [nmB_no (.inl (by omega))] at this
        exact this
    · rw [decide_eq_false h1]
      refine iteF ⟨_, rfl, iteT ?_⟩
      have := q H (Same.refl H)
      rw [nmB_no (.inl (by omega))] at this
      exact this
end

/-! ### texts as lists of signs -/
def S (cs : List Nat) : Str := ⟨cs.toArray⟩
theorem S_list (cs : List Nat) : (S cs).cps.toList = cs := by simp [S]
theorem S_len (cs : List Nat) : (S cs).length = cs.length := by simp [S, Str.length]
theorem S_eta (z : Str) : S z.cps.toList = z := by
  cases z
  simp [S]
theorem S_inj {a b : List Nat} : S a = S b ↔ a = b := ⟨fun h => by
  have := congrArg (fun z : Str => z.cps.toList) h
  rw [S_list, S_list] at this
  exact this, fun h => by rw [h]⟩
theorem S_add (a b : List Nat) : S a ++ S b = S (a ++ b) := by
  show Str.append (S a) (S b) = S (a ++ b)
  simp [S, Str.append]
theorem S_to (a : List Nat) (k : Nat) : cutS (S a) none (some (k : Int)) = S (a.take k) := by
  unfold cutS
  rw [S_list, S_len, HT.sIx_none, HT.sIx_nat, List.drop_zero, Nat.sub_zero]
  show S (a.take (min k a.length)) = S (a.take k)
  rw [S_inj, List.take_eq_take_iff]
  omega
theorem S_from (a : List Nat) (k : Nat) : cutS (S a) (some (k : Int)) none = S (a.drop k) := by
  unfold cutS
  rw [S_list, S_len, HT.sIx_none, HT.sIx_nat]
  show S ((a.drop (min k a.length)).take (a.length - min k a.length)) = S (a.drop k)
  rw [S_inj, List.take_of_length_le (by rw [List.length_drop]; exact Nat.le_refl _)]
  by_cases h : k ≤ a.length
  · rw [Nat.min_eq_left h]
  · rw [Nat.min_eq_right (by omega), List.drop_eq_nil_of_le (Nat.le_refl _), List.drop_eq_nil_of_le (by omega)]
/-- single signs joined without anything between -/
theorem S_join : ∀ cs : List Nat, Str.join (Str.ofString "") (cs.map fun c => S [c]) = S cs
  | [] => rfl
  | [c] => rfl
  | c :: d :: r => by
    show S [c] ++ Str.ofString "" ++ Str.join (Str.ofString "") ((d :: r).map fun c => S [c]) = S (c :: d :: r)
    rw [S_join (d :: r), show (Str.ofString "" : Str) = S [] from rfl, S_add, S_add]
    rfl
theorem nmB_S {cs : List Nat} : nmB (S cs) = true ↔ 1 ≤ cs.length ∧ cs.length ≤ 6 ∧ S cs ≠ Str.ofString "kind" ∧ ∀ c ∈ cs, c ∈ abc := by
  unfold nmB
  rw [S_len, S_list]
  simp [Bool.and_eq_true, List.all_eq_true]
  constructor
  · rintro ⟨⟨⟨a, b⟩, c⟩, d⟩
    exact ⟨a, b, c, d⟩
  · rintro ⟨a, b, c, d⟩
    exact ⟨⟨⟨a, b⟩, c⟩, d⟩
theorem inV_S {n : List Nat} : ∀ ns : List (List Nat), inV (.str (S n)) (ns.map fun m => V.str (S m)) = decide (n ∈ ns)
  | [] => rfl
  | m :: r => by
    show (eqV (.str (S m)) (.str (S n)) || inV (.str (S n)) (r.map fun m => V.str (S m))) = _
    rw [inV_S r]
    show ((S m == S n) || decide (n ∈ r)) = _
    by_cases h : m = n
    · subst h
      simp
    · have h1 : (S m == S n) = false := by
        rw [beq_eq_false_iff_ne]
        exact fun z => h (S_inj.mp z)
      have h2 : (n ∈ m :: r) ↔ n ∈ r := ⟨fun z => by
        rcases List.mem_cons.mp z with z | z
        · exact absurd z.symm h
        · exact z, fun z => List.mem_cons_of_mem _ z⟩
      rw [h1, Bool.false_or]
      exact decide_eq_decide.mpr h2.symm
/-! ### pigeons -/
theorem nodup_le {α : Type} [DecidableEq α] : ∀ {l m : List α}, l.Nodup → (∀ x ∈ l, x ∈ m) → l.length ≤ m.length
  | [], _, _, _ => Nat.zero_le _
  | a :: l, m, hn, hs => by
    have hn' := List.nodup_cons.mp hn
    have ha : a ∈ m := hs a List.mem_cons_self
    have h1 : l.length ≤ (m.erase a).length := nodup_le hn'.2 fun x hx => (List.mem_erase_of_ne (fun z => hn'.1 (by rw [← z]; exact hx))).mpr (hs x (List.mem_cons_of_mem _ hx))
    have h2 := List.length_erase_of_mem ha
    have h3 : 0 < m.length := List.length_pos_of_mem ha
    rw [List.length_cons]
    omega
def letter (i : Nat) : Nat := abc.getD (i % 26) 0
theorem letter_abc (i : Nat) : letter i ∈ abc := by
  have h : ∀ j : Fin 26, abc.getD j.1 0 ∈ abc := by decide
  exact h ⟨i % 26, Nat.mod_lt _ (by decide)⟩
theorem letter_inj {i j : Nat} (hi : i < 26) (hj : j < 26) (h : letter i = letter j) : i = j := by
  have k : ∀ a b : Fin 26, abc.getD a.1 0 = abc.getD b.1 0 → a = b := by decide
  unfold letter at h
  rw [Nat.mod_eq_of_lt hi, Nat.mod_eq_of_lt hj] at h
  have := k ⟨i, hi⟩ ⟨j, hj⟩ h
  exact congrArg Fin.val this
/-- among the 26 first letters one leads to no name of found and not to kind -/
theorem free_letter (tail : List Nat) (found : List (List Nat)) (hf : found.length ≤ 12) (c : Nat) : ∃ k, k < 26 ∧ (letter (c + k) :: tail) ∉ found ∧ S (letter (c + k) :: tail) ≠ Str.ofString "kind" := by
  apply Classical.byContradiction
  intro hno
  have all : ∀ k, k < 26 → (letter (c + k) :: tail) ∈ (Str.ofString "kind").cps.toList :: found := fun k hk => by
    by_cases h1 : (letter (c + k) :: tail) ∈ found
    · exact List.mem_cons_of_mem _ h1
    · by_cases h2 : S (letter (c + k) :: tail) = Str.ofString "kind"
      · have h3 := congrArg (fun z : Str => z.cps.toList) h2
        rw [S_list] at h3
        rw [h3]
        exact List.mem_cons_self
      · exact absurd ⟨k, hk, h1, h2⟩ hno
  have nd : ((List.range 26).map fun k => letter (c + k) :: tail).Nodup := by
    refine List.pairwise_map.mpr (List.Pairwise.imp_of_mem (fun {i j} hi hj hne h => hne ?_) (List.nodup_range (n := 26)))
    have hi' := List.mem_range.mp hi
    have hj' := List.mem_range.mp hj
    have h1 : letter (c + i) = letter (c + j) := (List.cons.inj h).1
    have h2 : letter ((c + i) % 26) = letter ((c + j) % 26) := by
      unfold letter at h1 ⊢
      rw [Nat.mod_mod, Nat.mod_mod]
      exact h1
    have h3 := letter_inj (Nat.mod_lt _ (by decide)) (Nat.mod_lt _ (by decide)) h2
    omega
  have le := nodup_le nd (m := (Str.ofString "kind").cps.toList :: found) (fun x hx => by
    obtain ⟨k, hk, rfl⟩ := List.mem_map.mp hx
    exact all k (List.mem_range.mp hk))
  rw [List.length_map, List.length_range, List.length_cons] at le
  omega

/-! ### comprehensions that draw -/
theorem lc_draw {a : Addr} {n : Nat} {g : TG} {tt : TT} {te : TE} {vs : List Nat} {σ : L2.St} {H1 : Hp} {D : Addr} {Qd : Hp → Prop} {lo : Int} (nD : H1 D = none) (dr : Drw H1 a) (h1000 : n ≤ 10000) (Pd : V → Prop)
    (hs : ∀ (i : Nat) (H : Hp), i < n → Gr a H1 H → g (.int (lo + i)) (wipe σ vs) H fun σ2 H2 => wipe σ2 vs = wipe σ vs ∧ tt σ2 H2 fun b H3 => b = true ∧ te σ2 H3 fun y H4 => Pd y ∧ Gr a H H4)
    (mg : ∀ x σ H Q Q', (∀ σ2 H2, Q σ2 H2 → Q' σ2 H2) → g x σ H Q → g x σ H Q') (mt : ∀ σ H Q Q', (∀ b H2, Q b H2 → Q' b H2) → tt σ H Q → tt σ H Q') (me : ∀ σ H Q Q', (∀ v H2, Q v H2 → Q' v H2) → te σ H Q → te σ H Q')
    (hd : ∀ (H : Hp) (acc : List V), Gr a H1 H → H D = some (.lst acc) → acc.length = n → (∀ v ∈ acc, Pd v) → Qd H) :
    ∃ W : Nat → Nat → Hp → Prop, (∃ m, W 0 m (upd H1 D (.lst []))) ∧ ∀ i m H, W i m H →
      ((Itr lo n).stop i H ∧ Qd H) ∨ ((Itr lo n).go i H ∧ ∃ Nx : Hp → Prop, (∀ H', Nx H' → ∃ m', m' < m ∧ W (i + 1) m' H') ∧ ∀ x H', (Itr lo n).yld i H x H' → g x (wipe σ vs) H' fun σ2 H2 => wipe σ2 vs = wipe σ vs ∧ tt σ2 H2 fun b H3 =>
        if b = true then te σ2 H3 fun y H4 => ∃ acc, H4 D = some (.lst acc) ∧ acc.length < sizeLine ∧ Nx (upd H4 D (.lst (acc ++ [y]))) else Nx H3) := by
  have naD : a ≠ D := dr.ne nD
  refine lc_range (lo := lo) (n := n) (fun i H => Gr a H1 H ∧ ∃ acc, H D = some (.lst acc) ∧ acc.length = i ∧ ∀ v ∈ acc, Pd v) ⟨Gr.of (same_new nD) dr, [], upd_same, rfl, fun v hv => nomatch hv⟩ (fun i H hi p => ?_) (fun H p => ?_)
  · obtain ⟨gr, acc, eD, hl, hP⟩ := p
    refine mg _ _ _ _ _ (fun σ2 H2 q => ⟨q.1, mt _ _ _ _ (fun b H3 q => ?_) q.2⟩) (hs i H hi gr)
    obtain ⟨rfl, q⟩ := q
    refine iteT (me _ _ _ _ (fun v H4 q => ?_) q)
    obtain ⟨pv, g4⟩ := q
    refine ⟨acc, g4.1 _ _ naD.symm eD, Nat.lt_of_le_of_lt (show acc.length ≤ 10000 by omega) (by decide), ⟨fun b o nb e => ?_, ?_⟩, acc ++ [v], upd_same, by rw [List.length_append, hl]; rfl, fun u hu => ?_⟩
    · rw [upd_ne (ne_of_none e nD)]
      exact g4.1 _ _ nb (gr.1 _ _ nb e)
    · obtain ⟨x, y, z, e⟩ := g4.2
      exact ⟨x, y, z, by rw [upd_ne naD]; exact e⟩
    · rcases List.mem_append.mp hu with hu | hu
      · exact hP u hu
      · cases List.mem_singleton.mp hu
        exact pv
  · obtain ⟨gr, acc, eD, hl, hP⟩ := p
    exact hd H acc gr eD hl hP
/-- a list of single letters -/
theorem signs_of {acc : List V} {C : Nat → Prop} (h : ∀ v ∈ acc, ∃ c, C c ∧ v = .str (S [c])) : ∃ cs : List Nat, acc = (cs.map fun c => S [c]).map V.str ∧ ∀ c ∈ cs, C c := by
  induction acc with
  | nil => exact ⟨[], rfl, fun _ h => nomatch h⟩
  | cons v r ih =>
    obtain ⟨c, hc, rfl⟩ := h v List.mem_cons_self
    obtain ⟨cs, rfl, hcs⟩ := ih fun u hu => h u (List.mem_cons_of_mem _ hu)
    exact ⟨c :: cs, rfl, fun d hd => by
      rcases List.mem_cons.mp hd with rfl | hd
      · exact hc
      · exact hcs d hd⟩
theorem sum_len (cs : List Nat) : ((cs.map fun c => S [c]).map (·.length)).sum = cs.length := by
  induction cs with
  | nil => rfl
  | cons c r ih =>
    show (S [c]).length + ((r.map fun c => S [c]).map (·.length)).sum = r.length + 1
    rw [ih, S_len]
    show 1 + r.length = r.length + 1
    omega
theorem at_ofN {xs : List Nat} {z : Int} {j : Nat} {v : Nat} (e : z = (j : Int)) (h : xs[j]? = some v) : atI xs z = some v := by
  rw [e]
  exact atI_nat h
theorem abc_at {d : Int} (h0 : 0 ≤ d) (h1 : d < 26) : atI (Str.ofString "abcdefghijklmnopqrstuvwxyz").cps.toList d = some (letter d.toNat) := by
  have h : ∀ j : Fin 26, (Str.ofString "abcdefghijklmnopqrstuvwxyz").cps.toList[j.1]? = some (letter j.1) := by decide
  have hd : d.toNat < 26 := by omega
  exact at_ofN (j := d.toNat) (by omega) (h ⟨d.toNat, hd⟩)

section
variable {P : Program} {w : World} {K : PySem.W.Frag} {mg : Str → Option Value} {base : Heap}
/-! ### _law_names -/
def LET : Str := Str.ofString "abcdefghijklmnopqrstuvwxyz"
/-- letters alone, one to six -/
def Lt (n : List Nat) : Prop := 1 ≤ n.length ∧ n.length ≤ 6 ∧ ∀ c ∈ n, c ∈ abc
theorem letter_of {c : Nat} (h : c ∈ abc) : ∃ i, i < 26 ∧ c = letter i := by
  have k : ∀ c ∈ abc, ∃ i : Fin 26, c = letter i.1 := by decide
  obtain ⟨i, e⟩ := k c h
  exact ⟨i.1, i.2, e⟩
theorem occ (i : Nat) (h : i < 26) : Builtin.Str.occurrences LET (S [letter i]) 0 LET.length 1 = [i] := by
  have k : ∀ j : Fin 26, Builtin.Str.occurrences LET (S [letter j.1]) 0 LET.length 1 = [j.1] := by decide +kernel
  exact k ⟨i, h⟩
theorem letter_mod (i : Nat) : letter (i % 26) = letter i := by
  unfold letter
  rw [Nat.mod_mod]
def nmsV (ns : List (List Nat)) : List V := ns.map fun n => V.str (S n)
def spNames : Sp := fun vs H Q _ => ∃ (a : Addr) (many : Int), vs = [.ref a, .int many] ∧ Drw H a ∧ 0 ≤ many ∧ many ≤ 12 ∧
  ∀ (p : Addr) (H' : Hp) (ns : List (List Nat)), H p = none → Gr a H H' → H' p = some (.lst (nmsV ns)) → (ns.length : Int) = many → ns.Nodup → (∀ n ∈ ns, nmB (S n) = true) → Q (.ref p) H'
theorem small_len {n : Nat} (h : n ≤ 1000) : n ≤ sizeLine := Nat.le_trans h (by decide)
theorem nms_flat (ns : List (List Nat)) : (nmsV ns).all flatV = true := by
  unfold nmsV
  simp [List.all_eq_true, flatV]
theorem ok_names (T : Tx P K mg) : FnOk P w K mg base CX0 2 T.f_names T.fd_names ["_law_box_here", "_law_many"] spNames := by
  refine T.F_names.ok sc_names (fun vs H Q E h => ?_) (fun cdv A outer s H vs Q E hr h => ?_)
  · obtain ⟨a, many, rfl, _⟩ := h
    rfl
  · obtain ⟨a, many, rfl, dr, hm0, hm1, q⟩ := h
    refine ⟨_, (pss_cons (ps_set (i := 2) sc_names.nd rfl (.inr rfl) pe_str) (pss_cons (ps_set (i := 4) sc_names.nd rfl (.inl rfl) (pe_join pe_str (pe_lc (own := [("_law_k", 3)]) (by rfl) sc_names.nd (pi_range1 (by rfl) T.m_range (pa_cons (pe_call (ok_take T) (hr.mono (by decide) : Room 1 _) (by rfl) T.g_take T.F_take.kp T.b_take .nil pass0 (pa_cons (pv 0) (pa_cons pe_int pa_nil))) pa_nil)) (blkOk_by (own := [("_law_k", 3)]) (N := ["_law_box_here", "_law_many", "_law_letters", "_law_k", "_law_stem", "_law_found", "_law_form", "_law_at", "_law_name", "_law_j"]) (sc := defScope st_names) (by decide +kernel)) (fun _ _ _ _ _ => (pg_name (i := 3) sc_names.nd rfl (.inl rfl))) (fun _ _ _ _ _ => pts_nil) (fun _ _ _ _ _ => (pe_ix ix_str (pv 2) (pe_call (ok_take T) (hr.mono (by decide) : Room 1 _) (by rfl) T.g_take T.F_take.kp T.b_take .nil pass0 (pa_cons (pv 0) (pa_cons pe_int pa_nil))) (fun _ _ => rfl)))))) (pss_cons (ps_set (i := 5) sc_names.nd rfl (.inl rfl) (pe_lst pa_nil)) (pss_cons (ps_for PassesOwn.never rfl (pi_range1 (by rfl) T.m_range (pa_cons (pv 1) pa_nil)) (pg_name (i := 3) sc_names.nd rfl (.inl rfl)) (pss_cons (ps_par (i := 6) (j := 7) (by rfl) sc_names.nd rfl rfl (by decide) rfl rfl (pa_cons (pe_call (ok_take T) (hr.mono (by decide) : Room 1 _) (by rfl) T.g_take T.F_take.kp T.b_take .nil pass0 (pa_cons (pv 0) (pa_cons pe_int pa_nil))) (pa_cons (pe_call (ok_take T) (hr.mono (by decide) : Room 1 _) (by rfl) T.g_take T.F_take.kp T.b_take .nil pass0 (pa_cons (pv 0) (pa_cons (pe_op op_add (pe_callB call_len_str (by rfl) T.m_len PySem.boot_len (pa_cons (pv 4) pa_nil)) pe_int) pa_nil))) pa_nil)) (by rfl)) (pss_cons (ps_set (i := 8) sc_names.nd rfl (.inl rfl) (pe_join pe_str (pe_lc (own := [("_law_j", 9)]) (by rfl) sc_names.nd (pi_range1 (by rfl) T.m_range (pa_cons (pe_op op_add pe_int (pe_call (ok_take T) (hr.mono (by decide) : Room 1 _) (by rfl) T.g_take T.F_take.kp T.b_take .nil pass0 (pa_cons (pv 0) (pa_cons pe_int pa_nil)))) pa_nil)) (blkOk_by (own := [("_law_j", 9)]) (N := ["_law_box_here", "_law_many", "_law_letters", "_law_k", "_law_stem", "_law_found", "_law_form", "_law_at", "_law_name", "_law_j"]) (sc := defScope st_names) (by decide +kernel)) (fun _ _ _ _ _ => (pg_name (i := 9) sc_names.nd rfl (.inl rfl))) (fun _ _ _ _ _ => pts_nil) (fun _ _ _ _ _ => (pe_ix ix_str (pv 2) (pe_call (ok_take T) (hr.mono (by decide) : Room 1 _) (by rfl) T.g_take T.F_take.kp T.b_take .nil pass0 (pa_cons (pv 0) (pa_cons pe_int pa_nil))) (fun _ _ => rfl)))))) (C8.pss_cut (ps_if (pt_cmpR op_eq (pv 6) pe_int (nomark _)) (pss_one (ps_set (i := 8) sc_names.nd rfl (.inl rfl) (pe_op op_add_str (pe_op op_add_str (pe_slice sl_str (pv 4) po_none (po_some (pv 7))) (pe_ix ix_str (pv 8) pe_int (fun _ _ => rfl))) (pe_slice sl_str (pv 4) (po_some (pv 7)) po_none)))) pss_nil) (C8.pss_cut (ps_if (pt_cmpR op_eq (pv 6) pe_int (nomark _)) (pss_one (ps_set (i := 8) sc_names.nd rfl (.inl rfl) (pe_slice sl_str (pe_op op_add_str (pv 4) (pv 8)) po_none (po_some pe_int)))) pss_nil) (C8.pss_cut (ps_if (pt_cmpR op_eq (pv 6) pe_int (nomark _)) (pss_one (ps_set (i := 8) sc_names.nd rfl (.inl rfl) (pe_ix ix_str (pv 8) pe_int (fun _ _ => rfl)))) pss_nil) (pss_cons (ps_while PassesOwn.never (PW.pt (pw_or (pt_cmpR op_in_seq (pv 8) (pv 5) (by rfl)) (pw_or1 (pt_cmpR op_eq (pv 8) pe_str (nomark _))))) (pss_one (ps_set (i := 8) sc_names.nd rfl (.inl rfl) (pe_op op_add_str (pe_ix ix_str (pv 2) (pe_op op_modN (pe_op op_add (pe_bm PySem.F.plainAttrs_str PySem.F.slot_str_index PySem.F.type_str_index mt_sindex (pv 2) (pa_cons (pe_ix ix_str (pv 8) pe_int (fun _ _ => rfl)) pa_nil)) pe_int) pe_int) (fun _ _ => rfl)) (pe_slice sl_str (pv 8) (po_some pe_int) po_none))))) (pss_one (ps_expr (pe_bm PySem.F.plainAttrs_list PySem.F.slot_list_append PySem.F.type_list_append mt_append (pv 5) (pa_cons (pv 8) pa_nil))))))))))) (pss_one (ps_ret (pv 5))))))), ?_⟩
    -- the stem
    refine ⟨⟨_, rfl⟩, _, rfl, a, 6, rfl, dr, by decide, by decide +kernel, fun t6 H1 t0 t1 g1 => ?_⟩
    refine ⟨t6, rfl, by omega, by omega, fun D nD => ?_⟩
    refine lc_draw (a := a) nD g1.2 (by omega) (fun v => ∃ c, c ∈ abc ∧ v = .str (S [c])) (fun i H2 hi g2 => ?_) (fun x σ H Q Q' f h => f _ _ h) (fun σ H Q Q' f h => f _ _ h) (fun σ H Q Q' f h => ?_) (fun H2 acc g2 e2 hl hP => ?_)
    · refine ⟨rfl, rfl, _, rfl, _, rfl, a, 26, rfl, g2.2, by decide, by decide +kernel, fun d H3 d0 d1 g3 => ?_⟩
      exact ⟨LET, d, _, rfl, rfl, small_len (by decide), abc_at d0 d1, ⟨_, letter_abc _, rfl⟩, g3⟩
    · obtain ⟨v1, e1, v2, e2, a', m', e3, dr', p1, p2, k⟩ := h
      refine ⟨v1, e1, v2, e2, a', m', e3, dr', p1, p2, fun d H3 d0 d1 g3 => ?_⟩
      obtain ⟨z, i, c, f1, f2, f3, f4, f5⟩ := k d H3 d0 d1 g3
      exact ⟨z, i, c, f1, f2, f3, f4, f _ _ f5⟩
    obtain ⟨st, rfl, hst⟩ := signs_of hP
    rw [List.length_map, List.length_map] at hl
    refine ⟨_, D, st.map fun c => S [c], rfl, rfl, .inl (SqL.of e2), ?_, ?_⟩
    · rw [sum_len, List.length_map]
      show st.length + st.length * 0 ≤ 16777216
      omega
    rw [TL.join_eq, S_join]
    have hst5 : st.length ≤ 5 := by omega
    -- found = []
    refine ⟨s0, fun F nF => ?_⟩
    have nFH : H F = none := by
      cases e : H F with
      | none => rfl
      | some o =>
        have naF : F ≠ a := fun z => by
          obtain ⟨x, y, zz, e'⟩ := g2.2
          rw [z, e'] at nF
          cases nF
        rw [g2.1 _ _ naF (g1.1 _ _ naF e)] at nF
        cases nF
    have naF : a ≠ F := g2.2.ne nF
    refine ⟨_, rfl, many, rfl, by omega, by omega, for_range (lo := 0) (n := many.toNat) (fun i σ H' => ∃ (y3 y6 y7 y8 : Option V) (ns : List (List Nat)), σ = [some (.ref a), some (.int many), some (.str LET), y3, some (.str (S st)), some (.ref F), y6, y7, y8, none] ∧ H' F = some (.lst (nmsV ns)) ∧ ns.length = i ∧ ns.Nodup ∧ (∀ n ∈ ns, nmB (S n) = true) ∧ Gr a H H')
      ⟨none, none, none, none, [], rfl, upd_same, rfl, List.Pairwise.nil, (fun n hn => nomatch hn), (g1.trans g2).trans (Gr.of (same_new nF) g2.2)⟩ (fun i σ H' hi hP' => ?_) (fun σ H' hP' => ?_)⟩
    · obtain ⟨y3, y6, y7, y8, ns, rfl, eF, hlen, hnd, hnm, gr⟩ := hP'
      -- form, at
      refine ⟨_, rfl, a, 4, rfl, gr.2, by decide, by decide +kernel, fun fo H3 fo0 fo1 g3 => ?_⟩
      refine ⟨_, rfl, _, rfl, _, rfl, small_len (by rw [S_len]; omega), _, _, rfl, rfl, ?_⟩
      rw [S_len]
      refine ⟨a, _, rfl, g3.2, by omega, ?_, fun at' H4 at0 at1 g4 => ?_⟩
      · exact Nat.lt_of_le_of_lt (show ((st.length : Int) + 1).natAbs ≤ 6 by omega) (by decide +kernel)
      obtain ⟨ka, rfl⟩ : ∃ ka : Nat, at' = (ka : Int) := ⟨at'.toNat, by omega⟩
      refine ⟨_, _, rfl, ?_⟩
      -- the name
      refine ⟨⟨_, rfl⟩, _, rfl, a, 6, rfl, g4.2, by decide, by decide +kernel, fun t7 H5 t70 t71 g5 => ?_⟩
      refine ⟨_, _, rfl, rfl, 1 + t7, rfl, by omega, by omega, fun D2 nD2 => ?_⟩
      refine lc_draw (a := a) nD2 g5.2 (by omega) (fun v => ∃ c, c ∈ abc ∧ v = .str (S [c])) (fun i H2 hi g2 => ?_) (fun x σ H Q Q' f h => f _ _ h) (fun σ H Q Q' f h => f _ _ h) (fun σ H Q Q' f h => ?_) (fun H6 acc g6 e6 hl6 hP6 => ?_)
      · refine ⟨rfl, rfl, _, rfl, _, rfl, a, 26, rfl, g2.2, by decide, by decide +kernel, fun d H3 d0 d1 g3 => ?_⟩
        exact ⟨LET, d, _, rfl, rfl, small_len (by decide), abc_at d0 d1, ⟨_, letter_abc _, rfl⟩, g3⟩
      · obtain ⟨v1, e1, v2, e2, a', m', e3, dr', p1, p2, k⟩ := h
        refine ⟨v1, e1, v2, e2, a', m', e3, dr', p1, p2, fun d H3 d0 d1 g3 => ?_⟩
        obtain ⟨z, i, c, f1, f2, f3, f4, f5⟩ := k d H3 d0 d1 g3
        exact ⟨z, i, c, f1, f2, f3, f4, f _ _ f5⟩
      obtain ⟨nm0, rfl, hnm0⟩ := signs_of hP6
      rw [List.length_map, List.length_map] at hl6
      refine ⟨_, D2, nm0.map fun c => S [c], rfl, rfl, .inl (SqL.of e6), ?_, ?_⟩
      · rw [sum_len, List.length_map]
        show nm0.length + nm0.length * 0 ≤ 16777216
        omega
      rw [TL.join_eq, S_join]
      have hL0 : Lt nm0 := ⟨by omega, by omega, hnm0⟩
      have G6 : Gr a H H6 := gr.trans (g3.trans (g4.trans (g5.trans g6)))
      have eF6 : H6 F = some (.lst (nmsV ns)) := g6.1 _ _ naF.symm (g5.1 _ _ naF.symm (g4.1 _ _ naF.symm (g3.1 _ _ naF.symm eF)))
      obtain ⟨M1, hM1⟩ : ∃ M : L2.St → Hp → Prop, M = fun σ Hx => Hx = H6 ∧ ∃ n, σ = [some (.ref a), some (.int many), some (.str LET), some (.int (0 + (i : Int))), some (.str (S st)), some (.ref F), some (.int fo), some (.int (ka : Int)), some (.str (S n)), none] ∧ Lt n := ⟨_, rfl⟩
      -- form 0
      refine ⟨M1, ?_, fun σ1 Hx h1 => ?_⟩
      · refine ⟨_, rfl, rfl, _, rfl, ite2 (fun c => ?_) (fun c => ?_)⟩
        · obtain ⟨x, r, rfl⟩ : ∃ x r, nm0 = x :: r := by
            cases nm0 with
            | nil => exact absurd hL0.1 (by decide)
            | cons x r => exact ⟨x, r, rfl⟩
          refine ⟨_, rfl, _, rfl, _, rfl, _, rfl, small_len (by rw [S_len]; omega), _, rfl, S (x :: r), 0, x, rfl, rfl, small_len (by rw [S_len]; have := hL0.2.1; omega), atI_nat (j := 0) (by rw [S_list]; rfl), ?_⟩
          rw [S_to]
          refine ⟨_, _, rfl, rfl, small_len (by rw [S_len, List.length_take]; show _ + (S [x]).length ≤ 1000; rw [S_len]; show _ + 1 ≤ 1000; omega), ?_⟩
          refine ⟨_, rfl, _, rfl, _, rfl, _, rfl, small_len (by rw [S_len]; omega), ?_⟩
          rw [S_from, show (⟨#[x]⟩ : Str) = S [x] from rfl, S_add]
          refine ⟨_, _, rfl, rfl, small_len (by rw [S_len, S_len, List.length_append, List.length_take, List.length_drop]; show _ + 1 + _ ≤ 1000; omega), ?_⟩
          show M1 _ _
          rw [hM1, S_add]
          refine ⟨rfl, _, rfl, ?_, ?_, fun d hd => ?_⟩
          · rw [List.length_append, List.length_append]
            show 1 ≤ _ + 1 + _
            omega
          · rw [List.length_append, List.length_append, List.length_take, List.length_drop]
            show _ + 1 + _ ≤ 6
            omega
          · rcases List.mem_append.mp hd with hd | hd
            · rcases List.mem_append.mp hd with hd | hd
              · exact hst d (List.mem_of_mem_take hd)
              · rw [List.mem_singleton.mp hd]
                exact hL0.2.2 x List.mem_cons_self
            · exact hst d (List.mem_of_mem_drop hd)
        · show M1 _ _
          rw [hM1]
          exact ⟨rfl, nm0, rfl, hL0⟩
      rw [hM1] at h1
      obtain ⟨rfl, n1, rfl, hL1⟩ := h1
      -- form 1
      refine ⟨M1, ?_, fun σ1 Hx h1 => ?_⟩
      · refine ⟨_, rfl, rfl, _, rfl, ite2 (fun c => ?_) (fun c => ?_)⟩
        · refine ⟨_, rfl, _, rfl, _, _, rfl, rfl, small_len (by rw [S_len, S_len]; have := hL1.2.1; omega), 6, rfl, _, rfl, small_len (by rw [S_add, S_len, List.length_append]; have := hL1.2.1; omega), ?_⟩
          show M1 _ _
          rw [hM1, S_add, show (some (6 : Int)) = some ((6 : Nat) : Int) from rfl, S_to _ 6]
          refine ⟨rfl, _, rfl, ?_, ?_, fun d hd => ?_⟩
          · rw [List.length_take, List.length_append]
            have := hL1.1
            omega
          · rw [List.length_take]
            omega
          · rcases List.mem_append.mp (List.mem_of_mem_take hd) with hd | hd
            · exact hst d hd
            · exact hL1.2.2 d hd
        · show M1 _ _
          rw [hM1]
          exact ⟨rfl, n1, rfl, hL1⟩
      rw [hM1] at h1
      obtain ⟨rfl, n2, rfl, hL2⟩ := h1
      -- form 2
      refine ⟨M1, ?_, fun σ1 Hx h1 => ?_⟩
      · refine ⟨_, rfl, rfl, _, rfl, ite2 (fun c => ?_) (fun c => ?_)⟩
        · obtain ⟨x, r, rfl⟩ : ∃ x r, n2 = x :: r := by
            cases n2 with
            | nil => exact absurd hL2.1 (by decide)
            | cons x r => exact ⟨x, r, rfl⟩
          refine ⟨_, rfl, S (x :: r), 0, x, rfl, rfl, small_len (by rw [S_len]; have := hL2.2.1; omega), atI_nat (j := 0) (by rw [S_list]; rfl), ?_⟩
          show M1 _ _
          rw [hM1]
          exact ⟨rfl, [x], rfl, Nat.le_refl 1, (by decide : 1 ≤ 6), fun d hd => by rw [List.mem_singleton.mp hd]; exact hL2.2.2 x List.mem_cons_self⟩
        · show M1 _ _
          rw [hM1]
          exact ⟨rfl, n2, rfl, hL2⟩
      rw [hM1] at h1
      obtain ⟨rfl, n3, rfl, hL3⟩ := h1
      clear hM1
      -- until it is new
      obtain ⟨x, tail, rfl⟩ : ∃ x r, n3 = x :: r := by
        cases n3 with
        | nil => exact absurd hL3.1 (by decide)
        | cons x r => exact ⟨x, r, rfl⟩
      obtain ⟨c0, hc0, rfl⟩ := letter_of (hL3.2.2 x List.mem_cons_self)
      have htl : tail.length ≤ 5 := by
        have := hL3.2.1
        rw [List.length_cons] at this
        omega
      have htm : ∀ d ∈ tail, d ∈ abc := fun d hd => hL3.2.2 d (List.mem_cons_of_mem _ hd)
      obtain ⟨k0, hk0, hf1, hf2⟩ := free_letter tail ns (by omega) c0
      have elen : ∀ c, (S (letter c :: tail)).length ≤ sizeLine := fun c => small_len (by rw [S_len, List.length_cons]; omega)
      refine ⟨fun m σ Hy => Hy = Hx ∧ ∃ c, c < 26 ∧ σ = [some (.ref a), some (.int many), some (.str LET), some (.int (0 + (i : Int))), some (.str (S st)), some (.ref F), some (.int fo), some (.int (ka : Int)), some (.str (S (letter c :: tail))), none] ∧ (letter (c + m) :: tail) ∉ ns ∧ S (letter (c + m) :: tail) ≠ Str.ofString "kind",
        ⟨k0, rfl, c0, hc0, rfl, hf1, hf2⟩, fun m σ Hy hW => ?_⟩
      obtain ⟨eHy, c, hc, rfl, hw1, hw2⟩ := hW
      rw [eHy]
      clear eHy
      have body : ∀ (bad : (letter c :: tail) ∈ ns ∨ S (letter c :: tail) = Str.ofString "kind"), ∃ m', m = m' + 1 := fun bad => by
        cases m with
        | zero =>
          rw [Nat.add_zero] at hw1 hw2
          rcases bad with b | b
          · exact absurd b hw1
          · exact absurd b hw2
        | succ m' => exact ⟨m', rfl⟩
      refine ⟨_, rfl, _, rfl, F, _, rfl, .inl (SqL.of eF6), rfl, nms_flat ns, _, rfl, ?_⟩
      rw [show inV (.str (S (letter c :: tail))) (nmsV ns) = decide ((letter c :: tail) ∈ ns) from inV_S ns]
      have turn : ((letter c :: tail) ∈ ns ∨ S (letter c :: tail) = Str.ofString "kind") → ∃ N : L2.St → Hp → Prop, (∀ σ' H', N σ' H' → ∃ m', m' < m ∧ (H' = Hx ∧ ∃ c, c < 26 ∧ σ' = [some (.ref a), some (.int many), some (.str LET), some (.int (0 + (i : Int))), some (.str (S st)), some (.ref F), some (.int fo), some (.int (ka : Int)), some (.str (S (letter c :: tail))), none] ∧ (letter (c + m') :: tail) ∉ ns ∧ S (letter (c + m') :: tail) ≠ Str.ofString "kind")) ∧ N [some (.ref a), some (.int many), some (.str LET), some (.int (0 + (i : Int))), some (.str (S st)), some (.ref F), some (.int fo), some (.int (ka : Int)), some (.str (S (letter ((c + 1) % 26) :: tail))), none] Hx := fun bad => by
        obtain ⟨m', rfl⟩ := body bad
        refine ⟨fun σ' H' => H' = Hx ∧ σ' = [some (.ref a), some (.int many), some (.str LET), some (.int (0 + (i : Int))), some (.str (S st)), some (.ref F), some (.int fo), some (.int (ka : Int)), some (.str (S (letter ((c + 1) % 26) :: tail))), none], fun σ' H' h => ⟨m', Nat.lt_succ_self _, h.1, (c + 1) % 26, Nat.mod_lt _ (by decide), h.2, ?_, ?_⟩, rfl, rfl⟩
        · rw [show letter ((c + 1) % 26 + m') = letter (c + (m' + 1)) by rw [← letter_mod ((c + 1) % 26 + m'), ← letter_mod (c + (m' + 1))]; congr 1; omega]
          exact hw1
        · rw [show letter ((c + 1) % 26 + m') = letter (c + (m' + 1)) by rw [← letter_mod ((c + 1) % 26 + m'), ← letter_mod (c + (m' + 1))]; congr 1; omega]
          exact hw2
      have efm : ((c : Int) + 1).fmod 26 = (((c + 1) % 26 : Nat) : Int) := by
        rw [Int.fmod_eq_emod_of_nonneg _ (by decide)]
        omega
      by_cases hin : (letter c :: tail) ∈ ns
      · rw [decide_eq_true hin]
        obtain ⟨N, hN1, hN2⟩ := turn (.inl hin)
        refine iteT ⟨N, hN1, ?_⟩
        refine ⟨_, rfl, _, rfl, rfl, _, rfl, S (letter c :: tail), 0, letter c, rfl, rfl, elen c, atI_nat (j := 0) (by rw [S_list]; rfl), LET, S [letter c], c, [], rfl, rfl, occ c hc, _, _, rfl, rfl, _, _, rfl, rfl, nz rfl, LET, _, letter ((c + 1) % 26), rfl, rfl, small_len (by decide), ?_, _, rfl, 1, rfl, _, rfl, elen c, ?_⟩
        · rw [efm]
          have z := abc_at (d := (((c + 1) % 26 : Nat) : Int)) (by omega) (by omega)
          exact z
        · rw [show (some (1 : Int)) = some ((1 : Nat) : Int) from rfl, S_from]
          refine ⟨_, _, rfl, rfl, small_len (by show (S [letter ((c + 1) % 26)]).length + _ ≤ 1000; rw [S_len, S_len]; show 1 + tail.length ≤ 1000; omega), ?_⟩
          rw [show (⟨#[letter ((c + 1) % 26)]⟩ : Str) = S [letter ((c + 1) % 26)] from rfl, S_add]
          exact hN2
      · rw [decide_eq_false hin]
        refine iteF ⟨_, rfl, rfl, _, rfl, ?_⟩
        by_cases hk : S (letter c :: tail) = Str.ofString "kind"
        · rw [show decide (V.str (S (letter c :: tail)) = V.str (Str.ofString "kind")) = true by simp [hk]]
          obtain ⟨N, hN1, hN2⟩ := turn (.inr hk)
          refine iteT ⟨N, hN1, ?_⟩
          refine ⟨_, rfl, _, rfl, rfl, _, rfl, S (letter c :: tail), 0, letter c, rfl, rfl, elen c, atI_nat (j := 0) (by rw [S_list]; rfl), LET, S [letter c], c, [], rfl, rfl, occ c hc, _, _, rfl, rfl, _, _, rfl, rfl, nz rfl, LET, _, letter ((c + 1) % 26), rfl, rfl, small_len (by decide), ?_, _, rfl, 1, rfl, _, rfl, elen c, ?_⟩
          · rw [efm]
            have z := abc_at (d := (((c + 1) % 26 : Nat) : Int)) (by omega) (by omega)
            exact z
          · rw [show (some (1 : Int)) = some ((1 : Nat) : Int) from rfl, S_from]
            refine ⟨_, _, rfl, rfl, small_len (by show (S [letter ((c + 1) % 26)]).length + _ ≤ 1000; rw [S_len, S_len]; show 1 + tail.length ≤ 1000; omega), ?_⟩
            rw [show (⟨#[letter ((c + 1) % 26)]⟩ : Str) = S [letter ((c + 1) % 26)] from rfl, S_add]
            exact hN2
        · rw [show decide (V.str (S (letter c :: tail)) = V.str (Str.ofString "kind")) = false by simp [hk]]
          refine iteF ?_
          have hLc : nmB (S (letter c :: tail)) = true := nmB_S.mpr ⟨by rw [List.length_cons]; omega, by rw [List.length_cons]; omega, hk, fun d hd => by
            rcases List.mem_cons.mp hd with rfl | hd
            · exact letter_abc _
            · exact htm d hd⟩
          refine ⟨.ref F, rfl, .inl ⟨rfl, _, SqL.of eF6⟩, _, rfl, F, _, _, rfl, rfl, eF6, ?_, ?_⟩
          · unfold nmsV
            rw [List.length_map]
            exact Nat.lt_of_le_of_lt (show ns.length ≤ 1000 by omega) (by decide)
          · refine ⟨_, _, _, _, ns ++ [letter c :: tail], rfl, ?_, by rw [List.length_append, hlen]; rfl, ?_, ?_, ?_⟩
            · rw [upd_same]
              unfold nmsV
              rw [List.map_append]
              rfl
            · exact List.nodup_append.mpr ⟨hnd, List.pairwise_singleton _ _, fun x hx y hy => by
                rw [List.mem_singleton.mp hy]
                exact fun z => hin (z ▸ hx)⟩
            · intro n hn
              rcases List.mem_append.mp hn with hn | hn
              · exact hnm n hn
              · rw [List.mem_singleton.mp hn]
                exact hLc
            · refine ⟨fun b o nb e => ?_, ?_⟩
              · rw [upd_ne (ne_of_none e nFH)]
                exact G6.1 _ _ nb e
              · obtain ⟨x, y, z, e⟩ := G6.2
                exact ⟨x, y, z, by rw [upd_ne naF]; exact e⟩
    · obtain ⟨y3, y6, y7, y8, ns, rfl, eF, hlen, hnd, hnm, gr⟩ := hP'
      exact ⟨_, rfl, q F H' ns nFH gr eF (by omega) hnd hnm⟩
end

/-! ### data of texts and ints in a list or a tuple, for == -/
def flD : PyData → Bool
  | .none => true | .bool _ => true | .int _ => true | .str x => PyData.strOk x | _ => false
theorem fl_shape {d : PyData} (h : flD d = true) : d.canLay0 = true ∧ d.depth = 0 := by
  cases d with
  | none => exact ⟨rfl, rfl⟩
  | bool b => exact ⟨rfl, rfl⟩
  | int i => exact ⟨rfl, rfl⟩
  | str z => exact ⟨h, rfl⟩
  | list xs => cases h
  | tuple xs => cases h
  | dict xs => cases h
theorem fl_all : ∀ {ds : List PyData}, (∀ d ∈ ds, flD d = true) → PyData.canLayAll0 ds = true ∧ PyData.depthAll ds = 0
  | [], _ => ⟨rfl, rfl⟩
  | d :: r, h => by
    obtain ⟨a, b⟩ := fl_shape (h d List.mem_cons_self)
    obtain ⟨x, y⟩ := fl_all (ds := r) fun z hz => h z (List.mem_cons_of_mem _ hz)
    refine ⟨?_, ?_⟩
    · show (d.canLay0 && PyData.canLayAll0 r) = true
      rw [a, x]
      rfl
    · show max d.depth (PyData.depthAll r) = 0
      rw [b, y]
      rfl
theorem shaped_list {ds : List PyData} (h : ∀ d ∈ ds, flD d = true) : SeqAt.shaped (.list ds) = true := by
  obtain ⟨x, y⟩ := fl_all h
  show ((PyData.list ds).canLay0 && decide ((PyData.list ds).depth ≤ 64)) = true
  rw [show (PyData.list ds).canLay0 = PyData.canLayAll0 ds from rfl, x, show (PyData.list ds).depth = PyData.depthAll ds + 1 from rfl, y]
  rfl
theorem dpAll_strs {K : PySem.W.Frag} {H : Hp} : ∀ zs : List Str, DpAll K H (zs.map V.str) (zs.map PyData.str)
  | [] => .nil
  | z :: r => .cons (.str z) (dpAll_strs r)
theorem eqv_strs : ∀ as bs : List Str, PyData.eqvAll (as.map PyData.str) (bs.map PyData.str) = decide (as = bs)
  | [], [] => rfl
  | [], _ :: _ => rfl
  | _ :: _, [] => rfl
  | a :: r, b :: t => by
    show ((a == b) && PyData.eqvAll (r.map PyData.str) (t.map PyData.str)) = _
    rw [eqv_strs r t]
    by_cases h : a = b
    · subst h
      simp
    · simp [h]
theorem flat_strs {zs : List Str} (h : ∀ z ∈ zs, PyData.strOk z = true) : ∀ d ∈ zs.map PyData.str, flD d = true := fun d hd => by
  obtain ⟨z, hz, rfl⟩ := List.mem_map.mp hd
  exact h z hz
theorem ok_S {cs : List Nat} : PyData.strOk (S cs) = true ↔ ∀ c ∈ cs, c < 0x110000 := by
  unfold PyData.strOk S
  simp
theorem abc_small {c : Nat} (h : c ∈ abc) : c < 0x110000 := by
  have k : ∀ c ∈ abc, c < 0x110000 := by decide
  exact k c h
section
variable {P : Program} {w : World} {K : PySem.W.Frag} {mg : Str → Option Value} {base : Heap}
/-! ### _law_is_name -/
def spIsL : Sp := fun vs H Q _ => ∃ z : Str, vs = [.str z] ∧ z.length ≤ 10000 ∧ PyData.strOk z = true ∧ ∀ H', Same H H' → Q (.bl (nmB z)) H'
theorem ok_lisname (T : Tx P K mg) : FnOk P w K mg base CX0 1 T.f_lisname T.fd_lisname ["_law_text"] spIsL := by
  refine T.F_lisname.ok sc_lisname (fun vs H Q E h => ?_) (fun cdv A outer s H vs Q E hr h => ?_)
  · obtain ⟨a, rfl, _⟩ := h
    rfl
  · obtain ⟨z, rfl, hz, hok, q⟩ := h
    refine ⟨_, (pss_cons (ps_if (PW.pt (pw_or (pt_cmpR op_eq (pv 0) pe_str (nomark _)) (pw_or1 (pt_not (pt_chain op_lt op_lt pe_int (pe_callB call_len_str (by rfl) T.m_len PySem.boot_len (pa_cons (pv 0) pa_nil)) pe_int))))) (pss_one (ps_ret pe_bl)) pss_nil) (pss_one (ps_ret (pe_cmpR (op_eqD hr.units) (pe_lc (own := [("_law_sign", 1)]) (by rfl) sc_lisname.nd (pi_str (pv 0)) (blkOk_by (own := [("_law_sign", 1)]) (N := ["_law_text", "_law_sign"]) (sc := defScope st_lisname) (by decide +kernel)) (fun _ _ _ _ _ => (pg_name (i := 1) sc_lisname.nd rfl (.inl rfl))) (fun _ _ _ _ _ => (pts_one (pt_cmpR op_notIn_sign (pv 1) pe_str (by rfl)))) (fun _ _ _ _ _ => (pv 1))) (pe_lst pa_nil) (nomark _))))), ?_⟩
    have hz' : z.length ≤ sizeLine := Nat.le_trans hz (by decide)
    refine ⟨_, rfl, rfl, _, rfl, ?_⟩
    by_cases h3 : z = Str.ofString "kind"
    · rw [show decide (V.str z = V.str (Str.ofString "kind")) = true by simp [h3]]
      refine iteT ?_
      have := q H (Same.refl H)
      rw [nmB_no (.inr h3)] at this
      exact this
    · rw [show decide (V.str z = V.str (Str.ofString "kind")) = false by simp [h3]]
      refine iteF ?_
      refine ⟨_, rfl, _, rfl, hz', _, _, rfl, rfl, _, rfl, ?_⟩
      by_cases h1 : (0 : Int) < (z.length : Int)
      · rw [decide_eq_true h1]
        refine iteT ⟨_, _, rfl, rfl, _, rfl, ?_⟩
        by_cases h2 : (z.length : Int) < 7
        · rw [decide_eq_true h2]
          refine iteF ?_
          rw [nmB_yes (by omega) (by omega) h3] at q
          refine ⟨_, rfl, z, rfl, fun D nD => ?_⟩
          refine lc_it walk_str (fun i H2 => Same H H2 ∧ H2 D = some (.lst ((((z.cps.toList.take i).filter fun c => !decide (c ∈ abc)).map fun c => S [c]).map V.str))) ⟨same_new nD, upd_same⟩ (fun _ _ _ _ => trivial) (fun i x H2 H3 hi hP hY => ?_) (fun H2 hP => ?_)
          · obtain ⟨rfl, c, hc, rfl⟩ := hY
            have hc' : z.cps.toList[i]? = some c := by simpa using hc
            have tk : z.cps.toList.take (i + 1) = z.cps.toList.take i ++ [c] := by
              rw [List.take_add_one, hc']
              rfl
            refine ⟨rfl, _, rfl, c, _, rfl, rfl, _, rfl, ?_⟩
            by_cases hm : c ∈ abc
            · rw [show decide (c ∈ (Str.ofString "abcdefghijklmnopqrstuvwxyz").cps.toList) = true from decide_eq_true hm]
              refine iteF ⟨hP.1, ?_⟩
              rw [hP.2, tk, List.filter_append]
              simp [hm]
            · rw [show decide (c ∈ (Str.ofString "abcdefghijklmnopqrstuvwxyz").cps.toList) = false from decide_eq_false hm]
              refine iteT ⟨_, rfl, _, hP.2, ?_, ?_, ?_⟩
              · rw [List.length_map, List.length_map]
                exact Nat.lt_of_le_of_lt (Nat.le_trans (List.length_filter_le _ _) (show _ ≤ 10000 by rw [List.length_take]; show min i z.length ≤ 10000; omega)) (by decide)
              · exact fun b o e => by
                  rw [upd_ne (ne_of_none e nD)]
                  exact hP.1 _ _ e
              · rw [upd_same, tk, List.filter_append]
                simp [hm, S]
          · obtain ⟨s2, e2⟩ := hP
            rw [show z.cps.size = z.cps.toList.length by simp, List.take_length] at e2
            refine ⟨s0, fun L hL => ?_⟩
            refine ⟨_, .list [], .lst (SqL.of (same_new hL _ _ e2)) (dpAll_strs _), .lst (SqL.of upd_same) .nil, shaped_list (flat_strs fun u hu => ?_), rfl, ?_⟩
            · obtain ⟨c, hc, rfl⟩ := List.mem_map.mp hu
              have hc2 := (List.mem_filter.mp hc).1
              rw [← S_eta z] at hok
              exact ok_S.mpr fun d hd => by
                rw [List.mem_singleton.mp hd]
                exact ok_S.mp hok c hc2
            have e3 : PyData.eqv (.list ((((z.cps.toList).filter fun c => !decide (c ∈ abc)).map fun c => S [c]).map PyData.str)) (.list []) = z.cps.toList.all fun c => decide (c ∈ abc) := by
              show PyData.eqvAll _ ([].map PyData.str) = _
              rw [eqv_strs]
              rw [Bool.eq_iff_iff, decide_eq_true_iff, List.map_eq_nil_iff, List.filter_eq_nil_iff, List.all_eq_true]
              simp
            rw [e3]
            exact q _ (s2.trans (same_new hL))
        · rw [decide_eq_false h2]
          refine iteT ?_
          have := q H (Same.refl H)
          rw [nmB_no (.inl (by omega))] at this
          exact this
      · rw [decide_eq_false h1]
        refine iteF ⟨_, rfl, iteT ?_⟩
        have := q H (Same.refl H)
        rw [nmB_no (.inl (by omega))] at this
        exact this
/-! ### _law_any_text -/
def odd : List Str := ["kind", "kinds", "kin", "Kind", "kindly", "", "a", "abcdef", "abcdefg", "a1", "a b", "aB", "_a", "a ", " a"].map Str.ofString
theorem odd_at {d : Int} (h0 : 0 ≤ d) (h1 : d < 15) : ∃ z : Str, atI (odd.map V.str) d = some (.str z) ∧ z.length ≤ 8 ∧ PyData.strOk z = true := by
  have k : ∀ z ∈ odd, z.length ≤ 8 ∧ PyData.strOk z = true := by decide +kernel
  have hd : d.toNat < odd.length := by
    show d.toNat < 15
    omega
  obtain ⟨l, o⟩ := k odd[d.toNat] (List.getElem_mem hd)
  exact ⟨odd[d.toNat], at_of (j := d.toNat) (by omega) (by rw [List.getElem?_map, List.getElem?_eq_getElem hd]; rfl), l, o⟩
def spText : Sp := fun vs H Q _ => ∃ a : Addr, vs = [.ref a] ∧ Drw H a ∧ ∀ (z : Str) (H' : Hp), z.length ≤ 8 → PyData.strOk z = true → Gr a H H' → Q (.str z) H'
theorem s15 : 15 ≤ sizeLine := by decide
def SG : Str := Str.ofString "abcdefghijklmnopqrstuvwxyzABCXYZ0189 !\"#$&'()*+,-./:;<=>?\x40[\\]^_`{|}~\n"
theorem SG_len : SG.length = 69 := by decide +kernel
theorem SG_small : ∀ c ∈ SG.cps.toList, c < 0x110000 := by decide +kernel
theorem ok_anytext (T : Tx P K mg) : FnOk P w K mg base CX0 2 T.f_anytext T.fd_anytext ["_law_box_here"] spText := by
  refine T.F_anytext.ok sc_anytext (fun vs H Q E h => ?_) (fun cdv A outer s H vs Q E hr h => ?_)
  · obtain ⟨a, rfl, _⟩ := h
    rfl
  · obtain ⟨a, rfl, dr, q⟩ := h
    refine ⟨_, (pss_cons (ps_set (i := 1) sc_anytext.nd rfl (.inl rfl) (pe_lst (pa_cons pe_str (pa_cons pe_str (pa_cons pe_str (pa_cons pe_str (pa_cons pe_str (pa_cons pe_str (pa_cons pe_str (pa_cons pe_str (pa_cons pe_str (pa_cons pe_str (pa_cons pe_str (pa_cons pe_str (pa_cons pe_str (pa_cons pe_str (pa_cons pe_str pa_nil))))))))))))))))) (pss_cons (ps_set (i := 2) sc_anytext.nd rfl (.inr rfl) pe_str) (pss_cons (ps_if (pt_cmpR op_eq (pe_call (ok_take T) (hr.mono (by decide) : Room 1 _) (by rfl) T.g_take T.F_take.kp T.b_take .nil pass0 (pa_cons (pv 0) (pa_cons pe_int pa_nil))) pe_int (nomark _)) (pss_one (ps_ret (pe_ix ix_list (pv 1) (pe_call (ok_take T) (hr.mono (by decide) : Room 1 _) (by rfl) T.g_take T.F_take.kp T.b_take .nil pass0 (pa_cons (pv 0) (pa_cons pe_int pa_nil))) (fun _ _ => rfl)))) pss_nil) (pss_cons (ps_set (i := 3) sc_anytext.nd rfl (.inr rfl) (pe_ix ix_list (pe_lst (pa_cons pe_int (pa_cons (pe_callB call_len_str (by rfl) T.m_len PySem.boot_len (pa_cons (pv 2) pa_nil)) pa_nil))) (pe_callTy call_int1 (by rfl) T.m_int (by decide +kernel) (pa_cons (pe_cmpR op_eq (pe_call (ok_take T) (hr.mono (by decide) : Room 1 _) (by rfl) T.g_take T.F_take.kp T.b_take .nil pass0 (pa_cons (pv 0) (pa_cons pe_int pa_nil))) pe_int (nomark _)) pa_nil)) (fun _ _ => rfl))) (pss_one (ps_ret (pe_join pe_str (pe_lc (own := [("_law_k", 4)]) (by rfl) sc_anytext.nd (pi_range1 (by rfl) T.m_range (pa_cons (pe_call (ok_take T) (hr.mono (by decide) : Room 1 _) (by rfl) T.g_take T.F_take.kp T.b_take .nil pass0 (pa_cons (pv 0) (pa_cons pe_int pa_nil))) pa_nil)) (blkOk_by (own := [("_law_k", 4)]) (N := ["_law_box_here", "_law_some", "_law_signs", "_law_many", "_law_k"]) (sc := defScope st_anytext) (by decide +kernel)) (fun _ _ _ _ _ => (pg_name (i := 4) sc_anytext.nd rfl (.inl rfl))) (fun _ _ _ _ _ => pts_nil) (fun _ _ _ _ _ => (pe_ix ix_str (pv 2) (pe_call (ok_take T) (hr.mono (by decide) : Room 1 _) (by rfl) T.g_take T.F_take.kp T.b_take .nil pass0 (pa_cons (pv 0) (pa_cons (pv 3) pa_nil))) (fun _ _ => rfl))))))))))), ?_⟩
    refine ⟨s15, fun L hL => ?_⟩
    have naL : a ≠ L := dr.ne hL
    refine ⟨_, rfl, a, 3, rfl, dr.mono (same_new hL), by decide, by decide +kernel, fun t3 H1 t30 t31 g1 => ?_⟩
    have G1 : Gr a H H1 := (Gr.of (same_new hL) dr).trans g1
    refine ⟨rfl, _, rfl, ite2 (fun c => ?_) (fun c => ?_)⟩
    · refine ⟨.ref L, rfl, _, rfl, a, 15, rfl, g1.2, by decide, by decide +kernel, fun d H2 d0 d1 g2 => ?_⟩
      obtain ⟨z, hz, lz, oz⟩ := odd_at d0 d1
      exact ⟨L, odd.map V.str, d, _, rfl, rfl, SqL.of (g2.1 _ _ naL.symm (g1.1 _ _ naL.symm upd_same)), hz, q z H2 lz oz (G1.trans g2)⟩
    · refine ⟨_, rfl, _, rfl, small_len (by show SG.length ≤ 1000; rw [SG_len]; decide), s2, fun L2 hL2 => ?_⟩
      refine ⟨_, rfl, a, 3, rfl, g1.2.mono (same_new hL2), by decide, by decide +kernel, fun t4 H2 t40 t41 g2 => ?_⟩
      refine ⟨rfl, .inr ⟨_, rfl, ?_⟩⟩
      have naL2 : a ≠ L2 := g1.2.ne hL2
      obtain ⟨many, hmany, m0, m1⟩ : ∃ many : Int, atI [V.int 26, V.int (SG.length : Int)] (if decide (V.int t4 = V.int 0) = true then 1 else 0) = some (.int many) ∧ 0 < many ∧ many ≤ 69 := by
        cases decide (V.int t4 = V.int 0)
        · exact ⟨26, rfl, by decide, by decide⟩
        · exact ⟨(SG.length : Int), rfl, by rw [SG_len]; decide, by rw [SG_len]; decide⟩
      refine ⟨L2, _, _, _, rfl, rfl, SqL.of (g2.1 _ _ naL2.symm upd_same), hmany, ?_⟩
      have G2 : Gr a H H2 := (G1.trans (Gr.of (same_new hL2) g1.2)).trans g2
      refine ⟨⟨_, rfl⟩, _, rfl, a, 9, rfl, g2.2, by decide, by decide +kernel, fun t9 H3 t90 t91 g3 => ?_⟩
      refine ⟨t9, rfl, by omega, by omega, fun D nD => ?_⟩
      refine lc_draw (a := a) nD g3.2 (by omega) (fun v => ∃ c : Nat, c < 0x110000 ∧ v = .str (S [c])) (fun i H4 hi g4 => ?_) (fun x σ H Q Q' f h => f _ _ h) (fun σ H Q Q' f h => f _ _ h) (fun σ H Q Q' f h => ?_) (fun H4 acc g4 e4 hl hP => ?_)
      · refine ⟨rfl, rfl, _, rfl, _, rfl, _, rfl, a, many, rfl, g4.2, m0, Nat.lt_of_le_of_lt (show many.natAbs ≤ 69 by omega) (by decide +kernel), fun d H5 d0 d1 g5 => ?_⟩
        have hd : d.toNat < SG.cps.toList.length := by
          show d.toNat < SG.cps.toList.length
          rw [show SG.cps.toList.length = SG.length by simp [Str.length], SG_len]
          omega
        exact ⟨SG, d, SG.cps.toList[d.toNat], rfl, rfl, small_len (by rw [SG_len]; decide), at_ofN (j := d.toNat) (by omega) (List.getElem?_eq_getElem hd), ⟨_, SG_small _ (List.getElem_mem hd), rfl⟩, g5⟩
      · obtain ⟨v1, e1, v2, e2, v3, e3', a', m', e3, dr', p1, p2, k⟩ := h
        refine ⟨v1, e1, v2, e2, v3, e3', a', m', e3, dr', p1, p2, fun d H3 d0 d1 g3 => ?_⟩
        obtain ⟨z, i, c, f1, f2, f3, f4, f5⟩ := k d H3 d0 d1 g3
        exact ⟨z, i, c, f1, f2, f3, f4, f _ _ f5⟩
      obtain ⟨cs, rfl, hcs⟩ := signs_of hP
      rw [List.length_map, List.length_map] at hl
      refine ⟨_, D, cs.map fun c => S [c], rfl, rfl, .inl (SqL.of e4), ?_, ?_⟩
      · rw [sum_len, List.length_map]
        show cs.length + cs.length * 0 ≤ 16777216
        omega
      rw [TL.join_eq, S_join]
      exact q _ _ (by rw [S_len]; omega) (ok_S.mpr hcs) ((G2.trans g3).trans g4)
end

/-! ### woods, as they stand in the heap -/
abbrev Nam := List Nat
abbrev Mk := Nam × List Nam
abbrev Wood := List (Nam × List Mk)
/-- tuples stand as they stood -/
def KT (H H' : Hp) : Prop := ∀ p xs, H p = some (.tup xs) → H' p = some (.tup xs)
theorem KT.of {H H' : Hp} (s : Same H H') : KT H H' := fun p xs e => s _ _ e
theorem KT.gr {a : Addr} {H H' : Hp} (d : Drw H a) (g : Gr a H H') : KT H H' := fun p xs e => g.1 _ _ (fun z => by
  obtain ⟨x, y, w, e'⟩ := d
  rw [z, e'] at e
  cases e) e
theorem KT.lst {H : Hp} {p : Addr} {xs ys : List V} (h : H p = some (.lst xs)) : KT H (upd H p (.lst ys)) := fun q zs e => by
  rw [upd_ne (ne_of e h (by intro z; cases z))]
  exact e
theorem KT.trans {H H1 H2 : Hp} (a : KT H H1) (b : KT H1 H2) : KT H H2 := fun p xs e => b _ _ (a _ _ e)
def MkAt (H : Hp) (v : V) (m : Mk) : Prop := ∃ p t, v = .ref p ∧ H p = some (.tup [.str (S m.1), .ref t]) ∧ H t = some (.tup (nmsV m.2))
theorem MkAt.mono {H H' : Hp} {v : V} {m : Mk} (k : KT H H') (h : MkAt H v m) : MkAt H' v m := by
  obtain ⟨p, t, e, h1, h2⟩ := h
  exact ⟨p, t, e, k _ _ h1, k _ _ h2⟩
abbrev MksAt (H : Hp) : List V → List Mk → Prop := Paired (MkAt H)
def KdAt (H : Hp) (v : V) (k : Nam × List Mk) : Prop := ∃ p t vs, v = .ref p ∧ H p = some (.tup [.str (S k.1), .ref t]) ∧ H t = some (.tup vs) ∧ MksAt H vs k.2
theorem KdAt.mono {H H' : Hp} {v : V} {m : Nam × List Mk} (k : KT H H') (h : KdAt H v m) : KdAt H' v m := by
  obtain ⟨p, t, vs, e, h1, h2, h3⟩ := h
  exact ⟨p, t, vs, e, k _ _ h1, k _ _ h2, Paired.mapP h3 fun _ _ z => z.mono k⟩
def WdAt (H : Hp) (p : Addr) (w : Wood) : Prop := ∃ vs, H p = some (.tup vs) ∧ Paired (KdAt H) vs w
theorem WdAt.mono {H H' : Hp} {p : Addr} {w : Wood} (k : KT H H') (h : WdAt H p w) : WdAt H' p w := by
  obtain ⟨vs, h1, h2⟩ := h
  exact ⟨vs, k _ _ h1, Paired.mapP h2 fun _ _ z => z.mono k⟩
/-- all makers, kind by kind -/
def mks (w : Wood) : List Mk := w.flatMap (·.2)
structure Good (w : Wood) : Prop where
  some : 1 ≤ w.length
  few : w.length ≤ 4
  kinds : (w.map (·.1)).Nodup
  kindN : ∀ k ∈ w.map (·.1), nmB (S k) = true
  makers : ((mks w).map (·.1)).Nodup
  makerN : ∀ m ∈ (mks w).map (·.1), nmB (S m) = true
  many : (mks w).length ≤ 12
  parts : ∀ m ∈ mks w, m.2.length ≤ 2 ∧ ∀ q ∈ m.2, q ∈ w.map (·.1)
theorem paired_snoc {α β : Type} {F : α → β → Prop} {x : α} {y : β} : ∀ {xs : List α} {ys : List β}, Paired F xs ys → F x y → Paired F (xs ++ [x]) (ys ++ [y])
  | _, _, .nil, h => .cons h .nil
  | _, _, .cons a b, h => .cons a (paired_snoc b h)
theorem paired_at {α β : Type} {F : α → β → Prop} : ∀ {xs : List α} {ys : List β}, Paired F xs ys → ∀ {i : Nat} {x : α}, xs[i]? = some x → ∃ y, ys[i]? = some y ∧ F x y
  | _, _, .nil, i, x, h => by simp at h
  | _, _, .cons r t, 0, x, h => by
    cases Option.some.inj h
    exact ⟨_, rfl, r⟩
  | _, _, .cons r t, i + 1, x, h => paired_at t h
theorem paired_at2 {α β : Type} {F : α → β → Prop} : ∀ {xs : List α} {ys : List β}, Paired F xs ys → ∀ {i : Nat} {y : β}, ys[i]? = some y → ∃ x, xs[i]? = some x ∧ F x y
  | _, _, .nil, i, x, h => by simp at h
  | _, _, .cons r t, 0, x, h => by
    cases Option.some.inj h
    exact ⟨_, rfl, r⟩
  | _, _, .cons r t, i + 1, x, h => paired_at2 t h
/-- one more at the k-th row -/
theorem perm_set {α : Type} {x : α} : ∀ {ws : List (List α)} {k : Nat} {w : List α}, ws[k]? = some w → ((ws.set k (w ++ [x])).flatten).Perm (ws.flatten ++ [x])
  | [], k, w, h => by simp at h
  | u :: r, 0, w, h => by
    cases Option.some.inj h
    show (u ++ [x] ++ r.flatten).Perm (u ++ r.flatten ++ [x])
    rw [List.append_assoc, List.append_assoc]
    exact List.Perm.append_left u List.perm_append_comm
  | u :: r, k + 1, w, h => by
    show (u ++ (r.set k (w ++ [x])).flatten).Perm (u ++ r.flatten ++ [x])
    rw [List.append_assoc]
    exact List.Perm.append_left u (perm_set h)
/-- the makers' rows: the lists rs, distinct, each with its makers -/
def RowsAt (H : Hp) (rs : List Addr) (ws : List (List Mk)) : Prop := rs.length = ws.length ∧ rs.Nodup ∧ ∀ (k : Nat) (r : Addr) (w : List Mk), rs[k]? = some r → ws[k]? = some w → ∃ vs, H r = some (.lst vs) ∧ MksAt H vs w
theorem RowsAt.mono {H H' : Hp} {rs : List Addr} {ws : List (List Mk)} (k : KT H H') (s : ∀ r ∈ rs, ∀ vs, H r = some (.lst vs) → H' r = some (.lst vs)) (h : RowsAt H rs ws) : RowsAt H' rs ws := ⟨h.1, h.2.1, fun i r w e1 e2 => by
  obtain ⟨vs, a, b⟩ := h.2.2 i r w e1 e2
  exact ⟨vs, s r (List.mem_of_getElem? e1) vs a, Paired.mapP b fun _ _ z => z.mono k⟩⟩
theorem RowsAt.add {H : Hp} {rs : List Addr} {ws : List (List Mk)} {k : Nat} {r : Addr} {w : List Mk} {vs : List V} {v : V} {m : Mk} (h : RowsAt H rs ws) (er : rs[k]? = some r) (ew : ws[k]? = some w) (eH : H r = some (.lst vs)) (hv : MksAt H vs w) (hm : MkAt H v m) :
    RowsAt (upd H r (.lst (vs ++ [v]))) rs (ws.set k (w ++ [m])) := by
  have kt : KT H (upd H r (.lst (vs ++ [v]))) := KT.lst eH
  refine ⟨by rw [List.length_set]; exact h.1, h.2.1, fun j r' w' e1 e2 => ?_⟩
  by_cases hj : j = k
  · subst hj
    rw [er] at e1
    cases Option.some.inj e1
    have hlt : j < ws.length := (List.getElem?_eq_some_iff.mp ew).1
    rw [List.getElem?_set_self hlt] at e2
    cases Option.some.inj e2
    exact ⟨_, upd_same, paired_snoc (Paired.mapP hv fun _ _ z => z.mono kt) (hm.mono kt)⟩
  · rw [List.getElem?_set_ne (Ne.symm hj)] at e2
    obtain ⟨vs', a, b⟩ := h.2.2 j r' w' e1 e2
    have nr : r' ≠ r := fun z => by
      subst z
      exact hj (nd_ix h.2.1 e1 er)
    exact ⟨vs', by rw [upd_ne nr]; exact a, Paired.mapP b fun _ _ z => z.mono kt⟩
section
variable {P : Program} {w : World} {K : PySem.W.Frag} {mg : Str → Option Value} {base : Heap}
/-! ### _law_wood -/
def spWood : Sp := fun vs H Q _ => ∃ (a : Addr) (most : Int), vs = [.ref a, .int most] ∧ Drw H a ∧ 0 < most ∧ most ≤ 12 ∧
  ∀ (p : Addr) (H' : Hp) (wd : Wood), Gr a H H' → WdAt H' p wd → Good wd → Q (.ref p) H'
theorem ixk {d : Int} (h0 : 0 ≤ d) (h1 : d < 6) : ∃ v : Int, atI [V.int 0, V.int 0, V.int 1, V.int 1, V.int 2, V.int 3] d = some (.int v) ∧ 0 ≤ v ∧ v ≤ 3 := by
  have : d = 0 ∨ d = 1 ∨ d = 2 ∨ d = 3 ∨ d = 4 ∨ d = 5 := by omega
  rcases this with rfl | rfl | rfl | rfl | rfl | rfl
  all_goals exact ⟨_, rfl, by decide, by decide⟩
theorem ixp {d : Int} (h0 : 0 ≤ d) (h1 : d < 6) : ∃ v : Int, atI [V.int 0, V.int 0, V.int 1, V.int 1, V.int 2, V.int 2] d = some (.int v) ∧ 0 ≤ v ∧ v ≤ 2 := by
  have : d = 0 ∨ d = 1 ∨ d = 2 ∨ d = 3 ∨ d = 4 ∨ d = 5 := by omega
  rcases this with rfl | rfl | rfl | rfl | rfl | rfl
  all_goals exact ⟨_, rfl, by decide, by decide⟩
theorem s6 : 6 ≤ sizeLine := by decide
theorem nms_at {ns : List Nam} {d : Int} (h0 : 0 ≤ d) (h1 : d < ns.length) : ∃ n ∈ ns, atI (nmsV ns) d = some (.str (S n)) := by
  have l : d.toNat < ns.length := by omega
  refine ⟨ns[d.toNat], List.getElem_mem l, at_of (j := d.toNat) (by omega) ?_⟩
  unfold nmsV
  rw [List.getElem?_map, List.getElem?_eq_getElem l]
  rfl
theorem nms_of {acc : List V} {C : Nam → Prop} (h : ∀ v ∈ acc, ∃ q, C q ∧ v = .str (S q)) : ∃ qs : List Nam, acc = nmsV qs ∧ ∀ q ∈ qs, C q := by
  induction acc with
  | nil => exact ⟨[], rfl, fun _ h => nomatch h⟩
  | cons v r ih =>
    obtain ⟨c, hc, rfl⟩ := h v List.mem_cons_self
    obtain ⟨cs, rfl, hcs⟩ := ih fun u hu => h u (List.mem_cons_of_mem _ hu)
    exact ⟨c :: cs, rfl, fun d hd => by
      rcases List.mem_cons.mp hd with rfl | hd
      · exact hc
      · exact hcs d hd⟩
/-- new there where a draw went on: new before -/
theorem Gr.back {a p : Addr} {H H' : Hp} (d : Drw H' a) (g : Gr a H H') (n : H' p = none) : H p = none := by
  cases e : H p with
  | none => rfl
  | some o =>
    rw [g.1 p o (d.ne n).symm e] at n
    cases n
/-- n new lists -/
theorem lc_news {n : Nat} {lo : Int} {j : Nat} {vs : List Nat} {σ : L2.St} {H1 : Hp} {D : Addr} {Qd : Hp → Prop} (nD : H1 D = none) (hn : n ≤ 10000) (hw : ∀ v : V, wipe ((wipe σ vs).set j (some v)) vs = wipe σ vs)
    (hd : ∀ (H : Hp) (rs : List Addr), rs.length = n → rs.Nodup → (∀ r ∈ rs, H1 r = none ∧ r ≠ D ∧ H r = some (.lst [])) → Same H1 H → H D = some (.lst (rs.map V.ref)) → Qd H) :
    ∃ W : Nat → Nat → Hp → Prop, (∃ m, W 0 m (upd H1 D (.lst []))) ∧ ∀ i m H, W i m H →
      ((Itr lo n).stop i H ∧ Qd H) ∨ ((Itr lo n).go i H ∧ ∃ Nx : Hp → Prop, (∀ H', Nx H' → ∃ m', m' < m ∧ W (i + 1) m' H') ∧ ∀ x H', (Itr lo n).yld i H x H' → (gName j) x (wipe σ vs) H' fun σ2 H2 => wipe σ2 vs = wipe σ vs ∧ tYes σ2 H2 fun b H3 =>
        if b = true then tLst tNil σ2 H3 fun y H4 => ∃ acc, H4 D = some (.lst acc) ∧ acc.length < sizeLine ∧ Nx (upd H4 D (.lst (acc ++ [y]))) else Nx H3) := by
  refine lc_range (lo := lo) (n := n) (fun i H => Same H1 H ∧ ∃ rs : List Addr, rs.length = i ∧ rs.Nodup ∧ (∀ r ∈ rs, H1 r = none ∧ r ≠ D ∧ H r = some (.lst [])) ∧ H D = some (.lst (rs.map V.ref))) ⟨same_new nD, [], rfl, List.Pairwise.nil, (fun _ h => nomatch h), upd_same⟩ (fun i H hi p => ?_) (fun H p => ?_)
  · obtain ⟨s1, rs, hl, hnd, hr, eD⟩ := p
    refine ⟨hw _, ?_⟩
    unfold tYes
    refine iteT ?_
    refine ⟨s0, fun r nr => ⟨rs.map V.ref, ?_, ?_, ?_, rs ++ [r], by rw [List.length_append, hl]; rfl, ?_, ?_, ?_⟩⟩
    · rw [upd_ne (ne_of_none eD nr)]
      exact eD
    · rw [List.length_map]
      exact Nat.lt_of_le_of_lt (show rs.length ≤ 10000 by omega) (by decide)
    · exact fun b o e => by
        rw [upd_ne (ne_of_none e nD), upd_ne (ne_of_none (s1 _ _ e) nr)]
        exact s1 _ _ e
    · refine List.nodup_append.mpr ⟨hnd, List.pairwise_singleton _ _, fun x hx y hy => ?_⟩
      rw [List.mem_singleton.mp hy]
      exact ne_of_none (hr x hx).2.2 nr
    · intro x hx
      rcases List.mem_append.mp hx with hx | hx
      · obtain ⟨x1, x2, x3⟩ := hr x hx
        refine ⟨x1, x2, ?_⟩
        rw [upd_ne x2, upd_ne (ne_of_none x3 nr)]
        exact x3
      · rw [List.mem_singleton.mp hx]
        have : r ≠ D := (ne_of_none eD nr).symm
        exact ⟨Same.free s1 nr, this, by rw [upd_ne this]; exact upd_same⟩
    · rw [upd_same, List.map_append]
      rfl
  · obtain ⟨s1, rs, hl, hnd, hr, eD⟩ := p
    exact hd H rs hl hnd hr s1 eD
theorem ok_wood (T : Tx P K mg) : FnOk P w K mg base CX0 3 T.f_wood T.fd_wood ["_law_box_here", "_law_most"] spWood := by
  refine T.F_wood.ok sc_wood (fun vs H Q E h => ?_) (fun cdv A outer s H vs Q E hr h => ?_)
  · obtain ⟨a, m, rfl, _⟩ := h
    rfl
  · obtain ⟨a, most, rfl, dr, hm0, hm1, q⟩ := h
    refine ⟨_, (pss_cons (ps_asg (pe_tup (pa_cons (pe_call (ok_take T) (hr.mono (by decide) : Room 1 _) (by rfl) T.g_take T.F_take.kp T.b_take .nil pass0 (pa_cons (pv 0) (pa_cons pe_int pa_nil))) (pa_cons (pe_op op_add pe_int (pe_ix ix_list (pe_lst (pa_cons pe_int (pa_cons pe_int (pa_cons pe_int (pa_cons pe_int (pa_cons pe_int (pa_cons pe_int pa_nil))))))) (pe_call (ok_take T) (hr.mono (by decide) : Room 1 _) (by rfl) T.g_take T.F_take.kp T.b_take .nil pass0 (pa_cons (pv 0) (pa_cons pe_int pa_nil))) (fun _ _ => rfl))) pa_nil))) (pg_tup rfl (pgs_cons (pg_name (i := 2) sc_wood.nd rfl (.inl rfl)) (pgs_cons (pg_name (i := 3) sc_wood.nd rfl (.inr rfl)) pgs_nil)))) (pss_cons (ps_asg (pe_tup (pa_cons (pe_call (ok_names T) (hr.mono (by decide) : Room 2 _) (by rfl) T.g_names T.F_names.kp T.b_names .nil pass0 (pa_cons (pv 0) (pa_cons (pv 3) pa_nil))) (pa_cons (pe_call (ok_names T) (hr.mono (by decide) : Room 2 _) (by rfl) T.g_names T.F_names.kp T.b_names .nil pass0 (pa_cons (pv 0) (pa_cons (pe_op op_add pe_int (pe_call (ok_take T) (hr.mono (by decide) : Room 1 _) (by rfl) T.g_take T.F_take.kp T.b_take .nil pass0 (pa_cons (pv 0) (pa_cons (pv 1) pa_nil)))) pa_nil))) pa_nil))) (pg_tup rfl (pgs_cons (pg_name (i := 4) sc_wood.nd rfl (.inr rfl)) (pgs_cons (pg_name (i := 5) sc_wood.nd rfl (.inl rfl)) pgs_nil)))) (pss_cons (ps_setLc (i := 7) (own := [("_law_k", 6)]) (by rfl) sc_wood.nd rfl rfl (sw_true rfl rfl rfl (by decide +kernel)) (pi_range1 (by rfl) T.m_range (pa_cons (pv 3) pa_nil)) (blkOk_by (own := [("_law_k", 6)]) (N := ["_law_box_here", "_law_most", "_law_plain", "_law_many", "_law_kinds", "_law_names_here", "_law_k", "_law_rows", "_law_name", "_law_kind", "_law_wide", "_law_parts", "_law_row", "_law_j"]) (sc := defScope st_wood) (by decide +kernel)) (fun _ _ _ _ _ => (pg_name (i := 6) sc_wood.nd rfl (.inl rfl))) (fun _ _ _ _ _ => pts_nil) (fun _ _ _ _ _ => (pe_lst pa_nil))) (pss_cons (ps_for PassesOwn.never rfl (pi_enum (by rfl) T.m_enumerate (pa_cons (pv 5) pa_nil)) (pg_tup rfl (pgs_cons (pg_name (i := 6) sc_wood.nd rfl (.inl rfl)) (pgs_cons (pg_name (i := 8) sc_wood.nd rfl (.inl rfl)) pgs_nil))) (pss_cons (ps_par (i := 9) (j := 10) (by rfl) sc_wood.nd rfl rfl (by decide) rfl rfl (pa_cons (pe_call (ok_take T) (hr.mono (by decide) : Room 1 _) (by rfl) T.g_take T.F_take.kp T.b_take .nil pass0 (pa_cons (pv 0) (pa_cons (pv 3) pa_nil))) (pa_cons (pe_ix ix_list (pe_lst (pa_cons pe_int (pa_cons pe_int (pa_cons pe_int (pa_cons pe_int (pa_cons pe_int (pa_cons pe_int pa_nil))))))) (pe_call (ok_take T) (hr.mono (by decide) : Room 1 _) (by rfl) T.g_take T.F_take.kp T.b_take .nil pass0 (pa_cons (pv 0) (pa_cons pe_int pa_nil))) (fun _ _ => rfl)) pa_nil)) (by rfl)) (pss_cons (ps_set (i := 11) sc_wood.nd rfl (.inl rfl) (pe_callTy call_tuple_of (by rfl) T.m_tuple (by decide +kernel) (pa_cons (pe_lc (own := [("_law_j", 13)]) (by rfl) sc_wood.nd (pi_range1 (by rfl) T.m_range (pa_cons (pv 10) pa_nil)) (blkOk_by (own := [("_law_j", 13)]) (N := ["_law_box_here", "_law_most", "_law_plain", "_law_many", "_law_kinds", "_law_names_here", "_law_k", "_law_rows", "_law_name", "_law_kind", "_law_wide", "_law_parts", "_law_row", "_law_j"]) (sc := defScope st_wood) (by decide +kernel)) (fun _ _ _ _ _ => (pg_name (i := 13) sc_wood.nd rfl (.inl rfl))) (fun _ _ _ _ _ => pts_nil) (fun _ _ _ _ _ => (pe_ix (KX.ix_listK K) (pv 4) (pe_call (ok_take T) (hr.mono (by decide) : Room 1 _) (by rfl) T.g_take T.F_take.kp T.b_take .nil pass0 (pa_cons (pv 0) (pa_cons (pv 3) pa_nil))) (fun _ _ => rfl)))) pa_nil))) (C8.pss_cut (ps_if (PW.pt (pw_and (pt_cmpR op_gt (pv 2) pe_int (nomark _)) (pw_and1 (pt_cmpR op_lt (pv 6) (pv 3) (nomark _))))) (pss_one (ps_par (i := 9) (j := 11) (by rfl) sc_wood.nd rfl rfl (by decide) rfl rfl (pa_cons (pv 6) (pa_cons (pe_tup pa_nil) pa_nil)) (by rfl))) pss_nil) (pss_one (ps_expr (pe_bm PySem.F.plainAttrs_list PySem.F.slot_list_append PySem.F.type_list_append mt_append (pe_ix ix_list (pv 7) (pv 9) (fun _ _ => rfl)) (pa_cons (pe_tup (pa_cons (pv 8) (pa_cons (pv 11) pa_nil))) pa_nil)))))))) (pss_one (ps_ret (pe_callTy call_tuple_of (by rfl) T.m_tuple (by decide +kernel) (pa_cons (pe_lc (own := [("_law_kind", 9), ("_law_row", 12)]) (by rfl) sc_wood.nd (pi_zip (by rfl) T.m_zip (pa_cons (pv 4) (pa_cons (pv 7) pa_nil))) (blkOk_by (own := [("_law_kind", 9), ("_law_row", 12)]) (N := ["_law_box_here", "_law_most", "_law_plain", "_law_many", "_law_kinds", "_law_names_here", "_law_k", "_law_rows", "_law_name", "_law_kind", "_law_wide", "_law_parts", "_law_row", "_law_j"]) (sc := defScope st_wood) (by decide +kernel)) (fun _ _ _ _ _ => (KX.pg_tupK K (n := 2) rfl (pgs_cons (pg_name (i := 9) sc_wood.nd rfl (.inl rfl)) (pgs_cons (pg_name (i := 12) sc_wood.nd rfl (.inl rfl)) pgs_nil)))) (fun _ _ _ _ _ => pts_nil) (fun _ _ _ _ _ => (pe_tup (pa_cons (pv 9) (pa_cons (pe_callTy (KX.call_tuple_K K) (by rfl) T.m_tuple (by decide +kernel) (pa_cons (pv 12) pa_nil)) pa_nil))))) pa_nil)))))))), ?_⟩
    -- plain, many
    refine ⟨_, rfl, a, 5, rfl, dr, by decide, by decide +kernel, fun pl H1 pl0 pl1 g1 => ?_⟩
    refine ⟨s6, fun L1 nL1 => ?_⟩
    refine ⟨_, rfl, a, 6, rfl, g1.2.mono (same_new nL1), by decide, by decide +kernel, fun d6 H2 d60 d61 g2 => ?_⟩
    obtain ⟨mv, hmv, mv0, mv1⟩ := ixk d60 d61
    have nL1a : L1 ≠ a := (g1.2.ne nL1).symm
    refine ⟨L1, _, _, _, rfl, rfl, SqL.of (g2.1 _ _ nL1a upd_same), hmv, _, _, rfl, rfl, s2, fun t1 nt1 => ?_⟩
    have G2 : Gr a H H2 := (g1.trans (Gr.of (same_new nL1) g1.2)).trans g2
    refine ⟨t1, _, rfl, .inl (.inl upd_same), rfl, _, _, rfl, _, _, rfl, rfl, ?_⟩
    have G3 : Gr a H (upd H2 t1 (.tup [.int pl, .int (1 + mv)])) := G2.trans (Gr.of (same_new nt1) g2.2)
    generalize upd H2 t1 (.tup [.int pl, .int (1 + mv)]) = H3 at G3
    -- kinds, names
    refine ⟨_, rfl, _, rfl, a, 1 + mv, rfl, G3.2, by omega, by omega, fun kd H4 kns nkd g4 ekd klen knd knm => ?_⟩
    refine ⟨_, rfl, _, rfl, _, rfl, a, most, rfl, g4.2, hm0, Nat.lt_of_le_of_lt (show most.natAbs ≤ 12 by omega) (by decide +kernel), fun sv H5 sv0 sv1 g5 => ?_⟩
    refine ⟨_, _, rfl, rfl, a, 1 + sv, rfl, g5.2, by omega, by omega, fun nh H7 nns nnh g7 enh7 nlen nnd nnm => ?_⟩
    refine ⟨s2, fun t2 nt2 => ?_⟩
    refine ⟨t2, _, rfl, .inl (.inl upd_same), rfl, _, _, rfl, _, _, rfl, rfl, ?_⟩
    have nka : kd ≠ a := fun z => by
      obtain ⟨x, y, u, e⟩ := G3.2
      rw [z, e] at nkd
      cases nkd
    have nha : nh ≠ a := fun z => by
      obtain ⟨x, y, u, e⟩ := g5.2
      rw [z, e] at nnh
      cases nnh
    have G7 : Gr a H H7 := ((G3.trans g4).trans g5).trans g7
    have s78 : Same H7 (upd H7 t2 (.tup [.ref kd, .ref nh])) := same_new nt2
    have G8 : Gr a H (upd H7 t2 (.tup [.ref kd, .ref nh])) := G7.trans (Gr.of s78 g7.2)
    have ekd8 : upd H7 t2 (.tup [.ref kd, .ref nh]) kd = some (.lst (nmsV kns)) := s78 _ _ (g7.1 _ _ nka (g5.1 _ _ nka ekd))
    have enh : upd H7 t2 (.tup [.ref kd, .ref nh]) nh = some (.lst (nmsV nns)) := s78 _ _ enh7
    have g8 : Drw (upd H7 t2 (.tup [.ref kd, .ref nh])) a := G8.2
    generalize upd H7 t2 (.tup [.ref kd, .ref nh]) = H8 at G8 ekd8 enh g8
    -- the rows
    refine ⟨_, rfl, 1 + mv, rfl, by omega, by omega, fun R nR => ?_⟩
    refine lc_news nR (by omega) (fun v => rfl) (fun H9 rs rlen rnd rnew s9 eR => ?_)
    have G9 : Gr a H H9 := G8.trans (Gr.of s9 g8)
    have nRH : H R = none := G8.back G8.2 nR
    have nRa : R ≠ a := fun z => by
      obtain ⟨x, y, u, e⟩ := G8.2
      rw [z, e] at nR
      cases nR
    have rH : ∀ r ∈ rs, H r = none ∧ r ≠ a ∧ r ≠ R ∧ r ≠ kd ∧ r ≠ nh := fun r hr => by
      obtain ⟨x1, x2, x3⟩ := rnew r hr
      refine ⟨G8.back G8.2 x1, (G8.2.ne x1).symm, x2, (ne_of_none ekd8 x1).symm, (ne_of_none enh x1).symm⟩
    -- the makers
    refine ⟨_, rfl, nh, nmsV nns, rfl, SqL.of (s9 _ _ enh), for_it (walk_enum (xs := nmsV nns)) (fun i σ H' => ∃ (y7 y9 y10 y11 y12 : Option V) (ws : List (List Mk)), σ = [some (.ref a), some (.int most), some (.int pl), some (.int (1 + mv)), some (.ref kd), some (.ref nh), y7, some (.ref R), y9, y10, y11, y12, none, none] ∧
        Gr a H H' ∧ H' kd = some (.lst (nmsV kns)) ∧ H' nh = some (.lst (nmsV nns)) ∧ H' R = some (.lst (rs.map V.ref)) ∧ RowsAt H' rs ws ∧ (ws.flatten.map (·.1)).Perm (nns.take i) ∧ ∀ m ∈ ws.flatten, m.2.length ≤ 2 ∧ ∀ q ∈ m.2, q ∈ kns)
      ⟨none, none, none, none, none, List.replicate (1 + mv).toNat [], rfl, G9, s9 _ _ ekd8, s9 _ _ enh, eR, ⟨?_, rnd, fun k r w e1 e2 => ?_⟩, ?_, ?_⟩ (fun i σ H' hi p => ?_) (fun i x σ H' H'' hi p y => ?_) (fun σ H' p => ?_)⟩
    · rw [List.length_replicate]
      exact rlen
    · have hr := List.mem_of_getElem? e1
      rw [List.getElem?_replicate] at e2
      split at e2
      · cases Option.some.inj e2
        exact ⟨[], (rnew r hr).2.2, .nil⟩
      · cases e2
    · rw [List.flatten_replicate_nil, List.take_zero]
      exact List.Perm.nil
    · intro m hm
      rw [List.flatten_replicate_nil] at hm
      cases hm
    · obtain ⟨_, _, _, _, _, _, _, _, _, e, _⟩ := p
      exact SqL.of e
    · obtain ⟨y7, y9, y10, y11, y12, ws, rfl, gr, ekd', enh', eR', rows, hper, hpt⟩ := p
      obtain ⟨Tt, xi, xn, rfl, nTt, rfl, exi, exn⟩ := y
      cases Option.some.inj exi
      have hi' : i < nns.length := by
        unfold nmsV at hi
        rw [List.length_map] at hi
        exact hi
      have exn' : xn = .str (S nns[i]) := by
        unfold nmsV at exn
        dsimp only at exn
        rw [List.getElem?_map, List.getElem?_eq_getElem hi'] at exn
        exact (Option.some.inj exn).symm
      subst exn'
      refine ⟨Tt, _, rfl, .inl (.inl upd_same), rfl, _, _, rfl, _, _, rfl, rfl, ?_⟩
      have gT : Gr a H (upd H' Tt (.tup [.int (i : Nat), .str (S nns[i])])) := gr.trans (Gr.of (same_new nTt) gr.2)
      have sT : Same H' (upd H' Tt (.tup [.int (i : Nat), .str (S nns[i])])) := same_new nTt
      generalize upd H' Tt (.tup [.int (i : Nat), .str (S nns[i])]) = Ha at gT sT
      -- kind, wide
      refine ⟨_, rfl, _, rfl, a, 1 + mv, rfl, gT.2, by omega, Nat.lt_of_le_of_lt (show (1 + mv).natAbs ≤ 12 by omega) (by decide +kernel), fun ki Hb ki0 ki1 gb => ?_⟩
      refine ⟨s6, fun L2' nL2 => ?_⟩
      refine ⟨_, rfl, a, 6, rfl, gb.2.mono (same_new nL2), by decide, by decide +kernel, fun d7 Hc d70 d71 gc => ?_⟩
      obtain ⟨wv, hwv, wv0, wv1⟩ := ixp d70 d71
      have nL2a : L2' ≠ a := (gb.2.ne nL2).symm
      refine ⟨L2', _, _, _, rfl, rfl, SqL.of (gc.1 _ _ nL2a upd_same), hwv, _, _, rfl, ?_⟩
      have GC : Gr a Ha Hc := (gb.trans (Gr.of (same_new nL2) gb.2)).trans gc
      have ekdC : Hc kd = some (.lst (nmsV kns)) := GC.1 _ _ nka (sT _ _ ekd')
      -- parts
      refine ⟨_, rfl, wv, rfl, by omega, by omega, fun D nD => ?_⟩
      refine lc_draw (a := a) nD GC.2 (by omega) (fun v => ∃ q, q ∈ kns ∧ v = .str (S q)) (fun j Hj hj gj => ?_) (fun x σ H Q Q' f h => f _ _ h) (fun σ H Q Q' f h => f _ _ h) (fun σ H Q Q' f h => ?_) (fun Hd acc gd eD hl hP => ?_)
      · obtain ⟨x0, y0, z0, e0⟩ := gj.2
        refine ⟨rfl, rfl, _, rfl, _, rfl, _, rfl, a, 1 + mv, rfl, gj.2, by omega, Nat.lt_of_le_of_lt (show (1 + mv).natAbs ≤ 12 by omega) (by decide +kernel), fun d Hk d0 d1 gk => ?_⟩
        obtain ⟨n, hn, en⟩ := nms_at (ns := kns) d0 (by omega)
        exact ⟨kd, _, d, _, rfl, rfl, SqL.of (gk.1 _ _ nka (gj.1 _ _ nka ekdC)), en, ⟨n, hn, rfl⟩, gk⟩
      · obtain ⟨v0, e0, v1, e1, v2, e2, a', m', e3, dr', p1, p2, k⟩ := h
        refine ⟨v0, e0, v1, e1, v2, e2, a', m', e3, dr', p1, p2, fun d H3 d0 d1 g3 => ?_⟩
        obtain ⟨z, i, c, v, f1, f2, f3, f4, f5⟩ := k d H3 d0 d1 g3
        exact ⟨z, i, c, v, f1, f2, f3, f4, f _ _ f5⟩
      obtain ⟨qs, rfl, hqs⟩ := nms_of hP
      have hql : qs.length ≤ 2 := by
        unfold nmsV at hl
        rw [List.length_map] at hl
        omega
      refine ⟨D, _, rfl, .inl ⟨SqL.of eD, fun tp ntp => ?_⟩⟩
      have GE : Gr a H' (upd Hd tp (.tup (nmsV qs))) := ((Gr.of sT gr.2).trans (GC.trans gd)).trans (Gr.of (same_new ntp) gd.2)
      have etp : upd Hd tp (.tup (nmsV qs)) tp = some (.tup (nmsV qs)) := upd_same
      generalize upd Hd tp (.tup (nmsV qs)) = He at GE etp
      obtain ⟨M, hM⟩ : ∃ M : L2.St → Hp → Prop, M = fun σ Hx => ∃ (ki' : Int) (tp' : Addr) (qs' : List Nam), σ = [some (.ref a), some (.int most), some (.int pl), some (.int (1 + mv)), some (.ref kd), some (.ref nh), some (.int (i : Nat)), some (.ref R), some (.str (S nns[i])), some (.int ki'), some (.int wv), some (.ref tp'), none, none] ∧ 0 ≤ ki' ∧ ki' < 1 + mv ∧ Hx tp' = some (.tup (nmsV qs')) ∧ qs'.length ≤ 2 ∧ (∀ q ∈ qs', q ∈ kns) ∧ Gr a H' Hx := ⟨_, rfl⟩
      refine ⟨M, ?_, fun σ1 Hx h1 => ?_⟩
      · refine ⟨_, rfl, _, _, rfl, rfl, _, rfl, ite2 (fun c => ?_) (fun c => ?_)⟩
        · refine ⟨_, rfl, _, rfl, _, _, rfl, rfl, _, rfl, ite2 (fun c => ?_) (fun c => ?_)⟩
          · refine ⟨_, rfl, s0, fun t0 nt0 => ⟨_, _, rfl, ?_⟩⟩
            show M _ _
            rw [hM]
            exact ⟨_, t0, [], rfl, by omega, of_decide_eq_true c, upd_same, by decide, (fun _ h => nomatch h), GE.trans (Gr.of (same_new nt0) GE.2)⟩
          · show M _ _
            rw [hM]
            exact ⟨ki, tp, qs, rfl, ki0, ki1, etp, hql, hqs, GE⟩
        · show M _ _
          rw [hM]
          exact ⟨ki, tp, qs, rfl, ki0, ki1, etp, hql, hqs, GE⟩
      rw [hM] at h1
      obtain ⟨k1, tp1, qs1, rfl, k10, k11, etp1, hql1, hqs1, gx⟩ := h1
      clear hM M
      have eRx : Hx R = some (.lst (rs.map V.ref)) := gx.1 _ _ nRa eR'
      have hk1 : k1.toNat < rs.length := by omega
      have eat : atI (rs.map V.ref) k1 = some (.ref rs[k1.toNat]) := at_of (j := k1.toNat) (by omega) (by rw [List.getElem?_map, List.getElem?_eq_getElem hk1]; rfl)
      have hrm : rs[k1.toNat] ∈ rs := List.getElem_mem hk1
      obtain ⟨r1, r2, r3, r4, r5⟩ := rH _ hrm
      have ktx : KT H' Hx := KT.gr gr.2 gx
      have rowsx : RowsAt Hx rs ws := rows.mono ktx fun r hr vs e => gx.1 _ _ (rH r hr).2.1 e
      have hkw : k1.toNat < ws.length := by rw [← rows.1]; exact hk1
      obtain ⟨vs, evs, hvs⟩ := rowsx.2.2 k1.toNat rs[k1.toNat] ws[k1.toNat] (List.getElem?_eq_getElem hk1) (List.getElem?_eq_getElem hkw)
      refine ⟨_, rfl, _, rfl, R, _, k1, _, rfl, rfl, SqL.of eRx, eat, .inl ⟨rfl, _, SqL.of evs⟩, ?_⟩
      refine ⟨_, rfl, _, rfl, s2, fun tm ntm => ?_⟩
      have sM : Same Hx (upd Hx tm (.tup [.str (S nns[i]), .ref tp1])) := same_new ntm
      have em : upd Hx tm (.tup [.str (S nns[i]), .ref tp1]) tm = some (.tup [.str (S nns[i]), .ref tp1]) := upd_same
      generalize upd Hx tm (.tup [.str (S nns[i]), .ref tp1]) = Hm at sM em
      have hfl : ws.flatten.length = i := by
        have := hper.length_eq
        rw [List.length_map, List.length_take] at this
        omega
      have ewk : ws[k1.toNat]? = some ws[k1.toNat] := List.getElem?_eq_getElem hkw
      have hvl : vs.length ≤ 12 := by
        rw [hvs.length]
        have : (ws[k1.toNat]).length ≤ ws.flatten.length := (List.sublist_flatten_of_mem (List.getElem_mem hkw)).length_le
        omega
      refine ⟨rs[k1.toNat], _, _, rfl, rfl, sM _ _ evs, Nat.lt_of_le_of_lt hvl (by decide), ?_⟩
      have rowsm : RowsAt Hm rs ws := rowsx.mono (KT.of sM) fun r hr vs e => sM _ _ e
      have hmk : MkAt Hm (.ref tm) (nns[i], qs1) := ⟨tm, tp1, rfl, em, sM _ _ etp1⟩
      refine ⟨_, _, _, _, _, ws.set k1.toNat (ws[k1.toNat] ++ [(nns[i], qs1)]), rfl, ?_, ?_, ?_, ?_, rowsm.add (List.getElem?_eq_getElem hk1) ewk (sM _ _ evs) (Paired.mapP hvs fun _ _ z => z.mono (KT.of sM)) hmk, ?_, ?_⟩
      · have gm := (gr.trans gx).trans (Gr.of sM gx.2)
        refine ⟨fun b o nb e => ?_, ?_⟩
        · rw [upd_ne (ne_of_none e r1)]
          exact gm.1 _ _ nb e
        · obtain ⟨x, y, z, e⟩ := gm.2
          exact ⟨x, y, z, by rw [upd_ne r2.symm]; exact e⟩
      · rw [upd_ne r4.symm]
        exact sM _ _ (gx.1 _ _ nka ekd')
      · rw [upd_ne r5.symm]
        exact sM _ _ (gx.1 _ _ nha enh')
      · rw [upd_ne r3.symm]
        exact sM _ _ eRx
      · have p1 := (perm_set (x := (nns[i], qs1)) ewk).map (·.1)
        refine p1.trans ?_
        rw [List.map_append, List.take_add_one, List.getElem?_eq_getElem hi']
        exact List.Perm.append_right _ hper
      · intro m hm
        have := (perm_set (x := (nns[i], qs1)) ewk).mem_iff.mp hm
        rcases List.mem_append.mp this with h | h
        · exact hpt m h
        · rw [List.mem_singleton.mp h]
          exact ⟨hql1, hqs1⟩
    · obtain ⟨y7, y9, y10, y11, y12, ws, rfl, gr, ekd', enh', eR', rows, hper, hpt⟩ := p
      have hnl : (nmsV nns).length = nns.length := by
        unfold nmsV
        rw [List.length_map]
      rw [hnl, List.take_length] at hper
      have hkw : kns.length = ws.length := by
        have := rows.1
        omega
      have ezf : (kns.zip ws).map (·.1) = kns := List.map_fst_zip (Nat.le_of_eq hkw)
      have ezs : (kns.zip ws).map (·.2) = ws := List.map_snd_zip (Nat.le_of_eq hkw.symm)
      have emk : mks (kns.zip ws) = ws.flatten := by
        unfold mks
        rw [List.flatMap_def, ezs]
      have hzl : (kns.zip ws).length = kns.length := by
        rw [List.length_zip]
        omega
      have hgood : Good (kns.zip ws) := ⟨by omega, by omega, by rw [ezf]; exact knd, by rw [ezf]; exact knm, by rw [emk]; exact hper.nodup_iff.mpr nnd, by rw [emk]; exact fun m hm => nnm m (hper.mem_iff.mp hm), by
          rw [emk]
          have := hper.length_eq
          rw [List.length_map] at this
          omega, by rw [emk, ezf]; exact hpt⟩
      refine ⟨_, rfl, _, rfl, kd, R, _, _, rfl, SqL.of ekd', SqL.of eR', fun D nD => ?_⟩
      refine lc_it (walk_zip (n := kns.length) (xs := nmsV kns) (ys := rs.map V.ref) (by unfold nmsV; rw [List.length_map, List.length_map]; omega)) (fun i Hx => Same H' Hx ∧ ∃ acc, Hx D = some (.lst acc) ∧ Paired (KdAt Hx) acc ((kns.zip ws).take i)) ⟨same_new nD, [], upd_same, by rw [List.take_zero]; exact .nil⟩ (fun i Hx hi p => ⟨SqL.of (p.1 _ _ ekd'), SqL.of (p.1 _ _ eR')⟩) (fun i x Hx Hy hi p y => ?_) (fun Hx p => ?_)
      · obtain ⟨sx, acc, eD, hac⟩ := p
        obtain ⟨Tt, xk, xr, rfl, nTt, rfl, exk, exr⟩ := y
        have hir : i < rs.length := by omega
        have hiw : i < ws.length := by omega
        have exk' : xk = .str (S kns[i]) := by
          unfold nmsV at exk
          dsimp only at exk
          rw [List.getElem?_map, List.getElem?_eq_getElem hi] at exk
          exact (Option.some.inj exk).symm
        have exr' : xr = .ref rs[i] := by
          dsimp only at exr
          rw [List.getElem?_map, List.getElem?_eq_getElem hir] at exr
          exact (Option.some.inj exr).symm
        subst exk' exr'
        refine ⟨Tt, _, rfl, .inl (.inl upd_same), rfl, _, _, rfl, _, _, rfl, rfl, rfl, ?_⟩
        have sT : Same Hx (upd Hx Tt (.tup [.str (S kns[i]), .ref rs[i]])) := same_new nTt
        generalize upd Hx Tt (.tup [.str (S kns[i]), .ref rs[i]]) = Ha at sT
        obtain ⟨vs, evs, hvs⟩ := rows.2.2 i rs[i] ws[i] (List.getElem?_eq_getElem hir) (List.getElem?_eq_getElem hiw)
        unfold tYes
        refine iteT ?_
        refine ⟨_, rfl, _, rfl, rs[i], vs, rfl, .inl ⟨SqL.of (sT _ _ (sx _ _ evs)), fun tr ntr => ⟨s2, fun tk ntk => ?_⟩⟩⟩
        have s3' : Same Hx (upd (upd Ha tr (.tup vs)) tk (.tup [.str (S kns[i]), .ref tr])) := (sT.trans (same_new ntr)).trans (same_new ntk)
        have etr : upd (upd Ha tr (.tup vs)) tk (.tup [.str (S kns[i]), .ref tr]) tr = some (.tup vs) := (same_new ntk) _ _ upd_same
        have etk : upd (upd Ha tr (.tup vs)) tk (.tup [.str (S kns[i]), .ref tr]) tk = some (.tup [.str (S kns[i]), .ref tr]) := upd_same
        generalize upd (upd Ha tr (.tup vs)) tk (.tup [.str (S kns[i]), .ref tr]) = Hb at s3' etr etk
        refine ⟨acc, s3' _ _ eD, ?_, ?_, acc ++ [.ref tk], upd_same, ?_⟩
        · rw [hac.length, List.length_take]
          exact Nat.lt_of_le_of_lt (show _ ≤ 1000 by omega) (by decide)
        · exact fun b o e => by
            rw [upd_ne (ne_of_none e nD)]
            exact s3' _ _ (sx _ _ e)
        · have kt : KT Hb (upd Hb D (.lst (acc ++ [.ref tk]))) := KT.lst (s3' _ _ eD)
          rw [List.take_add_one, List.getElem?_eq_getElem (show i < (kns.zip ws).length by omega), List.getElem_zip]
          refine paired_snoc (Paired.mapP hac fun _ _ z => (z.mono (KT.of s3')).mono kt) ⟨tk, tr, vs, rfl, kt _ _ etk, kt _ _ etr, Paired.mapP hvs fun _ _ z => (z.mono (KT.of (sx.trans s3'))).mono kt⟩
      · obtain ⟨sx, acc, eD, hac⟩ := p
        rw [← hzl, List.take_length] at hac
        refine ⟨D, acc, rfl, .inl ⟨SqL.of eD, fun p np => ?_⟩⟩
        refine q p _ (kns.zip ws) ((gr.trans (Gr.of sx gr.2)).trans (Gr.of (same_new np) (gr.2.mono sx))) ⟨acc, upd_same, Paired.mapP hac fun _ _ z => z.mono (KT.of (same_new np))⟩ hgood
end

/-! ### what is amiss first -/
abbrev kds (wd : Wood) : List Nam := wd.map (·.1)
def badK (seen : List Nam) : Wood → Option (Str × Str)
  | [] => none
  | k :: r => if nmB (S k.1) = false then some ("name", S k.1) else if k.1 ∈ seen then some ("kind", S k.1) else badK (seen ++ [k.1]) r
theorem badK_cons {seen : List Nam} {k : Nam × List Mk} {r : Wood} : badK seen (k :: r) = if nmB (S k.1) = false then some (("name" : Str), S k.1) else if k.1 ∈ seen then some (("kind" : Str), S k.1) else badK (seen ++ [k.1]) r := rfl
def badM (ks seen : List Nam) : List Mk → Option (Str × Str)
  | [] => none
  | m :: r => if nmB (S m.1) = false then some ("name", S m.1) else if m.1 ∈ seen then some ("maker", S m.1) else if 2 < m.2.length then some ("parts", S m.1)
    else if (m.2.all fun q => decide (q ∈ ks)) = false then some ("part", S m.1) else badM ks (seen ++ [m.1]) r
theorem badM_cons {ks seen : List Nam} {m : Mk} {r : List Mk} : badM ks seen (m :: r) = if nmB (S m.1) = false then some (("name" : Str), S m.1) else if m.1 ∈ seen then some (("maker" : Str), S m.1) else if 2 < m.2.length then some (("parts" : Str), S m.1)
    else if (m.2.all fun q => decide (q ∈ ks)) = false then some (("part" : Str), S m.1) else badM ks (seen ++ [m.1]) r := rfl
def bad (wd : Wood) : Option (Str × Str) :=
  if ¬ (1 ≤ wd.length ∧ wd.length ≤ 4) then some ("kinds", "") else match badK [] wd with
  | some r => some r
  | none => match badM (kds wd) [] (mks wd) with
    | some r => some r
    | none => if 12 < (mks wd).length then some ("makers", "") else none
/-- texts that can be asked -/
def tx (n : Nam) : Prop := n.length ≤ 10 ∧ PyData.strOk (S n) = true
structure Tame (wd : Wood) : Prop where
  few : wd.length ≤ 100
  kindT : ∀ k ∈ kds wd, tx k
  makerT : ∀ m ∈ mks wd, tx m.1 ∧ m.2.length ≤ 100 ∧ ∀ q ∈ m.2, tx q
  many : (mks wd).length ≤ 10000
section
variable {P : Program} {w : World} {K : PySem.W.Frag} {mg : Str → Option Value} {base : Heap}
/-- refused: the exception of class C with what is amiss -/
def Ref (C : Addr) (E : XK) (H : Hp) (r : Str × Str) : Prop := ∀ (d : Addr) (H' : Hp), Same H H' → H' d = some (.xd [("name", .str r.2), ("word", .str r.1)]) → E (.ref C) (some d) H'
theorem Ref.here {C : Addr} {E : XK} {H H1 : Hp} {a b : Str} (h : Ref C E H (a, b)) (s : Same H H1) : ∀ dx, H1 dx = none → E (.ref C) (some dx) (upd H1 dx (.xd [("name", .str b), ("word", .str a)])) := fun dx n => h dx _ (s.trans (same_new n)) upd_same
def spLk (C : Addr) : Sp := fun vs H Q E => ∃ (p : Addr) (wd : Wood), vs = [.ref p] ∧ WdAt H p wd ∧ Tame wd ∧ (∀ r, badK [] wd = some r → Ref C E H r) ∧ (badK [] wd = none → ∀ (l : Addr) (H' : Hp), H l = none → Same H H' → H' l = some (.lst (nmsV (kds wd))) → Q (.ref l) H')
theorem drop_at {α : Type} {l : List α} {i : Nat} {x : α} (e : l[i]? = some x) : l.drop i = x :: l.drop (i + 1) := by
  obtain ⟨h, rfl⟩ := List.getElem?_eq_some_iff.mp e
  exact List.drop_eq_getElem_cons h
theorem tx_len {n : Nam} (h : tx n) : (S n).length ≤ 10000 := by
  rw [S_len]
  have := h.1
  omega
theorem nmsV_len {ns : List Nam} : (nmsV ns).length = ns.length := by
  unfold nmsV
  rw [List.length_map]
theorem nms_snoc {ns : List Nam} {n : Nam} : nmsV (ns ++ [n]) = nmsV ns ++ [.str (S n)] := by
  unfold nmsV
  rw [List.map_append]
  rfl
theorem ok_lookkinds (T : Tx P K mg) : FnOk P w K mg base (L2.CX P w) 2 T.f_lookkinds T.fd_lookkinds ["wood"] (spLk T.C) := by
  refine T.F_lookkinds.okX sc_lookkinds (fun vs H Q E h => ?_) (fun cdv A outer s H vs Q E hr h => ?_)
  · obtain ⟨a, b, rfl, _⟩ := h
    rfl
  · obtain ⟨p, wd, rfl, ⟨vs, ep, hw⟩, tame, qx, q⟩ := h
    refine ⟨_, (pss_cons (ps_set (i := 1) sc_lookkinds.nd rfl (.inl rfl) (pe_lst pa_nil)) (pss_cons (ps_for (passes_of rfl) rfl (pi_tup (pv 0)) (pg_tup rfl (pgs_cons (pg_name (i := 2) sc_lookkinds.nd rfl (.inl rfl)) (pgs_cons (pg_name (i := 3) sc_lookkinds.nd rfl (.inl rfl)) pgs_nil))) (pss_cons (ps_if (pt_not (pt_val (pe_call (ok_isname T) (hr.mono (by decide) : Room 1 _) (by rfl) T.g_isname T.F_isname.kp T.b_isname .nil pass0 (pa_cons (pv 2) pa_nil)))) (pss_one (ps_raise rfl (takes_of rfl rfl rfl rfl) (pmk_e2 T.exc T.fld T.is1 T.is2 hr (by rfl) (fun _ _ _ _ _ _ _ _ _ => .of_eq rfl) ⟨by decide, by decide, by decide⟩ (by decide +kernel) rfl rfl (pa_cons pe_str (pa_cons (pv 2) pa_nil))))) pss_nil) (pss_cons (ps_if (pt_cmpR op_in_seq (pv 2) (pv 1) (by rfl)) (pss_one (ps_raise rfl (takes_of rfl rfl rfl rfl) (pmk_e2 T.exc T.fld T.is1 T.is2 hr (by rfl) (fun _ _ _ _ _ _ _ _ _ => .of_eq rfl) ⟨by decide, by decide, by decide⟩ (by decide +kernel) rfl rfl (pa_cons pe_str (pa_cons (pv 2) pa_nil))))) pss_nil) (pss_one (ps_expr (pe_bm PySem.F.plainAttrs_list PySem.F.slot_list_append PySem.F.type_list_append mt_append (pv 1) (pa_cons (pv 2) pa_nil))))))) (pss_one (ps_ret (pv 1))))), ?_⟩
    refine ⟨s0, fun F nF => ?_⟩
    have sF : Same H (upd H F (.lst [])) := same_new nF
    have hlw := hw.length
    have hfew := tame.few
    refine ⟨_, rfl, p, rfl, ⟨vs, .inl (.inl (sF _ _ ep))⟩, for_it (walk_tup (xs := vs)) (fun i σ H' => ∃ (y2 y3 : Option V), σ = [some (.ref p), some (.ref F), y2, y3] ∧ Same H H' ∧ H' F = some (.lst (nmsV ((kds wd).take i))) ∧ badK [] wd = badK ((kds wd).take i) (wd.drop i)) ⟨none, none, rfl, sF, upd_same, rfl⟩ (fun i σ H' hi P => ?_) (fun i x σ H' H'' hi P y => ?_) (fun σ H' P => ?_)⟩
    · obtain ⟨_, _, _, s1, _⟩ := P
      exact .inl (.inl (s1 _ _ ep))
    · obtain ⟨y2, y3, rfl, s1, eF, hb⟩ := P
      obtain ⟨rfl, ex⟩ := y
      obtain ⟨⟨nm, ms⟩, enm, tk, tt, mv, rfl, etk, ett, hms⟩ := paired_at hw ex
      have emap : (kds wd)[i]? = some nm := by
        rw [List.getElem?_map, enm]
        rfl
      have htx : tx nm := tame.kindT nm (List.mem_of_getElem? emap)
      rw [drop_at enm, badK_cons] at hb
      dsimp only at hb
      refine ⟨tk, _, rfl, .inl (.inl (s1 _ _ etk)), rfl, _, _, rfl, _, _, rfl, rfl, ?_⟩
      refine ⟨_, rfl, S nm, rfl, tx_len htx, fun H2 s2 => ⟨_, rfl, ?_⟩⟩
      by_cases hn : nmB (S nm) = false
      · rw [hn]
        rw [if_pos hn] at hb
        refine iteT ⟨_, rfl, _, _, rfl, (qx _ hb).here (s1.trans s2)⟩
      rw [if_neg hn] at hb
      rw [Bool.not_eq_false] at hn
      rw [hn]
      refine iteF ?_
      have eF2 := s2 _ _ eF
      refine ⟨_, rfl, _, rfl, F, _, rfl, .inl (SqL.of eF2), rfl, nms_flat _, _, rfl, ?_⟩
      rw [show inV (.str (S nm)) (nmsV ((kds wd).take i)) = decide (nm ∈ (kds wd).take i) from inV_S _]
      by_cases hin : nm ∈ (kds wd).take i
      · rw [decide_eq_true hin]
        rw [if_pos hin] at hb
        refine iteT ⟨_, rfl, _, _, rfl, (qx _ hb).here (s1.trans s2)⟩
      rw [if_neg hin] at hb
      rw [decide_eq_false hin]
      refine iteF ?_
      refine ⟨.ref F, rfl, .inl ⟨rfl, _, SqL.of eF2⟩, _, rfl, F, _, _, rfl, rfl, eF2, ?_, ?_⟩
      · rw [nmsV_len, List.length_take, List.length_map]
        exact Nat.lt_of_le_of_lt (show _ ≤ 10000 by omega) (by decide)
      · refine ⟨_, _, rfl, fun b o e => ?_, ?_, ?_⟩
        · rw [upd_ne (ne_of_none e nF)]
          exact s2 _ _ (s1 _ _ e)
        · rw [upd_same, List.take_add_one, emap]
          show _ = some (HO.lst (nmsV ((kds wd).take i ++ [nm])))
          rw [nms_snoc]
        · rw [List.take_add_one, emap]
          exact hb
    · obtain ⟨y2, y3, rfl, s1, eF, hb⟩ := P
      rw [hlw, List.drop_length] at hb
      refine ⟨_, rfl, q hb F H' nF s1 ?_⟩
      rw [eF, hlw, show wd.length = (kds wd).length by rw [List.length_map], List.take_length]
def spLm (C : Addr) : Sp := fun vs H Q E => ∃ (k m : Addr) (ks : List Nam) (mvs : List V) (ms : List Mk), vs = [.ref k, .ref m] ∧ H k = some (.lst (nmsV ks)) ∧ H m = some (.lst mvs) ∧ MksAt H mvs ms ∧ ms.length ≤ 10000 ∧ (∀ x ∈ ms, tx x.1 ∧ x.2.length ≤ 100 ∧ ∀ q ∈ x.2, tx q) ∧ (∀ r, badM ks [] ms = some r → Ref C E H r) ∧ (badM ks [] ms = none → ∀ H', Same H H' → Q .non H')
theorem ok_lookmakers (T : Tx P K mg) : FnOk P w K mg base (L2.CX P w) 2 T.f_lookmakers T.fd_lookmakers ["kinds", "makers"] (spLm T.C) := by
  refine T.F_lookmakers.okX sc_lookmakers (fun vs H Q E h => ?_) (fun cdv A outer s H vs Q E hr h => ?_)
  · obtain ⟨a, b, ks, mvs, ms, rfl, _⟩ := h
    rfl
  · obtain ⟨k, m, ks, mvs, ms, rfl, ek, em, hm, hml, htx, qx, q⟩ := h
    refine ⟨_, (pss_cons (ps_set (i := 2) sc_lookmakers.nd rfl (.inl rfl) (pe_lst pa_nil)) (pss_one (ps_for (passes_of rfl) rfl (pi_list (pv 1)) (pg_tup rfl (pgs_cons (pg_name (i := 3) sc_lookmakers.nd rfl (.inl rfl)) (pgs_cons (pg_name (i := 4) sc_lookmakers.nd rfl (.inl rfl)) pgs_nil))) (pss_cons (ps_if (pt_not (pt_val (pe_call (ok_isname T) (hr.mono (by decide) : Room 1 _) (by rfl) T.g_isname T.F_isname.kp T.b_isname .nil pass0 (pa_cons (pv 3) pa_nil)))) (pss_one (ps_raise rfl (takes_of rfl rfl rfl rfl) (pmk_e2 T.exc T.fld T.is1 T.is2 hr (by rfl) (fun _ _ _ _ _ _ _ _ _ => .of_eq rfl) ⟨by decide, by decide, by decide⟩ (by decide +kernel) rfl rfl (pa_cons pe_str (pa_cons (pv 3) pa_nil))))) pss_nil) (pss_cons (ps_if (pt_cmpR op_in_seq (pv 3) (pv 2) (by rfl)) (pss_one (ps_raise rfl (takes_of rfl rfl rfl rfl) (pmk_e2 T.exc T.fld T.is1 T.is2 hr (by rfl) (fun _ _ _ _ _ _ _ _ _ => .of_eq rfl) ⟨by decide, by decide, by decide⟩ (by decide +kernel) rfl rfl (pa_cons pe_str (pa_cons (pv 3) pa_nil))))) pss_nil) (pss_cons (ps_if (pt_cmpR op_gt (pe_callB call_len_seq (by rfl) T.m_len PySem.boot_len (pa_cons (pv 4) pa_nil)) (pe_glob (v := .int 2) (by rfl) T.c_MOST_PARTS ⟨_, rfl⟩) (nomark _)) (pss_one (ps_raise rfl (takes_of rfl rfl rfl rfl) (pmk_e2 T.exc T.fld T.is1 T.is2 hr (by rfl) (fun _ _ _ _ _ _ _ _ _ => .of_eq rfl) ⟨by decide, by decide, by decide⟩ (by decide +kernel) rfl rfl (pa_cons pe_str (pa_cons (pv 3) pa_nil))))) pss_nil) (pss_cons (ps_if (pt_not (pt_val (pe_callB (cr_all rfl) (by rfl) T.m_all (by decide +kernel) (pa_cons (pe_lc (own := [("part", 5)]) (by rfl) sc_lookmakers.nd (pi_tup (pv 4)) (blkOk_by (own := [("part", 5)]) (N := ["kinds", "makers", "ahead", "name", "parts", "part"]) (sc := defScope st_lookmakers) (by decide +kernel)) (fun _ _ _ _ _ => (pg_name (i := 5) sc_lookmakers.nd rfl (.inl rfl))) (fun _ _ _ _ _ => pts_nil) (fun _ _ _ _ _ => (pe_cmpR (KX.in_seqK K) (pv 5) (pv 0) (by rfl)))) pa_nil)))) (pss_one (ps_raise rfl (takes_of rfl rfl rfl rfl) (pmk_e2 T.exc T.fld T.is1 T.is2 hr (by rfl) (fun _ _ _ _ _ _ _ _ _ => .of_eq rfl) ⟨by decide, by decide, by decide⟩ (by decide +kernel) rfl rfl (pa_cons pe_str (pa_cons (pv 3) pa_nil))))) pss_nil) (pss_one (ps_expr (pe_bm PySem.F.plainAttrs_list PySem.F.slot_list_append PySem.F.type_list_append mt_append (pv 2) (pa_cons (pv 3) pa_nil))))))))))), ?_⟩
    refine ⟨s0, fun F nF => ?_⟩
    have sF : Same H (upd H F (.lst [])) := same_new nF
    refine ⟨_, rfl, m, rfl, ⟨mvs, SqL.of (sF _ _ em)⟩, for_it (walk_list (xs := mvs)) (fun i σ H' => ∃ (y2 y3 : Option V), σ = [some (.ref k), some (.ref m), some (.ref F), y2, y3, none] ∧ Same H H' ∧ H' F = some (.lst (nmsV ((ms.map (·.1)).take i))) ∧ badM ks [] ms = badM ks ((ms.map (·.1)).take i) (ms.drop i)) ⟨none, none, rfl, sF, upd_same, rfl⟩ (fun i σ H' hi P => ?_) (fun i x σ H' H'' hi P y => ?_) (fun σ H' P => ?_)⟩
    · obtain ⟨_, _, _, s1, _⟩ := P
      exact SqL.of (s1 _ _ em)
    · obtain ⟨y2, y3, rfl, s1, eF, hb⟩ := P
      obtain ⟨rfl, ex⟩ := y
      obtain ⟨⟨nm, ps⟩, enm, tk, tt, rfl, etk, ett⟩ := paired_at hm ex
      have emap : (ms.map (·.1))[i]? = some nm := by
        rw [List.getElem?_map, enm]
        rfl
      obtain ⟨htn, hpl0, htp⟩ := htx _ (List.mem_of_getElem? enm)
      rw [drop_at enm, badM_cons] at hb
      dsimp only at hb htn hpl0 htp
      refine ⟨tk, _, rfl, .inl (.inl (s1 _ _ etk)), rfl, _, _, rfl, _, _, rfl, rfl, ?_⟩
      refine ⟨_, rfl, S nm, rfl, tx_len htn, fun H2 s2 => ⟨_, rfl, ?_⟩⟩
      by_cases hn : nmB (S nm) = false
      · rw [hn]
        rw [if_pos hn] at hb
        refine iteT ⟨_, rfl, _, _, rfl, (qx _ hb).here (s1.trans s2)⟩
      rw [if_neg hn] at hb
      rw [Bool.not_eq_false] at hn
      rw [hn]
      refine iteF ?_
      have eF2 := s2 _ _ eF
      refine ⟨_, rfl, _, rfl, F, _, rfl, .inl (SqL.of eF2), rfl, nms_flat _, _, rfl, ?_⟩
      rw [show inV (.str (S nm)) (nmsV ((ms.map (·.1)).take i)) = decide (nm ∈ (ms.map (·.1)).take i) from inV_S _]
      by_cases hin : nm ∈ (ms.map (·.1)).take i
      · rw [decide_eq_true hin]
        rw [if_pos hin] at hb
        refine iteT ⟨_, rfl, _, _, rfl, (qx _ hb).here (s1.trans s2)⟩
      rw [if_neg hin] at hb
      rw [decide_eq_false hin]
      refine iteF ?_
      -- how many parts
      have ett2 := s2 _ _ (s1 _ _ ett)
      refine ⟨_, rfl, tt, _, rfl, .inr (.inl (.inl ett2)), _, _, rfl, rfl, _, rfl, ?_⟩
      have hpl : (nmsV ps).length = ps.length := nmsV_len
      rw [hpl]
      by_cases h2 : 2 < ps.length
      · rw [decide_eq_true (show (2 : Int) < (ps.length : Int) by omega)]
        rw [if_pos h2] at hb
        refine iteT ⟨_, rfl, _, _, rfl, (qx _ hb).here (s1.trans s2)⟩
      rw [if_neg h2] at hb
      rw [decide_eq_false (show ¬ ((2 : Int) < (ps.length : Int)) by omega)]
      refine iteF ?_
      refine ⟨_, rfl, tt, rfl, ⟨_, .inl (.inl ett2)⟩, fun D nD => ?_⟩
      refine lc_pure (walk_tup (xs := nmsV ps)) nD (ps.map fun q => V.bl (decide (q ∈ ks))) (by rw [List.length_map, hpl]) (by rw [hpl]; omega) (fun Hq sq => .inl (.inl (sq _ _ ett2))) (fun j x y H3 H4 hy s3 hY => ?_) (fun x σ H Q Q' f h => f _ _ h) (fun σ H Q Q' f h => f _ _ h) (fun σ H Q Q' f h => ?_) (fun H3 s3 e3 => ?_)
      · obtain ⟨rfl, ex⟩ := hY
        unfold nmsV at ex
        rw [List.getElem?_map] at ex hy
        cases epj : ps[j]? with
        | none =>
          rw [epj] at ex
          cases ex
        | some pj =>
          rw [epj] at ex hy
          cases Option.some.inj ex
          cases Option.some.inj hy
          refine ⟨rfl, rfl, _, rfl, _, rfl, k, _, rfl, .inl (SqL.of (s3 _ _ (s2 _ _ (s1 _ _ ek)))), rfl, nms_flat _, ?_, Same.refl _⟩
          rw [show inV (.str (S pj)) (nmsV ks) = decide (pj ∈ ks) from inV_S _]
          rfl
      · obtain ⟨v1, e1, v2, e2, z1, z2, z3, z4, z5, z6, z7⟩ := h
        exact ⟨v1, e1, v2, e2, z1, z2, z3, z4, z5, z6, f _ _ z7⟩
      refine ⟨D, ps.map fun q => decide (q ∈ ks), rfl, SqL.of (by rw [e3, List.map_map]; rfl), ⟨_, rfl, ?_⟩⟩
      rw [List.all_map]
      show (if (!(ps.all fun q => decide (q ∈ ks))) = true then _ else _)
      have s4 : Same H H3 := (s1.trans s2).trans s3
      by_cases ha : (ps.all fun q => decide (q ∈ ks)) = false
      · rw [ha]
        rw [if_pos ha] at hb
        refine iteT ⟨_, rfl, _, _, rfl, (qx _ hb).here s4⟩
      rw [if_neg ha] at hb
      rw [Bool.not_eq_false] at ha
      rw [ha]
      refine iteF ?_
      have eF3 := s3 _ _ eF2
      refine ⟨.ref F, rfl, .inl ⟨rfl, _, SqL.of eF3⟩, _, rfl, F, _, _, rfl, rfl, eF3, ?_, ?_⟩
      · rw [nmsV_len, List.length_take, List.length_map]
        exact Nat.lt_of_le_of_lt (show _ ≤ 10000 by omega) (by decide)
      · refine ⟨_, _, rfl, fun b o e => ?_, ?_, ?_⟩
        · rw [upd_ne (ne_of_none e nF)]
          exact s4 _ _ e
        · rw [upd_same, List.take_add_one, emap]
          show _ = some (HO.lst (nmsV ((ms.map (·.1)).take i ++ [nm])))
          rw [nms_snoc]
        · rw [List.take_add_one, emap]
          exact hb
    · obtain ⟨y2, y3, rfl, s1, eF, hb⟩ := P
      rw [hm.length, List.drop_length] at hb
      exact q hb H' s1
theorem walk_it {J : It} {n : Nat} {G : Hp → Prop} {Y : Nat → Hp → V → Hp → Prop} (wk : Walk J n G Y) {step : V → Hp → (Hp → Prop) → Prop} {Hs : Hp} {Qd : Hp → Prop} (Pv : Nat → Hp → Prop) (h0 : Pv 0 Hs) (hG : ∀ i H, i ≤ n → Pv i H → G H)
    (hs : ∀ i x H H', i < n → Pv i H → Y i H x H' → step x H' (Pv (i + 1))) (hd : ∀ H, Pv n H → Qd H) :
    ∃ W : Nat → Nat → Hp → Prop, (∃ m, W 0 m Hs) ∧ ∀ i m H, W i m H →
      (J.stop i H ∧ Qd H) ∨ (J.go i H ∧ ∃ Nx : Hp → Prop, (∀ H', Nx H' → ∃ m', m' < m ∧ W (i + 1) m' H') ∧ ∀ x H', J.yld i H x H' → step x H' Nx) := by
  refine ⟨fun i m H => m = n - i ∧ i ≤ n ∧ Pv i H, ⟨n, by simp, Nat.zero_le _, h0⟩, ?_⟩
  rintro i m H ⟨rfl, hi, p⟩
  have q := hG i H hi p
  by_cases hlt : i < n
  · exact .inr ⟨wk.goes i H hlt q, Pv (i + 1), fun H' p' => ⟨n - (i + 1), by omega, rfl, hlt, p'⟩, fun x H' y => hs i x H H' hlt p (wk.yields i H x H' hlt q y)⟩
  · have e : i = n := by omega
    subst e
    exact .inl ⟨wk.stops H q, hd H p⟩
theorem mks_take {wd : Wood} {i : Nat} {k : Nam × List Mk} (e : wd[i]? = some k) : mks (wd.take (i + 1)) = mks (wd.take i) ++ k.2 := by
  unfold mks
  rw [List.take_add_one, e, List.flatMap_append]
  simp
theorem mks_le {wd : Wood} {i : Nat} : (mks (wd.take i)).length ≤ (mks wd).length := by
  have h := congrArg (fun l => (mks l).length) (List.take_append_drop i wd)
  unfold mks at h ⊢
  rw [List.flatMap_append, List.length_append] at h
  omega
def spLw (C : Addr) : Sp := fun vs H Q E => ∃ (p : Addr) (wd : Wood), vs = [.ref p] ∧ WdAt H p wd ∧ Tame wd ∧ (∀ r, bad wd = some r → Ref C E H r) ∧ (bad wd = none → ∀ H', Same H H' → Q (.bl true) H')
theorem Ref.mono {C : Addr} {E : XK} {H H1 : Hp} {r : Str × Str} (h : Ref C E H r) (s : Same H H1) : Ref C E H1 r := fun d H' s' e => h d H' (s.trans s') e
theorem ok_lookwood (T : Tx P K mg) : FnOk P w K mg base (L2.CX P w) 3 T.f_lookwood T.fd_lookwood ["wood"] (spLw T.C) := by
  refine T.F_lookwood.okX sc_lookwood (fun vs H Q E h => ?_) (fun cdv A outer s H vs Q E hr h => ?_)
  · obtain ⟨a, b, rfl, _⟩ := h
    rfl
  · obtain ⟨p, wd, rfl, ⟨vs, ep, hw⟩, tame, qx, q⟩ := h
    refine ⟨_, (pss_cons (ps_if (pt_not (pt_chain op_le op_le pe_int (pe_callB call_len_seq (by rfl) T.m_len PySem.boot_len (pa_cons (pv 0) pa_nil)) (pe_glob (v := .int 4) (by rfl) T.c_MOST_KINDS ⟨_, rfl⟩))) (pss_one (ps_raise rfl (takes_of rfl rfl rfl rfl) (pmk_e2 T.exc T.fld T.is1 T.is2 hr (by rfl) (fun _ _ _ _ _ _ _ _ _ => .of_eq rfl) ⟨by decide, by decide, by decide⟩ (by decide +kernel) rfl rfl (pa_cons pe_str (pa_cons pe_str pa_nil))))) pss_nil) (pss_cons (ps_set (i := 1) sc_lookwood.nd rfl (.inl rfl) (pe_call (E := E) (ok_lookkinds T) (hr.mono (by decide) : Room 2 _) (by rfl) T.g_lookkinds T.F_lookkinds.kp T.b_lookkinds .nil (passes_call (takes_of rfl rfl rfl rfl) (fun _ _ _ _ h => h)) (pa_cons (pv 0) pa_nil))) (pss_cons (ps_setLc2 (i := 2) (own := [("kind", 3), ("own", 4), ("maker", 5)]) (vs1 := [5]) (by rfl) sc_lookwood.nd rfl rfl (sw_true rfl rfl rfl (by decide +kernel)) (pi_tup (pv 0)) (blkOk_by (own := [("kind", 3), ("own", 4), ("maker", 5)]) (N := ["wood", "kinds", "makers", "kind", "own", "maker"]) (sc := defScope st_lookwood) (by decide +kernel)) (by decide) (fun _ _ _ _ _ => (KX.pg_tupK K (n := 2) rfl (pgs_cons (pg_name (i := 3) sc_lookwood.nd rfl (.inl rfl)) (pgs_cons (pg_name (i := 4) sc_lookwood.nd rfl (.inl rfl)) pgs_nil)))) (fun _ _ _ _ _ => pts_nil) (fun _ _ _ _ _ => (KX.pi_tupK K (pv 4))) (fun _ _ _ _ _ => (pg_name (i := 5) sc_lookwood.nd rfl (.inl rfl))) (fun _ _ _ _ _ => pts_nil) (fun _ _ _ _ _ => (pv 5))) (pss_cons (ps_expr (pe_call (E := E) (ok_lookmakers T) (hr.mono (by decide) : Room 2 _) (by rfl) T.g_lookmakers T.F_lookmakers.kp T.b_lookmakers .nil (passes_call (takes_of rfl rfl rfl rfl) (fun _ _ _ _ h => h)) (pa_cons (pv 1) (pa_cons (pv 2) pa_nil)))) (pss_cons (ps_if (pt_cmpR op_gt (pe_callB call_len_seq (by rfl) T.m_len PySem.boot_len (pa_cons (pv 2) pa_nil)) (pe_glob (v := .int 12) (by rfl) T.c_MOST_MAKERS ⟨_, rfl⟩) (nomark _)) (pss_one (ps_raise rfl (takes_of rfl rfl rfl rfl) (pmk_e2 T.exc T.fld T.is1 T.is2 hr (by rfl) (fun _ _ _ _ _ _ _ _ _ => .of_eq rfl) ⟨by decide, by decide, by decide⟩ (by decide +kernel) rfl rfl (pa_cons pe_str (pa_cons pe_str pa_nil))))) pss_nil) (pss_one (ps_ret pe_bl))))))), ?_⟩
    have hl := hw.length
    unfold bad at qx q
    refine ⟨_, rfl, p, _, rfl, .inr (.inl (.inl ep)), _, _, rfl, rfl, _, rfl, ?_⟩
    by_cases h1 : 1 ≤ wd.length
    rotate_left
    · rw [decide_eq_false (show ¬ ((1 : Int) ≤ (vs.length : Int)) by omega)]
      rw [if_pos (fun z => h1 z.1)] at qx
      exact iteF ⟨_, rfl, iteT ⟨_, _, rfl, (qx _ rfl).here (Same.refl _)⟩⟩
    rw [decide_eq_true (show (1 : Int) ≤ (vs.length : Int) by omega)]
    refine iteT ⟨_, _, rfl, rfl, _, rfl, ?_⟩
    by_cases h4 : wd.length ≤ 4
    rotate_left
    · rw [decide_eq_false (show ¬ ((vs.length : Int) ≤ 4) by omega)]
      rw [if_pos (fun z => h4 z.2)] at qx
      exact iteT ⟨_, _, rfl, (qx _ rfl).here (Same.refl _)⟩
    rw [decide_eq_true (show (vs.length : Int) ≤ 4 by omega)]
    refine iteF ?_
    rw [if_neg (fun z => z ⟨h1, h4⟩)] at qx q
    refine ⟨_, rfl, p, wd, rfl, ⟨vs, ep, hw⟩, tame, fun r hr => ?_, fun hk l H1 nl s1 el => ?_⟩
    · rw [hr] at qx
      exact qx r rfl
    rw [hk] at qx q
    dsimp only at qx q
    refine ⟨_, rfl, p, rfl, ⟨vs, .inl (.inl (s1 _ _ ep))⟩, fun D nD => ?_⟩
    refine walk_it (walk_tup (xs := vs)) (fun i Hx => Same H1 Hx ∧ ∃ acc, Hx D = some (.lst acc) ∧ MksAt Hx acc (mks (wd.take i))) ⟨same_new nD, [], upd_same, .nil⟩ (fun i Hx hi P => .inl (.inl (P.1 _ _ (s1 _ _ ep)))) (fun i x Hx Hy hi P y => ?_) (fun Hx P => ?_)
    · obtain ⟨sx, acc, eD, hac⟩ := P
      obtain ⟨rfl, ex⟩ := y
      obtain ⟨⟨nm, ms⟩, enm, tk, tt, mvs, rfl, etk, ett, hms⟩ := paired_at hw ex
      refine ⟨tk, _, rfl, .inl (.inl (sx _ _ (s1 _ _ etk))), rfl, _, _, rfl, _, _, rfl, rfl, rfl, ?_⟩
      unfold tYes
      refine iteT ?_
      refine ⟨_, rfl, tt, rfl, ⟨mvs, .inl (.inl (sx _ _ (s1 _ _ ett)))⟩, ?_⟩
      refine walk_it (walk_tup (xs := mvs)) (fun j Hz => Same H1 Hz ∧ ∃ acc, Hz D = some (.lst acc) ∧ MksAt Hz acc (mks (wd.take i) ++ ms.take j)) ⟨sx, acc, eD, by rw [List.take_zero, List.append_nil]; exact hac⟩ (fun j Hz hj P => .inl (.inl (P.1 _ _ (s1 _ _ ett)))) (fun j x Hz Hz' hj P y => ?_) (fun Hz P => ?_)
      · obtain ⟨sz, acc', eD', hac'⟩ := P
        obtain ⟨rfl, ex'⟩ := y
        obtain ⟨mk, emk, hmk⟩ := paired_at hms ex'
        refine ⟨rfl, iteT ⟨_, rfl, acc', eD', ?_, ?_, _, upd_same, ?_⟩⟩
        · have h1 := mks_le (wd := wd) (i := i + 1)
          rw [mks_take enm, List.length_append] at h1
          dsimp only at h1
          have h2 := tame.many
          rw [hac'.length, List.length_append, List.length_take]
          exact Nat.lt_of_le_of_lt (show _ ≤ 10000 by omega) (by decide)
        · exact fun b o e => by
            rw [upd_ne (ne_of_none e nD)]
            exact sz _ _ e
        · have kt : KT Hz' (upd Hz' D (.lst (acc' ++ [x]))) := KT.lst eD'
          rw [List.take_add_one, emk, ← List.append_assoc]
          exact paired_snoc (Paired.mapP hac' fun _ _ z => z.mono kt) ((hmk.mono (KT.of (s1.trans sz))).mono kt)
      · obtain ⟨sz, acc', eD', hac'⟩ := P
        rw [hms.length, List.take_length] at hac'
        refine ⟨sz, acc', eD', ?_⟩
        rw [mks_take enm]
        exact hac'
    · obtain ⟨sx, acc, eD, hac⟩ := P
      rw [hw.length, List.take_length] at hac
      have hal := hac.length
      refine ⟨_, rfl, _, rfl, l, D, kds wd, acc, mks wd, rfl, sx _ _ el, eD, hac, tame.many, tame.makerT, fun r hr => ?_, fun hm H2 s2 => ?_⟩
      · rw [hr] at qx
        exact (qx r rfl).mono (s1.trans sx)
      rw [hm] at qx q
      dsimp only at qx q
      refine ⟨_, rfl, D, _, rfl, .inl (SqL.of (s2 _ _ eD)), _, _, rfl, rfl, _, rfl, ?_⟩
      by_cases h12 : 12 < (mks wd).length
      · rw [decide_eq_true (show ((12 : Int) < (acc.length : Int)) by omega)]
        rw [if_pos h12] at qx
        exact iteT ⟨_, _, rfl, (qx _ rfl).here ((s1.trans sx).trans s2)⟩
      rw [decide_eq_false (show ¬ ((12 : Int) < (acc.length : Int)) by omega)]
      rw [if_neg h12] at q
      exact iteF (q rfl H2 ((s1.trans sx).trans s2))
end

/-! ### what the law finds amiss -/
section
variable {P : Program} {w : World} {K : PySem.W.Frag} {mg : Str → Option Value} {base : Heap}
def Tol (Q : VK) (H : Hp) (r : Str × Str) : Prop := ∀ (t : Addr) (H' : Hp), Same H H' → H' t = some (.tup [.str r.1, .str r.2]) → Q (.ref t) H'
theorem Tol.here {Q : VK} {H H1 : Hp} {a b : Str} (h : Tol Q H (a, b)) (s : Same H H1) : 2 ≤ sizeLine ∧ ∀ t, H1 t = none → Q (.ref t) (upd H1 t (.tup [.str a, .str b])) := ⟨s2, fun t n => h t _ (s.trans (same_new n)) upd_same⟩
def spLd : Sp := fun vs H Q _ => ∃ (p : Addr) (wd : Wood), vs = [.ref p] ∧ WdAt H p wd ∧ Tame wd ∧ (∀ r, bad wd = some r → Tol Q H r) ∧ (bad wd = none → ∀ H', Same H H' → Q .non H')
theorem mks_drop {wd : Wood} {i : Nat} {k : Nam × List Mk} (e : wd[i]? = some k) : mks (wd.drop i) = k.2 ++ mks (wd.drop (i + 1)) := by
  rw [drop_at e]
  rfl
theorem tx_ok {n : Nam} (h : tx n) : PyData.strOk (S n) = true := h.2
theorem nms_strs (ns : List Nam) : nmsV ns = (ns.map S).map V.str := by
  unfold nmsV
  rw [List.map_map]
  rfl
theorem ok_lookdue (T : Tx P K mg) : FnOk P w K mg base CX0 2 T.f_lookdue T.fd_lookdue ["_law_wood_here"] spLd := by
  refine T.F_lookdue.ok sc_lookdue (fun vs H Q E h => ?_) (fun cdv A outer s H vs Q E hr h => ?_)
  · obtain ⟨a, b, rfl, _⟩ := h
    rfl
  · obtain ⟨p, wd, rfl, ⟨vs, ep, hw⟩, tame, qx, q⟩ := h
    refine ⟨_, (pss_cons (ps_if (pt_not (pt_chain op_le op_le pe_int (pe_callB call_len_seq (by rfl) T.m_len PySem.boot_len (pa_cons (pv 0) pa_nil)) pe_int)) (pss_one (ps_ret (pe_tup (pa_cons pe_str (pa_cons pe_str pa_nil))))) pss_nil) (pss_cons (ps_asg (pe_tup (pa_cons (pe_lst pa_nil) (pa_cons (pe_lst pa_nil) pa_nil))) (pg_tup rfl (pgs_cons (pg_name (i := 1) sc_lookdue.nd rfl (.inr rfl)) (pgs_cons (pg_name (i := 2) sc_lookdue.nd rfl (.inl rfl)) pgs_nil)))) (pss_cons (ps_for PassesOwn.never rfl (pi_tup (pv 0)) (pg_tup rfl (pgs_cons (pg_name (i := 3) sc_lookdue.nd rfl (.inl rfl)) (pgs_cons (pg_name (i := 4) sc_lookdue.nd rfl (.inl rfl)) pgs_nil))) (pss_cons (ps_if (pt_not (pt_val (pe_call (ok_lisname T) (hr.mono (by decide) : Room 1 _) (by rfl) T.g_lisname T.F_lisname.kp T.b_lisname .nil pass0 (pa_cons (pv 3) pa_nil)))) (pss_one (ps_ret (pe_tup (pa_cons pe_str (pa_cons (pv 3) pa_nil))))) pss_nil) (pss_cons (ps_if (pt_cmpR op_in_seq (pv 3) (pv 1) (by rfl)) (pss_one (ps_ret (pe_tup (pa_cons pe_str (pa_cons (pv 3) pa_nil))))) pss_nil) (pss_one (ps_expr (pe_bm PySem.F.plainAttrs_list PySem.F.slot_list_append PySem.F.type_list_append mt_append (pv 1) (pa_cons (pv 3) pa_nil))))))) (pss_cons (ps_for PassesOwn.never rfl (pi_tup (pv 0)) (pg_tup rfl (pgs_cons (pg_name (i := 3) sc_lookdue.nd rfl (.inl rfl)) (pgs_cons (pg_name (i := 4) sc_lookdue.nd rfl (.inl rfl)) pgs_nil))) (pss_one (ps_for PassesOwn.never rfl (pi_tup (pv 4)) (pg_tup rfl (pgs_cons (pg_name (i := 5) sc_lookdue.nd rfl (.inl rfl)) (pgs_cons (pg_name (i := 6) sc_lookdue.nd rfl (.inl rfl)) pgs_nil))) (pss_cons (ps_if (pt_not (pt_val (pe_call (ok_lisname T) (hr.mono (by decide) : Room 1 _) (by rfl) T.g_lisname T.F_lisname.kp T.b_lisname .nil pass0 (pa_cons (pv 5) pa_nil)))) (pss_one (ps_ret (pe_tup (pa_cons pe_str (pa_cons (pv 5) pa_nil))))) pss_nil) (pss_cons (ps_if (pt_cmpR op_in_seq (pv 5) (pv 2) (by rfl)) (pss_one (ps_ret (pe_tup (pa_cons pe_str (pa_cons (pv 5) pa_nil))))) pss_nil) (pss_cons (ps_if (pt_cmpR op_gt (pe_callB call_len_seq (by rfl) T.m_len PySem.boot_len (pa_cons (pv 6) pa_nil)) pe_int (nomark _)) (pss_one (ps_ret (pe_tup (pa_cons pe_str (pa_cons (pv 5) pa_nil))))) pss_nil) (pss_cons (ps_if (pt_cmpR (op_neD hr.units) (pe_lc (own := [("_law_part", 7)]) (by rfl) sc_lookdue.nd (pi_tup (pv 6)) (blkOk_by (own := [("_law_part", 7)]) (N := ["_law_wood_here", "_law_kinds", "_law_seen", "_law_kind", "_law_makers", "_law_maker", "_law_parts", "_law_part"]) (sc := defScope st_lookdue) (by decide +kernel)) (fun _ _ _ _ _ => (pg_name (i := 7) sc_lookdue.nd rfl (.inl rfl))) (fun _ _ _ _ _ => (pts_one (pt_cmpR (KX.notin_seqK K) (pv 7) (pv 1) (by rfl)))) (fun _ _ _ _ _ => (pv 7))) (pe_lst pa_nil) (nomark _)) (pss_one (ps_ret (pe_tup (pa_cons pe_str (pa_cons (pv 5) pa_nil))))) pss_nil) (pss_one (ps_expr (pe_bm PySem.F.plainAttrs_list PySem.F.slot_list_append PySem.F.type_list_append mt_append (pv 2) (pa_cons (pv 5) pa_nil))))))))))) (pss_one (ps_ret (pe_ix ix_list (pe_lst (pa_cons pe_non (pa_cons (pe_tup (pa_cons pe_str (pa_cons pe_str pa_nil))) pa_nil))) (pe_callTy call_int1 (by rfl) T.m_int (by decide +kernel) (pa_cons (pe_cmpR op_gt (pe_callB call_len_seq (by rfl) T.m_len PySem.boot_len (pa_cons (pv 2) pa_nil)) pe_int (nomark _)) pa_nil)) (fun _ _ => rfl)))))))), ?_⟩
    have hl := hw.length
    have hfew := tame.few
    unfold bad at qx q
    refine ⟨_, rfl, p, _, rfl, .inr (.inl (.inl ep)), _, _, rfl, rfl, _, rfl, ?_⟩
    by_cases h1 : 1 ≤ wd.length
    rotate_left
    · rw [decide_eq_false (show ¬ ((1 : Int) ≤ (vs.length : Int)) by omega)]
      rw [if_pos (fun z => h1 z.1)] at qx
      exact iteF ⟨_, rfl, iteT ((qx _ rfl).here (Same.refl _))⟩
    rw [decide_eq_true (show (1 : Int) ≤ (vs.length : Int) by omega)]
    refine iteT ⟨_, _, rfl, rfl, _, rfl, ?_⟩
    by_cases h4 : wd.length ≤ 4
    rotate_left
    · rw [decide_eq_false (show ¬ ((vs.length : Int) ≤ 4) by omega)]
      rw [if_pos (fun z => h4 z.2)] at qx
      exact iteT ((qx _ rfl).here (Same.refl _))
    rw [decide_eq_true (show (vs.length : Int) ≤ 4 by omega)]
    refine iteF ?_
    rw [if_neg (fun z => z ⟨h1, h4⟩)] at qx q
    -- kinds, seen = [], []
    refine ⟨s0, fun Kd nKd => ⟨s0, fun Sn nSn => ⟨B07.s2, fun t nt => ?_⟩⟩⟩
    refine ⟨t, _, rfl, .inl (.inl upd_same), rfl, _, _, rfl, _, _, rfl, rfl, ?_⟩
    have hKS : Kd ≠ Sn := fun z => by
      rw [← z, upd_same] at nSn
      cases nSn
    have nSnH : H Sn = none := Same.free (same_new nKd) nSn
    have sA : Same H (upd (upd (upd H Kd (.lst [])) Sn (.lst [])) t (.tup [.ref Kd, .ref Sn])) := ((same_new nKd).trans (same_new nSn)).trans (same_new nt)
    have eK : upd (upd (upd H Kd (.lst [])) Sn (.lst [])) t (.tup [.ref Kd, .ref Sn]) Kd = some (.lst []) := (same_new nt) _ _ ((same_new nSn) _ _ upd_same)
    have eS : upd (upd (upd H Kd (.lst [])) Sn (.lst [])) t (.tup [.ref Kd, .ref Sn]) Sn = some (.lst []) := (same_new nt) _ _ upd_same
    generalize upd (upd (upd H Kd (.lst [])) Sn (.lst [])) t (.tup [.ref Kd, .ref Sn]) = HA at sA eK eS
    -- the kinds
    refine ⟨_, rfl, p, rfl, ⟨vs, .inl (.inl (sA _ _ ep))⟩, for_it (walk_tup (xs := vs)) (fun i σ H' => ∃ (y3 y4 : Option V), σ = [some (.ref p), some (.ref Kd), some (.ref Sn), y3, y4, none, none, none] ∧ Same H H' ∧ H' Sn = some (.lst []) ∧ H' Kd = some (.lst (nmsV ((kds wd).take i))) ∧ badK [] wd = badK ((kds wd).take i) (wd.drop i)) ⟨none, none, rfl, sA, eS, eK, rfl⟩ (fun i σ H' hi P => ?_) (fun i x σ H' H'' hi P y => ?_) (fun σ H' P => ?_)⟩
    · obtain ⟨_, _, _, s1, _⟩ := P
      exact .inl (.inl (s1 _ _ ep))
    · obtain ⟨y3, y4, rfl, s1, eS, eF, hb⟩ := P
      obtain ⟨rfl, ex⟩ := y
      obtain ⟨⟨nm, ms⟩, enm, tk, tt, mv, rfl, etk, ett, hms⟩ := paired_at hw ex
      have emap : (kds wd)[i]? = some nm := by
        rw [List.getElem?_map, enm]
        rfl
      have htx : tx nm := tame.kindT nm (List.mem_of_getElem? emap)
      rw [drop_at enm, badK_cons] at hb
      dsimp only at hb
      refine ⟨tk, _, rfl, .inl (.inl (s1 _ _ etk)), rfl, _, _, rfl, _, _, rfl, rfl, ?_⟩
      refine ⟨_, rfl, S nm, rfl, tx_len htx, htx.2, fun H2 s2 => ⟨_, rfl, ?_⟩⟩
      by_cases hn : nmB (S nm) = false
      · rw [hn]
        rw [if_pos hn] at hb
        rw [hb] at qx
        exact iteT ⟨_, rfl, (qx _ rfl).here (s1.trans s2)⟩
      rw [if_neg hn] at hb
      rw [Bool.not_eq_false] at hn
      rw [hn]
      refine iteF ?_
      have eF2 := s2 _ _ eF
      refine ⟨_, rfl, _, rfl, Kd, _, rfl, .inl (SqL.of eF2), rfl, nms_flat _, _, rfl, ?_⟩
      rw [show inV (.str (S nm)) (nmsV ((kds wd).take i)) = decide (nm ∈ (kds wd).take i) from inV_S _]
      by_cases hin : nm ∈ (kds wd).take i
      · rw [decide_eq_true hin]
        rw [if_pos hin] at hb
        rw [hb] at qx
        exact iteT ⟨_, rfl, (qx _ rfl).here (s1.trans s2)⟩
      rw [if_neg hin] at hb
      rw [decide_eq_false hin]
      refine iteF ?_
      refine ⟨.ref Kd, rfl, .inl ⟨rfl, _, SqL.of eF2⟩, _, rfl, Kd, _, _, rfl, rfl, eF2, ?_, ?_⟩
      · rw [nmsV_len, List.length_take, List.length_map]
        exact Nat.lt_of_le_of_lt (show _ ≤ 10000 by omega) (by decide)
      · refine ⟨_, _, rfl, fun b o e => ?_, ?_, ?_, ?_⟩
        · rw [upd_ne (ne_of_none e nKd)]
          exact s2 _ _ (s1 _ _ e)
        · rw [upd_ne hKS.symm]
          exact s2 _ _ eS
        · rw [upd_same, List.take_add_one, emap]
          show _ = some (HO.lst (nmsV ((kds wd).take i ++ [nm])))
          rw [nms_snoc]
        · rw [List.take_add_one, emap]
          exact hb
    obtain ⟨y3, y4, rfl, s1, eS, eK, hb⟩ := P
    rw [hl, List.drop_length] at hb
    rw [hb] at qx q
    dsimp only [badK] at qx q
    rw [hl, show wd.length = (kds wd).length by rw [List.length_map], List.take_length] at eK
    -- the makers
    refine ⟨_, rfl, p, rfl, ⟨vs, .inl (.inl (s1 _ _ ep))⟩, for_it (walk_tup (xs := vs)) (fun i σ H' => ∃ (y3 y4 y5 y6 : Option V), σ = [some (.ref p), some (.ref Kd), some (.ref Sn), y3, y4, y5, y6, none] ∧ Same H H' ∧ H' Kd = some (.lst (nmsV (kds wd))) ∧ H' Sn = some (.lst (nmsV ((mks (wd.take i)).map (·.1)))) ∧ badM (kds wd) [] (mks wd) = badM (kds wd) ((mks (wd.take i)).map (·.1)) (mks (wd.drop i))) ⟨y3, y4, none, none, rfl, s1, eK, eS, rfl⟩ (fun i σ H' hi P => ?_) (fun i x σ H' H'' hi P y => ?_) (fun σ H' P => ?_)⟩
    · obtain ⟨_, _, _, _, _, s1, _⟩ := P
      exact .inl (.inl (s1 _ _ ep))
    · obtain ⟨y3, y4, y5, y6, rfl, s1, eK, eS, hb⟩ := P
      obtain ⟨rfl, ex⟩ := y
      obtain ⟨⟨nm, ms⟩, enm, tk, tt, mvs, rfl, etk, ett, hms⟩ := paired_at hw ex
      rw [mks_drop enm] at hb
      dsimp only at hb
      have hmi : (mks (wd.take i)).length + ms.length ≤ 10000 := by
        have h1 := mks_le (wd := wd) (i := i + 1)
        rw [mks_take enm, List.length_append] at h1
        dsimp only at h1
        have h2 := tame.many
        omega
      refine ⟨tk, _, rfl, .inl (.inl (s1 _ _ etk)), rfl, _, _, rfl, _, _, rfl, rfl, ?_⟩
      refine ⟨_, rfl, tt, rfl, ⟨mvs, .inl (.inl (s1 _ _ ett))⟩, for_it (walk_tup (xs := mvs)) (fun j σ H' => ∃ (y5 y6 : Option V), σ = [some (.ref p), some (.ref Kd), some (.ref Sn), some (.str (S nm)), some (.ref tt), y5, y6, none] ∧ Same H H' ∧ H' Kd = some (.lst (nmsV (kds wd))) ∧ H' Sn = some (.lst (nmsV ((mks (wd.take i) ++ ms.take j).map (·.1)))) ∧ badM (kds wd) [] (mks wd) = badM (kds wd) ((mks (wd.take i) ++ ms.take j).map (·.1)) (ms.drop j ++ mks (wd.drop (i + 1))))
        ⟨y5, y6, rfl, s1, eK, by rw [List.take_zero, List.append_nil]; exact eS, by rw [List.take_zero, List.append_nil]; exact hb⟩ (fun j σ H' hj P => ?_) (fun j x σ H' H'' hj P y => ?_) (fun σ H' P => ?_)⟩
      · obtain ⟨_, _, _, s1, _⟩ := P
        exact .inl (.inl (s1 _ _ ett))
      · obtain ⟨y5, y6, rfl, s1, eK, eS, hb⟩ := P
        obtain ⟨rfl, ex'⟩ := y
        obtain ⟨⟨mn, ps⟩, emk, mk, mt, rfl, emk1, emt⟩ := paired_at hms ex'
        have hjl : j < ms.length := (List.getElem?_eq_some_iff.mp emk).1
        have hmem : (mn, ps) ∈ mks wd := by
          unfold mks
          exact List.mem_flatMap.mpr ⟨_, List.mem_of_getElem? enm, List.mem_of_getElem? emk⟩
        obtain ⟨htn, hpl0, htp⟩ := tame.makerT _ hmem
        dsimp only at htn hpl0 htp
        rw [drop_at emk, List.cons_append, badM_cons] at hb
        dsimp only at hb
        have hsn : ((mks (wd.take i) ++ ms.take (j + 1)).map (·.1)) = (mks (wd.take i) ++ ms.take j).map (·.1) ++ [mn] := by
          rw [List.take_add_one, emk, ← List.append_assoc, List.map_append]
          rfl
        have hsl : ((mks (wd.take i) ++ ms.take j).map (·.1)).length ≤ 10000 := by
          rw [List.length_map, List.length_append, List.length_take]
          omega
        rw [hsn]
        generalize (mks (wd.take i) ++ ms.take j).map (·.1) = sn at eS hb hsl
        refine ⟨mk, _, rfl, .inl (.inl (s1 _ _ emk1)), rfl, _, _, rfl, _, _, rfl, rfl, ?_⟩
        refine ⟨_, rfl, S mn, rfl, tx_len htn, htn.2, fun H2 s2 => ⟨_, rfl, ?_⟩⟩
        by_cases hn : nmB (S mn) = false
        · rw [hn]
          rw [if_pos hn] at hb
          rw [hb] at qx
          exact iteT ⟨_, rfl, (qx _ rfl).here (s1.trans s2)⟩
        rw [if_neg hn] at hb
        rw [Bool.not_eq_false] at hn
        rw [hn]
        refine iteF ?_
        have eS2 := s2 _ _ eS
        have eK2 := s2 _ _ eK
        refine ⟨_, rfl, _, rfl, Sn, _, rfl, .inl (SqL.of eS2), rfl, nms_flat _, _, rfl, ?_⟩
        rw [show inV (.str (S mn)) (nmsV sn) = decide (mn ∈ sn) from inV_S _]
        by_cases hin : mn ∈ sn
        · rw [decide_eq_true hin]
          rw [if_pos hin] at hb
          rw [hb] at qx
          exact iteT ⟨_, rfl, (qx _ rfl).here (s1.trans s2)⟩
        rw [if_neg hin] at hb
        rw [decide_eq_false hin]
        refine iteF ?_
        have emt2 := s2 _ _ (s1 _ _ emt)
        have hpl : (nmsV ps).length = ps.length := nmsV_len
        refine ⟨_, rfl, mt, _, rfl, .inr (.inl (.inl emt2)), _, _, rfl, rfl, _, rfl, ?_⟩
        rw [hpl]
        by_cases h2 : 2 < ps.length
        · rw [decide_eq_true (show (2 : Int) < (ps.length : Int) by omega)]
          rw [if_pos h2] at hb
          rw [hb] at qx
          exact iteT ⟨_, rfl, (qx _ rfl).here (s1.trans s2)⟩
        rw [if_neg h2] at hb
        rw [decide_eq_false (show ¬ ((2 : Int) < (ps.length : Int)) by omega)]
        refine iteF ?_
        refine ⟨_, rfl, mt, rfl, ⟨_, .inl (.inl emt2)⟩, fun D nD => ?_⟩
        refine walk_it (walk_tup (xs := nmsV ps)) (fun k Hx => Same H2 Hx ∧ Hx D = some (.lst (nmsV ((ps.take k).filter fun q => !decide (q ∈ kds wd))))) ⟨same_new nD, upd_same⟩ (fun k Hx hk P => .inl (.inl (P.1 _ _ emt2))) (fun k x Hx Hy hk P y => ?_) (fun H3 P => ?_)
        · obtain ⟨sx, eD⟩ := P
          obtain ⟨rfl, exk⟩ := y
          unfold nmsV at exk
          rw [List.getElem?_map] at exk
          cases epk : ps[k]? with
          | none =>
            rw [epk] at exk
            cases exk
          | some pk =>
            rw [epk] at exk
            cases Option.some.inj exk
            refine ⟨rfl, _, rfl, _, rfl, Kd, _, rfl, .inl (SqL.of (sx _ _ eK2)), rfl, nms_flat _, _, rfl, ?_⟩
            rw [show inV (.str (S pk)) (nmsV (kds wd)) = decide (pk ∈ kds wd) from inV_S _]
            show (if (!decide (pk ∈ kds wd)) = true then _ else _)
            rw [List.take_add_one, epk]
            by_cases hm : pk ∈ kds wd
            · rw [decide_eq_true hm]
              refine iteF ⟨sx, ?_⟩
              rw [eD, List.filter_append]
              simp [hm]
            · rw [decide_eq_false hm]
              refine iteT ⟨_, rfl, _, eD, ?_, fun b o e => ?_, ?_⟩
              · rw [nmsV_len]
                exact Nat.lt_of_le_of_lt (Nat.le_trans (List.length_filter_le _ _) (show _ ≤ 10000 by rw [List.length_take]; omega)) (by decide)
              · rw [upd_ne (ne_of_none e nD)]
                exact sx _ _ e
              · rw [upd_same, List.filter_append, show ((some pk).toList.filter fun q => !decide (q ∈ kds wd)) = [pk] by simp [hm], nms_snoc]
        · obtain ⟨s3, eD⟩ := P
          rw [hpl, List.take_length] at eD
          refine ⟨B07.s0, fun L hL => ?_⟩
          have okn : ∀ u ∈ (ps.filter fun q => !decide (q ∈ kds wd)).map S, PyData.strOk u = true := fun u hu => by
            obtain ⟨n, hn, rfl⟩ := List.mem_map.mp hu
            exact (htp n (List.mem_filter.mp hn).1).2
          refine ⟨.list _, .list [], .lst (SqL.of (by rw [(same_new hL) _ _ eD, nms_strs])) (dpAll_strs _), .lst (SqL.of upd_same) .nil, shaped_list (flat_strs okn), rfl, _, rfl, ?_⟩
          have e3 : PyData.eqv (.list (((ps.filter fun q => !decide (q ∈ kds wd)).map S).map PyData.str)) (.list []) = ps.all fun q => decide (q ∈ kds wd) := by
            show PyData.eqvAll _ ([].map PyData.str) = _
            rw [eqv_strs]
            rw [Bool.eq_iff_iff, decide_eq_true_iff, List.map_eq_nil_iff, List.filter_eq_nil_iff, List.all_eq_true]
            simp
          rw [e3]
          have s4 : Same H (upd H3 L (.lst [])) := ((s1.trans s2).trans s3).trans (same_new hL)
          by_cases ha : (ps.all fun q => decide (q ∈ kds wd)) = false
          · rw [ha]
            rw [if_pos ha] at hb
            rw [hb] at qx
            exact iteT ⟨_, rfl, (qx _ rfl).here s4⟩
          rw [if_neg ha] at hb
          rw [Bool.not_eq_false] at ha
          rw [ha]
          refine iteF ?_
          have eS4 := (same_new (o := .lst []) hL) _ _ (s3 _ _ eS2)
          have eK4 := (same_new (o := .lst []) hL) _ _ (s3 _ _ eK2)
          refine ⟨.ref Sn, rfl, .inl ⟨rfl, _, SqL.of eS4⟩, _, rfl, Sn, _, _, rfl, rfl, eS4, ?_, ?_⟩
          · rw [nmsV_len]
            exact Nat.lt_of_le_of_lt hsl (by decide)
          · refine ⟨_, _, rfl, fun b o e => ?_, ?_, ?_, hb⟩
            · rw [upd_ne (ne_of_none e nSnH)]
              exact s4 _ _ e
            · rw [upd_ne hKS]
              exact eK4
            · rw [upd_same, nms_snoc]
      · obtain ⟨y5, y6, rfl, s1, eK, eS, hb⟩ := P
        rw [hms.length, List.take_length] at eS hb
        rw [List.drop_length, List.nil_append] at hb
        rw [← mks_take (k := (nm, ms)) enm] at eS hb
        exact ⟨_, _, _, _, rfl, s1, eK, eS, hb⟩
    · obtain ⟨y3, y4, y5, y6, rfl, s1, eK, eS, hb⟩ := P
      rw [hl, List.take_length] at eS hb
      rw [List.drop_length] at hb
      have hb' : badM (kds wd) [] (mks wd) = none := hb
      rw [hb'] at qx q
      dsimp only at qx q
      refine ⟨B07.s2, fun t nt => ⟨B07.s2, fun L nL => ?_⟩⟩
      have s5 : Same H' (upd (upd H' t (.tup [.str "makers", .str ""])) L (.lst [.non, .ref t])) := (same_new nt).trans (same_new nL)
      have et : upd (upd H' t (.tup [.str "makers", .str ""])) L (.lst [.non, .ref t]) t = some (.tup [.str "makers", .str ""]) := (same_new nL) _ _ upd_same
      have eL : upd (upd H' t (.tup [.str "makers", .str ""])) L (.lst [.non, .ref t]) L = some (.lst [.non, .ref t]) := upd_same
      refine ⟨_, rfl, Sn, _, rfl, .inl (SqL.of (s5 _ _ eS)), _, _, rfl, rfl, .inr ⟨_, rfl, ?_⟩⟩
      rw [nmsV_len, List.length_map]
      by_cases h12 : 12 < (mks wd).length
      · rw [decide_eq_true (show ((12 : Int) < ((mks wd).length : Int)) by omega)]
        rw [if_pos h12] at qx
        exact ⟨L, _, _, .ref t, rfl, rfl, SqL.of eL, rfl, qx _ rfl t _ (s1.trans s5) et⟩
      · rw [decide_eq_false (show ¬ ((12 : Int) < ((mks wd).length : Int)) by omega)]
        rw [if_neg h12] at q
        exact ⟨L, _, _, .non, rfl, rfl, SqL.of eL, rfl, q rfl _ (s1.trans s5)⟩
end

/-! ### told and due -/
def tolds (wd : Wood) : List V := match bad wd with
  | none => [.str "let by"]
  | some r => [.str "refused", .str r.1, .str r.2]
section
variable {P : Program} {w : World} {K : PySem.W.Frag} {mg : Str → Option Value} {base : Heap}
theorem s10 : 10 ≤ sizeLine := by decide
def spTold : Sp := fun vs H Q _ => ∃ (p : Addr) (wd : Wood), vs = [.ref p] ∧ WdAt H p wd ∧ Tame wd ∧ ∀ (t : Addr) (H' : Hp), Same H H' → H' t = some (.tup (tolds wd)) → Q (.ref t) H'
theorem ok_due (T : Tx P K mg) : FnOk P w K mg base CX0 3 T.f_due T.fd_due ["_law_wood_here"] spTold := by
  refine T.F_due.ok sc_due (fun vs H Q E h => ?_) (fun cdv A outer s H vs Q E hr h => ?_)
  · obtain ⟨a, b, rfl, _⟩ := h
    rfl
  · obtain ⟨p, wd, rfl, hw, tame, q⟩ := h
    refine ⟨_, (pss_cons (ps_set (i := 1) sc_due.nd rfl (.inl rfl) (pe_call (ok_lookdue T) (hr.mono (by decide) : Room 2 _) (by rfl) T.g_lookdue T.F_lookdue.kp T.b_lookdue .nil pass0 (pa_cons (pv 0) pa_nil))) (pss_cons (ps_if (pt_cmpR op_isN (pv 1) pe_non (nomark _)) (pss_one (ps_ret (pe_tup (pa_cons pe_str pa_nil)))) pss_nil) (pss_one (ps_ret (pe_op op_catT (pe_tup (pa_cons pe_str pa_nil)) (pv 1)))))), ?_⟩
    unfold tolds at q
    refine ⟨_, rfl, p, wd, rfl, hw, tame, fun r hr t H1 s1 et => ?_, fun hb H1 s1 => ?_⟩
    · rw [hr] at q
      refine ⟨_, rfl, rfl, _, rfl, iteF ?_⟩
      refine ⟨B07.s1, fun u nu => ⟨_, rfl, u, t, _, _, rfl, rfl, .inl (.inl upd_same), .inl (.inl ((same_new nu) _ _ et)), (by intro z; cases z), s3, (fun z => by cases z), fun _ v nv => ?_⟩⟩
      exact q v _ ((s1.trans (same_new nu)).trans (same_new nv)) upd_same
    · rw [hb] at q
      refine ⟨_, rfl, rfl, _, rfl, iteT ⟨B07.s1, fun u nu => ?_⟩⟩
      exact q u _ (s1.trans (same_new nu)) upd_same
theorem ok_told (T : Tx P K mg) : FnOk P w K mg base CX0 4 T.f_told T.fd_told ["_law_wood_here"] spTold := by
  refine T.F_told.ok sc_told (fun vs H Q E h => ?_) (fun cdv A outer s H vs Q E hr h => ?_)
  · obtain ⟨a, b, rfl, _⟩ := h
    rfl
  · obtain ⟨p, wd, rfl, hw, tame, q⟩ := h
    refine ⟨_, (pss_cons (ps_set (i := 1) sc_told.nd rfl (.inl rfl) (pe_tup (pa_cons pe_str pa_nil))) (pss_cons (ps_try_as (i := 2) (Wout := fun _ _ _ _ => False) rfl rfl sc_told.nd rfl rfl ⟨rfl, by decide, .inl T.g_BoughError⟩ takes0 (fun W pn xe tk _ => (pss_one (ps_if (pt_cmpR op_is_bl (pe_callS (ok_lookwood T) (hr.mono (by decide) : Room 3 _) (by rfl) T.g_lookwood T.F_lookwood.kp T.b_lookwood (fun σ => passAt tk σ) (by exact (pa_cons (pv 0) pa_nil))) pe_bl (nomark _)) (pss_one (ps_set (i := 1) sc_told.nd rfl (.inl rfl) (pe_tup (pa_cons pe_str pa_nil)))) pss_nil))) (fun a oe cls d pn hz hf => (pss_cons (ps_set (i := 3) sc_told.nd rfl (.inl rfl) (pe_callB (BI.call_FT T.exI hz hf) (by rfl) T.m_isinstance (by decide +kernel) (pa_cons (pv 2) (pa_cons (pe_tup (pa_cons (pe_glob (v := .ref T.C_NoFit) (by rfl) T.g_NoFit rfl) (pa_cons (pe_glob (v := .ref T.C_NoPrinter) (by rfl) T.g_NoPrinter rfl) (pa_cons (pe_glob (v := .ref T.C_NoReader) (by rfl) T.g_NoReader rfl) (pa_cons (pe_glob (v := .ref T.C_NoRow) (by rfl) T.g_NoRow rfl) (pa_cons (pe_glob (v := .ref T.C_NoText) (by rfl) T.g_NoText rfl) (pa_cons (pe_glob (v := .ref T.C_NoTree) (by rfl) T.g_NoTree rfl) (pa_cons (pe_glob (v := .ref T.C_NoTurner) (by rfl) T.g_NoTurner rfl) (pa_cons (pe_glob (v := .ref T.C_NoWord) (by rfl) T.g_NoWord rfl) (pa_cons (pe_glob (v := .ref T.C_TooLong) (by rfl) T.g_TooLong rfl) (pa_cons (pe_glob (v := .ref T.C_TooWide) (by rfl) T.g_TooWide rfl) pa_nil))))))))))) pa_nil)))) (pss_one (ps_if (PW.pt (pw_and (pt_val (pe_callB (BI.call_F T.exI hz hf) (by rfl) T.m_isinstance (by decide +kernel) (pa_cons (pv 2) (pa_cons (pe_glob (v := .ref T.C) (by rfl) T.exc.gC rfl) pa_nil)))) (pw_and (pt_val (pe_callB (BI.call_F T.exI hz hf) (by rfl) T.m_isinstance (by decide +kernel) (pa_cons (pv 2) (pa_cons (pe_bltn (v := .ty "ValueError") (by rfl) T.m_ValueError (by decide +kernel) rfl) pa_nil)))) (pw_and1 (pt_not (pt_val (pv 3))))))) (pss_one (ps_set (i := 1) sc_told.nd rfl (.inl rfl) (pe_tup (pa_cons pe_str (pa_cons (pe_xf T.xfc T.noWord hz hf (pv 2)) (pa_cons (pe_xf T.xfc T.noName hz hf (pv 2)) pa_nil)))))) pss_nil))))) (pss_one (ps_ret (pv 1))))), ?_⟩
    unfold tolds at q
    refine ⟨s1, fun t0 nt0 => ?_⟩
    have sA : Same H (upd H t0 (.tup [.str "other"])) := same_new nt0
    refine ⟨_, rfl, p, wd, rfl, hw.mono (KT.of sA), tame, fun r hr d H1 s1 ed => ?_, fun hb H1 s1 => ?_⟩
    · rw [hr] at q
      refine ⟨true, T.exm, fun _ x _ => ?_, fun z => Bool.noConfusion z⟩
      refine ⟨_, rfl, s10, fun tc ntc => ?_⟩
      have ed2 := (same_new (o := .tup [.ref T.C_NoFit, .ref T.C_NoPrinter, .ref T.C_NoReader, .ref T.C_NoRow, .ref T.C_NoText, .ref T.C_NoTree, .ref T.C_NoTurner, .ref T.C_NoWord, .ref T.C_TooLong, .ref T.C_TooWide]) ntc) _ _ ed
      refine ⟨tc, _, _, false, d, _, rfl, rfl, ed2, rfl, upd_same, .cons (fun u h => h) (.cons (fun u h => h) (.cons (fun u h => h) (.cons (fun u h => h) (.cons (fun u h => h) (.cons (fun u h => h) (.cons (fun u h => h) (.cons (fun u h => h) (.cons (fun u h => h) (.cons (fun u h => h) .nil))))))))), ?_, ?_⟩
      · exact kitAny_cons T.k_NoFit (fun _ => kitAny_cons T.k_NoPrinter (fun _ => kitAny_cons T.k_NoReader (fun _ => kitAny_cons T.k_NoRow (fun _ => kitAny_cons T.k_NoText (fun _ => kitAny_cons T.k_NoTree (fun _ => kitAny_cons T.k_NoTurner (fun _ => kitAny_cons T.k_NoWord (fun _ => kitAny_cons T.k_TooLong (fun _ => kitAny_cons T.k_TooWide (fun _ => kitAny_nil) nofun) nofun) nofun) nofun) nofun) nofun) nofun) nofun) nofun) nofun
      refine ⟨_, rfl, _, _, true, d, _, rfl, rfl, ed2, rfl, (fun u h => h), T.kC, _, rfl, iteT ?_⟩
      refine ⟨_, rfl, _, _, true, d, _, rfl, rfl, ed2, rfl, (fun u h => h), T.kV, _, rfl, iteT ?_⟩
      refine ⟨_, rfl, _, rfl, iteT ?_⟩
      refine ⟨_, rfl, rfl, rfl, d, _, .str r.1, rfl, ed2, rfl, ?_⟩
      refine ⟨_, rfl, rfl, rfl, d, _, .str r.2, rfl, ed2, rfl, ?_⟩
      refine ⟨B07.s3, fun u nu => ?_⟩
      exact ⟨_, rfl, q u _ (((sA.trans s1).trans (same_new ntc)).trans (same_new nu)) upd_same⟩
    · rw [hb] at q
      refine ⟨_, _, rfl, rfl, _, rfl, iteT ⟨B07.s1, fun u nu => ?_⟩⟩
      exact ⟨_, rfl, q u _ ((sA.trans s1).trans (same_new nu)) upd_same⟩
end

/-! ### rows of a wood that is being spoilt: a typing -/
def TupT (b : Nat) (H : Hp) (t : Addr) : Prop := ∃ ps : List Nam, H t = some (.tup (nmsV ps)) ∧ ps.length ≤ b ∧ ∀ q ∈ ps, tx q
def MkL (N : Hp) (b : Nat) (H : Hp) (v : V) : Prop := ∃ m n t, v = .ref m ∧ H m = some (.lst [.str (S n), .ref t]) ∧ (tx n ∧ N m = none) ∧ TupT b H t
def MlL (N : Hp) (b : Nat) (H : Hp) (l : Addr) : Prop := ∃ ms : List V, H l = some (.lst ms) ∧ (ms.length ≤ b ∧ N l = none) ∧ ∀ v ∈ ms, MkL N b H v
def RwL (N : Hp) (b : Nat) (H : Hp) (v : V) : Prop := ∃ r k l, v = .ref r ∧ H r = some (.lst [.str (S k), .ref l]) ∧ (tx k ∧ N r = none) ∧ MlL N b H l
def RsL (N : Hp) (b : Nat) (H : Hp) (R : Addr) : Prop := ∃ rs : List V, H R = some (.lst rs) ∧ rs.length ≤ b ∧ ∀ v ∈ rs, RwL N b H v
section
variable {b : Nat} {H H' N : Hp}
theorem TupT.mono (k : KT H H') {t : Addr} (h : TupT b H t) : TupT b H' t := by
  obtain ⟨ps, e, h1, h2⟩ := h
  exact ⟨ps, k _ _ e, h1, h2⟩
/-- what holds at a heap where only one thing, of a shape of its own, has changed -/
theorem RsL.keep {x : Addr} (kt : KT H H') (k : ∀ p o, p ≠ x → H p = some o → H' p = some o) (n1 : ∀ n t, H x = some (.lst [.str (S n), .ref t]) → False) (n2 : ∀ ms : List V, H x = some (.lst ms) → (∀ v ∈ ms, ∃ p, v = .ref p) → False) :
    (∀ v, MkL N b H v → MkL N b H' v) ∧ (∀ l, MlL N b H l → MlL N b H' l) ∧ (∀ v, RwL N b H v → RwL N b H' v) ∧ ∀ R, RsL N b H R → RsL N b H' R := by
  have a1 : ∀ v, MkL N b H v → MkL N b H' v := fun v ⟨m, n, t, e, h1, h2, h3⟩ => ⟨m, n, t, e, k _ _ (fun z => n1 n t (by rw [← z]; exact h1)) h1, h2, h3.mono kt⟩
  have a2 : ∀ l, MlL N b H l → MlL N b H' l := fun l ⟨ms, h1, h2, h3⟩ => ⟨ms, k _ _ (fun z => n2 ms (by rw [← z]; exact h1) fun v hv => by
    obtain ⟨m, _, _, e, _⟩ := h3 v hv
    exact ⟨m, e⟩) h1, h2, fun v hv => a1 v (h3 v hv)⟩
  have a3 : ∀ v, RwL N b H v → RwL N b H' v := fun v ⟨r, q, l, e, h1, h2, h3⟩ => ⟨r, q, l, e, k _ _ (fun z => n1 q l (by rw [← z]; exact h1)) h1, h2, a2 l h3⟩
  refine ⟨a1, a2, a3, fun R ⟨rs, h1, h2, h3⟩ => ⟨rs, k _ _ (fun z => n2 rs (by rw [← z]; exact h1) fun v hv => by
    obtain ⟨m, _, _, e, _⟩ := h3 v hv
    exact ⟨m, e⟩) h1, h2, fun v hv => a3 v (h3 v hv)⟩⟩
theorem RsL.same (s : Same H H') {R : Addr} (h : RsL N b H R) : RsL N b H' R := by
  obtain ⟨rs, h1, h2, h3⟩ := h
  have a1 : ∀ v, MkL N b H v → MkL N b H' v := fun v ⟨m, n, t, e, h1, h2, h3⟩ => ⟨m, n, t, e, s _ _ h1, h2, h3.mono (KT.of s)⟩
  exact ⟨rs, s _ _ h1, h2, fun v hv => by
    obtain ⟨r, q, l, e, f1, f2, ms, g1, g2, g3⟩ := h3 v hv
    exact ⟨r, q, l, e, s _ _ f1, f2, ms, s _ _ g1, g2, fun v hv => a1 v (g3 v hv)⟩⟩
theorem RsL.gr {a R : Addr} (d : Drw H a) (g : Gr a H H') (h : RsL N b H R) : RsL N b H' R := by
  obtain ⟨x, y, z, e⟩ := d
  refine (RsL.keep (x := a) (KT.gr ⟨x, y, z, e⟩ g) (fun p o n h => g.1 p o n h) (fun n t q => ?_) (fun ms q f => ?_)).2.2.2 R h
  · rw [e] at q
    cases q
  · rw [e] at q
    cases q
    obtain ⟨p, e1⟩ := f (.int x) List.mem_cons_self
    cases e1
/-- another text or other parts in a maker's list -/
theorem RsL.setMk {m t t' R : Addr} {n n' : Nam} (e : H m = some (.lst [.str (S n), .ref t])) (ht : TupT b H t) (hn : tx n' ∧ N m = none) (ht' : TupT b H t') (h : RsL N b H R) : RsL N b (upd H m (.lst [.str (S n'), .ref t'])) R := by
  have kt : KT H (upd H m (.lst [.str (S n'), .ref t'])) := KT.lst e
  have a1 : ∀ v, MkL N b H v → MkL N b (upd H m (.lst [.str (S n'), .ref t'])) v := fun v ⟨m1, n1, t1, e1, h1, h2, h3⟩ => by
    by_cases z : m1 = m
    · subst z
      exact ⟨m1, n', t', e1, upd_same, hn, ht'.mono kt⟩
    · exact ⟨m1, n1, t1, e1, by rw [upd_ne z]; exact h1, h2, h3.mono kt⟩
  have nl : ∀ ms : List V, (∀ v ∈ ms, ∃ p, v = V.ref p) → ∀ l, H l = some (.lst ms) → l ≠ m := fun ms f l hl z => by
    rw [z, e] at hl
    cases hl
    obtain ⟨p, e1⟩ := f (.str (S n)) List.mem_cons_self
    cases e1
  have a2 : ∀ l, MlL N b H l → MlL N b (upd H m (.lst [.str (S n'), .ref t'])) l := fun l ⟨ms, h1, h2, h3⟩ => ⟨ms, by
    rw [upd_ne (nl ms (fun v hv => by
      obtain ⟨m, _, _, e, _⟩ := h3 v hv
      exact ⟨m, e⟩) l h1)]
    exact h1, h2, fun v hv => a1 v (h3 v hv)⟩
  have a3 : ∀ v, RwL N b H v → RwL N b (upd H m (.lst [.str (S n'), .ref t'])) v := fun v ⟨r, q, l, e1, h1, h2, h3⟩ => ⟨r, q, l, e1, by
    rw [upd_ne (fun z => by
      rw [z, e] at h1
      cases h1
      obtain ⟨ps, f1, _⟩ := ht
      obtain ⟨ms, f2, _⟩ := h3
      rw [f1] at f2
      cases f2)]
    exact h1, h2, a2 l h3⟩
  obtain ⟨rs, h1, h2, h3⟩ := h
  exact ⟨rs, by
    rw [upd_ne (nl rs (fun v hv => by
      obtain ⟨m, _, _, e, _⟩ := h3 v hv
      exact ⟨m, e⟩) R h1)]
    exact h1, h2, fun v hv => a3 v (h3 v hv)⟩
theorem MkL.not_rw {v : V} (h : MkL N b H v) (h' : RwL N b H v) : False := by
  obtain ⟨m, n, t, e, h1, h2, ps, f1, _⟩ := h
  obtain ⟨r, q, l, e', g1, g2, ms, f2, _⟩ := h'
  rw [e] at e'
  cases e'
  rw [h1] at g1
  cases g1
  rw [f1] at f2
  cases f2
/-- other makers in a row's list -/
theorem RsL.setMl {l R : Addr} {ms ms' : List V} (e : H l = some (.lst ms)) (hl : ms'.length ≤ b ∧ N l = none) (hm : ∀ v ∈ ms', MkL N b H v) (ho : ∀ v ∈ ms, MkL N b H v) (nR : R ≠ l) (h : RsL N b H R) : RsL N b (upd H l (.lst ms')) R := by
  have kt : KT H (upd H l (.lst ms')) := KT.lst e
  have nm : ∀ (n : Str) (t p : Addr), H p = some (.lst [.str n, .ref t]) → p ≠ l := fun n t p hp z => by
    rw [z, e] at hp
    cases hp
    obtain ⟨_, _, _, e1, _⟩ := ho (.str n) List.mem_cons_self
    cases e1
  have a1 : ∀ v, MkL N b H v → MkL N b (upd H l (.lst ms')) v := fun v ⟨m1, n1, t1, e1, h1, h2, h3⟩ => ⟨m1, n1, t1, e1, by rw [upd_ne (nm _ _ _ h1)]; exact h1, h2, h3.mono kt⟩
  have a2 : ∀ l', MlL N b H l' → MlL N b (upd H l (.lst ms')) l' := fun l' ⟨us, h1, h2, h3⟩ => by
    by_cases z : l' = l
    · subst z
      exact ⟨ms', upd_same, hl, fun v hv => a1 v (hm v hv)⟩
    · exact ⟨us, by rw [upd_ne z]; exact h1, h2, fun v hv => a1 v (h3 v hv)⟩
  obtain ⟨rs, h1, h2, h3⟩ := h
  exact ⟨rs, by rw [upd_ne nR]; exact h1, h2, fun v hv => by
    obtain ⟨r, q, l1, e1, f1, f2, f3⟩ := h3 v hv
    exact ⟨r, q, l1, e1, by rw [upd_ne (nm _ _ _ f1)]; exact f1, f2, a2 l1 f3⟩⟩
/-- a row's list is not the list of the rows -/
theorem RsL.ne {R l : Addr} {rs ms : List V} {v : V} (e : H R = some (.lst rs)) (hv : v ∈ rs) (hr : ∀ v ∈ rs, RwL N b H v) (e' : H l = some (.lst ms)) (ho : ∀ v ∈ ms, MkL N b H v) : R ≠ l := fun z => by
  rw [z, e'] at e
  cases e
  exact (ho v hv).not_rw (hr v hv)
/-- another text in a row -/
theorem RsL.setRw {r l R : Addr} {k k' : Nam} (e : H r = some (.lst [.str (S k), .ref l])) (hl : MlL N b H l) (hk : tx k' ∧ N r = none) (h : RsL N b H R) : RsL N b (upd H r (.lst [.str (S k'), .ref l])) R := by
  have kt : KT H (upd H r (.lst [.str (S k'), .ref l])) := KT.lst e
  have a1 : ∀ v, MkL N b H v → MkL N b (upd H r (.lst [.str (S k'), .ref l])) v := fun v ⟨m1, n1, t1, e1, h1, h2, h3⟩ => ⟨m1, n1, t1, e1, by
    rw [upd_ne (fun z => by
      rw [z, e] at h1
      cases h1
      obtain ⟨ps, f1, _⟩ := h3
      obtain ⟨ms, f2, _⟩ := hl
      rw [f1] at f2
      cases f2)]
    exact h1, h2, h3.mono kt⟩
  have nl : ∀ ms : List V, (∀ v ∈ ms, ∃ p, v = V.ref p) → ∀ p, H p = some (.lst ms) → p ≠ r := fun ms f p hp z => by
    rw [z, e] at hp
    cases hp
    obtain ⟨p, e1⟩ := f (.str (S k)) List.mem_cons_self
    cases e1
  have a2 : ∀ l', MlL N b H l' → MlL N b (upd H r (.lst [.str (S k'), .ref l])) l' := fun l' ⟨ms, h1, h2, h3⟩ => ⟨ms, by
    rw [upd_ne (nl ms (fun v hv => by
      obtain ⟨m, _, _, e, _⟩ := h3 v hv
      exact ⟨m, e⟩) l' h1)]
    exact h1, h2, fun v hv => a1 v (h3 v hv)⟩
  obtain ⟨rs, h1, h2, h3⟩ := h
  refine ⟨rs, by
    rw [upd_ne (nl rs (fun v hv => by
      obtain ⟨m, _, _, e, _⟩ := h3 v hv
      exact ⟨m, e⟩) R h1)]
    exact h1, h2, fun v hv => ?_⟩
  obtain ⟨r1, q, l1, e1, f1, f2, f3⟩ := h3 v hv
  by_cases z : r1 = r
  · subst z
    rw [e] at f1
    cases f1
    exact ⟨r1, k', l, e1, upd_same, hk, a2 l hl⟩
  · exact ⟨r1, q, l1, e1, by rw [upd_ne z]; exact f1, f2, a2 l1 f3⟩
/-- other rows -/
theorem RsL.setRs {R : Addr} {rs rs' : List V} (e : H R = some (.lst rs)) (hr : ∀ v ∈ rs, RwL N b H v) (hl : rs'.length ≤ b) (hr' : ∀ v ∈ rs', RwL N b H v) (hn : ∀ l ms, H l = some (.lst ms) → (∀ v ∈ ms, MkL N b H v) → (∃ r ∈ rs', ∃ p q, r = V.ref p ∧ H p = some (.lst [.str q, .ref l])) → l ≠ R) : RsL N b (upd H R (.lst rs')) R := by
  have kt : KT H (upd H R (.lst rs')) := KT.lst e
  have nm : ∀ (n : Str) (t p : Addr), H p = some (.lst [.str n, .ref t]) → p ≠ R := fun n t p hp z => by
    rw [z, e] at hp
    cases hp
    obtain ⟨_, _, _, e1, _⟩ := hr (.str n) List.mem_cons_self
    cases e1
  have a1 : ∀ v, MkL N b H v → MkL N b (upd H R (.lst rs')) v := fun v ⟨m1, n1, t1, e1, h1, h2, h3⟩ => ⟨m1, n1, t1, e1, by rw [upd_ne (nm _ _ _ h1)]; exact h1, h2, h3.mono kt⟩
  refine ⟨rs', upd_same, hl, fun v hv => ?_⟩
  obtain ⟨r, q, l, e1, f1, f2, ms, g1, g2, g3⟩ := hr' v hv
  exact ⟨r, q, l, e1, by rw [upd_ne (nm _ _ _ f1)]; exact f1, f2, ms, by rw [upd_ne (hn l ms g1 g3 ⟨v, hv, r, _, e1, f1⟩)]; exact g1, g2, fun v hv => a1 v (g3 v hv)⟩
theorem RsL.le {b' R : Addr} (hb : b ≤ b') (h : RsL N b H R) : RsL N b' H R := by
  obtain ⟨rs, h1, h2, h3⟩ := h
  refine ⟨rs, h1, Nat.le_trans h2 hb, fun v hv => ?_⟩
  obtain ⟨r, q, l, e1, f1, f2, ms, g1, g2, g3⟩ := h3 v hv
  refine ⟨r, q, l, e1, f1, f2, ms, g1, ⟨Nat.le_trans g2.1 hb, g2.2⟩, fun u hu => ?_⟩
  obtain ⟨m, n, t, e, h1, h2, ps, i1, i2, i3⟩ := g3 u hu
  exact ⟨m, n, t, e, h1, h2, ps, i1, Nat.le_trans i2 hb, i3⟩
end

/-! ### _law_spoilt_wood -/
def SC_m1 : Scope := { kind := ScopeKind.function, names := [(Str.ofString ".0", NameKind.local), (Str.ofString "_law_kind", NameKind.local), (Str.ofString "_law_makers", NameKind.local)], isGenerator := false, isCoroutine := false }
def SC_m2 : Scope := { kind := ScopeKind.function, names := [(Str.ofString ".0", NameKind.local), (Str.ofString "_law_row", NameKind.local), (Str.ofString "tuple", NameKind.globalImplicit)], isGenerator := false, isCoroutine := false }
/-- a wood within bounds -/
structure Tm (b : Nat) (wd : Wood) : Prop where
  few : wd.length ≤ b
  kindT : ∀ k ∈ wd, tx k.1 ∧ k.2.length ≤ b ∧ ∀ m ∈ k.2, tx m.1 ∧ m.2.length ≤ b ∧ ∀ q ∈ m.2, tx q
section
variable {P : Program} {w : World} {K : PySem.W.Frag} {mg : Str → Option Value} {base : Heap}
theorem MkL.other {b : Nat} {H N : Hp} {D : Addr} {ms : List V} {o : List V} {v : V} (e : H D = some (.lst ms)) (f : ∀ v ∈ ms, ∃ p, v = V.ref p) (h : MkL N b H v) : MkL N b (upd H D (.lst o)) v := by
  obtain ⟨m, n, t, e1, h1, h2, h3⟩ := h
  refine ⟨m, n, t, e1, ?_, h2, h3.mono (KT.lst e)⟩
  rw [upd_ne (fun z => by
    rw [z, e] at h1
    cases h1
    obtain ⟨p, e2⟩ := f (.str (S n)) List.mem_cons_self
    cases e2)]
  exact h1
theorem MkL.same {b : Nat} {H H' N : Hp} {v : V} (s : Same H H') (h : MkL N b H v) : MkL N b H' v := by
  obtain ⟨m, n, t, e1, h1, h2, h3⟩ := h
  exact ⟨m, n, t, e1, s _ _ h1, h2, h3.mono (KT.of s)⟩
theorem MkL.ref {b : Nat} {H N : Hp} {v : V} (h : MkL N b H v) : ∃ p, v = .ref p := by
  obtain ⟨m, _, _, e, _⟩ := h
  exact ⟨m, e⟩
theorem RwL.same {b : Nat} {H H' N : Hp} {v : V} (s : Same H H') (h : RwL N b H v) : RwL N b H' v := by
  obtain ⟨r, k, l, e1, h1, h2, ms, g1, g2, g3⟩ := h
  exact ⟨r, k, l, e1, s _ _ h1, h2, ms, s _ _ g1, g2, fun v hv => (g3 v hv).same s⟩
theorem tailOf {T G : Prop} (f : T → G) (t : T) : G := f t
theorem Gr.new {a p : Addr} {H Hx : Hp} {o : HO} (g : Gr a H Hx) (n : H p = none) (na : p ≠ a) : Gr a H (upd Hx p o) := ⟨fun c u nc e => by
  rw [upd_ne (ne_of_none e n)]
  exact g.1 _ _ nc e, by
  obtain ⟨x, y, z, e⟩ := g.2
  exact ⟨x, y, z, by rw [upd_ne na.symm]; exact e⟩⟩
theorem eqi (x y : Int) : decide (V.int x = V.int y) = decide (x = y) := by simp
theorem dp_all {K : PySem.W.Frag} {H : Hp} {n : Nat} : ∀ {vs : List V}, (∀ v ∈ vs, ∃ d, Dp K H v d ∧ d.canLay0 = true ∧ d.depth ≤ n) → ∃ ds, DpAll K H vs ds ∧ PyData.canLayAll0 ds = true ∧ PyData.depthAll ds ≤ n ∧ ds.length = vs.length
  | [], _ => ⟨[], .nil, rfl, Nat.zero_le _, rfl⟩
  | v :: r, h => by
    obtain ⟨d, h1, h2, h3⟩ := h v List.mem_cons_self
    obtain ⟨ds, g1, g2, g3, g4⟩ := dp_all (vs := r) fun u hu => h u (List.mem_cons_of_mem _ hu)
    refine ⟨d :: ds, .cons h1 g1, ?_, ?_, by rw [List.length_cons, List.length_cons, g4]⟩
    · show (d.canLay0 && PyData.canLayAll0 ds) = true
      rw [h2, g2]
      rfl
    · show max d.depth (PyData.depthAll ds) ≤ n
      omega
theorem dp_lst {K : PySem.W.Frag} {H : Hp} {n : Nat} {a : Addr} {vs : List V} (e : SqL K H a vs) (h : ∀ v ∈ vs, ∃ d, Dp K H v d ∧ d.canLay0 = true ∧ d.depth ≤ n) : ∃ ds, Dp K H (.ref a) (.list ds) ∧ (PyData.list ds).canLay0 = true ∧ (PyData.list ds).depth ≤ n + 1 ∧ ds.length = vs.length := by
  obtain ⟨ds, g1, g2, g3, g4⟩ := dp_all h
  exact ⟨ds, .lst e g1, g2, Nat.succ_le_succ g3, g4⟩
theorem dp_tup {K : PySem.W.Frag} {H : Hp} {n : Nat} {a : Addr} {vs : List V} (e : SqT K H a vs) (h : ∀ v ∈ vs, ∃ d, Dp K H v d ∧ d.canLay0 = true ∧ d.depth ≤ n) : ∃ ds, Dp K H (.ref a) (.tuple ds) ∧ (PyData.tuple ds).canLay0 = true ∧ (PyData.tuple ds).depth ≤ n + 1 ∧ ds.length = vs.length := by
  obtain ⟨ds, g1, g2, g3, g4⟩ := dp_all h
  exact ⟨ds, .tup e g1, g2, Nat.succ_le_succ g3, g4⟩
theorem dp_str {K : PySem.W.Frag} {H : Hp} {n : Nat} {z : Nam} (h : tx z) : ∃ d, Dp K H (.str (S z)) d ∧ d.canLay0 = true ∧ d.depth ≤ n := ⟨_, .str _, h.2, Nat.zero_le _⟩
theorem two_mem {α : Type} {P : α → Prop} {x y : α} (hx : P x) (hy : P y) : ∀ v ∈ [x, y], P v := fun v hv => by
  rcases List.mem_cons.mp hv with rfl | hv
  · exact hx
  · rw [List.mem_singleton.mp hv]
    exact hy
theorem MkL.dp {K : PySem.W.Frag} {b : Nat} {H N : Hp} {v : V} (h : MkL N b H v) : ∃ d, Dp K H v d ∧ d.canLay0 = true ∧ d.depth ≤ 2 := by
  obtain ⟨m, n, t, rfl, h1, h2, ps, h3, h4, h5⟩ := h
  obtain ⟨dt, t1, t2, t3, _⟩ := dp_tup (K := K) (n := 0) (.inl (.inl h3)) (fun v hv => by
    obtain ⟨q, hq, rfl⟩ := List.mem_map.mp hv
    exact dp_str (h5 q hq))
  obtain ⟨dl, l1, l2, l3, _⟩ := dp_lst (K := K) (n := 1) (SqL.of h1) (two_mem (dp_str h2.1) ⟨_, t1, t2, t3⟩)
  exact ⟨_, l1, l2, l3⟩
theorem RwL.dp {K : PySem.W.Frag} {b : Nat} {H N : Hp} {v : V} (h : RwL N b H v) : ∃ d, Dp K H v d ∧ d.canLay0 = true ∧ d.depth ≤ 4 := by
  obtain ⟨m, n, t, rfl, h1, h2, ms, h3, h4, h5⟩ := h
  obtain ⟨dt, t1, t2, t3, _⟩ := dp_lst (K := K) (n := 2) (SqL.of h3) (fun v hv => (h5 v hv).dp)
  obtain ⟨dl, l1, l2, l3, _⟩ := dp_lst (K := K) (n := 3) (SqL.of h1) (two_mem (dp_str h2.1) ⟨_, t1, t2, t3⟩)
  exact ⟨_, l1, l2, l3⟩
theorem shaped_of {d : PyData} {n : Nat} (h1 : d.canLay0 = true) (h2 : d.depth ≤ n) (h3 : n ≤ 64) : SeqAt.shaped d = true := by
  show (d.canLay0 && decide (d.depth ≤ 64)) = true
  rw [h1, decide_eq_true (Nat.le_trans h2 h3)]
  rfl
theorem eqv_nil {ds : List PyData} : PyData.eqv (.list ds) (.list []) = decide (ds.length = 0) := by
  cases ds <;> rfl
theorem cut1 {xs : List V} : ∀ v ∈ cutV xs none (some 1), v ∈ xs := fun v hv => List.mem_of_mem_drop (List.mem_of_mem_take hv)
theorem cut1_len {xs : List V} : (cutV xs none (some 1)).length ≤ 1 := by
  unfold cutV
  rw [List.length_take]
  have : HT.sIx xs.length xs.length (some 1) ≤ 1 := by
    rw [show (some (1 : Int)) = some ((1 : Nat) : Int) from rfl, HT.sIx_nat]
    omega
  omega
theorem MkL.gr {a : Addr} {b : Nat} {H H' N : Hp} {v : V} (d : Drw H a) (g : Gr a H H') (h : MkL N b H v) : MkL N b H' v := by
  obtain ⟨m, n, t, e1, h1, h2, h3⟩ := h
  refine ⟨m, n, t, e1, g.1 _ _ (fun z => ?_) h1, h2, h3.mono (KT.gr d g)⟩
  obtain ⟨x, y, u, e⟩ := d
  rw [z, e] at h1
  cases h1
theorem MkL.le {b b' : Nat} {H N : Hp} {v : V} (hb : b ≤ b') (h : MkL N b H v) : MkL N b' H v := by
  obtain ⟨m, n, t, e1, h1, h2, ps, i1, i2, i3⟩ := h
  exact ⟨m, n, t, e1, h1, h2, ps, i1, Nat.le_trans i2 hb, i3⟩
def zyx : Str := Str.ofString "zyxwvut"
theorem zyx_at {d : Int} (h0 : 0 ≤ d) (h1 : d < 7) : ∃ c ∈ zyx.cps.toList, atI zyx.cps.toList d = some c := by
  have hd : d.toNat < zyx.cps.toList.length := by
    rw [show zyx.cps.toList.length = 7 by decide +kernel]
    omega
  exact ⟨_, List.getElem_mem hd, at_ofN (j := d.toNat) (by omega) (List.getElem?_eq_getElem hd)⟩
theorem zyx_tx : ∀ j, j < 5 → ∀ c ∈ zyx.cps.toList, (BO.repS (Str.ofString "q") (j + 1) ++ ⟨#[c]⟩ : Str).cps.toList.length ≤ 10 ∧ PyData.strOk (S (BO.repS (Str.ofString "q") (j + 1) ++ ⟨#[c]⟩ : Str).cps.toList) = true := by decide +kernel
theorem app_len {x y : Str} : (x ++ y).length = x.length + y.length := by
  show (x.cps ++ y.cps).size = x.cps.size + y.cps.size
  simp
theorem slA_of {K : PySem.W.Frag} {H : Hp} {t : Addr} {xs : List V} {lo hi : Option Int} {Q : VK} (e : H t = some (.tup xs)) (q : ∀ p' H', Same H H' → H' p' = some (.tup (cutV xs lo hi)) → Q (.ref p') H') : rSlA K (.ref t) lo hi H Q := by
  refine ⟨t, xs, rfl, SqT.of e, fun h => q t H (Same.refl H) ?_, fun _ p' n => q p' _ (same_new n) upd_same⟩
  unfold cutV
  rw [h.1, h.2, List.drop_zero, Nat.sub_zero, List.take_length]
  exact e
theorem catA_of {K : PySem.W.Frag} {H : Hp} {t u : Addr} {xs ys : List V} {Q : VK} (e : H t = some (.tup xs)) (e2 : H u = some (.tup ys)) (hz : xs.length + ys.length ≤ sizeLine) (q : ∀ p' H', Same H H' → H' p' = some (.tup (xs ++ ys)) → Q (.ref p') H') : rCatA K (.ref t) (.ref u) H Q := by
  refine ⟨t, u, xs, ys, rfl, rfl, SqT.of e, SqT.of e2, hz, fun h => q u H (Same.refl H) ?_, fun _ h => q t H (Same.refl H) ?_, fun _ _ p' n => q p' _ (same_new n) upd_same⟩
  · rw [h]
    exact e2
  · rw [h, List.append_nil]
    exact e
theorem rep_of {K : PySem.W.Frag} {H : Hp} {t : Addr} {v : V} {k : Int} {Q : VK} (e : H t = some (.tup [v])) (hk : k = 0 ∨ k = 1) (q : ∀ p' H' xs, Same H H' → H' p' = some (.tup xs) → xs = [] ∨ xs = [v] → Q (.ref p') H') : BO.rRep01 K (.ref t) (.int k) H Q := by
  refine ⟨t, k, [v], rfl, rfl, SqT.of e, (by intro z; cases z), ?_⟩
  rcases hk with rfl | rfl
  · exact .inr ⟨rfl, fun p' n => q p' _ [] (same_new n) upd_same (.inl rfl)⟩
  · exact .inl ⟨rfl, q t H [v] (Same.refl H) e (.inr rfl)⟩
/-- names, as values -/
def Tl (B : Nat) (xs : List V) : Prop := ∃ ps : List Nam, xs = nmsV ps ∧ ps.length ≤ B ∧ ∀ q ∈ ps, tx q
theorem Tl.cut {B : Nat} {xs : List V} {lo hi : Option Int} (h : Tl B xs) : Tl (cutV xs lo hi).length (cutV xs lo hi) := by
  obtain ⟨ps, rfl, h1, h2⟩ := h
  refine ⟨(ps.drop (HT.sIx (nmsV ps).length 0 lo)).take (HT.sIx (nmsV ps).length (nmsV ps).length hi - HT.sIx (nmsV ps).length 0 lo), ?_, ?_, fun q hq => h2 q (List.mem_of_mem_drop (List.mem_of_mem_take hq))⟩
  · unfold cutV nmsV
    rw [List.map_take, List.map_drop]
  · unfold cutV nmsV
    rw [← List.map_drop, ← List.map_take, List.length_map, List.length_map]
    exact Nat.le_refl _
theorem Tl.app {B C : Nat} {xs ys : List V} (h : Tl B xs) (g : Tl C ys) : Tl (B + C) (xs ++ ys) := by
  obtain ⟨ps, rfl, h1, h2⟩ := h
  obtain ⟨qs, rfl, g1, g2⟩ := g
  refine ⟨ps ++ qs, by unfold nmsV; rw [List.map_append], by rw [List.length_append]; omega, fun q hq => ?_⟩
  rcases List.mem_append.mp hq with hq | hq
  · exact h2 q hq
  · exact g2 q hq
theorem Tl.le {B C : Nat} {xs : List V} (h : Tl B xs) (hb : B ≤ C) : Tl C xs := by
  obtain ⟨ps, e, h1, h2⟩ := h
  exact ⟨ps, e, Nat.le_trans h1 hb, h2⟩
theorem Tl.one {n : Nam} (h : tx n) : Tl 1 [.str (S n)] := ⟨[n], rfl, Nat.le_refl _, fun q hq => by rw [List.mem_singleton.mp hq]; exact h⟩
theorem Tl.nil : Tl 0 [] := ⟨[], rfl, Nat.le_refl _, fun _ h => nomatch h⟩
theorem Tl.at {B b : Nat} {H : Hp} {t : Addr} {xs : List V} (h : Tl B xs) (e : H t = some (.tup xs)) (hb : B ≤ b) : TupT b H t := by
  obtain ⟨ps, rfl, h1, h2⟩ := h
  exact ⟨ps, e, Nat.le_trans h1 hb, h2⟩
theorem Tl.len {B : Nat} {xs : List V} (h : Tl B xs) : xs.length ≤ B := by
  obtain ⟨ps, rfl, h1, h2⟩ := h
  rw [nmsV_len]
  exact h1
theorem cut_hi {xs : List V} {k : Int} (h : 0 ≤ k) : (cutV xs none (some k)).length = min k.toNat xs.length := by
  unfold cutV
  rw [List.length_take, List.length_drop]
  show min ((if k < 0 then _ else min k.toNat xs.length) - 0) (xs.length - 0) = _
  rw [if_neg (by omega)]
  omega
theorem cut_lo {xs : List V} {k : Int} : (cutV xs (some k) none).length = xs.length - (if k < 0 then (k + (xs.length : Int)).toNat else min k.toNat xs.length) := by
  unfold cutV
  rw [List.length_take, List.length_drop]
  show min (xs.length - (if k < 0 then _ else min k.toNat xs.length)) (xs.length - (if k < 0 then _ else min k.toNat xs.length)) = _
  exact Nat.min_self _
theorem cut_two {n : Nat} {sp way : Int} (h0 : 0 ≤ sp) (h1 : sp < (n : Int) + 1) (h2 : 0 ≤ way) (h3 : way < 8) : min sp.toNat n + 1 + (n - (if sp + way - 6 < 0 then (sp + way - 6 + (n : Int)).toNat else min (sp + way - 6).toNat n)) ≤ n + 8 := by
  split <;> omega
def spSpoilt : Sp := fun vs H Q _ => ∃ (a p : Addr) (b : Nat) (wd : Wood), vs = [.ref a, .ref p] ∧ Drw H a ∧ WdAt H p wd ∧ Tm b wd ∧ b ≤ 50 ∧ ∀ (p' : Addr) (H' : Hp) (wd' : Wood), Gr a H H' → WdAt H' p' wd' → Tm (b + 8) wd' → Q (.ref p') H'
theorem ok_spoilt (T : Tx P K mg) : FnOk P w K mg base CX0 3 T.f_spoilt T.fd_spoilt ["_law_box_here", "_law_wood_here"] spSpoilt := by
  refine T.F_spoilt.ok sc_spoilt (fun vs H Q E h => ?_) (fun cdv A outer s H vs Q E hr h => ?_)
  · obtain ⟨a, p, b, wd, rfl, _⟩ := h
    rfl
  · obtain ⟨a, p, b, wd, rfl, dr, ⟨vs, ep, hw⟩, tm, hb, q⟩ := h
    refine ⟨_, (pss_cons (ps_setLc (i := 3) (own := [("_law_kind", 12), ("_law_makers", 2)]) (by rfl) sc_spoilt.nd rfl rfl (sw_true rfl rfl rfl (by decide +kernel)) (pi_tup (pv 1)) (blkOk_by (own := [("_law_kind", 12), ("_law_makers", 2)]) (N := ["_law_box_here", "_law_wood_here", "_law_makers", "_law_rows", "_law_way", "_law_at", "_law_row", "_law_names_here", "_law_word", "_law_full", "_law_one", "_law_spot", "_law_kind", "_law_maker", "_law_k"]) (sc := defScope st_spoilt) (by decide +kernel)) (fun _ _ _ _ _ => (KX.pg_tupK K (n := 2) rfl (pgs_cons (pg_name (i := 12) sc_spoilt.nd rfl (.inl rfl)) (pgs_cons (pg_name (i := 2) sc_spoilt.nd rfl (.inl rfl)) pgs_nil)))) (fun _ _ _ _ _ => pts_nil) (fun _ _ _ _ _ => (pe_lst (pa_cons (pv 12) (pa_cons (pe_lc (own := [("_law_maker", 13)]) (by rfl) sc_spoilt.nd (KX.pi_tupK K (pv 2)) (blkOk_by (own := [("_law_maker", 13)]) (N := ["_law_box_here", "_law_wood_here", "_law_makers", "_law_rows", "_law_way", "_law_at", "_law_row", "_law_names_here", "_law_word", "_law_full", "_law_one", "_law_spot", "_law_kind", "_law_maker", "_law_k"]) (sc := SC_m1) (by decide +kernel)) (fun _ _ _ _ _ => (pg_name (i := 13) sc_spoilt.nd rfl (.inl rfl))) (fun _ _ _ _ _ => pts_nil) (fun _ _ _ _ _ => (pe_callTy (KX.call_list_K K) (by rfl) T.m_list (by decide +kernel) (pa_cons (pv 13) pa_nil)))) pa_nil))))) (pss_cons (ps_par (i := 4) (j := 5) (by rfl) sc_spoilt.nd rfl rfl (by decide) rfl rfl (pa_cons (pe_call (ok_take T) (hr.mono (by decide) : Room 1 _) (by rfl) T.g_take T.F_take.kp T.b_take .nil pass0 (pa_cons (pv 0) (pa_cons pe_int pa_nil))) (pa_cons (pe_call (ok_take T) (hr.mono (by decide) : Room 1 _) (by rfl) T.g_take T.F_take.kp T.b_take .nil pass0 (pa_cons (pv 0) (pa_cons (pe_op op_add (pe_callB call_len_seq (by rfl) T.m_len PySem.boot_len (pa_cons (pv 3) pa_nil)) pe_int) pa_nil))) pa_nil)) (by rfl)) (pss_cons (ps_setLc (i := 7) (own := [("_law_row", 6)]) (by rfl) sc_spoilt.nd rfl rfl (sw_true rfl rfl rfl (by decide +kernel)) (pi_list (pv 3)) (blkOk_by (own := [("_law_row", 6)]) (N := ["_law_box_here", "_law_wood_here", "_law_makers", "_law_rows", "_law_way", "_law_at", "_law_row", "_law_names_here", "_law_word", "_law_full", "_law_one", "_law_spot", "_law_kind", "_law_maker", "_law_k"]) (sc := defScope st_spoilt) (by decide +kernel)) (fun _ _ _ _ _ => (pg_name (i := 6) sc_spoilt.nd rfl (.inl rfl))) (fun _ _ _ _ _ => pts_nil) (fun _ _ _ _ _ => (pe_ix (KX.ix_listK K) (pv 6) pe_int (fun _ _ => rfl)))) (pss_cons (ps_for PassesOwn.never rfl (pi_list (pv 3)) (pg_name (i := 6) sc_spoilt.nd rfl (.inl rfl)) (pss_one (ps_expr (pe_bm PySem.F.plainAttrs_list PySem.F.slot_list_extend PySem.F.type_list_extend mt_extend (pv 7) (pa_cons (pe_lc (own := [("_law_maker", 13)]) (by rfl) sc_spoilt.nd (pi_list (pe_ix ix_list (pv 6) pe_int (fun _ _ => rfl))) (blkOk_by (own := [("_law_maker", 13)]) (N := ["_law_box_here", "_law_wood_here", "_law_makers", "_law_rows", "_law_way", "_law_at", "_law_row", "_law_names_here", "_law_word", "_law_full", "_law_one", "_law_spot", "_law_kind", "_law_maker", "_law_k"]) (sc := defScope st_spoilt) (by decide +kernel)) (fun _ _ _ _ _ => (pg_name (i := 13) sc_spoilt.nd rfl (.inl rfl))) (fun _ _ _ _ _ => pts_nil) (fun _ _ _ _ _ => (pe_ix (KX.ix_listK K) (pv 13) pe_int (fun _ _ => rfl)))) pa_nil))))) (pss_cons (ps_set (i := 8) sc_spoilt.nd rfl (.inl rfl) (pe_ix ix_list (pe_lst (pa_cons (pe_call (ok_anytext T) (hr.mono (by decide) : Room 2 _) (by rfl) T.g_anytext T.F_anytext.kp T.b_anytext .nil pass0 (pa_cons (pv 0) pa_nil)) (pa_cons (pe_ix ix_list (pe_op op_cat (pv 7) (pe_lst (pa_cons pe_str pa_nil))) (pe_call (ok_take T) (hr.mono (by decide) : Room 1 _) (by rfl) T.g_take T.F_take.kp T.b_take .nil pass0 (pa_cons (pv 0) (pa_cons (pe_op op_add (pe_callB call_len_seq (by rfl) T.m_len PySem.boot_len (pa_cons (pv 7) pa_nil)) pe_int) pa_nil))) (fun _ _ => rfl)) pa_nil))) (pe_call (ok_take T) (hr.mono (by decide) : Room 1 _) (by rfl) T.g_take T.F_take.kp T.b_take .nil pass0 (pa_cons (pv 0) (pa_cons pe_int pa_nil))) (fun _ _ => rfl))) (pss_cons (ps_setLc (i := 9) (own := [("_law_row", 6)]) (by rfl) sc_spoilt.nd rfl rfl (sw_true rfl rfl rfl (by decide +kernel)) (pi_list (pv 3)) (blkOk_by (own := [("_law_row", 6)]) (N := ["_law_box_here", "_law_wood_here", "_law_makers", "_law_rows", "_law_way", "_law_at", "_law_row", "_law_names_here", "_law_word", "_law_full", "_law_one", "_law_spot", "_law_kind", "_law_maker", "_law_k"]) (sc := defScope st_spoilt) (by decide +kernel)) (fun _ _ _ _ _ => (pg_name (i := 6) sc_spoilt.nd rfl (.inl rfl))) (fun _ _ _ _ _ => (pts_one (pt_cmpR op_gt (pe_callB (KX.len_seqK K) (by rfl) T.m_len PySem.boot_len (pa_cons (pe_ix (KX.ix_listK K) (pv 6) pe_int (fun _ _ => rfl)) pa_nil)) pe_int (nomark _)))) (fun _ _ _ _ _ => (pv 6))) (C8.pss_cut (ps_if (PW.pt (pw_and (pt_cmpR op_eq (pv 4) pe_int (nomark _)) (pw_and1 (pt_cmpR op_lt (pv 5) (pe_callB call_len_seq (by rfl) T.m_len PySem.boot_len (pa_cons (pv 3) pa_nil)) (nomark _))))) (pss_one (ps_asg (pv 8) (pg_sub (pe_ix ix_list (pv 3) (pv 5) (fun _ _ => rfl)) pe_int set_list))) (pss_one (ps_if (pt_cmpR op_eq (pv 4) pe_int (nomark _)) (pss_one (ps_expr (pe_bm PySem.F.plainAttrs_list PySem.F.slot_list_insert PySem.F.type_list_insert mt_insert (pv 3) (pa_cons (pv 5) (pa_cons (pe_lst (pa_cons (pv 8) (pa_cons (pe_lst pa_nil) pa_nil))) pa_nil))))) (pss_one (ps_if (PW.pt (pw_and (pt_cmpR op_eq (pv 4) pe_int (nomark _)) (pw_and1 (pt_cmpR op_lt (pv 5) (pe_callB call_len_seq (by rfl) T.m_len PySem.boot_len (pa_cons (pv 3) pa_nil)) (nomark _))))) (pss_one (ps_expr (pe_bm PySem.F.plainAttrs_list PySem.F.slot_list_pop PySem.F.type_list_pop mt_popAt (pv 3) (pa_cons (pv 5) pa_nil)))) (pss_one (ps_if (pt_cmpR op_eq (pv 4) pe_int (nomark _)) (pss_one (ps_for PassesOwn.never rfl (pi_list (pe_slice sl_list (pv 3) po_none (po_some pe_int))) (pg_name (i := 6) sc_spoilt.nd rfl (.inl rfl)) (pss_one (ps_expr (pe_bm PySem.F.plainAttrs_list PySem.F.slot_list_extend PySem.F.type_list_extend mt_extend (pe_ix ix_list (pv 6) pe_int (fun _ _ => rfl)) (pa_cons (pe_lc (own := [("_law_k", 14)]) (by rfl) sc_spoilt.nd (pi_range1 (by rfl) T.m_range (pa_cons (pe_call (ok_take T) (hr.mono (by decide) : Room 1 _) (by rfl) T.g_take T.F_take.kp T.b_take .nil pass0 (pa_cons (pv 0) (pa_cons pe_int pa_nil))) pa_nil)) (blkOk_by (own := [("_law_k", 14)]) (N := ["_law_box_here", "_law_wood_here", "_law_makers", "_law_rows", "_law_way", "_law_at", "_law_row", "_law_names_here", "_law_word", "_law_full", "_law_one", "_law_spot", "_law_kind", "_law_maker", "_law_k"]) (sc := defScope st_spoilt) (by decide +kernel)) (fun _ _ _ _ _ => (pg_name (i := 14) sc_spoilt.nd rfl (.inl rfl))) (fun _ _ _ _ _ => pts_nil) (fun _ _ _ _ _ => (pe_lst (pa_cons (pe_op op_add_str (pe_op BO.op_repS pe_str (pe_op op_add pe_int (pv 14))) (pe_ix ix_str pe_str (pe_call (ok_take T) (hr.mono (by decide) : Room 1 _) (by rfl) T.g_take T.F_take.kp T.b_take .nil pass0 (pa_cons (pv 0) (pa_cons pe_int pa_nil))) (fun _ _ => rfl))) (pa_cons (pe_tup pa_nil) pa_nil))))) pa_nil)))))) (pss_one (ps_if (pt_cmpR (op_neD hr.units) (pv 9) (pe_lst pa_nil) (nomark _)) (pss_cons (ps_set (i := 2) sc_spoilt.nd rfl (.inl rfl) (pe_ix ix_list (pe_ix ix_list (pv 9) (pe_call (ok_take T) (hr.mono (by decide) : Room 1 _) (by rfl) T.g_take T.F_take.kp T.b_take .nil pass0 (pa_cons (pv 0) (pa_cons (pe_callB call_len_seq (by rfl) T.m_len PySem.boot_len (pa_cons (pv 9) pa_nil)) pa_nil))) (fun _ _ => rfl)) pe_int (fun _ _ => rfl))) (pss_cons (ps_set (i := 10) sc_spoilt.nd rfl (.inl rfl) (pe_ix ix_list (pv 2) (pe_call (ok_take T) (hr.mono (by decide) : Room 1 _) (by rfl) T.g_take T.F_take.kp T.b_take .nil pass0 (pa_cons (pv 0) (pa_cons (pe_callB call_len_seq (by rfl) T.m_len PySem.boot_len (pa_cons (pv 2) pa_nil)) pa_nil))) (fun _ _ => rfl))) (pss_cons (ps_set (i := 11) sc_spoilt.nd rfl (.inl rfl) (pe_call (ok_take T) (hr.mono (by decide) : Room 1 _) (by rfl) T.g_take T.F_take.kp T.b_take .nil pass0 (pa_cons (pv 0) (pa_cons (pe_op op_add (pe_callB call_len_seq (by rfl) T.m_len PySem.boot_len (pa_cons (pe_ix ix_list (pv 10) pe_int (fun _ _ => rfl)) pa_nil)) pe_int) pa_nil)))) (pss_one (ps_if (pt_cmpR op_eq (pv 4) pe_int (nomark _)) (pss_one (ps_asg (pv 8) (pg_sub (pv 10) pe_int set_list))) (pss_one (ps_if (pt_cmpR op_eq (pv 4) pe_int (nomark _)) (pss_one (ps_expr (pe_bm PySem.F.plainAttrs_list PySem.F.slot_list_append PySem.F.type_list_append mt_append (pv 2) (pa_cons (pe_lst (pa_cons (pe_ix ix_list (pv 10) pe_int (fun _ _ => rfl)) (pa_cons (pe_tup pa_nil) pa_nil))) pa_nil)))) (pss_one (ps_if (pt_cmpR op_lt (pv 4) pe_int (nomark _)) (pss_one (ps_asg (pe_op op_catA (pe_op op_catA (pe_slice sl_tupA (pe_ix ix_list (pv 10) pe_int (fun _ _ => rfl)) po_none (po_some (pv 11))) (pe_tup (pa_cons (pv 8) pa_nil))) (pe_slice sl_tupA (pe_ix ix_list (pv 10) pe_int (fun _ _ => rfl)) (po_some (pe_op op_sub (pe_op op_add (pv 11) (pv 4)) pe_int)) po_none)) (pg_sub (pv 10) pe_int set_list))) (pss_one (ps_asg (pe_op op_catA (pe_slice sl_tupA (pe_op op_catA (pe_ix ix_list (pv 10) pe_int (fun _ _ => rfl)) (pe_tup (pa_cons (pe_ix ix_list (pv 7) pe_int (fun _ _ => rfl)) (pa_cons (pe_ix ix_list (pv 7) pe_int (fun _ _ => rfl)) pa_nil)))) po_none (po_some pe_int)) (pe_op BO.op_rep01 (pe_tup (pa_cons (pv 8) pa_nil)) (pe_op op_sub (pv 4) pe_int))) (pg_sub (pv 10) pe_int set_list)))))))))))) pss_nil))))))))) (pss_one (ps_ret (pe_callTy call_tuple_of (by rfl) T.m_tuple (by decide +kernel) (pa_cons (pe_lc (own := [("_law_row", 6)]) (by rfl) sc_spoilt.nd (pi_list (pv 3)) (blkOk_by (own := [("_law_row", 6)]) (N := ["_law_box_here", "_law_wood_here", "_law_makers", "_law_rows", "_law_way", "_law_at", "_law_row", "_law_names_here", "_law_word", "_law_full", "_law_one", "_law_spot", "_law_kind", "_law_maker", "_law_k"]) (sc := defScope st_spoilt) (by decide +kernel)) (fun _ _ _ _ _ => (pg_name (i := 6) sc_spoilt.nd rfl (.inl rfl))) (fun _ _ _ _ _ => pts_nil) (fun _ _ _ _ _ => (pe_tup (pa_cons (pe_ix (KX.ix_listK K) (pv 6) pe_int (fun _ _ => rfl)) (pa_cons (pe_callTy (KX.call_tuple_K K) (by rfl) T.m_tuple (by decide +kernel) (pa_cons (pe_lc (own := [("_law_maker", 13)]) (by rfl) sc_spoilt.nd (KX.pi_listK K (pe_ix (KX.ix_listK K) (pv 6) pe_int (fun _ _ => rfl))) (blkOk_by (own := [("_law_maker", 13)]) (N := ["_law_box_here", "_law_wood_here", "_law_makers", "_law_rows", "_law_way", "_law_at", "_law_row", "_law_names_here", "_law_word", "_law_full", "_law_one", "_law_spot", "_law_kind", "_law_maker", "_law_k"]) (sc := SC_m2) (by decide +kernel)) (fun _ _ _ _ _ => (pg_name (i := 13) sc_spoilt.nd rfl (.inl rfl))) (fun _ _ _ _ _ => pts_nil) (fun _ _ _ _ _ => (pe_callTy (KX.call_tuple_K K) (by rfl) T.m_tuple (by decide +kernel) (pa_cons (pv 13) pa_nil)))) pa_nil)) pa_nil))))) pa_nil))))))))))), ?_⟩
    have hfew := tm.few
    refine ⟨_, rfl, p, rfl, ⟨vs, .inl (.inl ep)⟩, fun R nR => ?_⟩
    refine walk_it (walk_tup (xs := vs)) (fun i Hx => Same H Hx ∧ ∃ rs, Hx R = some (.lst rs) ∧ rs.length = i ∧ ∀ v ∈ rs, RwL H b Hx v) ⟨same_new nR, [], upd_same, rfl, fun _ h => nomatch h⟩ (fun i Hx hi P => .inl (.inl (P.1 _ _ ep))) (fun i x Hx Hy hi P y => ?_) (fun H1 P => ?_)
    · obtain ⟨sx, rs, eR, hlen, hrs⟩ := P
      obtain ⟨rfl, ex⟩ := y
      obtain ⟨⟨nm, ms⟩, enm, tk, tt, mvs, rfl, etk, ett, hms⟩ := paired_at hw ex
      obtain ⟨htn, hml, hmt⟩ := tm.kindT _ (List.mem_of_getElem? enm)
      dsimp only at htn hml hmt
      refine ⟨tk, _, rfl, .inl (.inl (sx _ _ etk)), rfl, _, _, rfl, _, _, rfl, rfl, rfl, ?_⟩
      unfold tYes
      refine iteT ?_
      refine ⟨_, rfl, _, rfl, tt, rfl, ⟨mvs, .inl (.inl (sx _ _ ett))⟩, fun D nD => ?_⟩
      refine walk_it (walk_tup (xs := mvs)) (fun j Hz => Same Hy Hz ∧ ∃ us, Hz D = some (.lst us) ∧ us.length = j ∧ ∀ v ∈ us, MkL H b Hz v) ⟨same_new nD, [], upd_same, rfl, fun _ h => nomatch h⟩ (fun j Hz hj P => .inl (.inl (P.1 _ _ (sx _ _ ett)))) (fun j x Hz Hz' hj P y => ?_) (fun Hz P => ?_)
      · obtain ⟨sz, us, eD, hul, hus⟩ := P
        obtain ⟨rfl, ex'⟩ := y
        obtain ⟨⟨mn, ps⟩, emk, mk, mt, rfl, emk1, emt⟩ := paired_at hms ex'
        obtain ⟨t1, t2, t3⟩ := hmt _ (List.mem_of_getElem? emk)
        dsimp only at t1 t2 t3
        have hjl : j < ms.length := (List.getElem?_eq_some_iff.mp emk).1
        refine ⟨rfl, iteT ⟨_, rfl, mk, _, rfl, .inr (.inl (.inl (sz _ _ (sx _ _ emk1)))), fun l nl => ?_⟩⟩
        have sl := same_new (o := .lst [.str (S mn), .ref mt]) nl
        refine ⟨us, sl _ _ eD, Nat.lt_of_le_of_lt (show us.length ≤ 1000 by omega) (by decide), fun c o e => ?_, us ++ [.ref l], upd_same, by rw [List.length_append, hul]; rfl, fun v hv => ?_⟩
        · rw [upd_ne (ne_of_none e nD)]
          exact sl _ _ (sz _ _ e)
        · have hD : upd Hz' l (.lst [.str (S mn), .ref mt]) D = some (.lst us) := sl _ _ eD
          refine MkL.other hD (fun v hv => (hus v hv).ref) ?_
          rcases List.mem_append.mp hv with hv | hv
          · exact (hus v hv).same sl
          · rw [List.mem_singleton.mp hv]
            exact ⟨l, mn, mt, rfl, upd_same, ⟨t1, Same.free (sx.trans sz) nl⟩, ps, sl _ _ (sz _ _ (sx _ _ emt)), t2, t3⟩
      · obtain ⟨sz, us, eD, hul, hus⟩ := P
        rw [hms.length] at hul
        dsimp only at hul
        refine ⟨s2, fun r nr => ?_⟩
        have sl := same_new (o := .lst [.str (S nm), .ref D]) nr
        have eR2 := sl _ _ (sz _ _ eR)
        have hi' : i < wd.length := (List.getElem?_eq_some_iff.mp enm).1
        have hall : ∀ v ∈ rs ++ [V.ref r], RwL H b (upd Hz r (.lst [.str (S nm), .ref D])) v := fun v hv => by
          rcases List.mem_append.mp hv with hv | hv
          · exact (hrs v hv).same (sz.trans sl)
          · rw [List.mem_singleton.mp hv]
            exact ⟨r, nm, D, rfl, upd_same, ⟨htn, Same.free (sx.trans sz) nr⟩, us, sl _ _ eD, ⟨by omega, Same.free sx nD⟩, fun v hv => (hus v hv).same sl⟩
        have hold : ∀ v ∈ rs, RwL H b (upd Hz r (.lst [.str (S nm), .ref D])) v := fun v hv => hall v (List.mem_append_left _ hv)
        have hset := RsL.setRs (rs' := rs ++ [V.ref r]) eR2 hold (by rw [List.length_append, hlen]; show i + 1 ≤ b; omega) hall (fun l ms hl hms' ⟨x, hx, p', q', ex1, ex2⟩ z => ?_)
        · refine ⟨rs, eR2, Nat.lt_of_le_of_lt (show rs.length ≤ 1000 by omega) (by decide), fun c o e => ?_, rs ++ [.ref r], upd_same, by rw [List.length_append, hlen]; rfl, ?_⟩
          · rw [upd_ne (ne_of_none e nR)]
            exact sl _ _ (sz _ _ (sx _ _ e))
          · obtain ⟨rs2, g1, _, g3⟩ := hset
            rw [upd_same] at g1
            cases g1
            exact g3
        · rcases List.mem_append.mp hx with hx | hx
          · exact RsL.ne eR2 hx hold hl hms' z.symm
          · rw [List.mem_singleton.mp hx] at ex1
            cases ex1
            rw [upd_same] at ex2
            cases ex2
            exact ne_of_none eR nD z.symm
    obtain ⟨sA, rs, eR, hlen, hrs⟩ := P
    rw [hw.length] at hlen
    have hR : RsL H b H1 R := ⟨rs, eR, by omega, hrs⟩
    have nRa : R ≠ a := (dr.ne nR).symm
    have G1 : Gr a H H1 := Gr.of sA dr
    -- way, at
    refine ⟨_, rfl, a, 10, rfl, G1.2, by decide, by decide +kernel, fun way H2 w0 w1 g2 => ?_⟩
    refine ⟨_, rfl, _, rfl, R, _, rfl, .inl (SqL.of (g2.1 _ _ nRa eR)), _, _, rfl, rfl, ?_⟩
    refine ⟨a, _, rfl, g2.2, by omega, Nat.lt_of_le_of_lt (show ((rs.length : Int) + 1).natAbs ≤ 100 by omega) (by decide +kernel), fun at' H3 a0 a1 g3 => ?_⟩
    refine ⟨_, _, rfl, ?_⟩
    have G3 : Gr a H H3 := (G1.trans g2).trans g3
    have hR3 : RsL H b H3 R := (hR.gr G1.2 g2).gr g2.2 g3
    clear g2 g3
    -- the names
    obtain ⟨rs3, eR3, hl3, hr3⟩ := hR3
    refine ⟨_, rfl, R, rfl, ⟨rs3, SqL.of eR3⟩, fun Nh nNh => ?_⟩
    refine walk_it (walk_list (xs := rs3)) (fun i Hx => Same H3 Hx ∧ ∃ ns, Hx Nh = some (.lst (nmsV ns)) ∧ ns.length = i ∧ ∀ n ∈ ns, tx n) ⟨same_new nNh, [], upd_same, rfl, fun _ h => nomatch h⟩ (fun i Hx hi P => SqL.of (P.1 _ _ eR3)) (fun i x Hx Hy hi P y => ?_) (fun H4 P => ?_)
    · obtain ⟨sx, ns, eN, hnl, hns⟩ := P
      obtain ⟨rfl, ex⟩ := y
      obtain ⟨r, k, l, rfl, f1, f2, f3⟩ := hr3 x (List.mem_of_getElem? ex)
      refine ⟨rfl, ?_⟩
      unfold tYes
      refine iteT ?_
      refine ⟨_, rfl, r, _, 0, _, rfl, rfl, SqL.of (sx _ _ f1), rfl, nmsV ns, eN, ?_, fun c o e => ?_, ns ++ [k], ?_, by rw [List.length_append, hnl]; rfl, fun n hn => ?_⟩
      · rw [nmsV_len]
        exact Nat.lt_of_le_of_lt (show ns.length ≤ 1000 by omega) (by decide)
      · rw [upd_ne (ne_of_none e nNh)]
        exact sx _ _ e
      · rw [upd_same, nms_snoc]
      · rcases List.mem_append.mp hn with hn | hn
        · exact hns n hn
        · rw [List.mem_singleton.mp hn]
          exact f2.1
    obtain ⟨s34, ns0, eN0, hnl0, hns0⟩ := P
    -- names of the makers
    refine ⟨_, rfl, R, rfl, ⟨rs3, SqL.of (s34 _ _ eR3)⟩, for_it (walk_list (xs := rs3)) (fun i σ H' => ∃ (y6 : Option V) (ns : List Nam), σ = [some (.ref a), some (.ref p), none, some (.ref R), some (.int way), some (.int at'), y6, some (.ref Nh), none, none, none, none, none, none, none] ∧ Same H3 H' ∧ H' Nh = some (.lst (nmsV ns)) ∧ 1 ≤ ns.length + (rs3.length - rs3.length) + 1 ∧ rs3.length ≤ ns.length ∧ ns.length ≤ 50 + i * 50 ∧ ∀ n ∈ ns, tx n)
      ⟨none, ns0, rfl, s34, eN0, by omega, by omega, by omega, hns0⟩ (fun i σ H' hi P => ?_) (fun i x σ H' H'' hi P y => ?_) (fun σ H5 P => ?_)⟩
    · obtain ⟨_, _, _, s4, _⟩ := P
      exact SqL.of (s4 _ _ eR3)
    · obtain ⟨y6, ns, rfl, s4, eN, _, hn1, hn2, hns⟩ := P
      obtain ⟨rfl, ex⟩ := y
      obtain ⟨r, k, l, rfl, f1, f2, ms, g1, g2, g3⟩ := hr3 x (List.mem_of_getElem? ex)
      refine ⟨.ref Nh, rfl, .inl ⟨rfl, _, SqL.of eN⟩, ?_⟩
      refine ⟨_, rfl, r, _, 1, .ref l, rfl, rfl, SqL.of (s4 _ _ f1), rfl, l, rfl, ⟨ms, SqL.of (s4 _ _ g1)⟩, fun D nD => ?_⟩
      refine walk_it (walk_list (xs := ms)) (fun j Hz => Same H'' Hz ∧ ∃ us, Hz D = some (.lst (nmsV us)) ∧ us.length = j ∧ ∀ n ∈ us, tx n) ⟨same_new nD, [], upd_same, rfl, fun _ h => nomatch h⟩ (fun j Hz hj P => SqL.of (P.1 _ _ (s4 _ _ g1))) (fun j x Hz Hz' hj P y => ?_) (fun Hz P => ?_)
      · obtain ⟨sz, us, eD, hul, hus⟩ := P
        obtain ⟨rfl, ex'⟩ := y
        obtain ⟨m, n, t, rfl, h1, h2, h3⟩ := g3 x (List.mem_of_getElem? ex')
        refine ⟨rfl, ?_⟩
        unfold tYes
        refine iteT ?_
        refine ⟨_, rfl, m, _, 0, _, rfl, rfl, SqL.of (sz _ _ (s4 _ _ h1)), rfl, nmsV us, eD, ?_, fun c o e => ?_, us ++ [n], ?_, by rw [List.length_append, hul]; rfl, fun n' hn => ?_⟩
        · rw [nmsV_len]
          exact Nat.lt_of_le_of_lt (show us.length ≤ 1000 by have := g2.1; omega) (by decide)
        · rw [upd_ne (ne_of_none e nD)]
          exact sz _ _ e
        · rw [upd_same, nms_snoc]
        · rcases List.mem_append.mp hn with hn | hn
          · exact hus n' hn
          · rw [List.mem_singleton.mp hn]
            exact h2.1
      · obtain ⟨sz, us, eD, hul, hus⟩ := P
        refine ⟨Nh, D, _, _, rfl, rfl, sz _ _ eN, eD, ?_, ?_⟩
        · rw [nmsV_len, nmsV_len]
          have := g2.1
          exact Nat.le_trans (show _ ≤ 100000 by omega) (by decide)
        · have := g2.1
          refine ⟨_, ns ++ us, rfl, fun c o e => ?_, ?_, by omega, by rw [List.length_append]; omega, by rw [List.length_append]; omega, fun n hn => ?_⟩
          · rw [upd_ne (ne_of_none e nNh)]
            exact sz _ _ (s4 _ _ e)
          · rw [upd_same]
            unfold nmsV
            rw [List.map_append]
          · rcases List.mem_append.mp hn with hn | hn
            · exact hns n hn
            · exact hus n hn
    obtain ⟨y6, ns, rfl, s35, eN5, _, hn1, hn2, hns⟩ := P
    have G5 : Gr a H H5 := G3.trans (Gr.of s35 G3.2)
    have hR5 : RsL H b H5 R := ⟨rs3, s35 _ _ eR3, hl3, fun v hv => (hr3 v hv).same s35⟩
    have nNa : Nh ≠ a := (G3.2.ne nNh).symm
    have hnsl : ns.length ≤ 10000 := by
      have : rs3.length * 50 ≤ 50 * 50 := Nat.mul_le_mul_right 50 (by omega)
      omega
    have eR5' : H5 R = some (.lst rs3) := s35 _ _ eR3
    clear s34 ns0 eN0 hnl0 hns0 hr3 eR3 s35 eR hrs sA hR G1
    -- a word
    refine ⟨_, rfl, a, rfl, G5.2, fun z H6 hz ho g6 => ?_⟩
    have eN6 := g6.1 _ _ nNa eN5
    refine ⟨_, rfl, s1, fun La nLa => ?_⟩
    refine ⟨Nh, La, _, _, rfl, rfl, (same_new nLa) _ _ eN6, upd_same, ?_, fun Cc nCc => ?_⟩
    · rw [nmsV_len]
      exact Nat.le_trans (show ns.length + 1 ≤ 100000 by omega) (by decide)
    have ea : [V.str (Str.ofString "a")] = nmsV [[97]] := by decide +kernel
    have s6 : Same H6 (upd (upd H6 La (.lst [.str "a"])) Cc (.lst (nmsV ns ++ [.str "a"]))) := (same_new nLa).trans (same_new nCc)
    have eC : upd (upd H6 La (.lst [.str "a"])) Cc (.lst (nmsV ns ++ [.str "a"])) Cc = some (.lst (nmsV (ns ++ [[97]]))) := by
      rw [upd_same, nms_snoc]
      rfl
    generalize upd (upd H6 La (.lst [.str "a"])) Cc (.lst (nmsV ns ++ [.str "a"])) = H7 at s6 eC
    have G7 : Gr a H5 H7 := g6.trans (Gr.of s6 g6.2)
    have eN7 := s6 _ _ eN6
    refine ⟨_, rfl, _, rfl, Nh, _, rfl, .inl (SqL.of eN7), _, _, rfl, rfl, ?_⟩
    rw [nmsV_len]
    refine ⟨a, _, rfl, G7.2, by omega, Nat.lt_of_le_of_lt (show ((ns.length : Int) + 1).natAbs ≤ 10001 by omega) (by decide +kernel), fun d8 H8 d80 d81 g8 => ?_⟩
    obtain ⟨n8, hn8, en8⟩ := nms_at (ns := ns ++ [[97]]) d80 (by rw [List.length_append]; show d8 < ((ns.length + 1 : Nat) : Int); omega)
    have nCa : Cc ≠ a := fun z => by
      obtain ⟨x, y, u, e⟩ := G7.2
      rw [z, e] at eC
      cases ns <;> cases eC
    refine ⟨Cc, _, _, _, rfl, rfl, SqL.of (g8.1 _ _ nCa eC), en8, s2, fun Lw nLw => ?_⟩
    refine ⟨_, rfl, a, 2, rfl, g8.2.mono (same_new nLw), by decide, by decide +kernel, fun d9 H9 d90 d91 g9 => ?_⟩
    have nLwa : Lw ≠ a := (g8.2.ne nLw).symm
    have tx8 : tx n8 := by
      rcases List.mem_append.mp hn8 with h | h
      · exact hns n8 h
      · rw [List.mem_singleton.mp h]
        exact ⟨by decide, by decide +kernel⟩
    obtain ⟨wn, hwn, twn⟩ : ∃ wn : Nam, atI [V.str z, .str (S n8)] d9 = some (.str (S wn)) ∧ tx wn := by
      have : d9 = 0 ∨ d9 = 1 := by omega
      rcases this with rfl | rfl
      · refine ⟨z.cps.toList, ?_, ?_, ?_⟩
        · rw [S_eta]
          rfl
        · have : z.cps.toList.length = z.length := by simp [Str.length]
          omega
        · rw [S_eta]
          exact ho
      · exact ⟨n8, rfl, tx8⟩
    refine ⟨Lw, _, _, _, rfl, rfl, SqL.of (g9.1 _ _ nLwa upd_same), hwn, ?_⟩
    have G9' : Gr a H5 H9 := (G7.trans g8).trans ((Gr.of (same_new nLw) g8.2).trans g9)
    have G9 : Gr a H H9 := G5.trans G9'
    have hR9 : RsL H b H9 R := hR5.gr G5.2 G9'
    have eN9 : H9 Nh = some (.lst (nmsV ns)) := G9'.1 _ _ nNa eN5
    have eR9' : H9 R = some (.lst rs3) := G9'.1 _ _ nRa eR5'
    clear g9 g8 g6 eC eN7 eN6 eN5 hR5 G9' G7 s6
    -- the rows with makers
    obtain ⟨rs9, eR9, hl9, hr9⟩ := hR9
    have e93 : rs3.length = rs9.length := by
      rw [eR9] at eR9'
      cases eR9'
      rfl
    refine ⟨_, rfl, R, rfl, ⟨rs9, SqL.of eR9⟩, fun Fu nFu => ?_⟩
    refine walk_it (walk_list (xs := rs9)) (fun i Hx => Same H9 Hx ∧ ∃ fs, Hx Fu = some (.lst fs) ∧ fs.length ≤ i ∧ ∀ v ∈ fs, v ∈ rs9 ∧ ∃ r k l ms, v = .ref r ∧ H9 r = some (.lst [.str (S k), .ref l]) ∧ H9 l = some (.lst ms) ∧ ms ≠ [] ∧ (ms.length ≤ b ∧ H l = none) ∧ ∀ u ∈ ms, MkL H b H9 u) ⟨same_new nFu, [], upd_same, Nat.le_refl _, fun _ h => nomatch h⟩ (fun i Hx hi P => SqL.of (P.1 _ _ eR9)) (fun i x Hx Hy hi P y => ?_) (fun H10 P => ?_)
    · obtain ⟨sx, fs, eF, hfl, hfs⟩ := P
      obtain ⟨rfl, ex⟩ := y
      obtain ⟨r, k, l, rfl, f1, f2, ms, g1, g2, g3⟩ := hr9 x (List.mem_of_getElem? ex)
      refine ⟨rfl, ?_⟩
      refine ⟨_, rfl, r, _, 1, .ref l, rfl, rfl, SqL.of (sx _ _ f1), rfl, l, _, rfl, .inl (SqL.of (sx _ _ g1)), _, _, rfl, rfl, _, rfl, ?_⟩
      by_cases h0 : 0 < ms.length
      · rw [decide_eq_true (show (0 : Int) < (ms.length : Int) by omega)]
        refine iteT ⟨_, rfl, fs, eF, Nat.lt_of_le_of_lt (show fs.length ≤ 1000 by omega) (by decide), fun c o e => ?_, fs ++ [.ref r], upd_same, by rw [List.length_append]; show fs.length + 1 ≤ i + 1; omega, fun v hv => ?_⟩
        · rw [upd_ne (ne_of_none e nFu)]
          exact sx _ _ e
        · rcases List.mem_append.mp hv with hv | hv
          · exact hfs v hv
          · rw [List.mem_singleton.mp hv]
            exact ⟨List.mem_of_getElem? ex, r, k, l, ms, rfl, f1, g1, fun z => by rw [z] at h0; exact absurd h0 (by decide), g2, g3⟩
      · rw [decide_eq_false (show ¬ ((0 : Int) < (ms.length : Int)) by omega)]
        refine iteF ⟨sx, fs, eF, by omega, hfs⟩
    obtain ⟨s10, fs, eF10, hfl, hfs⟩ := P
    have hR10 : RsL H b H10 R := ⟨rs9, s10 _ _ eR9, hl9, fun v hv => (hr9 v hv).same s10⟩
    have hr10 : ∀ v ∈ rs9, RwL H b H10 v := fun v hv => (hr9 v hv).same s10
    have eR10 := s10 _ _ eR9
    have eN10 := s10 _ _ eN9
    have G10 : Gr a H H10 := G9.trans (Gr.of s10 G9.2)
    have nRH : H R = none := nR
    have nab : a ≠ R := nRa.symm
    -- what is changed
    obtain ⟨M, hM⟩ : ∃ M : L2.St → Hp → Prop, M = fun σ Hx => ∃ y2 y6 y10 y11, σ = [some (.ref a), some (.ref p), y2, some (.ref R), some (.int way), some (.int at'), y6, some (.ref Nh), some (.str (S wn)), some (.ref Fu), y10, y11, none, none, none] ∧ RsL H (b + 8) Hx R ∧ Gr a H Hx := ⟨_, rfl⟩
    refine ⟨M, ?_, fun σ1 Hx h1 => ?_⟩
    · have hle : b ≤ b + 8 := Nat.le_add_right _ _
      have hR8 := hR10.le hle
      apply tailOf
      intro tail
      · refine ⟨_, rfl, rfl, _, rfl, ite2 (fun c => ?_) (fun c => tail)⟩
        refine ⟨_, rfl, _, rfl, R, _, rfl, .inl (SqL.of eR10), _, _, rfl, rfl, _, rfl, ite2 (fun c2 => ?_) (fun c2 => tail)⟩
        -- rows[at][0] = word
        have hat : at'.toNat < rs9.length := by
          have := of_decide_eq_true c2
          omega
        obtain ⟨r, k, l, er, f1, f2, f3⟩ := hr10 rs9[at'.toNat] (List.getElem_mem hat)
        have eat : atI rs9 at' = some (.ref r) := at_of (j := at'.toNat) (by omega) (by rw [List.getElem?_eq_getElem hat, er])
        refine ⟨_, rfl, _, rfl, _, rfl, R, _, at', _, rfl, rfl, SqL.of eR10, eat, r, _, 0, 0, rfl, rfl, f1, rfl, ?_⟩
        show M _ _
        rw [hM]
        exact ⟨_, _, _, _, rfl, (hR10.setRw f1 f3 ⟨twn, f2.2⟩).le hle, G10.new f2.2 (dr.ne f2.2).symm⟩
      apply tailOf
      intro tail
      · refine ⟨_, rfl, rfl, _, rfl, ite2 (fun c => ?_) (fun c => tail)⟩
        -- rows.insert(at, [word, []])
        refine ⟨.ref R, rfl, .inl ⟨rfl, _, SqL.of eR10⟩, _, rfl, _, rfl, s0, fun l nl => ⟨s2, fun r nr => ?_⟩⟩
        have sl : Same H10 (upd (upd H10 l (.lst [])) r (.lst [.str (S wn), .ref l])) := (same_new nl).trans (same_new nr)
        have el : upd (upd H10 l (.lst [])) r (.lst [.str (S wn), .ref l]) l = some (.lst []) := (same_new nr) _ _ upd_same
        have er : upd (upd H10 l (.lst [])) r (.lst [.str (S wn), .ref l]) r = some (.lst [.str (S wn), .ref l]) := upd_same
        have nrH : H10 r = none := Same.free (same_new nl) nr
        generalize upd (upd H10 l (.lst [])) r (.lst [.str (S wn), .ref l]) = H12 at sl el er
        have hold : ∀ v ∈ rs9, RwL H b H12 v := fun v hv => (hr10 v hv).same sl
        have eR12 := sl _ _ eR10
        have frH : ∀ {p : Addr}, H10 p = none → H p = none := fun {p} n => G10.back G10.2 n
        refine ⟨R, rs9, at', .ref r, rfl, rfl, eR12, Nat.lt_of_le_of_lt (show rs9.length ≤ 1000 by omega) (by decide), by omega, by omega, ?_⟩
        show M _ _
        rw [hM]
        have hnew : ∀ v ∈ rs9.take at'.toNat ++ [V.ref r] ++ rs9.drop at'.toNat, RwL H (b + 8) H12 v := fun v hv => by
          have : v ∈ rs9 ∨ v = .ref r := by
            rcases List.mem_append.mp hv with hv | hv
            · rcases List.mem_append.mp hv with hv | hv
              · exact .inl (List.mem_of_mem_take hv)
              · exact .inr (List.mem_singleton.mp hv)
            · exact .inl (List.mem_of_mem_drop hv)
          rcases this with hv | rfl
          · obtain ⟨rs', g1, _, g3⟩ := (RsL.le hle ⟨rs9, eR12, hl9, hold⟩ : RsL H (b + 8) H12 R)
            rw [eR12] at g1
            cases g1
            exact g3 v hv
          · exact ⟨r, wn, l, rfl, er, ⟨twn, frH nrH⟩, [], el, ⟨Nat.zero_le _, frH nl⟩, fun _ h => nomatch h⟩
        have hold8 : ∀ v ∈ rs9, RwL H (b + 8) H12 v := fun v hv => by
          obtain ⟨rs', g1, _, g3⟩ := (RsL.le hle ⟨rs9, eR12, hl9, hold⟩ : RsL H (b + 8) H12 R)
          rw [eR12] at g1
          cases g1
          exact g3 v hv
        refine ⟨_, _, _, _, rfl, RsL.setRs eR12 hold8 ?_ hnew (fun l' ms hl hms' ⟨x, hx, p', q', ex1, ex2⟩ z => ?_), ?_⟩
        · rw [List.length_append, List.length_append, List.length_take, List.length_drop]
          show min at'.toNat rs9.length + 1 + (rs9.length - at'.toNat) ≤ b + 8
          omega
        · have : x ∈ rs9 ∨ x = .ref r := by
            rcases List.mem_append.mp hx with hv | hv
            · rcases List.mem_append.mp hv with hv | hv
              · exact .inl (List.mem_of_mem_take hv)
              · exact .inr (List.mem_singleton.mp hv)
            · exact .inl (List.mem_of_mem_drop hv)
          rcases this with hv | rfl
          · exact RsL.ne eR12 hv hold8 hl hms' z.symm
          · cases ex1
            rw [er] at ex2
            cases ex2
            exact ne_of_none eR10 nl z.symm
        · exact (G10.trans (Gr.of sl G10.2)).new nRH nRa
      apply tailOf
      intro tail
      · refine ⟨_, rfl, rfl, _, rfl, ite2 (fun c => ?_) (fun c => tail)⟩
        refine ⟨_, rfl, _, rfl, R, _, rfl, .inl (SqL.of eR10), _, _, rfl, rfl, _, rfl, ite2 (fun c2 => ?_) (fun c2 => tail)⟩
        -- rows.pop(at)
        have hat : at'.toNat < rs9.length := by
          have := of_decide_eq_true c2
          omega
        refine ⟨.ref R, rfl, .inl ⟨rfl, _, SqL.of eR10⟩, _, rfl, R, rs9, at', at'.toNat, rs9[at'.toNat], rfl, rfl, eR10, by omega, by omega, seqIndex_of (by omega) (by omega), List.getElem?_eq_getElem hat, ?_⟩
        show M _ _
        rw [hM]
        have hold8 : ∀ v ∈ rs9, RwL H (b + 8) H10 v := fun v hv => by
          obtain ⟨rs', g1, _, g3⟩ := hR8
          rw [eR10] at g1
          cases g1
          exact g3 v hv
        refine ⟨_, _, _, _, rfl, RsL.setRs eR10 hold8 ?_ (fun v hv => hold8 v (List.mem_of_mem_eraseIdx hv)) (fun l' ms hl hms' ⟨x, hx, p', q', ex1, ex2⟩ z => RsL.ne eR10 (List.mem_of_mem_eraseIdx hx) hold8 hl hms' z.symm), G10.new nRH nRa⟩
        have := List.length_eraseIdx_le rs9 at'.toNat
        omega
      apply tailOf
      intro tail
      · refine ⟨_, rfl, rfl, _, rfl, ite2 (fun c => ?_) (fun c => tail)⟩
        -- more makers in the first row
        refine ⟨.ref R, rfl, _, rfl, R, rs9, rfl, SqL.of eR10, fun Sx nSx => ⟨Sx, rfl, ⟨_, SqL.of upd_same⟩, ?_⟩⟩
        have sS : Same H10 (upd H10 Sx (.lst (cutV rs9 none (some 1)))) := same_new nSx
        have cl := cut1_len (xs := rs9)
        refine for_it (walk_list (xs := cutV rs9 none (some 1))) (fun i σ H' => ∃ z6, σ = [some (.ref a), some (.ref p), none, some (.ref R), some (.int way), some (.int at'), z6, some (.ref Nh), some (.str (S wn)), some (.ref Fu), none, none, none, none, none] ∧ H' Sx = some (.lst (cutV rs9 none (some 1))) ∧ H' R = some (.lst rs9) ∧ RsL H (b + 8 * i) H' R ∧ Gr a H H') ⟨_, rfl, upd_same, sS _ _ eR10, hR10.same sS, G10.trans (Gr.of sS G10.2)⟩ (fun i σ H' hi P => ?_) (fun i x σ H' H'' hi P y => ?_) (fun σ H' P => ?_)
        · obtain ⟨_, _, e, _⟩ := P
          exact SqL.of e
        · obtain ⟨z6, rfl, eSx, eRx, hRx, gx⟩ := P
          obtain ⟨rfl, ex⟩ := y
          have hi0 : i = 0 := by omega
          subst hi0
          have hxm : x ∈ cutV rs9 none (some 1) := List.mem_of_getElem? ex
          obtain ⟨rsx, g1, g2, hrx⟩ := hRx
          rw [eRx] at g1
          cases g1
          have hrc : ∀ v ∈ cutV rs9 none (some 1), RwL H (b + 8 * 0) H'' v := fun v hv => hrx v (cut1 v hv)
          obtain ⟨r, k, l, rfl, f1, f2, ms, m1, m2, m3⟩ := hrx x (cut1 x hxm)
          have nSl : Sx ≠ l := RsL.ne eSx hxm hrc m1 m3
          have nRl : R ≠ l := RsL.ne eRx (cut1 _ hxm) hrx m1 m3
          have nla : l ≠ a := (dr.ne m2.2).symm
          have nSxa : Sx ≠ a := (G10.2.ne nSx).symm
          refine ⟨_, rfl, r, _, 1, .ref l, rfl, rfl, SqL.of f1, rfl, .inl ⟨rfl, _, SqL.of m1⟩, ?_⟩
          refine ⟨_, rfl, a, 6, rfl, gx.2, by decide, by decide +kernel, fun t6 H2 t60 t61 g2 => ?_⟩
          refine ⟨t6, rfl, by omega, by omega, fun D nD => ?_⟩
          have eR2 := g2.1 _ _ nRa eRx
          have eS2 := g2.1 _ _ nSxa eSx
          have el2 := g2.1 _ _ nla m1
          have hR2 : RsL H (b + 8 * 0) H2 R := RsL.gr gx.2 g2 ⟨rs9, eRx, ‹_›, hrx⟩
          have fr2 : ∀ {p : Addr}, H2 p = none → H p = none := fun {p} n => (gx.trans g2).back g2.2 n
          refine lc_range (fun j Hz => Gr a H2 Hz ∧ ∃ acc, Hz D = some (.lst acc) ∧ acc.length = j ∧ ∀ v ∈ acc, MkL H 8 Hz v) ⟨Gr.of (same_new nD) g2.2, [], upd_same, rfl, fun _ h => nomatch h⟩ (fun j Hz hj P => ?_) (fun Hz P => ?_)
          · obtain ⟨gz, acc, eD, hal, hac⟩ := P
            refine ⟨rfl, ?_⟩
            unfold tYes
            refine iteT ?_
            refine ⟨_, rfl, _, _, rfl, rfl, Str.ofString "q", j + 1, rfl, congrArg V.int (by omega), by omega, by omega, by decide, by decide, ?_⟩
            refine ⟨_, rfl, a, 7, rfl, gz.2, by decide, by decide +kernel, fun d7 Hy d70 d71 gy => ?_⟩
            obtain ⟨c, hc, ec⟩ := zyx_at d70 d71
            refine ⟨_, d7, c, rfl, rfl, by decide, ec, ?_⟩
            obtain ⟨tq1, tq2⟩ := zyx_tx j (by omega) c hc
            refine ⟨_, _, rfl, rfl, ?_, s0, fun t nt => ⟨s2, fun m nm => ?_⟩⟩
            · rw [← app_len]
              exact small_len (Nat.le_trans (by simpa [Str.length] using tq1) (by decide))
            have nDa : D ≠ a := (g2.2.ne nD).symm
            have sl : Same Hy (upd (upd Hy t (.tup [])) m (.lst [.str (BO.repS (Str.ofString "q") (j + 1) ++ ⟨#[c]⟩), .ref t])) := (same_new nt).trans (same_new nm)
            have et : upd (upd Hy t (.tup [])) m (.lst [.str (BO.repS (Str.ofString "q") (j + 1) ++ ⟨#[c]⟩), .ref t]) t = some (.tup []) := (same_new nm) _ _ upd_same
            have em : upd (upd Hy t (.tup [])) m (.lst [.str (BO.repS (Str.ofString "q") (j + 1) ++ ⟨#[c]⟩), .ref t]) m = some (.lst [.str (S (BO.repS (Str.ofString "q") (j + 1) ++ ⟨#[c]⟩).cps.toList), .ref t]) := by
              rw [S_eta]
              exact upd_same
            have nmy : Hy m = none := Same.free (same_new nt) nm
            generalize upd (upd Hy t (.tup [])) m (.lst [.str (BO.repS (Str.ofString "q") (j + 1) ++ ⟨#[c]⟩), .ref t]) = Hw at sl et em
            have eDy := gy.1 _ _ nDa eD
            have hDw : Hw D = some (.lst acc) := sl _ _ eDy
            have nmH : H m = none := fr2 ((gz.trans gy).back gy.2 nmy)
            refine ⟨acc, hDw, Nat.lt_of_le_of_lt (show acc.length ≤ 1000 by omega) (by decide), ?_, acc ++ [.ref m], upd_same, by rw [List.length_append, hal]; rfl, fun v hv => ?_⟩
            · exact ((gz.trans gy).trans (Gr.of sl gy.2)).new nD nDa
            · refine MkL.other hDw (fun v hv => (hac v hv).ref) ?_
              rcases List.mem_append.mp hv with hv | hv
              · exact (MkL.gr gz.2 gy (hac v hv)).same sl
              · rw [List.mem_singleton.mp hv]
                exact ⟨m, _, t, rfl, em, ⟨⟨tq1, tq2⟩, nmH⟩, [], et, Nat.zero_le _, fun _ h => nomatch h⟩
          · obtain ⟨gz, acc, eD, hal, hac⟩ := P
            have elz := gz.1 _ _ nla el2
            have m2' := m2.1
            refine ⟨l, D, ms, acc, rfl, rfl, elz, eD, Nat.le_trans (show ms.length + acc.length ≤ 1000 by omega) (by decide), ?_⟩
            have hRz : RsL H (b + 8 * (0 + 1)) Hz R := ((hR2.gr g2.2 gz)).le (by omega)
            have m3z : ∀ v ∈ ms, MkL H (b + 8 * (0 + 1)) Hz v := fun v hv => (MkL.gr g2.2 gz (MkL.gr gx.2 g2 (m3 v hv))).le (by omega)
            have haz : ∀ v ∈ ms ++ acc, MkL H (b + 8 * (0 + 1)) Hz v := fun v hv => by
              rcases List.mem_append.mp hv with hv | hv
              · exact m3z v hv
              · exact (hac v hv).le (by omega)
            refine ⟨_, rfl, ?_, ?_, RsL.setMl elz ⟨by rw [List.length_append]; omega, m2.2⟩ haz m3z nRl hRz, ((gx.trans g2).trans gz).new m2.2 nla⟩
            · rw [upd_ne nSl]
              exact gz.1 _ _ nSxa eS2
            · rw [upd_ne nRl]
              exact gz.1 _ _ nRa eR2
        · obtain ⟨z6, rfl, eSx, eRx, hRx, gx⟩ := P
          show M _ _
          rw [hM]
          exact ⟨_, _, _, _, rfl, hRx.le (by omega), gx⟩
      -- something otherwise in a maker
      refine ⟨_, rfl, s0, fun L nL => ?_⟩
      have sL : Same H10 (upd H10 L (.lst [])) := same_new nL
      have eFL := sL _ _ eF10
      obtain ⟨ds, p1, p2, p3, p4⟩ := dp_lst (K := K) (n := 4) (SqL.of eFL) (fun v hv => ((hr10 v (hfs v hv).1).same sL).dp)
      refine ⟨.list ds, .list [], p1, .lst (SqL.of upd_same) .nil, shaped_of p2 p3 (by decide), rfl, _, rfl, ?_⟩
      rw [eqv_nil, p4]
      by_cases hz : fs.length = 0
      · rw [decide_eq_true hz]
        refine iteF ?_
        show M _ _
        rw [hM]
        exact ⟨_, _, _, _, rfl, hR8.same sL, G10.trans (Gr.of sL G10.2)⟩
      rw [decide_eq_false hz]
      refine iteT ?_
      have dL : Drw (upd H10 L (.lst [])) a := G10.2.mono sL
      have eNL := sL _ _ eN10
      have eRL := sL _ _ eR10
      have GL : Gr a H (upd H10 L (.lst [])) := G10.trans (Gr.of sL G10.2)
      have s9L : Same H9 (upd H10 L (.lst [])) := s10.trans sL
      generalize upd H10 L (.lst []) = HL at sL eFL p1 dL eNL eRL GL s9L
      have nFa : Fu ≠ a := (G9.2.ne nFu).symm
      -- makers
      refine ⟨_, rfl, _, rfl, _, rfl, Fu, _, rfl, .inl (SqL.of eFL), a, _, rfl, dL, by omega, Nat.lt_of_le_of_lt (show ((fs.length : Nat) : Int).natAbs ≤ 100 by omega) (by decide +kernel), fun d1 H11 d10 d11 g11 => ?_⟩
      have hd1 : d1.toNat < fs.length := by omega
      obtain ⟨hv9, r', k', l', ms', e', q1, q2, q3, _⟩ := hfs fs[d1.toNat] (List.getElem_mem hd1)
      obtain ⟨r, k, l, er, f1, f2, ms, m1, m2, m3⟩ := hr9 _ hv9
      have x1 : r = r' := by
        rw [er] at e'
        cases e'
        rfl
      subst x1
      have x2 : l = l' := by
        rw [f1] at q1
        cases q1
        rfl
      subst x2
      have x3 : ms = ms' := by
        rw [m1] at q2
        cases q2
        rfl
      subst x3
      have nra : r ≠ a := (dr.ne f2.2).symm
      have nla : l ≠ a := (dr.ne m2.2).symm
      have f1' := g11.1 _ _ nra (s9L _ _ f1)
      have m1' := g11.1 _ _ nla (s9L _ _ m1)
      have hml : 0 < ms.length := List.length_pos_iff.mpr q3
      have m2' := m2.1
      refine ⟨Fu, fs, d1, .ref r, rfl, rfl, SqL.of (g11.1 _ _ nFa eFL), at_of (j := d1.toNat) (by omega) (by rw [List.getElem?_eq_getElem hd1, er]), r, _, 1, .ref l, rfl, rfl, SqL.of f1', rfl, ?_⟩
      -- one
      refine ⟨_, rfl, _, rfl, _, rfl, l, ms, rfl, .inl (SqL.of m1'), a, _, rfl, g11.2, by omega, Nat.lt_of_le_of_lt (show ((ms.length : Nat) : Int).natAbs ≤ 100 by omega) (by decide +kernel), fun d2 H12 d20 d21 g12 => ?_⟩
      have hd2 : d2.toNat < ms.length := by omega
      have hone := MkL.gr g11.2 g12 (MkL.gr dL g11 ((m3 _ (List.getElem_mem hd2)).same s9L))
      have m3y : ∀ v ∈ ms, MkL H b H12 v := fun v hv => MkL.gr g11.2 g12 (MkL.gr dL g11 ((m3 v hv).same s9L))
      obtain ⟨m, n, t, em, n1, n2, ps, n3, n4, n5⟩ := hone
      refine ⟨l, ms, d2, .ref m, rfl, rfl, SqL.of (g12.1 _ _ nla m1'), at_of (j := d2.toNat) (by omega) (by rw [List.getElem?_eq_getElem hd2, em]), ?_⟩
      -- spot
      refine ⟨_, rfl, _, rfl, m, _, 1, .ref t, rfl, rfl, SqL.of n1, rfl, t, _, rfl, .inr (.inl (.inl n3)), _, _, rfl, rfl, ?_⟩
      rw [nmsV_len]
      refine ⟨a, _, rfl, g12.2, by omega, Nat.lt_of_le_of_lt (show ((ps.length : Int) + 1).natAbs ≤ 100 by omega) (by decide +kernel), fun sp H13 sp0 sp1 g13 => ?_⟩
      have nma : m ≠ a := (dr.ne n2.2).symm
      have n1' := g13.1 _ _ nma n1
      have n3' := KT.gr g12.2 g13 _ _ n3
      have m1y := g13.1 _ _ nla (g12.1 _ _ nla m1')
      have m3z : ∀ v ∈ ms, MkL H b H13 v := fun v hv => MkL.gr g12.2 g13 (m3y v hv)
      have GY : Gr a HL H13 := (g11.trans g12).trans g13
      have G13 : Gr a H H13 := GL.trans GY
      have hR13 : RsL H b H13 R := RsL.gr dL GY (hR10.same sL)
      have hR13' := hR13.le hle
      have eN13 := GY.1 _ _ nNa eNL
      have eR13 := GY.1 _ _ nRa eRL
      have hrs13 : ∀ v ∈ rs9, RwL H b H13 v := fun v hv => by
        obtain ⟨rr, x1, _, x3⟩ := hR13
        rw [eR13] at x1
        cases x1
        exact x3 v hv
      have tl : Tl b (nmsV ps) := ⟨ps, rfl, n4, n5⟩
      have tt13 : TupT (b + 8) H13 t := tl.at n3' (by omega)
      have hps : (nmsV ps).length = ps.length := nmsV_len
      refine ⟨_, rfl, rfl, _, rfl, ite2 (fun c4 => ?_) (fun c4 => ?_)⟩
      · refine ⟨_, rfl, _, rfl, m, _, 0, 0, rfl, rfl, n1', rfl, ?_⟩
        show M _ _
        rw [hM]
        exact ⟨_, _, _, _, rfl, RsL.setMk n1' tt13 ⟨twn, n2.2⟩ tt13 hR13', G13.new n2.2 nma⟩
      refine ⟨_, rfl, rfl, _, rfl, ite2 (fun c5 => ?_) (fun c5 => ?_)⟩
      · refine ⟨.ref l, rfl, .inl ⟨rfl, _, SqL.of m1y⟩, _, rfl, m, _, 0, _, rfl, rfl, SqL.of n1', rfl, s0, fun t2 nt2 => ⟨s2, fun m' nm' => ?_⟩⟩
        have sl : Same H13 (upd (upd H13 t2 (.tup [])) m' (.lst [.str (S n), .ref t2])) := (same_new nt2).trans (same_new nm')
        have et2 : upd (upd H13 t2 (.tup [])) m' (.lst [.str (S n), .ref t2]) t2 = some (.tup []) := (same_new nm') _ _ upd_same
        have em2 : upd (upd H13 t2 (.tup [])) m' (.lst [.str (S n), .ref t2]) m' = some (.lst [.str (S n), .ref t2]) := upd_same
        have nm2 : H13 m' = none := Same.free (same_new nt2) nm'
        generalize upd (upd H13 t2 (.tup [])) m' (.lst [.str (S n), .ref t2]) = H14 at sl et2 em2
        refine ⟨l, ms, .ref m', rfl, rfl, sl _ _ m1y, Nat.lt_of_le_of_lt (show ms.length ≤ 1000 by omega) (by decide), ?_⟩
        show M _ _
        rw [hM]
        have ho : ∀ v ∈ ms, MkL H (b + 8) H14 v := fun v hv => ((m3z v hv).same sl).le hle
        have hn' : ∀ v ∈ ms ++ [V.ref m'], MkL H (b + 8) H14 v := fun v hv => by
          rcases List.mem_append.mp hv with hv | hv
          · exact ho v hv
          · rw [List.mem_singleton.mp hv]
            exact ⟨m', n, t2, rfl, em2, ⟨n2.1, G13.back G13.2 nm2⟩, Tl.nil.at et2 (by omega)⟩
        exact ⟨_, _, _, _, rfl, RsL.setMl (sl _ _ m1y) ⟨by rw [List.length_append]; show ms.length + 1 ≤ b + 8; omega, m2.2⟩ hn' ho (RsL.ne eR13 hv9 hrs13 m1y m3z) (hR13'.same sl), (G13.trans (Gr.of sl G13.2)).new m2.2 nla⟩
      have fin : ∀ (t' : Addr) (H' : Hp) (xs : List V), Same H13 H' → H' t' = some (.tup xs) → Tl (b + 8) xs → ∃ (z2 z6 z10 z11 : Option V), [some (V.ref a), some (.ref p), some (.ref l), some (.ref R), some (.int way), some (.int at'), y6, some (.ref Nh), some (.str (S wn)), some (.ref Fu), some (.ref m), some (.int sp), none, none, none] = [some (.ref a), some (.ref p), z2, some (.ref R), some (.int way), some (.int at'), z6, some (.ref Nh), some (.str (S wn)), some (.ref Fu), z10, z11, none, none, none] ∧ RsL H (b + 8) (upd H' m (.lst [.str (S n), .ref t'])) R ∧ Gr a H (upd H' m (.lst [.str (S n), .ref t'])) := fun t' H' xs s' e' tl' =>
        ⟨_, _, _, _, rfl, RsL.setMk (s' _ _ n1') (tt13.mono (KT.of s')) ⟨n2.1, n2.2⟩ (tl'.at e' (Nat.le_refl _)) (hR13'.same s'), (G13.trans (Gr.of s' G13.2)).new n2.2 nma⟩
      refine ⟨_, rfl, _, _, rfl, rfl, _, rfl, ite2 (fun c8 => ?_) (fun c8 => ?_)⟩
      · have w8 : way < 8 := of_decide_eq_true c8
        refine ⟨_, rfl, m, _, 1, .ref t, rfl, rfl, SqL.of n1', rfl, _, rfl, _, rfl, slA_of n3' fun u1 Ha sa ea => ?_⟩
        refine ⟨_, rfl, s1, fun u2 nu2 => ?_⟩
        have sb := sa.trans (same_new (o := .tup [.str (S wn)]) nu2)
        have ea2 := (same_new (o := .tup [.str (S wn)]) nu2) _ _ ea
        have c1 := cut_hi (xs := nmsV ps) sp0
        refine catA_of ea2 upd_same ?_ fun u3 Hc sc ec => ?_
        · exact small_len (by rw [c1, hps]; show min sp.toNat ps.length + 1 ≤ 1000; omega)
        have sd := sb.trans sc
        refine ⟨_, rfl, m, _, 1, .ref t, rfl, rfl, SqL.of (sd _ _ n1'), rfl, _, rfl, _, rfl, _, _, rfl, rfl, _, _, rfl, rfl, _, rfl, ?_⟩
        dsimp only [tNoPart]
        refine slA_of (sd _ _ n3') fun u4 Hd sdd ed => ?_
        have c2 := cut_lo (xs := nmsV ps) (k := sp + way - 6)
        refine catA_of (sdd _ _ ec) ed ?_ fun u5 He se ee => ?_
        · exact small_len (by rw [List.length_append, c1, c2, hps]; have := cut_two sp0 sp1 w0 w8; exact Nat.le_trans this (by omega))
        have sf := (sd.trans sdd).trans se
        refine ⟨_, rfl, m, _, 1, 1, rfl, rfl, sf _ _ n1', rfl, ?_⟩
        show M _ _
        rw [hM]
        refine fin u5 He _ sf ee ?_
        have tA := ((tl.cut (lo := none) (hi := some sp)).app (Tl.one twn)).app (tl.cut (lo := some (sp + way - 6)) (hi := none))
        exact tA.le (by rw [c1, c2, hps]; have := cut_two sp0 sp1 w0 w8; exact Nat.le_trans this (by omega))
      · have w8 : way = 8 ∨ way = 9 := by
          have := of_decide_eq_false (Bool.eq_false_iff.mpr c8)
          omega
        refine ⟨_, rfl, m, _, 1, .ref t, rfl, rfl, SqL.of n1', rfl, ?_⟩
        have hns0 : 0 < ns.length := by omega
        obtain ⟨n0, hn0, en0⟩ := nms_at (ns := ns) (d := 0) (Int.le_refl _) (by omega)
        refine ⟨_, rfl, Nh, _, 0, _, rfl, rfl, SqL.of eN13, en0, _, rfl, Nh, _, 0, _, rfl, rfl, SqL.of eN13, en0, s2, fun u2 nu2 => ?_⟩
        have sb := same_new (o := .tup [.str (S n0), .str (S n0)]) nu2
        refine catA_of (sb _ _ n3') upd_same (small_len (by rw [hps]; show ps.length + 2 ≤ 1000; omega)) fun u3 Hc sc ec => ?_
        refine ⟨_, rfl, slA_of ec fun u4 Hd sd ed => ?_⟩
        have sd2 := (sb.trans sc).trans sd
        refine ⟨_, rfl, s1, fun u5 nu5 => ⟨_, rfl, _, _, rfl, rfl, rep_of upd_same (by omega) fun u6 He xs se ee hx => ?_⟩⟩
        have sf := (sd2.trans (same_new (o := .tup [.str (S wn)]) nu5)).trans se
        have ed2 := se _ _ ((same_new (o := .tup [.str (S wn)]) nu5) _ _ ed)
        have txs : Tl 1 xs := by
          rcases hx with rfl | rfl
          · exact Tl.nil.le (by decide)
          · exact Tl.one twn
        have tA := (tl.app ((Tl.one (hns n0 hn0)).app (Tl.one (hns n0 hn0)))).cut (lo := none) (hi := some 2)
        have c2 := cut_hi (xs := nmsV ps ++ ([.str (S n0)] ++ [.str (S n0)])) (k := 2) (by decide)
        have lx := txs.len
        refine catA_of ed2 ee (small_len ?_) fun u7 Hf sf2 ef => ?_
        · show (cutV (nmsV ps ++ ([.str (S n0)] ++ [.str (S n0)])) none (some 2)).length + xs.length ≤ 1000
          rw [c2]
          omega
        refine ⟨_, rfl, m, _, 1, 1, rfl, rfl, sf2 _ _ (sf _ _ n1'), rfl, ?_⟩
        show M _ _
        rw [hM]
        refine fin u7 Hf _ (sf.trans sf2) ef ((tA.app txs).le ?_)
        rw [c2]
        omega
    · rw [hM] at h1
      obtain ⟨y2, y6', y10, y11, rfl, ⟨rsx, eRx, hlx, hrx⟩, gx⟩ := h1
      clear hM M
      refine ⟨_, rfl, R, rfl, ⟨rsx, SqL.of eRx⟩, fun D nD => ?_⟩
      refine walk_it (walk_list (xs := rsx)) (fun i H' => Same Hx H' ∧ ∃ acc wd', H' D = some (.lst acc) ∧ Paired (KdAt H') acc wd' ∧ wd'.length = i ∧ ∀ k ∈ wd', tx k.1 ∧ k.2.length ≤ b + 8 ∧ ∀ m ∈ k.2, tx m.1 ∧ m.2.length ≤ b + 8 ∧ ∀ q ∈ m.2, tx q) ⟨same_new nD, [], [], upd_same, .nil, rfl, fun _ h => nomatch h⟩ (fun i H' hi P => SqL.of (P.1 _ _ eRx)) (fun i x H' H'' hi P y => ?_) (fun H' P => ?_)
      · obtain ⟨sx, acc, wd', eD, hac, hwl, hwd⟩ := P
        obtain ⟨rfl, ex⟩ := y
        obtain ⟨r, k, l, rfl, f1, f2, ms, g1, g2, g3⟩ := hrx x (List.mem_of_getElem? ex)
        refine ⟨rfl, ?_⟩
        unfold tYes
        refine iteT ?_
        refine ⟨_, rfl, r, _, 0, _, rfl, rfl, SqL.of (sx _ _ f1), rfl, ?_⟩
        refine ⟨_, rfl, r, _, 1, .ref l, rfl, rfl, SqL.of (sx _ _ f1), rfl, l, rfl, ⟨ms, SqL.of (sx _ _ g1)⟩, fun D2 nD2 => ?_⟩
        refine walk_it (walk_list (xs := ms)) (fun j Hz => Same H'' Hz ∧ ∃ us ws, Hz D2 = some (.lst us) ∧ MksAt Hz us ws ∧ ws.length = j ∧ ∀ m ∈ ws, tx m.1 ∧ m.2.length ≤ b + 8 ∧ ∀ q ∈ m.2, tx q) ⟨same_new nD2, [], [], upd_same, .nil, rfl, fun _ h => nomatch h⟩ (fun j Hz hj P => SqL.of (P.1 _ _ (sx _ _ g1))) (fun j x Hz Hz' hj P y => ?_) (fun Hz P => ?_)
        · obtain ⟨sz, us, ws, eD2, hus, hul, hwt⟩ := P
          obtain ⟨rfl, ex'⟩ := y
          obtain ⟨m, n, t, rfl, h1, h2, ps, i1, i2, i3⟩ := g3 x (List.mem_of_getElem? ex')
          refine ⟨rfl, iteT ⟨_, rfl, m, _, rfl, .inl ⟨SqL.of (sz _ _ (sx _ _ h1)), fun u nu => ?_⟩⟩⟩
          have sl := same_new (o := .tup [.str (S n), .ref t]) nu
          have kt : KT (upd Hz' u (.tup [.str (S n), .ref t])) (upd (upd Hz' u (.tup [.str (S n), .ref t])) D2 (.lst (us ++ [.ref u]))) := KT.lst (sl _ _ eD2)
          refine ⟨us, sl _ _ eD2, ?_, fun c o e => ?_, us ++ [.ref u], ws ++ [(n, ps)], upd_same, ?_, by rw [List.length_append, hul]; rfl, fun m' hm => ?_⟩
          · rw [hus.length]
            exact Nat.lt_of_le_of_lt (show ws.length ≤ 1000 by have := g2.1; omega) (by decide)
          · rw [upd_ne (ne_of_none e nD2)]
            exact sl _ _ (sz _ _ e)
          · exact paired_snoc (Paired.mapP hus fun _ _ z => (z.mono (KT.of sl)).mono kt) ⟨u, t, rfl, kt _ _ upd_same, kt _ _ (sl _ _ (sz _ _ (sx _ _ i1)))⟩
          · rcases List.mem_append.mp hm with hm | hm
            · exact hwt m' hm
            · rw [List.mem_singleton.mp hm]
              exact ⟨h2.1, i2, i3⟩
        · obtain ⟨sz, us, ws, eD2, hus, hul, hwt⟩ := P
          refine ⟨D2, _, rfl, .inl ⟨SqL.of eD2, fun u nu => ⟨s2, fun t nt => ?_⟩⟩⟩
          have s5 : Same Hz (upd (upd Hz u (.tup us)) t (.tup [.str (S k), .ref u])) := (same_new nu).trans (same_new nt)
          have eu : upd (upd Hz u (.tup us)) t (.tup [.str (S k), .ref u]) u = some (.tup us) := (same_new nt) _ _ upd_same
          have et : upd (upd Hz u (.tup us)) t (.tup [.str (S k), .ref u]) t = some (.tup [.str (S k), .ref u]) := upd_same
          generalize upd (upd Hz u (.tup us)) t (.tup [.str (S k), .ref u]) = H6 at s5 eu et
          have s6 := sz.trans s5
          have kt : KT H6 (upd H6 D (.lst (acc ++ [.ref t]))) := KT.lst (s6 _ _ eD)
          refine ⟨acc, s6 _ _ eD, ?_, fun c o e => ?_, acc ++ [.ref t], wd' ++ [(k, ws)], upd_same, ?_, by rw [List.length_append, hwl]; rfl, fun k' hk => ?_⟩
          · rw [hac.length]
            exact Nat.lt_of_le_of_lt (show wd'.length ≤ 1000 by omega) (by decide)
          · rw [upd_ne (ne_of_none e nD)]
            exact s6 _ _ (sx _ _ e)
          · exact paired_snoc (Paired.mapP hac fun _ _ z => (z.mono (KT.of s6)).mono kt) ⟨t, u, us, rfl, kt _ _ et, kt _ _ eu, Paired.mapP hus fun _ _ z => (z.mono (KT.of s5)).mono kt⟩
          · rcases List.mem_append.mp hk with hk | hk
            · exact hwd k' hk
            · rw [List.mem_singleton.mp hk]
              exact ⟨f2.1, by show ws.length ≤ b + 8; have := g2.1; omega, hwt⟩
      · obtain ⟨sx, acc, wd', eD, hac, hwl, hwd⟩ := P
        refine ⟨D, acc, rfl, .inl ⟨SqL.of eD, fun p' np => ?_⟩⟩
        refine q p' _ wd' ((gx.trans (Gr.of sx gx.2)).trans (Gr.of (same_new np) (gx.2.mono sx))) ⟨acc, upd_same, Paired.mapP hac fun _ _ z => z.mono (KT.of (same_new np))⟩ ⟨by omega, hwd⟩
end

/-! ### the law -/
def spLaw (K : PySem.W.Frag) : Sp := fun vs H Q _ => ∃ (a : Addr) (ns : List Int), vs = [.ref a] ∧ SqL K H a (ns.map V.int) ∧ ns.length ≤ 63 ∧ ∀ H', Q (.bl true) H'
theorem nm_tx {n : Nam} (h : nmB (S n) = true) : tx n := by
  unfold nmB at h
  simp only [Bool.and_eq_true, decide_eq_true_eq, List.all_eq_true] at h
  obtain ⟨⟨⟨h1, h2⟩, h3⟩, h4⟩ := h
  rw [S_len] at h2
  exact ⟨by omega, ok_S.mpr fun c hc => abc_small (h4 c (by simpa [S] using hc))⟩
theorem mem_mks {wd : Wood} {k : Nam × List Mk} {m : Mk} (hk : k ∈ wd) (hm : m ∈ k.2) : m ∈ mks wd := by
  unfold mks
  exact List.mem_flatMap.mpr ⟨k, hk, hm⟩
theorem mks_part : ∀ {wd : Wood} {k : Nam × List Mk}, k ∈ wd → k.2.length ≤ (mks wd).length
  | u :: r, k, h => by
    show k.2.length ≤ (u.2 ++ mks r).length
    rw [List.length_append]
    rcases List.mem_cons.mp h with rfl | h
    · omega
    · have := mks_part h
      omega
theorem Good.tm {wd : Wood} (g : Good wd) : Tm 12 wd := ⟨Nat.le_trans g.few (by decide), fun k hk => ⟨nm_tx (g.kindN _ (List.mem_map_of_mem hk)), Nat.le_trans (mks_part hk) g.many, fun m hm => by
  have hm' := mem_mks hk hm
  obtain ⟨h1, h2⟩ := g.parts m hm'
  exact ⟨nm_tx (g.makerN _ (List.mem_map_of_mem hm')), Nat.le_trans h1 (by decide), fun q hq => nm_tx (g.kindN q (h2 q hq))⟩⟩⟩
theorem mks_many {b : Nat} : ∀ {wd : Wood}, (∀ k ∈ wd, k.2.length ≤ b) → (mks wd).length ≤ wd.length * b
  | [], _ => Nat.zero_le _
  | u :: r, h => by
    show (u.2 ++ mks r).length ≤ (r.length + 1) * b
    rw [List.length_append, Nat.add_mul, Nat.one_mul]
    have h1 := h u List.mem_cons_self
    have h2 := mks_many (wd := r) fun k hk => h k (List.mem_cons_of_mem _ hk)
    omega
theorem Tm.tame {b : Nat} {wd : Wood} (t : Tm b wd) (hb : b ≤ 60) : Tame wd := ⟨Nat.le_trans t.few (by omega), fun k hk => by
  obtain ⟨u, hu, rfl⟩ := List.mem_map.mp hk
  exact (t.kindT u hu).1, fun m hm => by
  obtain ⟨u, hu, hm⟩ := List.mem_flatMap.mp hm
  obtain ⟨h1, h2, h3⟩ := (t.kindT u hu).2.2 m hm
  exact ⟨h1, by omega, h3⟩, by
  have h1 := mks_many (b := b) (wd := wd) fun k hk => (t.kindT k hk).2.1
  have h2 : wd.length * b ≤ 60 * 60 := Nat.mul_le_mul (Nat.le_trans t.few hb) hb
  omega⟩
theorem badK_ok : ∀ {wd : Wood} {seen : List Nam} {r : Str × Str}, (∀ k ∈ wd, tx k.1) → badK seen wd = some r → PyData.strOk r.1 = true ∧ PyData.strOk r.2 = true
  | [], _, _, _, e => by cases e
  | k :: t, seen, r, h, e => by
    rw [badK_cons] at e
    have hk := (h k List.mem_cons_self).2
    split at e
    · cases e
      exact ⟨by dsimp only; decide +kernel, hk⟩
    · split at e
      · cases e
        exact ⟨by dsimp only; decide +kernel, hk⟩
      · exact badK_ok (fun u hu => h u (List.mem_cons_of_mem _ hu)) e
theorem badM_ok {ks : List Nam} : ∀ {ms : List Mk} {seen : List Nam} {r : Str × Str}, (∀ m ∈ ms, tx m.1) → badM ks seen ms = some r → PyData.strOk r.1 = true ∧ PyData.strOk r.2 = true
  | [], _, _, _, e => by cases e
  | k :: t, seen, r, h, e => by
    rw [badM_cons] at e
    have hk := (h k List.mem_cons_self).2
    split at e
    · cases e
      exact ⟨by dsimp only; decide +kernel, hk⟩
    · split at e
      · cases e
        exact ⟨by dsimp only; decide +kernel, hk⟩
      · split at e
        · cases e
          exact ⟨by dsimp only; decide +kernel, hk⟩
        · split at e
          · cases e
            exact ⟨by dsimp only; decide +kernel, hk⟩
          · exact badM_ok (fun u hu => h u (List.mem_cons_of_mem _ hu)) e
theorem bad_ok {wd : Wood} {r : Str × Str} (t : Tame wd) (e : bad wd = some r) : PyData.strOk r.1 = true ∧ PyData.strOk r.2 = true := by
  unfold bad at e
  split at e
  · cases e
    exact ⟨by decide +kernel, by decide +kernel⟩
  · split at e
    · rename_i h
      cases e
      exact badK_ok (fun k hk => t.kindT _ (List.mem_map_of_mem hk)) h
    · split at e
      · rename_i h
        cases e
        exact badM_ok (fun m hm => (t.makerT m hm).1) h
      · split at e
        · cases e
          exact ⟨by decide +kernel, by decide +kernel⟩
        · cases e
def toldz (wd : Wood) : List Str := match bad wd with
  | none => ["let by"]
  | some r => ["refused", r.1, r.2]
theorem tolds_eq (wd : Wood) : tolds wd = (toldz wd).map V.str := by
  unfold tolds toldz
  cases bad wd <;> rfl
theorem toldz_ok {wd : Wood} (t : Tame wd) : ∀ z ∈ toldz wd, PyData.strOk z = true := by
  unfold toldz
  cases e : bad wd with
  | none =>
    intro z hz
    rw [List.mem_singleton.mp hz]
    decide +kernel
  | some r =>
    obtain ⟨h1, h2⟩ := bad_ok t e
    intro z hz
    rcases List.mem_cons.mp hz with rfl | hz
    · decide +kernel
    · rcases List.mem_cons.mp hz with rfl | hz
      · exact h1
      · rw [List.mem_singleton.mp hz]
        exact h2
theorem shaped_tuple {ds : List PyData} (h : ∀ d ∈ ds, flD d = true) : SeqAt.shaped (.tuple ds) = true := by
  obtain ⟨x, y⟩ := fl_all h
  show ((PyData.tuple ds).canLay0 && decide ((PyData.tuple ds).depth ≤ 64)) = true
  rw [show (PyData.tuple ds).canLay0 = PyData.canLayAll0 ds from rfl, x, show (PyData.tuple ds).depth = PyData.depthAll ds + 1 from rfl, y]
  rfl
theorem eqv_self (zs : List Str) : PyData.eqv (.tuple (zs.map PyData.str)) (.tuple (zs.map PyData.str)) = true := by
  show PyData.eqvAll _ _ = true
  rw [eqv_strs]
  exact decide_eq_true rfl
section
variable {P : Program} {w : World} {K : PySem.W.Frag} {mg : Str → Option Value} {base : Heap}
theorem ok_law (T : Tx P K mg) {f : Addr} {fd : FuncData} (F : Fun K "law" "law" st_law f fd) : FnOk P w K mg base CX0 5 f fd ["_law_script"] (spLaw K) := by
  refine F.ok sc_law (fun vs H Q E h => ?_) (fun cdv A outer s H vs Q E hr h => ?_)
  · obtain ⟨a, ns, rfl, _⟩ := h
    rfl
  · obtain ⟨a, ns, rfl, hS, hlen63, q⟩ := h
    refine ⟨_, (pss_cons (ps_if (pt_cmpR (op_neD hr.units) (pe_call (ok_told T) (hr.mono (by decide) : Room 4 _) (by rfl) T.g_told T.F_told.kp T.b_told .nil pass0 (pa_cons (pe_tup pa_nil) pa_nil)) (pe_tup (pa_cons pe_str (pa_cons pe_str (pa_cons pe_str pa_nil)))) (nomark _)) (pss_one (ps_ret pe_bl)) pss_nil) (pss_cons (ps_for PassesOwn.never rfl (pi_range1 (by rfl) T.m_range (pa_cons (pe_callB (call_max2 rfl) (by rfl) T.m_max (by decide +kernel) (pa_cons pe_int (pa_cons (pe_callB (call_min2 rfl) (by rfl) T.m_min (by decide +kernel) (pa_cons pe_int (pa_cons (pe_callB call_len_seq (by rfl) T.m_len PySem.boot_len (pa_cons (pv 0) pa_nil)) pa_nil))) pa_nil))) pa_nil)) (pg_name (i := 1) sc_law.nd rfl (.inl rfl)) (pss_cons (ps_set (i := 2) sc_law.nd rfl (.inl rfl) (pe_call (ok_box T) (hr.mono (by decide) : Room 1 _) (by rfl) T.g_box T.F_box.kp T.b_box .nil pass0 (pa_cons (pv 0) (pa_cons (pv 1) pa_nil)))) (pss_cons (ps_set (i := 3) sc_law.nd rfl (.inl rfl) (pe_call (ok_wood T) (hr.mono (by decide) : Room 3 _) (by rfl) T.g_wood T.F_wood.kp T.b_wood .nil pass0 (pa_cons (pv 2) (pa_cons pe_int pa_nil)))) (pss_cons (ps_set (i := 4) sc_law.nd rfl (.inl rfl) (pv 3)) (pss_cons (ps_for PassesOwn.never rfl (pi_range1 (by rfl) T.m_range (pa_cons (pe_op op_add pe_int (pe_call (ok_take T) (hr.mono (by decide) : Room 1 _) (by rfl) T.g_take T.F_take.kp T.b_take .nil pass0 (pa_cons (pv 2) (pa_cons pe_int pa_nil)))) pa_nil)) (pg_name (i := 5) sc_law.nd rfl (.inl rfl)) (pss_one (ps_set (i := 4) sc_law.nd rfl (.inl rfl) (pe_call (ok_spoilt T) (hr.mono (by decide) : Room 3 _) (by rfl) T.g_spoilt T.F_spoilt.kp T.b_spoilt .nil pass0 (pa_cons (pv 2) (pa_cons (pv 4) pa_nil)))))) (pss_one (ps_for PassesOwn.never rfl (pi_tup (pe_tup (pa_cons (pv 4) (pa_cons (pv 3) (pa_cons (pv 4) pa_nil))))) (pg_name (i := 6) sc_law.nd rfl (.inl rfl)) (pss_one (ps_if (pt_cmpR (op_neD hr.units) (pe_call (ok_told T) (hr.mono (by decide) : Room 4 _) (by rfl) T.g_told T.F_told.kp T.b_told .nil pass0 (pa_cons (pv 6) pa_nil)) (pe_call (ok_due T) (hr.mono (by decide) : Room 3 _) (by rfl) T.g_due T.F_due.kp T.b_due .nil pass0 (pa_cons (pv 6) pa_nil)) (nomark _)) (pss_one (ps_ret pe_bl)) pss_nil))))))))) (pss_one (ps_ret pe_bl)))), ?_⟩
    -- no wood at all
    refine ⟨s0, fun t0 nt0 => ?_⟩
    have sA := same_new (o := .tup []) nt0
    refine ⟨t0, [], rfl, ⟨[], upd_same, .nil⟩, ⟨by decide, (fun _ h => nomatch h), (fun _ h => nomatch h), by decide⟩, fun t H1 s1 et => ?_⟩
    refine ⟨s3, fun u nu => ?_⟩
    refine ⟨.tuple _, .tuple _, .tup (SqT.of (by rw [(same_new nu) _ _ et, tolds_eq])) (dpAll_strs _), .tup (SqT.of upd_same) (dpAll_strs ["refused", "kinds", ""]), by decide +kernel, by decide +kernel, _, rfl, ?_⟩
    have e0 : PyData.eqv (.tuple ((toldz []).map PyData.str)) (.tuple ((["refused", "kinds", ""] : List Str).map PyData.str)) = true := eqv_self ["refused", "kinds", ""]
    rw [e0]
    refine iteF ?_
    have sB : Same H (upd H1 u (.tup [.str "refused", .str "kinds", .str ""])) := (sA.trans s1).trans (same_new nu)
    generalize upd H1 u (.tup [.str "refused", .str "kinds", .str ""]) = HB at sB
    -- the cells
    refine ⟨.ref a, rfl, a, _, rfl, .inl (sB.seq hS), _, _, rfl, _, _, rfl, ?_⟩
    rw [List.length_map]
    obtain ⟨n, hn, hn3, hn8⟩ : ∃ n : Nat, (if (if (ns.length : Int) < 8 then (ns.length : Int) else 8) > 3 then (if (ns.length : Int) < 8 then (ns.length : Int) else 8) else 3) = (n : Int) ∧ 3 ≤ n ∧ n ≤ 8 := by
      refine ⟨max 3 (min 8 ns.length), ?_, by omega, by omega⟩
      split <;> split at * <;> omega
    rw [hn]
    refine ⟨_, rfl, by omega, by omega, for_range (lo := 0) (n := (n : Int).toNat) (fun i σ H' => ∃ (y1 y2 y3 y4 y5 y6 : Option V), σ = [some (.ref a), y1, y2, y3, y4, y5, y6] ∧ Same H H')
      ⟨none, none, none, none, none, none, rfl, sB⟩ (fun i σ H' hi hP => ?_) (fun σ H' hP => ?_)⟩
    · obtain ⟨y1, y2, y3, y4, y5, y6, rfl, sm⟩ := hP
      refine ⟨.ref a, rfl, _, rfl, a, ns, _, rfl, sm.seq hS, by omega, by omega, fun b H1 nb s1 db => ?_⟩
      have nbH : H b = none := Same.free sm nb
      refine ⟨_, rfl, b, 12, rfl, db, by decide, by decide, fun p H2 wd g2 hw good => ?_⟩
      refine ⟨_, rfl, ?_⟩
      refine ⟨_, rfl, b, 4, rfl, g2.2, by decide, by decide +kernel, fun t4 H3 t40 t41 g3 => ?_⟩
      refine ⟨_, _, rfl, rfl, 1 + t4, rfl, by omega, by omega, ?_⟩
      have G3 : Gr b H1 H3 := g2.trans g3
      have hw3 := hw.mono (KT.gr g2.2 g3)
      refine for_range (lo := 0) (n := (1 + t4).toNat) (fun j σ H' => ∃ (y5 : Option V) (p' : Addr) (wd' : Wood), σ = [some (.ref a), some (.int (0 + (i : Int))), some (.ref b), some (.ref p), some (.ref p'), y5, y6] ∧ Gr b H1 H' ∧ WdAt H' p wd ∧ WdAt H' p' wd' ∧ Tm (12 + 8 * j) wd') ⟨y5, p, wd, rfl, G3, hw3, hw3, good.tm⟩ (fun j σ H' hj hP => ?_) (fun σ H' hP => ?_)
      · obtain ⟨z5, p', wd', rfl, g4, hw4, hw4', tm⟩ := hP
        refine ⟨_, rfl, _, rfl, b, p', 12 + 8 * j, wd', rfl, g4.2, hw4', tm, by omega, fun p2 H5 wd2 g5 hw5 tm5 => ?_⟩
        exact ⟨_, p2, wd2, rfl, g4.trans g5, hw4.mono (KT.gr g4.2 g5), hw5, tm5⟩
      · obtain ⟨z5, p', wd', rfl, g4, hw4, hw4', tm⟩ := hP
        have tame' : Tame wd' := tm.tame (by omega)
        have tame : Tame wd := good.tm.tame (by decide)
        refine ⟨_, rfl, _, rfl, _, rfl, s3, fun tt ntt => ?_⟩
        have sT := same_new (o := .tup [.ref p', .ref p, .ref p']) ntt
        refine ⟨tt, rfl, ⟨_, SqT.of upd_same⟩, for_it (walk_tup (xs := [V.ref p', .ref p, .ref p'])) (fun i' σ H'' => ∃ (z6 : Option V), σ = [some (.ref a), some (.int (0 + (i : Int))), some (.ref b), some (.ref p), some (.ref p'), z5, z6] ∧ Same (upd H' tt (.tup [.ref p', .ref p, .ref p'])) H'') ⟨_, rfl, Same.refl _⟩ (fun i' σ H'' hi P => ?_) (fun i' x σ H'' Hx hi P y => ?_) (fun σ H'' P => ?_)⟩
        · obtain ⟨_, _, s5⟩ := P
          exact SqT.of (s5 _ _ upd_same)
        · obtain ⟨z6, rfl, s5⟩ := P
          obtain ⟨rfl, ex⟩ := y
          have s6 := sT.trans s5
          obtain ⟨p3, wd3, rfl, hw6, tame6⟩ : ∃ p3 wd3, x = .ref p3 ∧ WdAt Hx p3 wd3 ∧ Tame wd3 := by
            have hx := List.mem_of_getElem? ex
            rcases List.mem_cons.mp hx with rfl | hx
            · exact ⟨_, _, rfl, hw4'.mono (KT.of s6), tame'⟩
            · rcases List.mem_cons.mp hx with rfl | hx
              · exact ⟨_, _, rfl, hw4.mono (KT.of s6), tame⟩
              · rw [List.mem_singleton.mp hx]
                exact ⟨_, _, rfl, hw4'.mono (KT.of s6), tame'⟩
          refine ⟨_, rfl, p3, wd3, rfl, hw6, tame6, fun t1 H7 s7 e1 => ?_⟩
          refine ⟨_, rfl, p3, wd3, rfl, hw6.mono (KT.of s7), tame6, fun t2 H8 s8 e2 => ?_⟩
          have ok := toldz_ok tame6
          refine ⟨.tuple _, .tuple _, .tup (SqT.of (by rw [s8 _ _ e1, tolds_eq])) (dpAll_strs _), .tup (SqT.of (by rw [e2, tolds_eq])) (dpAll_strs _), shaped_tuple (flat_strs ok), shaped_tuple (flat_strs ok), _, rfl, ?_⟩
          rw [eqv_self]
          exact iteF ⟨_, rfl, (s5.trans s7).trans s8⟩
        · obtain ⟨z6, rfl, s5⟩ := P
          refine ⟨_, _, _, _, _, _, rfl, fun c o e => s5 _ _ (sT _ _ (g4.1 _ _ (ne_of_none e nbH) (s1 _ _ (sm _ _ e))))⟩
    · exact q _
end

theorem all_mk {l : PySem.W.OpenLaw} {w : World} {K : PySem.W.Frag} {h : Heap} {mg : Str → Option Value} {fa : Addr} (X : K.In h) (G : h.Ns mainGlobals mg) (hfa : mg "law" = some (.ref fa))
    {f_isname : Addr} {od_isname an_isname : Option Addr} {sl_isname : Array (Option Value)} {oc_isname kV_isname dc_isname pm_isname cd_isname ct_isname : Value}
    (a_isname : PySem.W.nsIn K mainGlobals "is_name" = some (some (.ref f_isname))) (l_isname : K.lookup f_isname = some ⟨oc_isname, od_isname, .func (PySem.W.fnOf "is_name" "is_name" (defArgs st_isname) (defBody st_isname) (defScope st_isname) .none kV_isname dc_isname pm_isname an_isname cd_isname ct_isname), sl_isname⟩) (c_isname : PySem.W.codeIn K cd_isname "is_name" = true) (k_isname : PySem.W.keepIn K (.ref f_isname) = true)
    {f_lookwood : Addr} {od_lookwood an_lookwood : Option Addr} {sl_lookwood : Array (Option Value)} {oc_lookwood kV_lookwood dc_lookwood pm_lookwood cd_lookwood ct_lookwood : Value}
    (a_lookwood : PySem.W.nsIn K mainGlobals "look_wood" = some (some (.ref f_lookwood))) (l_lookwood : K.lookup f_lookwood = some ⟨oc_lookwood, od_lookwood, .func (PySem.W.fnOf "look_wood" "look_wood" (defArgs st_lookwood) (defBody st_lookwood) (defScope st_lookwood) .none kV_lookwood dc_lookwood pm_lookwood an_lookwood cd_lookwood ct_lookwood), sl_lookwood⟩) (c_lookwood : PySem.W.codeIn K cd_lookwood "look_wood" = true) (k_lookwood : PySem.W.keepIn K (.ref f_lookwood) = true)
    {f_lookkinds : Addr} {od_lookkinds an_lookkinds : Option Addr} {sl_lookkinds : Array (Option Value)} {oc_lookkinds kV_lookkinds dc_lookkinds pm_lookkinds cd_lookkinds ct_lookkinds : Value}
    (a_lookkinds : PySem.W.nsIn K mainGlobals "look_kinds" = some (some (.ref f_lookkinds))) (l_lookkinds : K.lookup f_lookkinds = some ⟨oc_lookkinds, od_lookkinds, .func (PySem.W.fnOf "look_kinds" "look_kinds" (defArgs st_lookkinds) (defBody st_lookkinds) (defScope st_lookkinds) .none kV_lookkinds dc_lookkinds pm_lookkinds an_lookkinds cd_lookkinds ct_lookkinds), sl_lookkinds⟩) (c_lookkinds : PySem.W.codeIn K cd_lookkinds "look_kinds" = true) (k_lookkinds : PySem.W.keepIn K (.ref f_lookkinds) = true)
    {f_lookmakers : Addr} {od_lookmakers an_lookmakers : Option Addr} {sl_lookmakers : Array (Option Value)} {oc_lookmakers kV_lookmakers dc_lookmakers pm_lookmakers cd_lookmakers ct_lookmakers : Value}
    (a_lookmakers : PySem.W.nsIn K mainGlobals "look_makers" = some (some (.ref f_lookmakers))) (l_lookmakers : K.lookup f_lookmakers = some ⟨oc_lookmakers, od_lookmakers, .func (PySem.W.fnOf "look_makers" "look_makers" (defArgs st_lookmakers) (defBody st_lookmakers) (defScope st_lookmakers) .none kV_lookmakers dc_lookmakers pm_lookmakers an_lookmakers cd_lookmakers ct_lookmakers), sl_lookmakers⟩) (c_lookmakers : PySem.W.codeIn K cd_lookmakers "look_makers" = true) (k_lookmakers : PySem.W.keepIn K (.ref f_lookmakers) = true)
    {f_box : Addr} {od_box an_box : Option Addr} {sl_box : Array (Option Value)} {oc_box kV_box dc_box pm_box cd_box ct_box : Value}
    (a_box : PySem.W.nsIn K mainGlobals "_law_box" = some (some (.ref f_box))) (l_box : K.lookup f_box = some ⟨oc_box, od_box, .func (PySem.W.fnOf "_law_box" "_law_box" (defArgs st_box) (defBody st_box) (defScope st_box) .none kV_box dc_box pm_box an_box cd_box ct_box), sl_box⟩) (c_box : PySem.W.codeIn K cd_box "_law_box" = true) (k_box : PySem.W.keepIn K (.ref f_box) = true)
    {f_take : Addr} {od_take an_take : Option Addr} {sl_take : Array (Option Value)} {oc_take kV_take dc_take pm_take cd_take ct_take : Value}
    (a_take : PySem.W.nsIn K mainGlobals "_law_take" = some (some (.ref f_take))) (l_take : K.lookup f_take = some ⟨oc_take, od_take, .func (PySem.W.fnOf "_law_take" "_law_take" (defArgs st_take) (defBody st_take) (defScope st_take) .none kV_take dc_take pm_take an_take cd_take ct_take), sl_take⟩) (c_take : PySem.W.codeIn K cd_take "_law_take" = true) (k_take : PySem.W.keepIn K (.ref f_take) = true)
    {f_names : Addr} {od_names an_names : Option Addr} {sl_names : Array (Option Value)} {oc_names kV_names dc_names pm_names cd_names ct_names : Value}
    (a_names : PySem.W.nsIn K mainGlobals "_law_names" = some (some (.ref f_names))) (l_names : K.lookup f_names = some ⟨oc_names, od_names, .func (PySem.W.fnOf "_law_names" "_law_names" (defArgs st_names) (defBody st_names) (defScope st_names) .none kV_names dc_names pm_names an_names cd_names ct_names), sl_names⟩) (c_names : PySem.W.codeIn K cd_names "_law_names" = true) (k_names : PySem.W.keepIn K (.ref f_names) = true)
    {f_wood : Addr} {od_wood an_wood : Option Addr} {sl_wood : Array (Option Value)} {oc_wood kV_wood dc_wood pm_wood cd_wood ct_wood : Value}
    (a_wood : PySem.W.nsIn K mainGlobals "_law_wood" = some (some (.ref f_wood))) (l_wood : K.lookup f_wood = some ⟨oc_wood, od_wood, .func (PySem.W.fnOf "_law_wood" "_law_wood" (defArgs st_wood) (defBody st_wood) (defScope st_wood) .none kV_wood dc_wood pm_wood an_wood cd_wood ct_wood), sl_wood⟩) (c_wood : PySem.W.codeIn K cd_wood "_law_wood" = true) (k_wood : PySem.W.keepIn K (.ref f_wood) = true)
    {f_lisname : Addr} {od_lisname an_lisname : Option Addr} {sl_lisname : Array (Option Value)} {oc_lisname kV_lisname dc_lisname pm_lisname cd_lisname ct_lisname : Value}
    (a_lisname : PySem.W.nsIn K mainGlobals "_law_is_name" = some (some (.ref f_lisname))) (l_lisname : K.lookup f_lisname = some ⟨oc_lisname, od_lisname, .func (PySem.W.fnOf "_law_is_name" "_law_is_name" (defArgs st_lisname) (defBody st_lisname) (defScope st_lisname) .none kV_lisname dc_lisname pm_lisname an_lisname cd_lisname ct_lisname), sl_lisname⟩) (c_lisname : PySem.W.codeIn K cd_lisname "_law_is_name" = true) (k_lisname : PySem.W.keepIn K (.ref f_lisname) = true)
    {f_anytext : Addr} {od_anytext an_anytext : Option Addr} {sl_anytext : Array (Option Value)} {oc_anytext kV_anytext dc_anytext pm_anytext cd_anytext ct_anytext : Value}
    (a_anytext : PySem.W.nsIn K mainGlobals "_law_any_text" = some (some (.ref f_anytext))) (l_anytext : K.lookup f_anytext = some ⟨oc_anytext, od_anytext, .func (PySem.W.fnOf "_law_any_text" "_law_any_text" (defArgs st_anytext) (defBody st_anytext) (defScope st_anytext) .none kV_anytext dc_anytext pm_anytext an_anytext cd_anytext ct_anytext), sl_anytext⟩) (c_anytext : PySem.W.codeIn K cd_anytext "_law_any_text" = true) (k_anytext : PySem.W.keepIn K (.ref f_anytext) = true)
    {f_lookdue : Addr} {od_lookdue an_lookdue : Option Addr} {sl_lookdue : Array (Option Value)} {oc_lookdue kV_lookdue dc_lookdue pm_lookdue cd_lookdue ct_lookdue : Value}
    (a_lookdue : PySem.W.nsIn K mainGlobals "_law_look_due" = some (some (.ref f_lookdue))) (l_lookdue : K.lookup f_lookdue = some ⟨oc_lookdue, od_lookdue, .func (PySem.W.fnOf "_law_look_due" "_law_look_due" (defArgs st_lookdue) (defBody st_lookdue) (defScope st_lookdue) .none kV_lookdue dc_lookdue pm_lookdue an_lookdue cd_lookdue ct_lookdue), sl_lookdue⟩) (c_lookdue : PySem.W.codeIn K cd_lookdue "_law_look_due" = true) (k_lookdue : PySem.W.keepIn K (.ref f_lookdue) = true)
    {f_spoilt : Addr} {od_spoilt an_spoilt : Option Addr} {sl_spoilt : Array (Option Value)} {oc_spoilt kV_spoilt dc_spoilt pm_spoilt cd_spoilt ct_spoilt : Value}
    (a_spoilt : PySem.W.nsIn K mainGlobals "_law_spoilt_wood" = some (some (.ref f_spoilt))) (l_spoilt : K.lookup f_spoilt = some ⟨oc_spoilt, od_spoilt, .func (PySem.W.fnOf "_law_spoilt_wood" "_law_spoilt_wood" (defArgs st_spoilt) (defBody st_spoilt) (defScope st_spoilt) .none kV_spoilt dc_spoilt pm_spoilt an_spoilt cd_spoilt ct_spoilt), sl_spoilt⟩) (c_spoilt : PySem.W.codeIn K cd_spoilt "_law_spoilt_wood" = true) (k_spoilt : PySem.W.keepIn K (.ref f_spoilt) = true)
    {f_told : Addr} {od_told an_told : Option Addr} {sl_told : Array (Option Value)} {oc_told kV_told dc_told pm_told cd_told ct_told : Value}
    (a_told : PySem.W.nsIn K mainGlobals "_law_told" = some (some (.ref f_told))) (l_told : K.lookup f_told = some ⟨oc_told, od_told, .func (PySem.W.fnOf "_law_told" "_law_told" (defArgs st_told) (defBody st_told) (defScope st_told) .none kV_told dc_told pm_told an_told cd_told ct_told), sl_told⟩) (c_told : PySem.W.codeIn K cd_told "_law_told" = true) (k_told : PySem.W.keepIn K (.ref f_told) = true)
    {f_due : Addr} {od_due an_due : Option Addr} {sl_due : Array (Option Value)} {oc_due kV_due dc_due pm_due cd_due ct_due : Value}
    (a_due : PySem.W.nsIn K mainGlobals "_law_due" = some (some (.ref f_due))) (l_due : K.lookup f_due = some ⟨oc_due, od_due, .func (PySem.W.fnOf "_law_due" "_law_due" (defArgs st_due) (defBody st_due) (defScope st_due) .none kV_due dc_due pm_due an_due cd_due ct_due), sl_due⟩) (c_due : PySem.W.codeIn K cd_due "_law_due" = true) (k_due : PySem.W.keepIn K (.ref f_due) = true)
    {f_law : Addr} {od_law an_law : Option Addr} {sl_law : Array (Option Value)} {oc_law kV_law dc_law pm_law cd_law ct_law : Value}
    (a_law : PySem.W.nsIn K mainGlobals "law" = some (some (.ref f_law))) (l_law : K.lookup f_law = some ⟨oc_law, od_law, .func (PySem.W.fnOf "law" "law" (defArgs st_law) (defBody st_law) (defScope st_law) .none kV_law dc_law pm_law an_law cd_law ct_law), sl_law⟩) (c_law : PySem.W.codeIn K cd_law "law" = true) (k_law : PySem.W.keepIn K (.ref f_law) = true)
    (z_len : PySem.W.nsIn K mainGlobals "len" = some none)
    (z_int : PySem.W.nsIn K mainGlobals "int" = some none)
    (z_bool : PySem.W.nsIn K mainGlobals "bool" = some none)
    (z_list : PySem.W.nsIn K mainGlobals "list" = some none)
    (z_tuple : PySem.W.nsIn K mainGlobals "tuple" = some none)
    (z_zip : PySem.W.nsIn K mainGlobals "zip" = some none)
    (z_isinstance : PySem.W.nsIn K mainGlobals "isinstance" = some none)
    (z_max : PySem.W.nsIn K mainGlobals "max" = some none)
    (z_min : PySem.W.nsIn K mainGlobals "min" = some none)
    (z_range : PySem.W.nsIn K mainGlobals "range" = some none)
    (z_enumerate : PySem.W.nsIn K mainGlobals "enumerate" = some none)
    (z_all : PySem.W.nsIn K mainGlobals "all" = some none)
    (z_ValueError : PySem.W.nsIn K mainGlobals "ValueError" = some none)
    (z_super : PySem.W.nsIn K mainGlobals "super" = some none)
    {t_LETTERS t_MOST_LETTERS t_MOST_KINDS t_MOST_MAKERS t_MOST_PARTS : Tok}
    (a_LETTERS : PySem.W.nsIn K mainGlobals "LETTERS" = some (some (.str (Str.ofString "abcdefghijklmnopqrstuvwxyz") t_LETTERS)))
    (a_MOST_LETTERS : PySem.W.nsIn K mainGlobals "MOST_LETTERS" = some (some (.int 6 t_MOST_LETTERS)))
    (a_MOST_KINDS : PySem.W.nsIn K mainGlobals "MOST_KINDS" = some (some (.int 4 t_MOST_KINDS)))
    (a_MOST_MAKERS : PySem.W.nsIn K mainGlobals "MOST_MAKERS" = some (some (.int 12 t_MOST_MAKERS)))
    (a_MOST_PARTS : PySem.W.nsIn K mainGlobals "MOST_PARTS" = some (some (.int 2 t_MOST_PARTS)))
    {C fI cc cda CB : Addr} {nmX qX : Str} {N : Addr} {bs : List Value} {sn : List Str} {sub : List Value} {ab : Bool} {col : Option Bool} {dd : Option Addr} {m0 m1 m2 m3 m5 : Option Value}
    {C_NoFit C_NoPrinter C_NoReader C_NoRow C_NoText C_NoTree C_NoTurner C_NoWord C_TooLong C_TooWide : Addr}
    (aC : PySem.W.nsIn K mainGlobals "NoWood" = some (some (.ref C))) (aB : PySem.W.nsIn K mainGlobals "BoughError" = some (some (.ref CB)))
    (xL : K.lookup C = some (excClassObj nmX qX C N bs [.ref CB, .type "ValueError", .type "Exception", .type "BaseException", .type "object"] true sn sub ab col dd m0 m1 m2 m3 m5 "ValueError.__new__"))
    (iC : PySem.W.findIn K (.ref C) "__init__" = some (some (.ref fI))) (tI : PySem.W.typeIn K (.ref fI) = some (.type "function"))
    {ocI kVI dcI pmI ctI : Value} {odI anI : Option Addr} {slI : Array (Option Value)} (lI : K.lookup fI = some ⟨ocI, odI, .func (PySem.W.ksFn "__init__" "NoWood.__init__" (defArgs st_nw) (defBody st_nw) (defScope st_nw) .none kVI dcI pmI anI (.ref cda) ctI cc), slI⟩) (cI : PySem.W.codeIn K (.ref cda) "NoWood.__init__" = true)
    {cclX : Value} {cddX : Option Addr} {vsX : Array Value} {ccsX : Array (Option Value)} (lcd : K.lookup cda = some ⟨cclX, cddX, .fields vsX, ccsX⟩) {fileX : Str} {tfX : Tok} (vs2 : vsX[2]? = some (.str fileX tfX)) (fileE : ((l.prog.main.file : Str) == fileX) = true)
    {clX : Value} {cldX : Option Addr} {cslX : Array (Option Value)} (lcc : K.lookup cc = some ⟨clX, cldX, .cell (some (.ref C)), cslX⟩)
    (supC : PySem.W.ks_superIn K C C "__init__" = some (some (.builtin "ValueError.__init__"))) (opq : PySem.W.nsIn K cStatics "thirdparty.any" = some none) (topN : (l.prog.main.scope.names.lookup ("super" : Str)).isSome = false)
    (subB : PySem.W.subIn K (.ref C) (.type "ValueError") = some true) (subC : PySem.W.mroIn K C (.ref C) = some true) (kC : PySem.W.keepIn K (.ref C) = true) (exC : PySem.W.subIn K (.ref C) (.type "BaseException") = some true) (tyC : PySem.W.typeIn K (.ref C) = some (.type "type"))
    (gaC : PySem.W.findIn K (.ref C) "__getattribute__" = some (some (.builtin "BaseException.__getattribute__"))) (ggC : PySem.W.findIn K (.ref C) "__getattr__" = some none) (hdC : PySem.W.hasDictIn K C = true) (clC : PySem.W.findIn K (.ref C) "__class__" = some (some (.builtin "object.__class__")))
    (snC : PySem.W.specialIn K (.builtin "object.__class__") "__get__" = some (some (.builtin "getset_descriptor.__get__"))) (tkC : PySem.W.takesIn K (.builtin "object.__class__") = some true) (mrC : PySem.W.mroIn K C (.type "object") = some true)
    (saC : PySem.W.findIn K (.ref C) "__setattr__" = some (some (.builtin "object.__setattr__"))) (nW : PySem.W.findIn K (.ref C) "word" = some none) (nN : PySem.W.findIn K (.ref C) "name" = some none)
    (exB : PySem.W.subIn K (.ref CB) (.type "BaseException") = some true) (hdB : PySem.W.hasDictIn K CB = true) (tyB : PySem.W.typeIn K (.ref CB) = some (.type "type")) (sCB : PySem.W.subIn K (.ref C) (.ref CB) = some true)
    (kCC : PySem.W.kitOne K (.ref C) (.ref C) = some true) (kVE : PySem.W.kitOne K (.ref C) (.type "ValueError") = some true)
    (g_NoFit : PySem.W.nsIn K mainGlobals "NoFit" = some (some (.ref C_NoFit))) (k_NoFit : PySem.W.kitOne K (.ref C) (.ref C_NoFit) = some false)
    (g_NoPrinter : PySem.W.nsIn K mainGlobals "NoPrinter" = some (some (.ref C_NoPrinter))) (k_NoPrinter : PySem.W.kitOne K (.ref C) (.ref C_NoPrinter) = some false)
    (g_NoReader : PySem.W.nsIn K mainGlobals "NoReader" = some (some (.ref C_NoReader))) (k_NoReader : PySem.W.kitOne K (.ref C) (.ref C_NoReader) = some false)
    (g_NoRow : PySem.W.nsIn K mainGlobals "NoRow" = some (some (.ref C_NoRow))) (k_NoRow : PySem.W.kitOne K (.ref C) (.ref C_NoRow) = some false)
    (g_NoText : PySem.W.nsIn K mainGlobals "NoText" = some (some (.ref C_NoText))) (k_NoText : PySem.W.kitOne K (.ref C) (.ref C_NoText) = some false)
    (g_NoTree : PySem.W.nsIn K mainGlobals "NoTree" = some (some (.ref C_NoTree))) (k_NoTree : PySem.W.kitOne K (.ref C) (.ref C_NoTree) = some false)
    (g_NoTurner : PySem.W.nsIn K mainGlobals "NoTurner" = some (some (.ref C_NoTurner))) (k_NoTurner : PySem.W.kitOne K (.ref C) (.ref C_NoTurner) = some false)
    (g_NoWord : PySem.W.nsIn K mainGlobals "NoWord" = some (some (.ref C_NoWord))) (k_NoWord : PySem.W.kitOne K (.ref C) (.ref C_NoWord) = some false)
    (g_TooLong : PySem.W.nsIn K mainGlobals "TooLong" = some (some (.ref C_TooLong))) (k_TooLong : PySem.W.kitOne K (.ref C) (.ref C_TooLong) = some false)
    (g_TooWide : PySem.W.nsIn K mainGlobals "TooWide" = some (some (.ref C_TooWide))) (k_TooWide : PySem.W.kitOne K (.ref C) (.ref C_TooWide) = some false)
    : ∃ fd : FuncData, (∀ (s : Shared) (v : Value), BindsTo s fd ⟨[v], []⟩ [("_law_script", v)]) ∧ ∀ base : Heap, K.In base → base.Ns mainGlobals mg → FnOk l.prog w K mg base CX0 5 fa fd ["_law_script"] (spLaw K) := by
  have e := hfa.symm.trans (PySem.W.mg_of X G a_law)
  cases e
  have F_isname := fun_mk (st := st_isname) l_isname c_isname k_isname
  have b_isname := F_isname.binds (ps := ["text"]) fun _ _ _ _ _ _ us hl => match us, hl with | [_], _ => rfl
  have F_lookwood := fun_mk (st := st_lookwood) l_lookwood c_lookwood k_lookwood
  have b_lookwood := F_lookwood.binds (ps := ["wood"]) fun _ _ _ _ _ _ us hl => match us, hl with | [_], _ => rfl
  have F_lookkinds := fun_mk (st := st_lookkinds) l_lookkinds c_lookkinds k_lookkinds
  have b_lookkinds := F_lookkinds.binds (ps := ["wood"]) fun _ _ _ _ _ _ us hl => match us, hl with | [_], _ => rfl
  have F_lookmakers := fun_mk (st := st_lookmakers) l_lookmakers c_lookmakers k_lookmakers
  have b_lookmakers := F_lookmakers.binds (ps := ["kinds", "makers"]) fun _ _ _ _ _ _ us hl => match us, hl with | [_, _], _ => rfl
  have F_box := fun_mk (st := st_box) l_box c_box k_box
  have b_box := F_box.binds (ps := ["_law_script", "_law_k"]) fun _ _ _ _ _ _ us hl => match us, hl with | [_, _], _ => rfl
  have F_take := fun_mk (st := st_take) l_take c_take k_take
  have b_take := F_take.binds (ps := ["_law_box_here", "_law_many"]) fun _ _ _ _ _ _ us hl => match us, hl with | [_, _], _ => rfl
  have F_names := fun_mk (st := st_names) l_names c_names k_names
  have b_names := F_names.binds (ps := ["_law_box_here", "_law_many"]) fun _ _ _ _ _ _ us hl => match us, hl with | [_, _], _ => rfl
  have F_wood := fun_mk (st := st_wood) l_wood c_wood k_wood
  have b_wood := F_wood.binds (ps := ["_law_box_here", "_law_most"]) fun _ _ _ _ _ _ us hl => match us, hl with | [_, _], _ => rfl
  have F_lisname := fun_mk (st := st_lisname) l_lisname c_lisname k_lisname
  have b_lisname := F_lisname.binds (ps := ["_law_text"]) fun _ _ _ _ _ _ us hl => match us, hl with | [_], _ => rfl
  have F_anytext := fun_mk (st := st_anytext) l_anytext c_anytext k_anytext
  have b_anytext := F_anytext.binds (ps := ["_law_box_here"]) fun _ _ _ _ _ _ us hl => match us, hl with | [_], _ => rfl
  have F_lookdue := fun_mk (st := st_lookdue) l_lookdue c_lookdue k_lookdue
  have b_lookdue := F_lookdue.binds (ps := ["_law_wood_here"]) fun _ _ _ _ _ _ us hl => match us, hl with | [_], _ => rfl
  have F_spoilt := fun_mk (st := st_spoilt) l_spoilt c_spoilt k_spoilt
  have b_spoilt := F_spoilt.binds (ps := ["_law_box_here", "_law_wood_here"]) fun _ _ _ _ _ _ us hl => match us, hl with | [_, _], _ => rfl
  have F_told := fun_mk (st := st_told) l_told c_told k_told
  have b_told := F_told.binds (ps := ["_law_wood_here"]) fun _ _ _ _ _ _ us hl => match us, hl with | [_], _ => rfl
  have F_due := fun_mk (st := st_due) l_due c_due k_due
  have b_due := F_due.binds (ps := ["_law_wood_here"]) fun _ _ _ _ _ _ us hl => match us, hl with | [_], _ => rfl
  have F_law := fun_mk (st := st_law) l_law c_law k_law
  have exc : PySem.BX.ETxt l.prog K mg C fI cc cda "ValueError" "ValueError.__new__" "ValueError.__init__" [.type "ValueError", .type "Exception", .type "BaseException", .type "object"] "NoWood" "NoWood.__init__" (defArgs st_nw) fs_nw [fs_nw1, fs_nw2] (defScope st_nw) := { gC := PySem.W.mg_of X G aC, cls := ⟨_, _, _, _, _, _, _, _, _, _, _, _, _, _, _, xL, fun _ => rfl⟩, base := F.excBase_ValueError, kxs := PySem.W.kxs_ValueError, iC := iC, tI := tI, fn := ⟨_, _, _, _, _, _, _, _, lI⟩, code := cI, cdo := ⟨_, _, _, _, _, _, lcd, vs2, fileE⟩, cell := ⟨_, _, _, lcc⟩, sup := supC, opq := opq, noS := PySem.W.mg_none_of X G z_super, topS := topN, subB := subB, subC := subC, kC := kC, exC := exC, tyC := tyC, kS := by decide +kernel, kCl := by decide +kernel, kSf := by decide +kernel, kF := rfl, st := ⟨_, _, _, _, _, _, _, _, rfl, fun L => ⟨rfl, rfl, _, rfl⟩⟩, hd := ⟨_, rfl, rfl⟩ }
  have T : Tx l.prog K mg := { f_isname := f_isname, fd_isname := _, F_isname := F_isname, g_isname := PySem.W.mg_of X G a_isname, b_isname := b_isname, f_lookwood := f_lookwood, fd_lookwood := _, F_lookwood := F_lookwood, g_lookwood := PySem.W.mg_of X G a_lookwood, b_lookwood := b_lookwood, f_lookkinds := f_lookkinds, fd_lookkinds := _, F_lookkinds := F_lookkinds, g_lookkinds := PySem.W.mg_of X G a_lookkinds, b_lookkinds := b_lookkinds, f_lookmakers := f_lookmakers, fd_lookmakers := _, F_lookmakers := F_lookmakers, g_lookmakers := PySem.W.mg_of X G a_lookmakers, b_lookmakers := b_lookmakers, f_box := f_box, fd_box := _, F_box := F_box, g_box := PySem.W.mg_of X G a_box, b_box := b_box, f_take := f_take, fd_take := _, F_take := F_take, g_take := PySem.W.mg_of X G a_take, b_take := b_take, f_names := f_names, fd_names := _, F_names := F_names, g_names := PySem.W.mg_of X G a_names, b_names := b_names, f_wood := f_wood, fd_wood := _, F_wood := F_wood, g_wood := PySem.W.mg_of X G a_wood, b_wood := b_wood, f_lisname := f_lisname, fd_lisname := _, F_lisname := F_lisname, g_lisname := PySem.W.mg_of X G a_lisname, b_lisname := b_lisname, f_anytext := f_anytext, fd_anytext := _, F_anytext := F_anytext, g_anytext := PySem.W.mg_of X G a_anytext, b_anytext := b_anytext, f_lookdue := f_lookdue, fd_lookdue := _, F_lookdue := F_lookdue, g_lookdue := PySem.W.mg_of X G a_lookdue, b_lookdue := b_lookdue, f_spoilt := f_spoilt, fd_spoilt := _, F_spoilt := F_spoilt, g_spoilt := PySem.W.mg_of X G a_spoilt, b_spoilt := b_spoilt, f_told := f_told, fd_told := _, F_told := F_told, g_told := PySem.W.mg_of X G a_told, b_told := b_told, f_due := f_due, fd_due := _, F_due := F_due, g_due := PySem.W.mg_of X G a_due, b_due := b_due, m_len := PySem.W.mg_none_of X G z_len, m_int := PySem.W.mg_none_of X G z_int, m_bool := PySem.W.mg_none_of X G z_bool, m_list := PySem.W.mg_none_of X G z_list, m_tuple := PySem.W.mg_none_of X G z_tuple, m_zip := PySem.W.mg_none_of X G z_zip, m_isinstance := PySem.W.mg_none_of X G z_isinstance, m_max := PySem.W.mg_none_of X G z_max, m_min := PySem.W.mg_none_of X G z_min, m_range := PySem.W.mg_none_of X G z_range, m_enumerate := PySem.W.mg_none_of X G z_enumerate, m_all := PySem.W.mg_none_of X G z_all, m_ValueError := PySem.W.mg_none_of X G z_ValueError, m_super := PySem.W.mg_none_of X G z_super, t_LETTERS := t_LETTERS, c_LETTERS := PySem.W.mg_of X G a_LETTERS, t_MOST_LETTERS := t_MOST_LETTERS, c_MOST_LETTERS := PySem.W.mg_of X G a_MOST_LETTERS, t_MOST_KINDS := t_MOST_KINDS, c_MOST_KINDS := PySem.W.mg_of X G a_MOST_KINDS, t_MOST_MAKERS := t_MOST_MAKERS, c_MOST_MAKERS := PySem.W.mg_of X G a_MOST_MAKERS, t_MOST_PARTS := t_MOST_PARTS, c_MOST_PARTS := PySem.W.mg_of X G a_MOST_PARTS, C := C, fI := fI, cc := cc, cda := cda, CB := CB, exc := exc, fld := ⟨⟨_, (by unfold PySem.W.clsIn; rw [xL]), rfl, rfl⟩, saC, fun f hf => by rcases List.mem_cons.mp hf with rfl | hf; exact nW; rw [List.mem_singleton.mp hf]; exact nN⟩, is1 := ⟨_, _, _, _, rfl, by decide +kernel, by decide +kernel, fun L => rfl⟩, is2 := ⟨_, _, _, _, rfl, by decide +kernel, by decide +kernel, fun L => rfl⟩, exI := ⟨gaC, ggC, exC, hdC, clC, snC, tkC, mrC⟩, xfc := ⟨gaC, ggC, exC, hdC⟩, noWord := nW, noName := nN, g_BoughError := PySem.W.mg_of X G aB, exm := PySem.W.exm_ref exB hdB tyB sCB, kC := kCC, kV := kVE, C_NoFit := C_NoFit, g_NoFit := PySem.W.mg_of X G g_NoFit, k_NoFit := k_NoFit, C_NoPrinter := C_NoPrinter, g_NoPrinter := PySem.W.mg_of X G g_NoPrinter, k_NoPrinter := k_NoPrinter, C_NoReader := C_NoReader, g_NoReader := PySem.W.mg_of X G g_NoReader, k_NoReader := k_NoReader, C_NoRow := C_NoRow, g_NoRow := PySem.W.mg_of X G g_NoRow, k_NoRow := k_NoRow, C_NoText := C_NoText, g_NoText := PySem.W.mg_of X G g_NoText, k_NoText := k_NoText, C_NoTree := C_NoTree, g_NoTree := PySem.W.mg_of X G g_NoTree, k_NoTree := k_NoTree, C_NoTurner := C_NoTurner, g_NoTurner := PySem.W.mg_of X G g_NoTurner, k_NoTurner := k_NoTurner, C_NoWord := C_NoWord, g_NoWord := PySem.W.mg_of X G g_NoWord, k_NoWord := k_NoWord, C_TooLong := C_TooLong, g_TooLong := PySem.W.mg_of X G g_TooLong, k_TooLong := k_TooLong, C_TooWide := C_TooWide, g_TooWide := PySem.W.mg_of X G g_TooWide, k_TooWide := k_TooWide }
  exact ⟨PySem.W.fnOf "law" "law" (defArgs st_law) (defBody st_law) (defScope st_law) .none kV_law dc_law pm_law an_law cd_law ct_law, fun s v => .of_eq rfl, fun base _ _ => ok_law T F_law⟩
end B07
open PySem PySem.W PyProof.Rows
set_option maxRecDepth 100000 in
set_option maxHeartbeats 0 in
theorem PySem.Challenge.cw_boughkept_k07_woods_refused_holds : PySem.Challenge.rw_boughkept_k07_woods_refused.Holds := by
  w_on; o_law; k_head; (case hw => w_witness2)
  k_fill
  refine L2.walk_of (l := PySem.Challenge.rw_boughkept_k07_woods_refused) (n := 63) (k := 5) (x := "_law_script") (CX := fun _ => L2.CX0) (sp := fun w => B07.spLaw _) rfl (by decide) rfl ⟨rfl, by decide, by decide⟩ (fun w h Y => PySem.W.kIn_of Y) ?F (fun _ _ a ns hl _ hS => ⟨a, ns, rfl, hS, hl, fun _ => rfl⟩) (fun _ _ _ _ _ h => h)
  case F =>
    intro w mg fa h KX G hmg
    refine' B07.all_mk KX G hmg ?a_isname ?l_isname ?c_isname ?k_isname ?a_lookwood ?l_lookwood ?c_lookwood ?k_lookwood ?a_lookkinds ?l_lookkinds ?c_lookkinds ?k_lookkinds ?a_lookmakers ?l_lookmakers ?c_lookmakers ?k_lookmakers ?a_box ?l_box ?c_box ?k_box ?a_take ?l_take ?c_take ?k_take ?a_names ?l_names ?c_names ?k_names ?a_wood ?l_wood ?c_wood ?k_wood ?a_lisname ?l_lisname ?c_lisname ?k_lisname ?a_anytext ?l_anytext ?c_anytext ?k_anytext ?a_lookdue ?l_lookdue ?c_lookdue ?k_lookdue ?a_spoilt ?l_spoilt ?c_spoilt ?k_spoilt ?a_told ?l_told ?c_told ?k_told ?a_due ?l_due ?c_due ?k_due ?a_law ?l_law ?c_law ?k_law ?z_len ?z_int ?z_bool ?z_list ?z_tuple ?z_zip ?z_isinstance ?z_max ?z_min ?z_range ?z_enumerate ?z_all ?z_ValueError ?z_super ?a_LETTERS ?a_MOST_LETTERS ?a_MOST_KINDS ?a_MOST_MAKERS ?a_MOST_PARTS ?aC ?aB ?xL ?iC ?tI ?lI ?cI ?lcd ?vs2 ?fileE ?lcc ?supC ?opq ?topN ?subB ?subC ?kC ?exC ?tyC ?gaC ?ggC ?hdC ?clC ?snC ?tkC ?mrC ?saC ?nW ?nN ?exB ?hdB ?tyB ?sCB ?kCC ?kVE ?g_NoFit ?k_NoFit ?g_NoPrinter ?k_NoPrinter ?g_NoReader ?k_NoReader ?g_NoRow ?k_NoRow ?g_NoText ?k_NoText ?g_NoTree ?k_NoTree ?g_NoTurner ?k_NoTurner ?g_NoWord ?k_NoWord ?g_TooLong ?k_TooLong ?g_TooWide ?k_TooWide
    (case a_isname => k_is)
    (case l_isname => k_is)
    (case c_isname => k_is)
    (case k_isname => k_is)
    (case a_lookwood => k_is)
    (case l_lookwood => k_is)
    (case c_lookwood => k_is)
    (case k_lookwood => k_is)
    (case a_lookkinds => k_is)
    (case l_lookkinds => k_is)
    (case c_lookkinds => k_is)
    (case k_lookkinds => k_is)
    (case a_lookmakers => k_is)
    (case l_lookmakers => k_is)
    (case c_lookmakers => k_is)
    (case k_lookmakers => k_is)
    (case a_box => k_is)
    (case l_box => k_is)
    (case c_box => k_is)
    (case k_box => k_is)
    (case a_take => k_is)
    (case l_take => k_is)
    (case c_take => k_is)
    (case k_take => k_is)
    (case a_names => k_is)
    (case l_names => k_is)
    (case c_names => k_is)
    (case k_names => k_is)
    (case a_wood => k_is)
    (case l_wood => k_is)
    (case c_wood => k_is)
    (case k_wood => k_is)
    (case a_lisname => k_is)
    (case l_lisname => k_is)
    (case c_lisname => k_is)
    (case k_lisname => k_is)
    (case a_anytext => k_is)
    (case l_anytext => k_is)
    (case c_anytext => k_is)
    (case k_anytext => k_is)
    (case a_lookdue => k_is)
    (case l_lookdue => k_is)
    (case c_lookdue => k_is)
    (case k_lookdue => k_is)
    (case a_spoilt => k_is)
    (case l_spoilt => k_is)
    (case c_spoilt => k_is)
    (case k_spoilt => k_is)
    (case a_told => k_is)
    (case l_told => k_is)
    (case c_told => k_is)
    (case k_told => k_is)
    (case a_due => k_is)
    (case l_due => k_is)
    (case c_due => k_is)
    (case k_due => k_is)
    (case a_law => k_is)
    (case l_law => k_is)
    (case c_law => k_is)
    (case k_law => k_is)
    (case z_len => k_is)
    (case z_int => k_is)
    (case z_bool => k_is)
    (case z_list => k_is)
    (case z_tuple => k_is)
    (case z_zip => k_is)
    (case z_isinstance => k_is)
    (case z_max => k_is)
    (case z_min => k_is)
    (case z_range => k_is)
    (case z_enumerate => k_is)
    (case z_all => k_is)
    (case z_ValueError => k_is)
    (case z_super => k_is)
    (case a_LETTERS => k_is)
    (case a_MOST_LETTERS => k_is)
    (case a_MOST_KINDS => k_is)
    (case a_MOST_MAKERS => k_is)
    (case a_MOST_PARTS => k_is)
    (case aC => k_is)
    (case aB => k_is)
    (case xL => k_is)
    (case iC => k_is)
    (case tI => k_is)
    (case lI => k_is)
    (case cI => k_is)
    (case lcd => k_is)
    (case vs2 => rfl)
    (case fileE => first | rfl | decide +kernel)
    (case lcc => k_is)
    (case supC => ks_is)
    (case opq => k_is)
    (case topN => first | rfl | decide +kernel)
    (case subB => k_is)
    (case subC => k_is)
    (case kC => k_is)
    (case exC => k_is)
    (case tyC => k_is)
    (case gaC => k_is)
    (case ggC => k_is)
    (case hdC => k_is)
    (case clC => k_is)
    (case snC => k_is)
    (case tkC => k_is)
    (case mrC => k_is)
    (case saC => k_is)
    (case nW => k_is)
    (case nN => k_is)
    (case exB => k_is)
    (case hdB => k_is)
    (case tyB => k_is)
    (case sCB => first | rfl | k_is)
    (case kCC => kit_is)
    (case kVE => kit_is)
    (case g_NoFit => k_is)
    (case k_NoFit => kit_is)
    (case g_NoPrinter => k_is)
    (case k_NoPrinter => kit_is)
    (case g_NoReader => k_is)
    (case k_NoReader => kit_is)
    (case g_NoRow => k_is)
    (case k_NoRow => kit_is)
    (case g_NoText => k_is)
    (case k_NoText => kit_is)
    (case g_NoTree => k_is)
    (case k_NoTree => kit_is)
    (case g_NoTurner => k_is)
    (case k_NoTurner => kit_is)
    (case g_NoWord => k_is)
    (case k_NoWord => kit_is)
    (case g_TooLong => k_is)
    (case k_TooLong => kit_is)
    (case g_TooWide => k_is)
    (case k_TooWide => kit_is)
