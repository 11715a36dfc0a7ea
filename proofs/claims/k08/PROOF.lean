import PyProof.Rows.All
import Wide.All
import OpenK.AllK
import Wide.FinOn
import KE.KExcSuper
import HandS.Exc
import HandS.ExcInit
import HandS.ExcSuper
import HandS.ExcField
import KE.KIsAll
import KE.KTryMore
import HandS.Base
import HandS.Call
import HandS.ExcIs
import HandS.IsInst
import KE.GoesEnum
import HandS.Iter
import HandS.Wide
import HandS.Conv
import HandS.DictComp
import PyProof.EqAt
import PyProof.EqKinds
import PyProof.TupleCall
import KE.RegKIsAll
import HandS.ForMost
import HandS.ForExc
import HandS.Zip
import HandS.Defaults
import HandS.CallSlots
import HandS.StrMore
import HandS.Replace
import HandS.Small
import HandS.Style
import HandS.Walk
import HandS.Codes
import HandS.TupLe
import HandS.TupAny
import HandS.TupMul
import HandS.More
import PySem.Challenge.RW_boughkept_k08_trees_looked_at
set_option Elab.async false
set_option linter.all false
set_option maxRecDepth 100000
set_option maxHeartbeats 2000000
namespace PySem
namespace BX
open PySem.W PySem.Calls PyProof.Rows PySem.HandSPX
/-- what the written part says of an own exception class at C whose __init__ (at fI) begins with super().__init__(text) -/
structure ETxt (P : Program) (K : Frag) (mg : Str → Option Value) (C fI cc cda : Addr) (B newId initId : String) (bmB : List Value) (nmC qual : Str) (params : Arguments) (first : Stmt) (rest : List Stmt) (scope : Scope) : Prop where
  gC : mg nmC = some (.ref C)
  cls : ∃ nm q N bs bm sn sub ab col dd k0 k1 k2 k3 k5, K.lookup C = some (excClassObj nm q C N bs bm true sn sub ab col dd k0 k1 k2 k3 k5 newId) ∧ (∀ X : String, bm.contains (.type X) = bmB.contains (.type X))
  base : ExcBaseFacts B newId initId bmB
  kxs : KxsFacts B initId
  iC : findIn K (.ref C) "__init__" = some (some (.ref fI))
  tI : typeIn K (.ref fI) = some (.type "function")
  fn : ∃ (oc : Value) (od : Option Addr) (kV doc pm : Value) (an : Option Addr) (ct : Value) (osl : Array (Option Value)), K.lookup fI = some ⟨oc, od, .func (ksFn "__init__" qual params (first :: rest) scope .none kV doc pm an (.ref cda) ct cc), osl⟩
  code : codeIn K (.ref cda) qual = true
  cdo : ∃ (ccl : Value) (cdd : Option Addr) (vs : Array Value) (ccs : Array (Option Value)) (file : Str) (tf : Tok), K.lookup cda = some ⟨ccl, cdd, .fields vs, ccs⟩ ∧ vs[2]? = some (.str file tf) ∧ ((P.main.file : Str) == file) = true
  cell : ∃ (cl : Value) (cld : Option Addr) (csl : Array (Option Value)), K.lookup cc = some ⟨cl, cld, .cell (some (.ref C)), csl⟩
  sup : ks_superIn K C C "__init__" = some (some (.builtin initId))
  opq : nsIn K cStatics "thirdparty.any" = some none
  noS : mg "super" = none
  topS : (P.main.scope.names.lookup ("super" : Str)).isSome = false
  subB : subIn K (.ref C) (.type B) = some true
  subC : mroIn K C (.ref C) = some true
  kC : keepIn K (.ref C) = true
  exC : subIn K (.ref C) (.type "BaseException") = some true
  tyC : typeIn K (.ref C) = some (.type "type")
  kS : scope.names.lookup ("super" : Str) = some .globalImplicit
  kCl : scope.names.lookup ("__class__" : Str) = some .free
  kSf : scope.names.lookup ("self" : Str) = some .local
  kF : scope.kind = .function
  st : ∃ (p0 p1 p2 p3 p4 p5 : Pos) (msg : Str) (j : Nat), first = .Expr (.Call (.Attribute (.Call (.Name "super" p0) [] [] p1) "__init__" p2) [.Constant (.str msg) j p3] [] p4) p5 ∧ ∀ L : Addr,
    interactive (ksEnv qual scope L fI (.ref cda) cc) = false ∧ swapsWith (.Call (.Attribute (.Call (.Name "super" p0) [] [] p1) "__init__" p2) [.Constant (.str msg) j p3] [] p4) none p5.line (ksEnv qual scope L fI (.ref cda) cc) = pure false ∧
    ∃ pl : Sem Bool, eval (.Call (.Attribute (.Call (.Name "super" p0) [] [] p1) "__init__" p2) [.Constant (.str msg) j p3] [] p4) (ksEnv qual scope L fI (.ref cda) cc) = (do
      let ov ← attributeBase (.Call (.Name "super" p0) [] [] p1) "__init__" (ksEnv qual scope L fI (.ref cda) cc) (eval (.Call (.Name "super" p0) [] [] p1) (ksEnv qual scope L fI (.ref cda) cc))
      standAt p2.atName
      let (f, fst) ← holding [ov] (getMethod ov "__init__" pl)
      callWith p4 f fst (backTo p4 (starEach [.Constant (.str msg) j p3] (ksEnv qual scope L fI (.ref cda) cc))) [])
  hd : ∃ ar : Arg, (params.posonlyargs ++ params.args).head? = some ar ∧ ar.arg = ("self" : Str)
section
variable {prog : Program} {w : World} {A : Around} {E : Value → Shared → Prop} {K : Frag} {mg mb : Str → Option Value} {C fI cc cda : Addr} {B newId initId : String} {bmB : List Value} {nmC qual : Str} {params : Arguments} {first : Stmt} {rest : List Stmt} {scope : Scope}
variable {h : Heap} {g : Array GenState} {d : Drawn} {t : Nat} {os : OsState}
/-- super().__init__(text): the args are laid anew -/
theorem call_mw (T : ETxt prog K mg C fI cc cda B newId initId bmB nmC qual params first rest scope) {u e t0 : Addr} {us : List Value} {Q : Value → Shared → Prop} (X : K.In h)
    (he : h.get? e = some (excO C t0)) (hu : h.get? u = some (kxs_mw initId e)) (hrest : us.length ≤ sizeLine)
    (hq : ∀ h' t1, (∀ b o, b ≠ e → h.get? b = some o → h'.get? b = some o) → h'.get? e = some (excO C t1) → Q .none ⟨h', g, d, t, os⟩) :
    wpAny (model prog w) A (call (.ref u) us) Q E ⟨h, g, d, t, os⟩ := by
  obtain ⟨nm, q, N, bs, bm, sn, sub, ab, col, dd, k0, k1, k2, k3, k5, hC, hbm⟩ := T.cls
  refine wpAny_call (codeAny_of_tree ?_)
  show wpAny _ A.in1 (callAny (.ref u) ⟨us, []⟩) _ _ _
  simp only [callAny]
  refine wpAny_bind (wpAny_load hu ?_)
  simp only [kxs_mw, show (Value.type "method-wrapper" == Value.type "method" || Value.type "method-wrapper" == Value.type "builtin_function_or_method" || Value.type "method-wrapper" == Value.type "method-wrapper") = true by decide, if_true]
  refine KFB.if_so (by decide) ?_
  refine wpAny_bind (check_bound_init T.base.toExcCallFacts (X _ _ hC) he rfl ?_)
  refine wpAny_bind (wpAny_pure (wpAny_pure ?_))
  refine ⟨plainId_quiet T.base.init.plain _, codeAny_builtin T.base.initEntry ?_⟩
  exact exc_init_tree (cls := .ref C) (t0 := t0) (dv := none) (c2 := .none) (c3 := .none) (b4 := .bool false) he hrest fun h' k e' _ => hq h' h.objs.size k e'

theorem super_stmt (T : ETxt prog K mg C fI cc cda B newId initId bmB nmC qual params first rest scope) {L x t0 : Addr} {m : Str → Option Value} {Q : Flow → Shared → Prop} (X : K.In h)
    (hg : h.Ns mainGlobals mg) (hb : h.Ns builtinsNs mb) (hS : mb "super" = some (.type "super")) (hL : h.Ns L m) (hself : m "self" = some (.ref x)) (hx : h.get? x = some (excO C t0)) (hxC : x ≠ C)
    (hq : ∀ h' tk t1, (∀ b o, b ≠ x → h.get? b = some o → h'.get? b = some o) → h'.get? x = some (excO C t1) → Q .next ⟨h', g, d, tk, os⟩) :
    _root_.PySem.wpAt (model prog w) A (.func (first :: rest) (ksEnv qual scope L fI (.ref cda) cc))
      (exec first (ksEnv qual scope L fI (.ref cda) cc)) Q E ⟨h, g, d, t, os⟩ := by
  obtain ⟨nm, q, N, bs, bm, sn, sub, ab, col, dd, k0, k1, k2, k3, k5, hC, hbm⟩ := T.cls
  obtain ⟨oc, od, kV, doc, pm, an, ct, osl, hf⟩ := T.fn
  obtain ⟨ccl, cdd, vs, ccs, file, tf, hcda, hvs, hfile⟩ := T.cdo
  obtain ⟨cl, cld, csl, hcc⟩ := T.cell
  obtain ⟨ar, har, harg⟩ := T.hd
  have hcd : clsIn K C = some { name := nm, bases := bs, mro := .ref C :: bm, ns := N, qualname := q, hasDict := true, slotNames := sn, subclasses := sub, abstract := ab, collection := col, hasDel := false } := by unfold clsIn; rw [hC] <;> rfl
  have hD := X _ _ hC
  obtain ⟨p0, p1, p2, p3, p4, p5, msg, j, rfl, hst⟩ := T.st
  obtain ⟨hi, hsw, pl, hev⟩ := hst L
  refine ks_wpAt_Expr_any (hi := hi) (hs := hsw) ?_
  refine ks_wpAt_MethodCall (pl := pl) (he := hev) ?_
  refine ks_wpAt_super_base (env := ksEnv qual scope L fI (.ref cda) cc) T.kS T.kCl (by decide) rfl (X _ _ hf) rfl har rfl (X _ _ hcda) rfl hvs hfile T.topS ?_
  refine ks_loadName_global T.kF T.kS (loadGlobal_builtin (env := ksEnv qual scope L fI (.ref cda) cc) hg T.noS hb hS ⟨rfl, ?_⟩)
  refine wpAny_loadName_free T.kF T.kCl rfl ⟨_, X _ _ hcc, rfl⟩ ?_
  rw [harg]
  refine wpAny_loadName_local T.kF T.kSf hL hself ?_
  refine ks_wpAny_isType_cls hD rfl ⟨rfl, ?_⟩
  refine ks_wpAny_call_super hD rfl hx rfl (fun c e => by cases e) (looks_mroIn X T.subC) (fun h1 e1 k1' => ?_)
  have X1 : K.In h1 := X.keeps k1'
  have hx1 := k1' _ _ hx
  have hsup : alongIn K "__init__" (((Value.ref C :: bm).dropWhile (· != .ref C)).drop 1) = some (some (.builtin initId)) := by
    have z := T.sup
    unfold ks_superIn at z
    rw [hcd] at z
    exact z
  have hI1 : InstAt h1 x (excO C t0) C none := ⟨hx1, rfl, rfl, trivial⟩
  have hmro : Looks (model prog w) h1 (mroOf (.ref C)) (Value.ref C :: bm) := (looks_clsIn X1 hcd).andThen .now
  refine kxs_getMethod T.kxs e1 (looks_opaque X1 T.opq) hmro rfl X1 hsup (hI1.type.andThen (looks_subIn X1 T.subB)) hxC (by decide) ?_
  have hx2 : (h1.push (kxs_mw initId x)).get? x = some (excO C t0) := Heap.get?_push_of_some _ hx1
  have hu2 : (h1.push (kxs_mw initId x)).get? h1.objs.size = some (kxs_mw initId x) := Heap.get?_push_size _ rfl
  have X2 : K.In (h1.push (kxs_mw initId x)) := X1.keeps fun b o e => Heap.get?_push_of_some _ e
  refine kxs_callWith (i := initId) (x := x) (by rfl) ?_
  refine evalArgs_plain ?_
  refine Calls.spliced_cons ?_
  show wpAny _ _ (eval (.Constant (.str msg) j p3) _) _ _ _
  refine Calls.Constant_str ?_
  refine Calls.spliced_nil ?_
  refine ⟨hu2, ?_⟩
  refine call_mw T X2 hx2 hu2 (by rw [sizeLine_eq]; exact (by decide : 1 ≤ 16777216)) fun h' t1 k e => ?_
  exact hq h' _ t1 (fun b o hb z => k b o hb (Heap.get?_push_of_some _ (k1' b o z))) e
/-- __init__ without fields of its own -/
theorem init0 (T : ETxt prog K mg C fI cc cda B newId initId bmB nmC qual params first [] scope) {R : Result → Shared → Prop} {s : Shared} {x t0 : Addr} (X : K.In s.heap) (hlim : s.heap.NoLimit)
    (hg : s.heap.Ns mainGlobals mg) (hb : s.heap.Ns builtinsNs mb) (hS : mb "super" = some (.type "super")) (hx : s.heap.get? x = some (excO C t0)) (hxC : x ≠ C) (hroom : A.depth < recursionLimit)
    (hbind : ∀ (kV doc pm : Value) (an : Option Addr) (ct : Value), BindsTo s (ksFn "__init__" qual params [first] scope .none kV doc pm an (.ref cda) ct cc) ⟨[.ref x], []⟩ [("self", .ref x)])
    (hcell : ∀ z ∈ scope.names, z.2 ≠ .cell) (hco : scope.isCoroutine = false) (hgen : scope.isGenerator = false)
    (hq : ∀ h' tk t1, (∀ b o, b ≠ x → s.heap.get? b = some o → h'.get? b = some o) → h'.get? x = some (excO C t1) → R (.ok (.ret .none)) { s with heap := h', toks := tk }) :
    codeAny (model prog w) A (.call (.ref fI) ⟨[.ref x], []⟩) R s := by
  obtain ⟨oc, od, kV, doc, pm, an, ct, osl, hf⟩ := T.fn
  refine ks_codeAny_call_defAt (fd := ksFn "__init__" qual params [first] scope .none kV doc pm an (.ref cda) ct cc) (body := [first]) (binds := [("self", .ref x)]) hroom (X _ _ hf) rfl hlim (codeRec_of X T.code) rfl (hbind kV doc pm an ct) hcell ?_ (fun h₁ hns hk => ?_) hco hgen T.kF
  · intro y hy
    rw [List.mem_singleton.mp hy]
    exact T.kSf
  obtain ⟨hp, g, d, t, os⟩ := s
  refine ks_wpAt_execs_cons ?_
  refine super_stmt (mb := mb) (m := fun x_1 => List.lookup x_1 [(("self" : Str), Value.ref x)].reverse) T (X.keeps hk) ?_ ?_ hS hns (by simp [List.lookup]) (hk _ _ hx) hxC (fun h' tk t1 k e => ?_)
  · exact hg.keeps hk
  · exact hb.keeps hk
  · refine wpAt_of_wpAny (wpAny_execs_nil ?_)
    exact hq h' tk t1 (fun b o hb z => k b o hb (hk b o z)) e
/-- C() -/
theorem made0 (T : ETxt prog K mg C fI cc cda B newId initId bmB nmC qual params first [] scope) {R : Result → Shared → Prop} {s : Shared} (X : K.In s.heap) (hlim : s.heap.NoLimit)
    (hg : s.heap.Ns mainGlobals mg) (hb : s.heap.Ns builtinsNs mb) (hS : mb "super" = some (.type "super")) (hroom : A.depth + 1 < recursionLimit)
    (hbind : ∀ (x : Addr) (s : Shared) (kV doc pm : Value) (an : Option Addr) (ct : Value), BindsTo s (ksFn "__init__" qual params [first] scope .none kV doc pm an (.ref cda) ct cc) ⟨[.ref x], []⟩ [("self", .ref x)])
    (hcell : ∀ z ∈ scope.names, z.2 ≠ .cell) (hco : scope.isCoroutine = false) (hgen : scope.isGenerator = false)
    (hq : ∀ h' tk t1, (∀ b o, s.heap.get? b = some o → h'.get? b = some o) → h'.get? (s.heap.objs.size + 1) = some (excO C t1) → R (.ok (.ret (.ref (s.heap.objs.size + 1)))) { s with heap := h', toks := tk }) :
    codeAny (model prog w) A (.call (.ref C) ⟨[], []⟩) R s := by
  obtain ⟨nm, q, N, bs, bm, sn, sub, ab, col, dd, k0, k1, k2, k3, k5, hC, hbm⟩ := T.cls
  obtain ⟨hp, g, dr, tk, os⟩ := s
  have k : ∀ b o, hp.get? b = some o → ((hp.push (kdv_tup [])).push (excO C hp.objs.size)).get? b = some o := fun b o e => Heap.get?_push_of_some _ (Heap.get?_push_of_some _ e)
  have hget : ((hp.push (kdv_tup [])).push (excO C hp.objs.size)).get? (hp.objs.size + 1) = some (excO C hp.objs.size) := by heap_get
  have hne : hp.objs.size + 1 ≠ C := fun z => by
    have := Heap.lt_size (X _ _ hC)
    rw [← z] at this
    exact absurd this (by show ¬ (hp.objs.size + 1 < hp.objs.size); omega)
  refine call_own T.base hbm (X _ _ hC) (looks_findIn X T.iC) (fun self => bind_fn X self T.tI) (by rw [sizeLine_eq]; exact (by decide : 0 ≤ 16777216)) ?_
  refine init0 (mb := mb) (s := ⟨(hp.push (kdv_tup [])).push (excO C hp.objs.size), g, dr, tk, os⟩) T (X.keeps k) (hlim.keeps k) (hg.keeps k) (hb.keeps k) hS hget hne ?_ (hbind _ _) hcell hco hgen fun h' tk' t1 k' e => ?_
  · show A.depth + 1 < recursionLimit
    exact hroom
  · refine ⟨rfl, hq h' tk' t1 (fun b o z => k' b o (Nat.ne_of_lt (Nat.lt_succ_of_lt (Heap.lt_size z))) (k b o z)) e⟩
end
end BX
end PySem
namespace L2
open PySem PySem.Spec PyProof.Rows
theorem pmk_e0 {X : Cx} {C fI cc cda : Addr} {B newId initId : String} {bmB : List Value} {nmC qual : Str} {params : Arguments} {first : Stmt} {scope : Scope} {p pos : Pos} {k : Nat}
    (T : PySem.BX.ETxt X.prog X.K X.mg C fI cc cda B newId initId bmB nmC qual params first [] scope) (hr : Room k X.A) (hg : Gl X nmC)
    (hbind : ∀ (x : Addr) (s : Shared) (kV doc pm : Value) (an : Option Addr) (ct : Value), BindsTo s (PySem.W.ksFn "__init__" qual params [first] scope .none kV doc pm an (.ref cda) ct cc) ⟨[.ref x], []⟩ [("self", .ref x)])
    (hcell : ∀ z ∈ scope.names, z.2 ≠ .cell) (hco : scope.isCoroutine = false) (hgen : scope.isGenerator = false) (hdb : (nmC == ("__debug__" : Str)) = false := by decide) :
    PMk X (.Call (.Name nmC p) [] [] pos) (fun _ H Q => Q (.ref C) none H) := by
  intro pins s σ H Q I h
  refine wpAny_Call_Name_kw (ld_glob I hg T.gC ?_ hdb)
  refine PySem.W.callWith_K0 I.kIn T.kC ?_
  show wpAny _ _ (call (.ref C) []) _ _ _
  have hlim := I.nolimit
  obtain ⟨mb, hb1, hb2⟩ := I.mod.blt
  have hbS : mb "super" = some (.type "super") := (hb2 _ (by decide)).trans (by first | rfl | decide +kernel)
  obtain ⟨hp, gg, dr, tk, os⟩ := s
  refine wpAny_call (PySem.BX.made0 (mb := mb) T I.kIn hlim (I.mod.glob.keeps I.bk) (hb1.keeps I.bk) hbS (by have := hr.dp; omega) hbind hcell hco hgen fun h' tk' t1 kp e => ?_)
  show MkP X pins σ Q (.ref (hp.objs.size + 1)) ⟨h', gg, dr, tk', os⟩
  obtain ⟨G', g1, g2⟩ := restrict h' fun b => decide (b ≠ hp.objs.size + 1)
  have gk : ∀ b, b ≠ hp.objs.size + 1 → G'.get? b = h'.get? b := fun b hb => g1 b (decide_eq_true hb)
  have ge : G'.get? (hp.objs.size + 1) = none := g2 _ (by simp)
  have old : ∀ b o, hp.get? b = some o → G'.get? b = some o := fun b o q => (gk b (Nat.ne_of_lt (Nat.lt_succ_of_lt (Heap.lt_size q)))).trans (kp b o q)
  have J : Inv X pins σ H ⟨G', gg, dr, tk', os⟩ := I.kept (t' := tk') old
  refine ⟨hp.objs.size + 1, _, _, ⟨G', gg, dr, tk', os⟩, H, .ref C, none, rfl, J, fun b o q => ?_, ge, e, ⟨rfl, rfl⟩, rfl, rfl, I.hok.fresh (Nat.le_succ _), rfl, I.bare, raises_own T.exC T.tyC, h⟩
  by_cases hb : b = hp.objs.size + 1
  · have q' : G'.get? b = some o := q
    rw [hb, ge] at q'; cases q'
  · exact (gk b hb).symm.trans q
end L2
set_option Elab.async false
set_option linter.all false
set_option maxRecDepth 100000
set_option maxHeartbeats 2000000
namespace PySem
namespace BX
open PySem.W PySem.Calls PyProof.Rows PySem.HandSPX
section
variable {prog : Program} {w : World} {A : Around} {E : Value → Shared → Prop} {K : Frag} {C : Addr} {cd : ClassData}
variable {h : Heap} {g : Array GenState} {d : Drawn} {t : Nat} {os : OsState}
/-- self.f = p, the first field -/
theorem st_new {env : Env} {m : Str → Option Value} {x t1 : Addr} {f p : Str} {v : Value} {p1 p2 p3 pos : Pos} {Q : Flow → Shared → Prop} (X : K.In h) (hL : h.Ns env.locals m) (hself : m "self" = some (.ref x)) (hp : m p = some v)
    (hx : h.get? x = some (excO C t1)) (hcl : clsIn K C = some cd) (hm : refsVE cd.mro = true) (hh : cd.hasDict = true) (sa : findIn K (.ref C) "__setattr__" = some (some (.builtin "object.__setattr__"))) (hno : findIn K (.ref C) f = some none)
    (hk : env.scope.kind = .function) (hl : env.kindOf p = some .local) (hls : env.kindOf "self" = some .local) (hd : (p == ("__debug__" : Str)) = false) (hs : swapsWith (.Name p p3) (some (.Attribute (.Name "self" p1) f p2)) pos.line env = pure false)
    (hq : ∀ h' tk' dx, (∀ b o, b ≠ x → h.get? b = some o → h'.get? b = some o) → h.objs.size ≤ dx → dx ≠ x → h'.get? x = some { cls := .ref C, dict := some dx, data := .fields #[.ref t1, .none, .none, .none, .bool false, .none] } →
      h'.Ns1 dx (fun y => if y = f then some v else none) → Q .next ⟨h', g, d, tk', os⟩) :
    wpAny (model prog w) A (exec (.Assign [.Attribute (.Name "self" p1) f p2] (.Name p p3) pos) env) Q E ⟨h, g, d, t, os⟩ := by
  refine plainObj_wpAny_Assign_Attribute (ESX.ldL (s := ⟨h, g, d, t, os⟩) hL hp (ESX.ldL (s := ⟨h, g, d, t, os⟩) hL hself ?_ hk hls) hk hl hd) hs
  refine set_plain (s := ⟨h, g, d, t, os⟩) X (ox := excO C t1) (od := none) ⟨hx, rfl, rfl, trivial⟩ sa ?_
  exact exc_osa X hx hcl hm hh hno (fun h' tk' dx k dn dne hx' hn => hq h' tk' dx k dn dne hx' hn)
/-- self.f = p, a further field -/
theorem st_old {env : Env} {m m0 : Str → Option Value} {nl : List Str} {x t1 dx : Addr} {f p : Str} {v : Value} {p1 p2 p3 pos : Pos} {Q : Flow → Shared → Prop} (X : K.In h) (hL : h.Ns env.locals m) (hself : m "self" = some (.ref x)) (hp : m p = some v)
    (hx : h.get? x = some { cls := .ref C, dict := some dx, data := .fields #[.ref t1, .none, .none, .none, .bool false, .none] }) (hns : h.Ns1 dx m0) (hw : Within m0 nl) (hz : nl.length ≤ 1000) (hcl : clsIn K C = some cd) (hm : refsVE cd.mro = true) (hh : cd.hasDict = true)
    (sa : findIn K (.ref C) "__setattr__" = some (some (.builtin "object.__setattr__"))) (hno : findIn K (.ref C) f = some none)
    (hk : env.scope.kind = .function) (hl : env.kindOf p = some .local) (hls : env.kindOf "self" = some .local) (hd : (p == ("__debug__" : Str)) = false) (hs : swapsWith (.Name p p3) (some (.Attribute (.Name "self" p1) f p2)) pos.line env = pure false)
    (hq : ∀ h' tk', (∀ b o, b ≠ dx → h.get? b = some o → h'.get? b = some o) → h'.Ns1 dx (fun y => if y = f then some v else m0 y) → Q .next ⟨h', g, d, tk', os⟩) :
    wpAny (model prog w) A (exec (.Assign [.Attribute (.Name "self" p1) f p2] (.Name p p3) pos) env) Q E ⟨h, g, d, t, os⟩ := by
  refine plainObj_wpAny_Assign_Attribute (ESX.ldL (s := ⟨h, g, d, t, os⟩) hL hp (ESX.ldL (s := ⟨h, g, d, t, os⟩) hL hself ?_ hk hls) hk hl hd) hs
  obtain ⟨oD, _, _, hoD, _, _⟩ := hns.count hw
  refine set_plain (s := ⟨h, g, d, t, os⟩) X (ox := { cls := .ref C, dict := some dx, data := .fields #[.ref t1, .none, .none, .none, .bool false, .none] }) (od := some oD) ⟨hx, rfl, rfl, hoD⟩ sa ?_
  exact PySem.OEX.osa_old X hx hns hw hz hcl hm hh hno (fun h' tk' k hn => hq h' tk' k hn)
end
/-- what is asked of a class whose fields are set -/
structure FTxt (K : Frag) (C : Addr) (names : List Str) : Prop where
  cl : ∃ cd : ClassData, clsIn K C = some cd ∧ refsVE cd.mro = true ∧ cd.hasDict = true
  sa : findIn K (.ref C) "__setattr__" = some (some (.builtin "object.__setattr__"))
  no : ∀ f ∈ names, findIn K (.ref C) f = some none
/-- self.f = p -/
def IsF (qual : Str) (scope : Scope) (fI cda cc : Addr) (st : Stmt) (f p : Str) : Prop := ∃ a1 a2 a3 pos : Pos, st = .Assign [.Attribute (.Name "self" a1) f a2] (.Name p a3) pos ∧ scope.names.lookup p = some .local ∧ (p == ("__debug__" : Str)) = false ∧
  ∀ L : Addr, swapsWith (.Name p a3) (some (.Attribute (.Name "self" a1) f a2)) pos.line (ksEnv qual scope L fI (.ref cda) cc) = pure false
section
variable {prog : Program} {w : World} {A : Around} {E : Value → Shared → Prop} {K : Frag} {mg mb : Str → Option Value} {C fI cc cda : Addr} {B newId initId : String} {bmB : List Value} {nmC qual : Str} {params : Arguments} {first s1 s2 : Stmt} {scope : Scope}
theorem init1 {f p : Str} {u : Value} (T : ETxt prog K mg C fI cc cda B newId initId bmB nmC qual params first [s1] scope) (F : FTxt K C [f]) (i1 : IsF qual scope fI cda cc s1 f p) {R : Result → Shared → Prop} {s : Shared} {x t0 : Addr} (X : K.In s.heap) (hlim : s.heap.NoLimit)
    (hg : s.heap.Ns mainGlobals mg) (hb : s.heap.Ns builtinsNs mb) (hS : mb "super" = some (.type "super")) (hx : s.heap.get? x = some (excO C t0)) (hxK : ∀ b o, K.lookup b = some o → b ≠ x) (hroom : A.depth < recursionLimit)
    (hbind : ∀ (kV doc pm : Value) (an : Option Addr) (ct : Value), BindsTo s (ksFn "__init__" qual params [first, s1] scope .none kV doc pm an (.ref cda) ct cc) ⟨[.ref x, u], []⟩ [("self", .ref x), (p, u)])
    (hps : p ≠ "self") (hcell : ∀ z ∈ scope.names, z.2 ≠ .cell) (hco : scope.isCoroutine = false) (hgen : scope.isGenerator = false)
    (hq : ∀ h' tk t1 dx, (∀ b o, b ≠ x → s.heap.get? b = some o → h'.get? b = some o) → s.heap.objs.size ≤ dx → dx ≠ x → h'.get? x = some { cls := .ref C, dict := some dx, data := .fields #[.ref t1, .none, .none, .none, .bool false, .none] } →
      h'.Ns1 dx (fun y => if y = f then some u else none) → R (.ok (.ret .none)) { s with heap := h', toks := tk }) :
    codeAny (model prog w) A (.call (.ref fI) ⟨[.ref x, u], []⟩) R s := by
  obtain ⟨oc, od, kV, doc, pm, an, ct, osl, hf⟩ := T.fn
  obtain ⟨cd, hcl, hm, hh⟩ := F.cl
  obtain ⟨a1, a2, a3, pos, rfl, hlp, hdp, hsw⟩ := i1
  have hxC : x ≠ C := fun z => by
    obtain ⟨nm, q, N, bs, bm, sn, sub, ab, col, dd, k0, k1, k2, k3, k5, hC, hbm⟩ := T.cls
    exact hxK _ _ hC z.symm
  refine ks_codeAny_call_defAt (fd := ksFn "__init__" qual params [first, .Assign [.Attribute (.Name "self" a1) f a2] (.Name p a3) pos] scope .none kV doc pm an (.ref cda) ct cc) (body := [first, .Assign [.Attribute (.Name "self" a1) f a2] (.Name p a3) pos]) (binds := [("self", .ref x), (p, u)]) hroom (X _ _ hf) rfl hlim (codeRec_of X T.code) rfl (hbind kV doc pm an ct) hcell ?_ (fun h₁ hns hk => ?_) hco hgen T.kF
  · intro y hy
    rcases List.mem_cons.mp hy with rfl | hy
    · exact T.kSf
    · rw [List.mem_singleton.mp hy]
      exact hlp
  have hms : List.lookup ("self" : Str) [(("self" : Str), Value.ref x), (p, u)].reverse = some (.ref x) := by
    show List.lookup ("self" : Str) [(p, u), (("self" : Str), Value.ref x)] = _
    rw [List.lookup_cons, show (("self" : Str) == p) = false from beq_false_of_ne (Ne.symm hps)]
    rfl
  have hmp : List.lookup p [(("self" : Str), Value.ref x), (p, u)].reverse = some u := by
    show List.lookup p [(p, u), (("self" : Str), Value.ref x)] = _
    rw [List.lookup_cons, show (p == p) = true from beq_self_eq_true p]
  obtain ⟨hp, g, d, t, os⟩ := s
  have hLx : hp.objs.size ≠ x := (Nat.ne_of_lt (Heap.lt_size hx)).symm
  refine ks_wpAt_execs_cons ?_
  refine super_stmt (mb := mb) (m := fun y => List.lookup y [(("self" : Str), Value.ref x), (p, u)].reverse) T (X.keeps hk) (hg.keeps hk) (hb.keeps hk) hS hns hms (hk _ _ hx) hxC (fun h' tk t1 k e => ?_)
  have X' : K.In h' := fun b o l => k b o (hxK b o l) (hk _ _ (X b o l))
  have hns' : h'.Ns hp.objs.size (fun y => List.lookup y [(("self" : Str), Value.ref x), (p, u)].reverse) := hns.at fun o z => k _ _ hLx z
  refine wpAt_of_wpAny (wpAny_execs_cons ?_)
  refine st_new X' hns' hms hmp e hcl hm hh F.sa (F.no f List.mem_cons_self) T.kF hlp T.kSf hdp (hsw _) fun h2 tk2 dx k2 dn dne hx2 hn2 => ?_
  refine wpAny_execs_nil ?_
  refine hq h2 tk2 t1 dx (fun b o hb z => k2 b o hb (k b o hb (hk _ _ z))) ?_ dne hx2 hn2
  have : hp.objs.size < h'.objs.size := by
    obtain ⟨o, _, _, z, _⟩ := hns'
    exact Heap.lt_size z
  show hp.objs.size ≤ dx
  omega
theorem init2 {f1 f2 p1 p2 : Str} {u1 u2 : Value} (T : ETxt prog K mg C fI cc cda B newId initId bmB nmC qual params first [s1, s2] scope) (F : FTxt K C [f1, f2]) (i1 : IsF qual scope fI cda cc s1 f1 p1) (i2 : IsF qual scope fI cda cc s2 f2 p2) {R : Result → Shared → Prop} {s : Shared} {x t0 : Addr} (X : K.In s.heap) (hlim : s.heap.NoLimit)
    (hg : s.heap.Ns mainGlobals mg) (hb : s.heap.Ns builtinsNs mb) (hS : mb "super" = some (.type "super")) (hx : s.heap.get? x = some (excO C t0)) (hxK : ∀ b o, K.lookup b = some o → b ≠ x) (hroom : A.depth < recursionLimit)
    (hbind : ∀ (kV doc pm : Value) (an : Option Addr) (ct : Value), BindsTo s (ksFn "__init__" qual params [first, s1, s2] scope .none kV doc pm an (.ref cda) ct cc) ⟨[.ref x, u1, u2], []⟩ [("self", .ref x), (p1, u1), (p2, u2)])
    (hps : p1 ≠ "self" ∧ p2 ≠ "self" ∧ p1 ≠ p2) (hcell : ∀ z ∈ scope.names, z.2 ≠ .cell) (hco : scope.isCoroutine = false) (hgen : scope.isGenerator = false)
    (hq : ∀ h' tk t1 dx, (∀ b o, b ≠ x → s.heap.get? b = some o → h'.get? b = some o) → s.heap.objs.size ≤ dx → dx ≠ x → h'.get? x = some { cls := .ref C, dict := some dx, data := .fields #[.ref t1, .none, .none, .none, .bool false, .none] } →
      h'.Ns1 dx (fun y => if y = f2 then some u2 else if y = f1 then some u1 else none) → R (.ok (.ret .none)) { s with heap := h', toks := tk }) :
    codeAny (model prog w) A (.call (.ref fI) ⟨[.ref x, u1, u2], []⟩) R s := by
  obtain ⟨oc, od, kV, doc, pm, an, ct, osl, hf⟩ := T.fn
  obtain ⟨cd, hcl, hm, hh⟩ := F.cl
  obtain ⟨a1, a2, a3, pos, rfl, hlp, hdp, hsw⟩ := i1
  obtain ⟨b1, b2, b3, pos', rfl, hlp', hdp', hsw'⟩ := i2
  have hxC : x ≠ C := fun z => by
    obtain ⟨nm, q, N, bs, bm, sn, sub, ab, col, dd, k0, k1, k2, k3, k5, hC, hbm⟩ := T.cls
    exact hxK _ _ hC z.symm
  refine ks_codeAny_call_defAt (fd := ksFn "__init__" qual params [first, .Assign [.Attribute (.Name "self" a1) f1 a2] (.Name p1 a3) pos, .Assign [.Attribute (.Name "self" b1) f2 b2] (.Name p2 b3) pos'] scope .none kV doc pm an (.ref cda) ct cc) (body := [first, .Assign [.Attribute (.Name "self" a1) f1 a2] (.Name p1 a3) pos, .Assign [.Attribute (.Name "self" b1) f2 b2] (.Name p2 b3) pos']) (binds := [("self", .ref x), (p1, u1), (p2, u2)]) hroom (X _ _ hf) rfl hlim (codeRec_of X T.code) rfl (hbind kV doc pm an ct) hcell ?_ (fun h₁ hns hk => ?_) hco hgen T.kF
  · intro y hy
    rcases List.mem_cons.mp hy with rfl | hy
    · exact T.kSf
    · rcases List.mem_cons.mp hy with rfl | hy
      · exact hlp
      · rw [List.mem_singleton.mp hy]
        exact hlp'
  have hms : List.lookup ("self" : Str) [(("self" : Str), Value.ref x), (p1, u1), (p2, u2)].reverse = some (.ref x) := by
    show List.lookup ("self" : Str) [(p2, u2), (p1, u1), (("self" : Str), Value.ref x)] = _
    rw [List.lookup_cons, show (("self" : Str) == p2) = false from beq_false_of_ne (Ne.symm hps.2.1)]
    show List.lookup ("self" : Str) [(p1, u1), (("self" : Str), Value.ref x)] = _
    rw [List.lookup_cons, show (("self" : Str) == p1) = false from beq_false_of_ne (Ne.symm hps.1)]
    rfl
  have hmp : List.lookup p1 [(("self" : Str), Value.ref x), (p1, u1), (p2, u2)].reverse = some u1 := by
    show List.lookup p1 [(p2, u2), (p1, u1), (("self" : Str), Value.ref x)] = _
    rw [List.lookup_cons, show (p1 == p2) = false from beq_false_of_ne hps.2.2]
    show List.lookup p1 [(p1, u1), (("self" : Str), Value.ref x)] = _
    rw [List.lookup_cons, show (p1 == p1) = true from beq_self_eq_true p1]
  have hmp2 : List.lookup p2 [(("self" : Str), Value.ref x), (p1, u1), (p2, u2)].reverse = some u2 := by
    show List.lookup p2 [(p2, u2), (p1, u1), (("self" : Str), Value.ref x)] = _
    rw [List.lookup_cons, show (p2 == p2) = true from beq_self_eq_true p2]
  obtain ⟨hp, g, d, t, os⟩ := s
  have hLx : hp.objs.size ≠ x := (Nat.ne_of_lt (Heap.lt_size hx)).symm
  refine ks_wpAt_execs_cons ?_
  refine super_stmt (mb := mb) (m := fun y => List.lookup y [(("self" : Str), Value.ref x), (p1, u1), (p2, u2)].reverse) T (X.keeps hk) (hg.keeps hk) (hb.keeps hk) hS hns hms (hk _ _ hx) hxC (fun h' tk t1 k e => ?_)
  have X' : K.In h' := fun b o l => k b o (hxK b o l) (hk _ _ (X b o l))
  have hns' : h'.Ns hp.objs.size (fun y => List.lookup y [(("self" : Str), Value.ref x), (p1, u1), (p2, u2)].reverse) := hns.at fun o z => k _ _ hLx z
  have hlt : hp.objs.size < h'.objs.size := by
    obtain ⟨o, _, _, z, _⟩ := hns'
    exact Heap.lt_size z
  refine wpAt_of_wpAny (wpAny_execs_cons ?_)
  refine st_new X' hns' hms hmp e hcl hm hh F.sa (F.no f1 List.mem_cons_self) T.kF hlp T.kSf hdp (hsw _) fun h2 tk2 dx k2 dn dne hx2 hn2 => ?_
  have X2 : K.In h2 := fun b o l => k2 b o (hxK b o l) (X' b o l)
  have hns2 : h2.Ns hp.objs.size (fun y => List.lookup y [(("self" : Str), Value.ref x), (p1, u1), (p2, u2)].reverse) := hns'.at fun o z => k2 _ _ hLx z
  refine wpAny_execs_cons ?_
  refine st_old X2 hns2 hms hmp2 hx2 hn2 (Within.cons f1 u1 Within.nil) (by show 1 ≤ 1000; decide) hcl hm hh F.sa (F.no f2 (List.mem_cons_of_mem _ List.mem_cons_self)) T.kF hlp' T.kSf hdp' (hsw' _) fun h3 tk3 k3 hn3 => ?_
  refine wpAny_execs_nil ?_
  have ndx : ∀ {b : Addr} {o : Obj}, hp.get? b = some o → b ≠ dx := fun {b o} z y => by
    have := Heap.lt_size z
    rw [y] at this
    exact Nat.lt_irrefl _ (Nat.lt_of_lt_of_le this (Nat.le_trans (Nat.le_of_lt hlt) dn))
  refine hq h3 tk3 t1 dx (fun b o hb z => k3 b o (ndx z) (k2 b o hb (k b o hb (hk _ _ z)))) (by show hp.objs.size ≤ dx; omega) dne (k3 _ _ (Ne.symm dne) hx2) hn3
/-- C(u) -/
theorem made1 {f p : Str} {u : Value} (T : ETxt prog K mg C fI cc cda B newId initId bmB nmC qual params first [s1] scope) (F : FTxt K C [f]) (i1 : IsF qual scope fI cda cc s1 f p) {R : Result → Shared → Prop} {s : Shared} (X : K.In s.heap) (hlim : s.heap.NoLimit)
    (hg : s.heap.Ns mainGlobals mg) (hb : s.heap.Ns builtinsNs mb) (hS : mb "super" = some (.type "super")) (hroom : A.depth + 1 < recursionLimit)
    (hbind : ∀ (x : Addr) (s : Shared) (kV doc pm : Value) (an : Option Addr) (ct : Value), BindsTo s (ksFn "__init__" qual params [first, s1] scope .none kV doc pm an (.ref cda) ct cc) ⟨[.ref x, u], []⟩ [("self", .ref x), (p, u)])
    (hps : p ≠ "self") (hcell : ∀ z ∈ scope.names, z.2 ≠ .cell) (hco : scope.isCoroutine = false) (hgen : scope.isGenerator = false)
    (hq : ∀ h' tk t1 dx, (∀ b o, s.heap.get? b = some o → h'.get? b = some o) → s.heap.objs.size ≤ dx → dx ≠ s.heap.objs.size + 1 → h'.get? (s.heap.objs.size + 1) = some { cls := .ref C, dict := some dx, data := .fields #[.ref t1, .none, .none, .none, .bool false, .none] } →
      h'.Ns1 dx (fun y => if y = f then some u else none) → R (.ok (.ret (.ref (s.heap.objs.size + 1)))) { s with heap := h', toks := tk }) :
    codeAny (model prog w) A (.call (.ref C) ⟨[u], []⟩) R s := by
  obtain ⟨nm, q, N, bs, bm, sn, sub, ab, col, dd, k0, k1, k2, k3, k5, hC, hbm⟩ := T.cls
  obtain ⟨hp, g, dr, tk, os⟩ := s
  have k : ∀ b o, hp.get? b = some o → ((hp.push (kdv_tup [u])).push (excO C hp.objs.size)).get? b = some o := fun b o e => Heap.get?_push_of_some _ (Heap.get?_push_of_some _ e)
  have hget : ((hp.push (kdv_tup [u])).push (excO C hp.objs.size)).get? (hp.objs.size + 1) = some (excO C hp.objs.size) := by heap_get
  have hne : ∀ {b : Addr} {o : Obj}, hp.get? b = some o → b ≠ hp.objs.size + 1 := fun {b o} z y => by
    have := Heap.lt_size z
    rw [y] at this
    exact absurd this (by show ¬ (hp.objs.size + 1 < hp.objs.size); omega)
  refine call_own T.base hbm (X _ _ hC) (looks_findIn X T.iC) (fun self => bind_fn X self T.tI) (by rw [sizeLine_eq]; exact (by decide : 1 ≤ 16777216)) ?_
  refine init1 (mb := mb) (s := ⟨(hp.push (kdv_tup [u])).push (excO C hp.objs.size), g, dr, tk, os⟩) T F i1 (X.keeps k) (hlim.keeps k) (hg.keeps k) (hb.keeps k) hS hget (fun b o l => hne (X b o l)) ?_ (hbind _ _) hps hcell hco hgen fun h' tk' t1 dx k' hdx ndx e hn => ?_
  · show A.depth + 1 < recursionLimit
    exact hroom
  · refine ⟨rfl, hq h' tk' t1 dx (fun b o z => k' b o (hne z) (k b o z)) ?_ ndx e hn⟩
    have : hp.objs.size + 2 ≤ dx := by
      have z : ((hp.push (kdv_tup [u])).push (excO C hp.objs.size)).objs.size = hp.objs.size + 2 := by simp [Heap.push]
      rw [← z]
      exact hdx
    show hp.objs.size ≤ dx
    omega
/-- C(u1, u2) -/
theorem made2 {f1 f2 p1 p2 : Str} {u1 u2 : Value} (T : ETxt prog K mg C fI cc cda B newId initId bmB nmC qual params first [s1, s2] scope) (F : FTxt K C [f1, f2]) (i1 : IsF qual scope fI cda cc s1 f1 p1) (i2 : IsF qual scope fI cda cc s2 f2 p2) {R : Result → Shared → Prop} {s : Shared} (X : K.In s.heap) (hlim : s.heap.NoLimit)
    (hg : s.heap.Ns mainGlobals mg) (hb : s.heap.Ns builtinsNs mb) (hS : mb "super" = some (.type "super")) (hroom : A.depth + 1 < recursionLimit)
    (hbind : ∀ (x : Addr) (s : Shared) (kV doc pm : Value) (an : Option Addr) (ct : Value), BindsTo s (ksFn "__init__" qual params [first, s1, s2] scope .none kV doc pm an (.ref cda) ct cc) ⟨[.ref x, u1, u2], []⟩ [("self", .ref x), (p1, u1), (p2, u2)])
    (hps : p1 ≠ "self" ∧ p2 ≠ "self" ∧ p1 ≠ p2) (hcell : ∀ z ∈ scope.names, z.2 ≠ .cell) (hco : scope.isCoroutine = false) (hgen : scope.isGenerator = false)
    (hq : ∀ h' tk t1 dx, (∀ b o, s.heap.get? b = some o → h'.get? b = some o) → s.heap.objs.size ≤ dx → dx ≠ s.heap.objs.size + 1 → h'.get? (s.heap.objs.size + 1) = some { cls := .ref C, dict := some dx, data := .fields #[.ref t1, .none, .none, .none, .bool false, .none] } →
      h'.Ns1 dx (fun y => if y = f2 then some u2 else if y = f1 then some u1 else none) → R (.ok (.ret (.ref (s.heap.objs.size + 1)))) { s with heap := h', toks := tk }) :
    codeAny (model prog w) A (.call (.ref C) ⟨[u1, u2], []⟩) R s := by
  obtain ⟨nm, q, N, bs, bm, sn, sub, ab, col, dd, k0, k1, k2, k3, k5, hC, hbm⟩ := T.cls
  obtain ⟨hp, g, dr, tk, os⟩ := s
  have k : ∀ b o, hp.get? b = some o → ((hp.push (kdv_tup [u1, u2])).push (excO C hp.objs.size)).get? b = some o := fun b o e => Heap.get?_push_of_some _ (Heap.get?_push_of_some _ e)
  have hget : ((hp.push (kdv_tup [u1, u2])).push (excO C hp.objs.size)).get? (hp.objs.size + 1) = some (excO C hp.objs.size) := by heap_get
  have hne : ∀ {b : Addr} {o : Obj}, hp.get? b = some o → b ≠ hp.objs.size + 1 := fun {b o} z y => by
    have := Heap.lt_size z
    rw [y] at this
    exact absurd this (by show ¬ (hp.objs.size + 1 < hp.objs.size); omega)
  refine call_own T.base hbm (X _ _ hC) (looks_findIn X T.iC) (fun self => bind_fn X self T.tI) (by rw [sizeLine_eq]; exact (by decide : 2 ≤ 16777216)) ?_
  refine init2 (mb := mb) (s := ⟨(hp.push (kdv_tup [u1, u2])).push (excO C hp.objs.size), g, dr, tk, os⟩) T F i1 i2 (X.keeps k) (hlim.keeps k) (hg.keeps k) (hb.keeps k) hS hget (fun b o l => hne (X b o l)) ?_ (hbind _ _) hps hcell hco hgen fun h' tk' t1 dx k' hdx ndx e hn => ?_
  · show A.depth + 1 < recursionLimit
    exact hroom
  · refine ⟨rfl, hq h' tk' t1 dx (fun b o z => k' b o (hne z) (k b o z)) ?_ ndx e hn⟩
    have : hp.objs.size + 2 ≤ dx := by
      have z : ((hp.push (kdv_tup [u1, u2])).push (excO C hp.objs.size)).objs.size = hp.objs.size + 2 := by simp [Heap.push]
      rw [← z]
      exact hdx
    show hp.objs.size ≤ dx
    omega
end
end BX
end PySem
namespace L2
open PySem PySem.Spec PyProof.Rows
/-- C(e) -/
def tMk1 (C : Addr) (f : Str) (ta : TA) : St → Hp → XK → Prop := fun σ H Q => ta σ H fun vs H1 => ∃ y, vs = [y] ∧ ∀ dx, H1 dx = none → Q (.ref C) (some dx) (upd H1 dx (.xd [(f, y)]))
/-- C(e1, e2) -/
def tMk2 (C : Addr) (f1 f2 : Str) (ta : TA) : St → Hp → XK → Prop := fun σ H Q => ta σ H fun vs H1 => ∃ y1 y2, vs = [y1, y2] ∧ ∀ dx, H1 dx = none → Q (.ref C) (some dx) (upd H1 dx (.xd [(f2, y2), (f1, y1)]))
section
variable {X : Cx} {C fI cc cda : Addr} {B newId initId : String} {bmB : List Value} {nmC qual : Str} {params : Arguments} {first s1 s2 : Stmt} {scope : Scope} {p pos : Pos} {k : Nat} {ta : TA}
theorem mk_fin {pins : List (Addr × Obj)} {σ : St} {H : Hp} {Q : XK} {hp h' : Heap} {gg : Array GenState} {dr : Drawn} {tk tk' : Nat} {os : OsState} {t1 dx : Addr} {fs : List (Str × V)} {mA : Str → Option Value} (I : Inv X pins σ H ⟨hp, gg, dr, tk, os⟩) (r : Raises X (.ref C))
    (kp : ∀ b o, hp.get? b = some o → h'.get? b = some o) (hdx : hp.objs.size ≤ dx) (ndx : dx ≠ hp.objs.size + 1) (e : h'.get? (hp.objs.size + 1) = some ({ cls := .ref C, dict := some dx, data := .fields #[.ref t1, .none, .none, .none, .bool false, .none] } : Obj)) (hn : h'.Ns1 dx mA) (rel : ∀ f, RelO (fs.lookup f) (mA f))
    (q : Q (.ref C) (some dx) (upd H dx (.xd fs))) : MkP X pins σ Q (.ref (hp.objs.size + 1)) ⟨h', gg, dr, tk', os⟩ := by
  obtain ⟨G', g1, g2⟩ := restrict h' fun b => decide (b ≠ hp.objs.size + 1)
  have gk : ∀ b, b ≠ hp.objs.size + 1 → G'.get? b = h'.get? b := fun b hb => g1 b (decide_eq_true hb)
  have ge : G'.get? (hp.objs.size + 1) = none := g2 _ (by simp)
  have old : ∀ b o, hp.get? b = some o → G'.get? b = some o := fun b o q => (gk b (Nat.ne_of_lt (Nat.lt_succ_of_lt (Heap.lt_size q)))).trans (kp b o q)
  have J : Inv X pins σ (upd H dx (.xd fs)) ⟨G', gg, dr, tk', os⟩ := I.laid (t' := tk') old hdx ⟨mA, hn.at fun o y => (gk dx ndx).trans y, rel⟩
  refine ⟨hp.objs.size + 1, _, _, ⟨G', gg, dr, tk', os⟩, _, .ref C, some dx, rfl, J, fun b o q => ?_, ge, e, ⟨rfl, rfl⟩, rfl, rfl, ?_, rfl, I.bare, r, q⟩
  · by_cases hb : b = hp.objs.size + 1
    · have q' : G'.get? b = some o := q
      rw [hb, ge] at q'; cases q'
    · exact (gk b hb).symm.trans q
  · rw [upd_ne (Ne.symm ndx)]
    exact I.hok.fresh (Nat.le_succ _)
theorem pmk_e1 {f pn : Str} {e : Expr} (T : PySem.BX.ETxt X.prog X.K X.mg C fI cc cda B newId initId bmB nmC qual params first [s1] scope) (F : PySem.BX.FTxt X.K C [f]) (i1 : PySem.BX.IsF qual scope fI cda cc s1 f pn) (hr : Room k X.A) (hg : Gl X nmC)
    (hbind : ∀ (u : Value) (x : Addr) (s : Shared) (kV doc pm : Value) (an : Option Addr) (ct : Value), BindsTo s (PySem.W.ksFn "__init__" qual params [first, s1] scope .none kV doc pm an (.ref cda) ct cc) ⟨[.ref x, u], []⟩ [("self", .ref x), (pn, u)])
    (hps : pn ≠ "self") (hcell : ∀ z ∈ scope.names, z.2 ≠ .cell) (hco : scope.isCoroutine = false) (hgen : scope.isGenerator = false) (ha : PA X [e] ta) (hdb : (nmC == ("__debug__" : Str)) = false := by decide)
    (he : starEach [e] X.env = (false, eval e X.env) :: starEach [] X.env := by rfl) (hpl : (backTo pos (starEach [] X.env)).any (·.1) = false := by rfl) :
    PMk X (.Call (.Name nmC p) [e] [] pos) (tMk1 C f ta) := by
  intro pins s σ H Q I h
  refine wpAny_Call_Name_kw (ld_glob I hg T.gC ?_ hdb)
  refine PySem.W.callWith_K (h₀ := X.base) I.ok.mod.kin T.kC (thn (ha.run pos pins s σ H _ I h) fun us s1 ⟨vs, H1, I1, r1, y, ev, q1⟩ => ⟨I1.kIn, ?_⟩) he hpl
  subst ev
  cases r1 with
  | @cons _ u _ ur ry rr =>
    cases rr
    show wpAny _ _ (call (.ref C) [u]) _ _ _
    have hlim := I1.nolimit
    obtain ⟨mb, hb1, hb2⟩ := I1.mod.blt
    have hbS : mb "super" = some (.type "super") := (hb2 _ (by decide)).trans (by first | rfl | decide +kernel)
    obtain ⟨hp, gg, dr, tk, os⟩ := s1
    refine wpAny_call (PySem.BX.made1 (mb := mb) T F i1 I1.kIn hlim (I1.mod.glob.keeps I1.bk) (hb1.keeps I1.bk) hbS (by have := hr.dp; omega) (hbind u) hps hcell hco hgen fun h' tk' t1 dx kp hdx ndx e hn => ?_)
    exact mk_fin I1 (raises_own T.exC T.tyC) kp hdx ndx e hn (relO_put (fs := []) ry fun g => True.intro) (q1 dx (I1.hok.fresh hdx))
theorem pmk_e2 {f1 f2 p1 p2 : Str} {e e' : Expr} (T : PySem.BX.ETxt X.prog X.K X.mg C fI cc cda B newId initId bmB nmC qual params first [s1, s2] scope) (F : PySem.BX.FTxt X.K C [f1, f2]) (i1 : PySem.BX.IsF qual scope fI cda cc s1 f1 p1) (i2 : PySem.BX.IsF qual scope fI cda cc s2 f2 p2) (hr : Room k X.A) (hg : Gl X nmC)
    (hbind : ∀ (u1 u2 : Value) (x : Addr) (s : Shared) (kV doc pm : Value) (an : Option Addr) (ct : Value), BindsTo s (PySem.W.ksFn "__init__" qual params [first, s1, s2] scope .none kV doc pm an (.ref cda) ct cc) ⟨[.ref x, u1, u2], []⟩ [("self", .ref x), (p1, u1), (p2, u2)])
    (hps : p1 ≠ "self" ∧ p2 ≠ "self" ∧ p1 ≠ p2) (hcell : ∀ z ∈ scope.names, z.2 ≠ .cell) (hco : scope.isCoroutine = false) (hgen : scope.isGenerator = false) (ha : PA X [e, e'] ta) (hdb : (nmC == ("__debug__" : Str)) = false := by decide)
    (he : starEach [e, e'] X.env = (false, eval e X.env) :: starEach [e'] X.env := by rfl) (hpl : (backTo pos (starEach [e'] X.env)).any (·.1) = false := by rfl) :
    PMk X (.Call (.Name nmC p) [e, e'] [] pos) (tMk2 C f1 f2 ta) := by
  intro pins s σ H Q I h
  refine wpAny_Call_Name_kw (ld_glob I hg T.gC ?_ hdb)
  refine PySem.W.callWith_K (h₀ := X.base) I.ok.mod.kin T.kC (thn (ha.run pos pins s σ H _ I h) fun us s1 ⟨vs, H1, I1, r1, y1, y2, ev, q1⟩ => ⟨I1.kIn, ?_⟩) he hpl
  subst ev
  cases r1 with
  | @cons _ u _ ur ry rr =>
    cases rr with
    | @cons _ u2 _ ur2 ry2 rr2 =>
      cases rr2
      show wpAny _ _ (call (.ref C) [u, u2]) _ _ _
      have hlim := I1.nolimit
      obtain ⟨mb, hb1, hb2⟩ := I1.mod.blt
      have hbS : mb "super" = some (.type "super") := (hb2 _ (by decide)).trans (by first | rfl | decide +kernel)
      obtain ⟨hp, gg, dr, tk, os⟩ := s1
      refine wpAny_call (PySem.BX.made2 (mb := mb) T F i1 i2 I1.kIn hlim (I1.mod.glob.keeps I1.bk) (hb1.keeps I1.bk) hbS (by have := hr.dp; omega) (hbind u u2) hps hcell hco hgen fun h' tk' t1 dx kp hdx ndx e hn => ?_)
      exact mk_fin I1 (raises_own T.exC T.tyC) kp hdx ndx e hn (relO_put ry2 (relO_put (fs := []) ry fun g => True.intro)) (q1 dx (I1.hok.fresh hdx))
end
end L2
set_option Elab.async false
set_option linter.all false
set_option maxRecDepth 100000
set_option maxHeartbeats 4000000
namespace BI
open PySem PySem.W PySem.Spec PySem.Calls PyProof.Rows L2
section
variable {prog : Program} {w : World} {A : Around} {E : Value → Shared → Prop} {s : Shared} {K : Frag} {x D : Addr} {ob : Obj} {own : Option Obj}
theorem find_data {name : Str} {a g : Value} (isc : (clsIn K D).isSome = true) (at' : findIn K (.ref D) name = some (some a)) (ge : specialIn K a "__get__" = some (some g)) (tk : takesIn K a = some true) : findObj K D own name = some (.bind g a) := by
  obtain ⟨cd, e⟩ := Option.isSome_iff_exists.mp isc
  unfold findObj
  rw [e, Option.bind_some, at', Option.bind_some]
  simp [ge, tk]
/-- e.__class__, e with fields or without -/
theorem class_of {Q : Option Value → Shared → Prop} (Z : ExcC K D) (kin : K.In s.heap) (at' : InstAt s.heap x ob D own) (hq : Q (some (.ref D)) { s with toks := s.toks + 1 }) : wpAny (model prog w) A (getAttr? (.ref x) "__class__") Q E s := by
  have fo : findObj K D own "__class__" = some (.bind (.builtin "getset_descriptor.__get__") (.builtin "object.__class__")) := find_data (by obtain ⟨cd, e, _⟩ := any_some Z.hd; rw [e]; rfl) Z.ha Z.hn Z.ht
  obtain ⟨hp, g, d, t, os⟩ := s
  have l0 := at'.type (M := model prog w)
  have l1 := looks_findIn (M := model prog w) kin Z.hg
  have l2 := looks_findIn (M := model prog w) kin Z.hk
  have l3 := looks_find (M := model prog w) kin at' fo
  have isb : Looks (model prog w) hp (isInstance (.ref x) (.type "BaseException")) true := l0.andThen (looks_subIn kin Z.hs)
  have n2 : (Value.builtin "BaseException.__getattribute__" == Value.builtin "object.__getattribute__") = false := by decide +kernel
  have n1 : (onTheHeap (Value.ref D) && Value.builtin "BaseException.__getattribute__" == Value.builtin "object.__getattribute__") = false := by rw [n2]; rfl
  have n0 : (false && onTheHeap (Value.builtin "BaseException.__getattribute__")) = false := rfl
  unfold getAttr? getAttrBy? getAttrBy
  refine wpAny_bind (wpAny_mkText (wpAny_bind (wpAny_attempt (wpAny_holding (wpAny_bind (l0.at (wpAny_bind (l1.at ?_))))))))
  show wpAny _ _ (if (onTheHeap (Value.ref D) && Value.builtin "BaseException.__getattribute__" == Value.builtin "object.__getattribute__") = true then _ else _) _ _ _
  rw [n1, if_neg Bool.false_ne_true]
  unfold getAttrByItsOwn hookBefore
  refine wpAny_bind ?_
  rw [if_pos (show onTheHeap (Value.ref D) = true from rfl)]
  refine l2.at (wpAny_bind (wpAny_attempt (wpAny_holding ?_)))
  unfold callGetattribute
  rw [n0, if_neg Bool.false_ne_true]
  unfold boundAndCalled
  rw [PySem.F.excAttr_ValueError.ga.bind (.ref x)]
  refine wpAny_bind (wpAny_pure ?_)
  show wpAny _ _ (call (.builtin "BaseException.__getattribute__") [.ref x, .str "__class__" t]) _ _ _
  refine wpAny_call (codeAny_call_builtin PySem.F.excAttr_ValueError.ga.plain PySem.F.entry_bexc_ga ?_)
  refine @check_slot (model prog w) _ _ ⟨hp, g, d, t + 1, os⟩ "BaseException.__getattribute__" "BaseException" "__getattribute__" (.ref x) [.str "__class__" t] [] _ (by decide +kernel) (by decide +kernel) isb (PySem.F.args_bexc_ga (.ref x) (.str "__class__" t)) ?_
  unfold Builtin.«object.__getattribute__»
  refine wpAny_bind (wpAny_of_eq (a := ((Value.ref x : Value), [Value.str "__class__" t])) (by first | rfl | (simp only [slotArgs]; rfl)) ?_)
  refine wpAny_bind (wpAny_pure (wpAny_bind (l0.at (wpAny_bind (l3.at ?_)))))
  show wpAny _ _ (holding [Value.builtin "object.__class__"] (call (.builtin "getset_descriptor.__get__") [.builtin "object.__class__", .ref x, .ref D]) >>= ret) _ _ _
  refine wpAny_bind (wpAny_holding (wpAny_call (class_get (s := ⟨hp, g, d, t + 1, os⟩) (ox := ob) (od := own) kin at' Z.hm ?_)))
  refine wpAny_pure ?_
  show wpAny _ _ (handedOut (.ref D)) _ _ _
  rw [handedOut_of (v := .ref D) rfl]
  first
    | exact wpAny_pure (wpAny_pure hq)
    | exact wpAny_pure hq
    | exact wpAny_pure (wpAny_bind (wpAny_pure (wpAny_pure hq)))
theorem kitx (Z : ExcC K D) : KitX K (.ref x) (.ref D) (fun h => InstAt h x ob D own) where
  ty := fun _ _ _ at' => at'.type
  it := fun _ _ kin _ => by
    obtain ⟨cd, e, _⟩ := any_some Z.hd
    unfold clsIn at e
    split at e
    · rename_i c' d' cd' sl' ho
      intro A' Q' E' s' k q
      unfold isType loadHead
      exact wpAny_bind (wpAny_loadPart (k _ _ (kin _ _ ho)) (wpAny_pure q))
    · cases e
  ne := fun h tp dd its n sl kin htp => by
    obtain ⟨cd, e, _⟩ := any_some Z.hd
    refine Bool.eq_false_iff.mpr fun q => ?_
    have e1 : D = tp := Value.ref.inj (beq_iff_eq.mp q)
    subst e1
    unfold clsIn at e
    split at e
    · rename_i c' d' cd' sl' ho
      have z := (kin _ _ ho).symm.trans htp
      cases z
    · cases e
  ca := fun kin at' k => class_of Z kin at' k
end
/-- isinstance(e, c): e the exception that the suite holds, of class D -/
def rF (K : Frag) (D a : Addr) (cls : Value) (d : Option Addr) : List V → Hp → VK → Prop := fun xs H Q => ∃ (c : V) (cv : Value) (b : Bool) (dd : Addr) (fs : List (Str × V)), cls = .ref D ∧ d = some dd ∧ H dd = some (.xd fs) ∧ xs = [.ref a, c] ∧ (∀ u, RelV c u → u = cv) ∧ kitOne K (.ref D) cv = some b ∧ Q (.bl b) H
/-- isinstance(e, (c, ..)) -/
def rFT (K : Frag) (D a : Addr) (cls : Value) (d : Option Addr) : List V → Hp → VK → Prop := fun xs H Q => ∃ (tp : Addr) (cs : List V) (ws : List Value) (b : Bool) (dd : Addr) (fs : List (Str × V)), cls = .ref D ∧ d = some dd ∧ H dd = some (.xd fs) ∧ xs = [.ref a, .ref tp] ∧ H tp = some (.tup cs) ∧ Paired (fun c cv => ∀ u, RelV c u → u = cv) cs ws ∧ kitAny K (.ref D) ws = some b ∧ Q (.bl b) H
theorem vals_all : ∀ {cs : List V} {ws us : List Value}, Paired (fun c cv => ∀ u, RelV c u → u = cv) cs ws → Vals cs us → us = ws
  | _, _, _, .nil, .nil => rfl
  | _, _, _, .cons r t, .cons r' t' => by rw [r _ r', vals_all t t']
section
variable {X : Cx} {a D : Addr} {oe : Obj} {cls : Value} {d : Option Addr} {pn : List (Addr × Obj)}
theorem inst_at {pins : List (Addr × Obj)} {s : Shared} {σ : L2.St} {H : Hp} {dd : Addr} {fs : List (Str × V)} (I : Inv (X.suite a ((a, oe) :: pn)) pins σ H s) (hz : Zc (.ref D) (some dd) oe) (hf : ∃ vs, oe.data = .fields vs) (ed : H dd = some (.xd fs)) : ∃ od, InstAt s.heap a oe D (some od) := by
  obtain ⟨hget, _⟩ := I.pin (a, oe) (List.mem_append.mpr (.inl List.mem_cons_self))
  obtain ⟨vs, hv⟩ := hf
  have hx : ObjOk X.prog X.w H s.heap dd (.xd fs) := I.hok dd _ ed
  obtain ⟨mA, hns, hr⟩ := hx
  obtain ⟨od, ho, hl⟩ := lookIn_ns hns
  exact ⟨od, hget, hz.1, by unfold notCls; rw [hv] <;> rfl, by rw [hz.2]; exact ho⟩
theorem call_F (Z : ExcC X.K D) (hz : Zc cls d oe) (hf : ∃ vs, oe.data = .fields vs) : CallR (X.suite a ((a, oe) :: pn)) (.builtin "isinstance") (rF X.K D a cls d) := by
  intro pins s σ H xs us Q I r h
  obtain ⟨c, cv, b, dd, fs, rfl, rfl, ed, rfl, hcv, e, q⟩ := h
  cases r with
  | cons rx rr =>
    cases rr with
    | cons rt rr =>
      cases rr
      cases rx
      have ec := hcv _ rt
      subst ec
      obtain ⟨od, J⟩ := inst_at I hz hf ed
      exact kia_one (kitx Z) I.kIn J e (fun z => nomatch z) fun tk => ⟨.bl b, H, I.kept (t' := tk) fun _ _ z => z, rfl, q⟩
theorem call_FT (Z : ExcC X.K D) (hz : Zc cls d oe) (hf : ∃ vs, oe.data = .fields vs) : CallR (X.suite a ((a, oe) :: pn)) (.builtin "isinstance") (rFT X.K D a cls d) := by
  intro pins s σ H xs us Q I r h
  obtain ⟨tp, cs, ws, b, dd, fs, rfl, rfl, ed, rfl, hT, hcs, e, q⟩ := h
  cases r with
  | cons rx rr =>
    cases rr with
    | cons rt rr =>
      cases rr
      cases rx
      cases rt
      obtain ⟨od, J⟩ := inst_at I hz hf ed
      have hx : ObjOk X.prog X.w H s.heap tp (.tup cs) := I.hok tp _ hT
      obtain ⟨_, its, rv, o, h1, h2, n, h3⟩ := hx
      have e3 := vals_all hcs rv
      subst e3
      obtain ⟨oc, od', dt, sl⟩ := o
      simp only at h2 h3
      subst h2 h3
      exact kia_tup (kitx Z) I.kIn J h1 e (fun z => nomatch z) fun tk => ⟨.bl b, H, I.kept (t' := tk) fun _ _ z => z, rfl, q⟩
end
end BI
set_option Elab.async false
set_option linter.all false
set_option maxRecDepth 100000
set_option maxHeartbeats 4000000
/-! for i, x in enumerate(t), t a tuple -/
namespace EnT
open PySem
theorem new_one {v : Value} {o : Obj} {H : Heap → Prop} (B : Begins v o H) :
    Meets (Builtin.«enumerate.__new__» ⟨[.type "enumerate", v], []⟩) (fun _ R s => H s.heap ∧
      R (.ok (.ret (.ref (s.heap.push o).objs.size))) { s with heap := (s.heap.push o).push { cls := .type "enumerate", data := .fields #[.none, .bool false, .ref s.heap.objs.size, rawInt 0, .none, .none] } }) :=
  .of_wp fun prog w A R s h => by
    obtain ⟨h0, g0, d0, k0, o0⟩ := s; obtain ⟨hH, hR⟩ := h
    have sube := sub_enumerate
    have it1 : ∀ {A' : Around} {E' : Value → Shared → Prop} {Q' : Value → Shared → Prop}, Q' (.ref h0.objs.size) ⟨h0.push o, g0, d0, k0, o0⟩ → wpAny (model prog w) A' (pyIter v) Q' E' ⟨h0, g0, d0, k0, o0⟩ :=
      fun q => B.iter prog w _ _ ⟨h0, g0, d0, k0, o0⟩ _ hH q
    wp_walk using it1
    refine wpAny_stack_any fun st => wpAny_pure ?_
    split
    · rename_i c _ _ _ _ _
      cases (c == Value.type "enumerate") <;> (wp_walk using it1; exact ⟨_, rfl, hR⟩)
    · wp_walk using it1
      exact ⟨_, rfl, hR⟩
section
variable {prog : Program} {w : World} {A : Around} {E : Value → Shared → Prop} {s : Shared}
theorem call_one {v : Value} {o : Obj} {H : Heap → Prop} {Q : Value → Shared → Prop} (B : Begins v o H) (hH : H s.heap)
    (q : ∀ h', IsEnum h' (s.heap.objs.size + 1) s.heap.objs.size 0 .none → h'.get? s.heap.objs.size = some o → h'.objs.size = s.heap.objs.size + 2 → (∀ b u, s.heap.get? b = some u → h'.get? b = some u) → Q (.ref (s.heap.objs.size + 1)) { s with heap := h' }) :
    wpAny (model prog w) A (call (.type "enumerate") [v]) Q E s := by
  refine callType_new F.called_enumerate (by decide) (F.typeCall_enumerate_1 _) (F.newCall_enumerate_1 _) (fun obj => F.args_object_init_2 obj _) F.entry_enumerate_new (new_one B) ⟨hH, ?_⟩
  have z1 : (s.heap.push o).objs.size = s.heap.objs.size + 1 := Heap.size_push ..
  show _ ∧ _
  rw [z1]
  have e1 : IsEnum ((s.heap.push o).push { cls := .type "enumerate", data := .fields #[.none, .bool false, .ref s.heap.objs.size, rawInt 0, .none, .none] }) (s.heap.objs.size + 1) s.heap.objs.size 0 .none := by
    have z2 := Heap.get?_push_size (s.heap.push o) (o := { cls := .type "enumerate", data := .fields #[.none, .bool false, .ref s.heap.objs.size, rawInt 0, .none, .none] }) rfl
    rw [z1] at z2; exact z2
  exact ⟨⟨_, e1, rfl⟩, q _ e1 (Heap.get?_push_of_some _ (Heap.get?_push_size _ B.free)) (by rw [Heap.size_push, z1]) fun b u x => Heap.get?_push_of_some _ (Heap.get?_push_of_some _ x)⟩
end
end EnT
namespace EnT
open PySem PySem.Spec PyProof.Rows L2
/-- the tuple at a, each item in a new pair with its number -/
def IteT (K : PySem.W.Frag) (a : Addr) (n : Nat) : It :=
  ⟨fun i H => ∃ (xs : List V) (x : V), SqT K H a xs ∧ xs.length = n ∧ xs[i]? = some x, fun i H v H' => ∃ T x, v = .ref T ∧ H T = none ∧ H' = upd H T (.tup [.int (i : Nat), x]) ∧ ∀ xs, SqT K H a xs → xs[i]? = some x, fun i H => ∃ xs : List V, SqT K H a xs ∧ xs.length = n ∧ n ≤ i⟩
theorem turnT {P : Program} {w : World} {K : PySem.W.Frag} {elts : List Expr} {kk : Nat} {tpos : Pos} (a e it : Addr) (n : Nat) (nei : e ≠ it) (nai : a ≠ it) (nae : a ≠ e) :
    Turn P w K (.Tuple elts kk tpos) (IteT K a n) [e, it] e (fun i h => (∃ old, IsEnum h e it ((i : Nat) : Int) old) ∧ h.IsTupleIter it a i ∧ i ≤ n) where
  mem := by simp
  obj := fun i h st b hb => by
    obtain ⟨⟨old, he⟩, ⟨o, ho, _, hd⟩, _⟩ := st
    rcases (show b = e ∨ b = it by simpa using hb) with z | z
    · subst z
      exact ⟨_, he, fun v q => nomatch q⟩
    · subst z
      exact ⟨o, ho, fun v q => by rw [hd] at q; cases q⟩
  keep := fun i h h' st k => ⟨st.1.imp fun old he => k e (by simp) _ he, st.2.1.at fun o q => k it (by simp) o q, st.2.2⟩
  item := by
    intro X hP hw hK hc i pins s σ H E I hf st hg
    subst hP hw hK
    obtain ⟨⟨old, he⟩, hit, hin⟩ := st
    obtain ⟨xs, x, hq, hxn, hx⟩ := hg
    have hlx : i < xs.length := (List.getElem?_eq_some_iff.mp hx).1
    obtain ⟨its, rv, pt, _⟩ := I.tuple hq
    obtain ⟨u, hu, ru⟩ := rv.get hx
    have le : e < s.heap.objs.size := Heap.lt_size he
    have li : it < s.heap.objs.size := by obtain ⟨_, q, _⟩ := hit; exact Heap.lt_size q
    have hlt : i < its.toArray.size := by
      have := (List.getElem?_eq_some_iff.mp hu).1
      simpa using this
    refine wpAny_pyNext_enum_itemC (Draws.tuple (A := X.A.in1) (I.ok.hd hc) it a nai its.toArray) he (i := i) ⟨hit, pt⟩ hlt nei (by
      intro z
      rcases (show e = it ∨ e = a by simpa using z) with z | z
      · exact nei z
      · exact nae z.symm) fun x' h' tk hx' ho hst' hT hsz hk => ?_
    have ex : x' = u := by
      have z : its[i]? = some x' := by simpa using hx'
      exact Option.some.inj (z.symm.trans hu)
    subst ex
    refine ⟨_, rfl, wpAny_letOwnedTupleGo_enum (s := { s with heap := h', toks := tk + 1 }) ho fun h2 he' sb => ?_⟩
    have hT2 : h2.get? s.heap.objs.size = some { cls := .type "tuple", data := .seq #[.int i tk, x'] } := (sb.2 _ (Nat.ne_of_gt le)).trans hT
    have nw : ObjOk X.prog X.w (upd H s.heap.objs.size (.tup [.int (i : Nat), x])) h2 s.heap.objs.size (.tup [.int (i : Nat), x]) :=
      ⟨by show 2 ≤ sizeLine; decide, [.int i tk, x'], .cons ⟨_, rfl⟩ (.cons ru .nil), ⟨_, hT2, rfl, _, rfl⟩⟩
    have I1 : Inv X pins σ (upd H s.heap.objs.size (.tup [.int (i : Nat), x])) { s with heap := h2, toks := tk + 1 } :=
      I.turnedNew (ch := [e, it]) (fun b ob hb q => (sb.2 b (fun z => hb (by simp [z]))).trans (hk b ob (fun z => hb (by simp [z])) (fun z => hb (by simp [z])) q)) hf (Nat.le_refl _) nw
    refine ⟨.ref s.heap.objs.size, _, I1, rfl, ⟨_, x, rfl, I.hok.fresh (Nat.le_refl _), rfl, fun ys hy => by rw [I.tuple_inj hy hq]; exact hx⟩, ⟨⟨x', ?_⟩, hst'.1.at fun o q => (sb.2 it nei.symm).trans q, by omega⟩, fun b hb => ?_⟩
    · rw [show ((i + 1 : Nat) : Int) = (i : Int) + 1 by omega]
      exact he'
    · have lb : b < s.heap.objs.size := by
        rcases (show b = e ∨ b = it by simpa using hb) with z | z <;> (subst z; assumption)
      rw [upd_ne (Nat.ne_of_lt lb)]
      exact (hf b hb).1
  done := by
    intro X hP hw hK hc i pins s σ H E I hf st hg
    subst hP hw hK
    obtain ⟨⟨old, he⟩, hit, hin⟩ := st
    obtain ⟨xs, hq, hxn, hx⟩ := hg
    obtain ⟨its, rv, pt, _⟩ := I.tuple hq
    obtain ⟨f0, f1, f2, f3, f4, f5⟩ := hf it (by simp)
    have hl := rv.length
    have ei : its.toArray.size = i := by simp; omega
    subst ei
    exact wpAny_pyNext_enum_endD (Draws.tuple (A := X.A.in1) (I.ok.hd hc) it a nai its.toArray) he ⟨hit, pt⟩ fun h' eb => ⟨rfl, I.turned (t' := s.toks) (fun b o hb q => eb b o hb q) f0 f1 f3 f4 f5⟩
  self := fun A i s Q E st h => by
    obtain ⟨⟨_, he⟩, _⟩ := st
    exact wpAny_pyIter_enum he h
def iEnumT (K : PySem.W.Frag) (ta : TA) : TI := fun σ H R => ta σ H fun vs H1 => ∃ a xs, vs = [.ref a] ∧ SqT K H1 a xs ∧ R (IteT K a xs.length) H1
theorem pi_enumT {X : Cx} {e : Expr} {ta : TA} {p pos tpos : Pos} {elts : List Expr} {kk : Nat} (hg : Gl X "enumerate") (hm : X.mg "enumerate" = none) (ha : PA X [e] ta) (hs : starEach [e] X.env = [(false, eval e X.env)] := by rfl) :
    PI X (.Tuple elts kk tpos) (.Call (.Name "enumerate" p) [e] [] pos) (iEnumT X.K ta) := by
  refine ⟨fun pins s0 σ H R I h => Call_ (ld_blt I hg hm boot_enumerate (PyProof.Rows.callWith_type1 (thn (ha.run pos pins s0 σ H _ I h) fun us s1 ⟨vs, H1, I1, r1, q1⟩ => ?_) hs rfl))⟩
  obtain ⟨a, xs, ex, hq, q⟩ := q1
  subst ex
  cases r1 with
  | cons r rr =>
    cases rr
    cases r
    obtain ⟨its, rv, pt, _⟩ := I1.tuple hq
    have la : a < s1.heap.objs.size := by obtain ⟨_, z, _⟩ := pt; exact Heap.lt_size z
    refine call_one (begins_tuple a its.toArray) pt fun h' he hit hsz hk => wpAny_pyIter_enum he ?_
    have I2 : Inv X pins σ H1 { s1 with heap := h' } := I1.kept (t' := s1.toks) hk
    refine ⟨s1.heap.objs.size + 1, [s1.heap.objs.size + 1, s1.heap.objs.size], _, _, H1, rfl, I2, turnT a (s1.heap.objs.size + 1) s1.heap.objs.size xs.length (Nat.succ_ne_self _) (Nat.ne_of_lt la) (Nat.ne_of_lt (Nat.lt_succ_of_lt la)), ⟨⟨.none, he⟩, ⟨_, hit, rfl, rfl⟩, Nat.zero_le _⟩, fun b hb => ?_, q⟩
    have hle : s1.heap.objs.size ≤ b := by
      rcases (show b = s1.heap.objs.size + 1 ∨ b = s1.heap.objs.size by simpa using hb) with z | z <;> (subst z; first | exact Nat.le_succ _ | exact Nat.le_refl _)
    exact I1.fpOk hle (I1.hok.fresh hle)
/-- a for over it, by an invariant -/
theorem for_enumT {K : PySem.W.Frag} {a : Addr} {xs : List V} {g : TG} {tb : TS} {D : Ends} {σ : L2.St} {H : Hp} (Pv : Nat → L2.St → Hp → Prop) (h0 : Pv 0 σ H) (hq : ∀ i σ H, Pv i σ H → SqT K H a xs)
    (hs : ∀ (i : Nat) (x : V) (T : Addr) (σ : L2.St) (H : Hp), xs[i]? = some x → Pv i σ H → H T = none → g (.ref T) σ (upd H T (.tup [.int (i : Nat), x])) fun σ2 H2 => tb { D with nx := Pv (i + 1), ct := Pv (i + 1), bk := D.nx } σ2 H2) (hd : ∀ σ H, Pv xs.length σ H → D.nx σ H) :
    ∃ W : Nat → Nat → L2.St → Hp → Prop, (∃ m, W 0 m σ H) ∧ ∀ i m σ H, W i m σ H →
      ((IteT K a xs.length).stop i H ∧ D.nx σ H) ∨ ((IteT K a xs.length).go i H ∧ ∃ N : L2.St → Hp → Prop, (∀ σ' H', N σ' H' → ∃ m', m' < m ∧ W (i + 1) m' σ' H') ∧ ∀ v H', (IteT K a xs.length).yld i H v H' → g v σ H' fun σ2 H2 => tb { D with nx := N, ct := N, bk := D.nx } σ2 H2) := by
  refine ⟨fun i m σ H => m = xs.length - i ∧ i ≤ xs.length ∧ Pv i σ H, ⟨xs.length, rfl, Nat.zero_le _, h0⟩, ?_⟩
  rintro i m σ H ⟨rfl, hi, pv⟩
  have qx := hq i σ H pv
  by_cases hlt : i < xs.length
  · refine .inr ⟨⟨xs, xs[i], qx, rfl, List.getElem?_eq_getElem hlt⟩, Pv (i + 1), fun σ' H' p' => ⟨xs.length - (i + 1), by omega, rfl, hlt, p'⟩, fun v H' y => ?_⟩
    obtain ⟨T, x, rfl, nT, rfl, fx⟩ := y
    exact hs i x T σ H (fx xs qx) pv nT
  · have e : i = xs.length := by omega
    subst e
    exact .inl ⟨⟨xs, qx, rfl, Nat.le_refl _⟩, hd σ H pv⟩
end EnT
set_option linter.all false
namespace KX
open PySem PySem.Spec L2
theorem pg_tupK {X : Cx} {pos : Pos} (K : PySem.W.Frag) {es : List Expr} {k : Nat} {t : TGs} {n : Nat} (hc : X.calm = true) (h : PGs X es t)
    (hn : (assignEach es X.env).length = n := by rfl) (hst : (assignEach es X.env).findIdx? (·.1) = none := by rfl) (hK : X.K = K := by rfl) : PG X (.Tuple es k pos) (gTup K n t) := by
  subst hK
  exact pg_tup hc h hn hst
def rTup (K : PySem.W.Frag) : List V → Hp → VK → Prop := fun xs H Q => ∃ p ys, xs = [V.ref p] ∧ ((SqL K H p ys ∧ ∀ (l : Addr), H l = none → Q (V.ref l) (upd H l (HO.tup ys))) ∨ SqT K H p ys ∧ Q (V.ref p) H)
theorem call_tuple_K {X : Cx} (K : PySem.W.Frag) (hK : X.K = K := by rfl) : CallR X (Value.type "tuple") (rTup K) := by
  subst hK
  exact call_tuple_of
theorem ix_listK {X : Cx} (K : PySem.W.Frag) (hK : X.K = K := by rfl) : IxR X (rIxL K) := by
  subst hK
  exact ix_list
theorem ix_tupK {X : Cx} (K : PySem.W.Frag) (hK : X.K = K := by rfl) : IxR X (rIxT K) := by
  subst hK
  exact ix_tup
theorem in_seqK {X : Cx} (K : PySem.W.Frag) (hK : X.K = K := by rfl) : OpR X (compareOp CmpOp.In) (rIn K false) := by
  subst hK
  exact op_in_seq
theorem mt_indexK {X : Cx} (K : PySem.W.Frag) (hK : X.K = K := by rfl) : MtR X "list.index" (rIndex K) := by
  subst hK
  exact mt_index
theorem pi_tupK {X : Cx} (K : PySem.W.Frag) {tg l : Expr} {tl : TE} (h : PE X l tl) (hK : X.K = K := by rfl) : PI X tg l (iTup K tl) := by
  subst hK
  exact pi_tup h
theorem pi_listK {X : Cx} (K : PySem.W.Frag) {tg l : Expr} {tl : TE} (h : PE X l tl) (hK : X.K = K := by rfl) : PI X tg l (iList K tl) := by
  subst hK
  exact pi_list h
theorem hu {A : Around} {k : Nat} (hr : Room k A) : A.units + 1 < cLine := by have := hr.units; omega
theorem pe_bmK {X : Cx} (K : PySem.W.Frag) {o e : Expr} {es : List Expr} {to : TE} {t : TA} {name : Str} {apos cpos : Pos} {T id : String} {r : V → List V → Hp → VK → Prop} (h1 : PlainAttrs T) (h2 : Slot T name id) (h3 : typeOf (Value.builtin id) = pure (Value.type "method_descriptor")) (h4 : MtR X id r) (h5 : PE X o to) (h6 : PA X (e :: es) t)
    (a1 : attributeBase o name X.env (eval o X.env) = eval o X.env := by rfl)
    (a2 : ((((backTo cpos (starEach (e :: es) X.env)).all fun x => !x.fst) && (backToKw cpos (keywordEach [] X.env)).all fun x => x.fst.isSome) && decide (((e :: es).length + ([] : List Keyword).length + if ([] : List Keyword).isEmpty = true then 0 else 1) < 30)) = true := by rfl)
    (a3 : (apos.endLine == cpos.line) = true := by rfl) (a4 : starEach (e :: es) X.env = (false, eval e X.env) :: starEach es X.env := by rfl) (a5 : ((backTo cpos (starEach es X.env)).any fun x => x.fst) = false := by rfl) (hK : X.K = K := by rfl) :
    PE X ((o.Attribute name apos).Call (e :: es) [] cpos) (tBM K T r to t) := by
  subst hK
  exact pe_bm h1 h2 h3 h4 h5 h6 a1 a2 a3 a4 a5
theorem notin_seqK {X : Cx} (K : PySem.W.Frag) (hK : X.K = K := by rfl) : OpR X (compareOp CmpOp.NotIn) (rIn K true) := by
  subst hK
  exact op_notIn_seq
theorem call_list_K {X : Cx} (K : PySem.W.Frag) (hK : X.K = K := by rfl) : CallR X (Value.type "list") (fun xs H Q => ∃ p ys, xs = [V.ref p] ∧ (SqL K H p ys ∨ SqT K H p ys) ∧ ∀ (l : Addr), H l = none → Q (V.ref l) (upd H l (HO.lst ys))) := by
  subst hK
  exact call_list_of
def rLenK (K : PySem.W.Frag) : List V → Hp → VK → Prop := fun xs H Q => ∃ p ys, xs = [V.ref p] ∧ (SqL K H p ys ∨ SqT K H p ys) ∧ Q (V.int (ys.length : Nat)) H
theorem len_seqK {X : Cx} (K : PySem.W.Frag) (hK : X.K = K := by rfl) : CallR X (Value.builtin "len") (rLenK K) := by
  subst hK
  exact call_len_seq
end KX
set_option Elab.async false
set_option linter.all false
set_option maxRecDepth 100000
set_option maxHeartbeats 2000000
namespace B08
open PySem PySem.Spec PyProof.Rows L2
def topS (i : Nat) : Stmt := PySem.Challenge.pw_boughkept_k08_trees_looked_at.main.body.getD i (.Pass ⟨0, 0, 0, 0⟩)
abbrev st_table : Stmt := topS 14
theorem sc_table : FnScope ["wood", "name", "makers", "numbers", "table", "kind", "parts", "number", "part"] ["wood"] (defScope st_table) := ⟨rfl, rfl, rfl, by decide +kernel, rfl, by decide +kernel, by decide +kernel⟩
abbrev st_looktree : Stmt := topS 16
theorem sc_looktree : FnScope ["wood", "tree", "table", "kinds", "at", "maker", "parts", "kind", "wanted"] ["wood", "tree"] (defScope st_looktree) := ⟨rfl, rfl, rfl, by decide +kernel, rfl, by decide +kernel, by decide +kernel⟩
abbrev st_rowsof : Stmt := topS 17
theorem sc_rowsof : FnScope ["kinds", "parts", "wanted", "part", "kind"] ["kinds", "parts", "wanted"] (defScope st_rowsof) := ⟨rfl, rfl, rfl, by decide +kernel, rfl, by decide +kernel, by decide +kernel⟩
abbrev st_box : Stmt := topS 19
theorem sc_box : FnScope ["_law_script", "_law_k", "_law_cell", "_law_seed"] ["_law_script", "_law_k"] (defScope st_box) := ⟨rfl, rfl, rfl, by decide +kernel, rfl, by decide +kernel, by decide +kernel⟩
abbrev st_take : Stmt := topS 20
theorem sc_take : FnScope ["_law_box_here", "_law_many", "_law_digit", "_law_one"] ["_law_box_here", "_law_many"] (defScope st_take) := ⟨rfl, rfl, rfl, by decide +kernel, rfl, by decide +kernel, by decide +kernel⟩
abbrev st_names : Stmt := topS 21
theorem sc_names : FnScope ["_law_box_here", "_law_many", "_law_letters", "_law_k", "_law_stem", "_law_found", "_law_form", "_law_at", "_law_name", "_law_j"] ["_law_box_here", "_law_many"] (defScope st_names) := ⟨rfl, rfl, rfl, by decide +kernel, rfl, by decide +kernel, by decide +kernel⟩
abbrev st_wood : Stmt := topS 22
theorem sc_wood : FnScope ["_law_box_here", "_law_most", "_law_plain", "_law_many", "_law_kinds", "_law_names_here", "_law_k", "_law_rows", "_law_name", "_law_kind", "_law_wide", "_law_parts", "_law_row", "_law_j"] ["_law_box_here", "_law_most"] (defScope st_wood) := ⟨rfl, rfl, rfl, by decide +kernel, rfl, by decide +kernel, by decide +kernel⟩
abbrev st_lmakers : Stmt := topS 23
theorem sc_lmakers : FnScope ["_law_wood_here", "_law_name", "_law_makers_here", "_law_kinds", "_law_found", "_law_kind", "_law_maker", "_law_parts", "_law_part"] ["_law_wood_here"] (defScope st_lmakers) := ⟨rfl, rfl, rfl, by decide +kernel, rfl, by decide +kernel, by decide +kernel⟩
abbrev st_anytext : Stmt := topS 24
theorem sc_anytext : FnScope ["_law_box_here", "_law_some", "_law_signs", "_law_many", "_law_k"] ["_law_box_here"] (defScope st_anytext) := ⟨rfl, rfl, rfl, by decide +kernel, rfl, by decide +kernel, by decide +kernel⟩
abbrev st_tree : Stmt := topS 25
theorem sc_tree : FnScope ["_law_box_here", "_law_wood_here", "_law_most", "_law_size", "_law_rows", "_law_kinds", "_law_sizes", "_law_turn", "_law_part", "_law_some", "_law_wide", "_law_maker", "_law_kind", "_law_parts", "_law_numbers", "_law_ahead", "_law_many", "_law_one", "_law_at", "_law_number"] ["_law_box_here", "_law_wood_here", "_law_most", "_law_size"] (defScope st_tree) := ⟨rfl, rfl, rfl, by decide +kernel, rfl, by decide +kernel, by decide +kernel⟩
abbrev st_spoilt : Stmt := topS 26
theorem sc_spoilt : FnScope ["_law_box_here", "_law_wood_here", "_law_tree_here", "_law_rows", "_law_way", "_law_at", "_law_names_here", "_law_one", "_law_spot", "_law_far", "_law_number", "_law_other", "_law_row", "_law_name", "_law_kind", "_law_parts"] ["_law_box_here", "_law_wood_here", "_law_tree_here"] (defScope st_spoilt) := ⟨rfl, rfl, rfl, by decide +kernel, rfl, by decide +kernel, by decide +kernel⟩
abbrev st_due : Stmt := topS 27
theorem sc_due : FnScope ["_law_wood_here", "_law_tree_here", "_law_kinds", "_law_at", "_law_maker", "_law_numbers", "_law_some", "_law_number", "_law_part", "_law_one"] ["_law_wood_here", "_law_tree_here"] (defScope st_due) := ⟨rfl, rfl, rfl, by decide +kernel, rfl, by decide +kernel, by decide +kernel⟩
abbrev st_told : Stmt := topS 28
theorem sc_told : FnScope ["_law_wood_here", "_law_tree_here", "_law_found", "e", "_law_others"] ["_law_wood_here", "_law_tree_here"] (defScope st_told) := ⟨rfl, rfl, rfl, by decide +kernel, rfl, by decide +kernel, by decide +kernel⟩
abbrev st_law : Stmt := topS 29
theorem sc_law : FnScope ["_law_script", "_law_k", "_law_box_here", "_law_wood_here", "_law_good", "_law_bad", "_law_turn", "_law_tree_here"] ["_law_script"] (defScope st_law) := ⟨rfl, rfl, rfl, by decide +kernel, rfl, by decide +kernel, by decide +kernel⟩
abbrev st_nt : Stmt := inClass (topS 4) 0
abbrev fs_nt : Stmt := (defBody st_nt).getD 0 (.Pass ⟨0, 0, 0, 0⟩)
abbrev fs_nt1 : Stmt := (defBody st_nt).getD 1 (.Pass ⟨0, 0, 0, 0⟩)

structure Tx (P : Program) (K : PySem.W.Frag) (mg : Str → Option Value) : Type where
  f_table : Addr
  fd_table : FuncData
  F_table : Fun K "maker_table" "maker_table" st_table f_table fd_table
  g_table : mg "maker_table" = some (.ref f_table)
  b_table : Binds K fd_table ["wood"] []
  f_looktree : Addr
  fd_looktree : FuncData
  F_looktree : Fun K "look_tree" "look_tree" st_looktree f_looktree fd_looktree
  g_looktree : mg "look_tree" = some (.ref f_looktree)
  b_looktree : Binds K fd_looktree ["wood", "tree"] []
  f_rowsof : Addr
  fd_rowsof : FuncData
  F_rowsof : Fun K "are_rows_of" "are_rows_of" st_rowsof f_rowsof fd_rowsof
  g_rowsof : mg "are_rows_of" = some (.ref f_rowsof)
  b_rowsof : Binds K fd_rowsof ["kinds", "parts", "wanted"] []
  f_box : Addr
  fd_box : FuncData
  F_box : Fun K "_law_box" "_law_box" st_box f_box fd_box
  g_box : mg "_law_box" = some (.ref f_box)
  b_box : Binds K fd_box ["_law_script", "_law_k"] []
  f_take : Addr
  fd_take : FuncData
  F_take : Fun K "_law_take" "_law_take" st_take f_take fd_take
  g_take : mg "_law_take" = some (.ref f_take)
  b_take : Binds K fd_take ["_law_box_here", "_law_many"] []
  f_names : Addr
  fd_names : FuncData
  F_names : Fun K "_law_names" "_law_names" st_names f_names fd_names
  g_names : mg "_law_names" = some (.ref f_names)
  b_names : Binds K fd_names ["_law_box_here", "_law_many"] []
  f_wood : Addr
  fd_wood : FuncData
  F_wood : Fun K "_law_wood" "_law_wood" st_wood f_wood fd_wood
  g_wood : mg "_law_wood" = some (.ref f_wood)
  b_wood : Binds K fd_wood ["_law_box_here", "_law_most"] []
  f_lmakers : Addr
  fd_lmakers : FuncData
  F_lmakers : Fun K "_law_makers" "_law_makers" st_lmakers f_lmakers fd_lmakers
  g_lmakers : mg "_law_makers" = some (.ref f_lmakers)
  b_lmakers : Binds K fd_lmakers ["_law_wood_here"] []
  f_anytext : Addr
  fd_anytext : FuncData
  F_anytext : Fun K "_law_any_text" "_law_any_text" st_anytext f_anytext fd_anytext
  g_anytext : mg "_law_any_text" = some (.ref f_anytext)
  b_anytext : Binds K fd_anytext ["_law_box_here"] []
  f_tree : Addr
  fd_tree : FuncData
  F_tree : Fun K "_law_tree" "_law_tree" st_tree f_tree fd_tree
  g_tree : mg "_law_tree" = some (.ref f_tree)
  b_tree : Binds K fd_tree ["_law_box_here", "_law_wood_here", "_law_most", "_law_size"] []
  f_spoilt : Addr
  fd_spoilt : FuncData
  F_spoilt : Fun K "_law_spoilt_tree" "_law_spoilt_tree" st_spoilt f_spoilt fd_spoilt
  g_spoilt : mg "_law_spoilt_tree" = some (.ref f_spoilt)
  b_spoilt : Binds K fd_spoilt ["_law_box_here", "_law_wood_here", "_law_tree_here"] []
  f_due : Addr
  fd_due : FuncData
  F_due : Fun K "_law_due" "_law_due" st_due f_due fd_due
  g_due : mg "_law_due" = some (.ref f_due)
  b_due : Binds K fd_due ["_law_wood_here", "_law_tree_here"] []
  f_told : Addr
  fd_told : FuncData
  F_told : Fun K "_law_told" "_law_told" st_told f_told fd_told
  g_told : mg "_law_told" = some (.ref f_told)
  b_told : Binds K fd_told ["_law_wood_here", "_law_tree_here"] []
  m_len : mg "len" = none
  m_int : mg "int" = none
  m_list : mg "list" = none
  m_tuple : mg "tuple" = none
  m_zip : mg "zip" = none
  m_isinstance : mg "isinstance" = none
  m_max : mg "max" = none
  m_min : mg "min" = none
  m_range : mg "range" = none
  m_enumerate : mg "enumerate" = none
  m_all : mg "all" = none
  m_sum : mg "sum" = none
  m_ValueError : mg "ValueError" = none
  m_super : mg "super" = none
  C : Addr
  fI : Addr
  cc : Addr
  cda : Addr
  CB : Addr
  exc : PySem.BX.ETxt P K mg C fI cc cda "ValueError" "ValueError.__new__" "ValueError.__init__" [.type "ValueError", .type "Exception", .type "BaseException", .type "object"] "NoTree" "NoTree.__init__" (defArgs st_nt) fs_nt [fs_nt1] (defScope st_nt)
  fld : PySem.BX.FTxt K C ["at"]
  is1 : PySem.BX.IsF "NoTree.__init__" (defScope st_nt) fI cda cc fs_nt1 "at" "at"
  exI : ExcC K C
  xfc : XfC K C
  noAt : PySem.W.findIn K (.ref C) "at" = some none
  g_BoughError : mg "BoughError" = some (.ref CB)
  exm : PySem.W.exmOne K (.ref C) (.ref CB) = some true
  kC : PySem.W.kitOne K (.ref C) (.ref C) = some true
  kV : PySem.W.kitOne K (.ref C) (.type "ValueError") = some true
  C_NoFit : Addr
  g_NoFit : mg "NoFit" = some (.ref C_NoFit)
  k_NoFit : PySem.W.kitOne K (.ref C) (.ref C_NoFit) = some false
  C_NoPrinter : Addr
  g_NoPrinter : mg "NoPrinter" = some (.ref C_NoPrinter)
  k_NoPrinter : PySem.W.kitOne K (.ref C) (.ref C_NoPrinter) = some false
  C_NoReader : Addr
  g_NoReader : mg "NoReader" = some (.ref C_NoReader)
  k_NoReader : PySem.W.kitOne K (.ref C) (.ref C_NoReader) = some false
  C_NoRow : Addr
  g_NoRow : mg "NoRow" = some (.ref C_NoRow)
  k_NoRow : PySem.W.kitOne K (.ref C) (.ref C_NoRow) = some false
  C_NoText : Addr
  g_NoText : mg "NoText" = some (.ref C_NoText)
  k_NoText : PySem.W.kitOne K (.ref C) (.ref C_NoText) = some false
  C_NoTurner : Addr
  g_NoTurner : mg "NoTurner" = some (.ref C_NoTurner)
  k_NoTurner : PySem.W.kitOne K (.ref C) (.ref C_NoTurner) = some false
  C_NoWood : Addr
  g_NoWood : mg "NoWood" = some (.ref C_NoWood)
  k_NoWood : PySem.W.kitOne K (.ref C) (.ref C_NoWood) = some false
  C_NoWord : Addr
  g_NoWord : mg "NoWord" = some (.ref C_NoWord)
  k_NoWord : PySem.W.kitOne K (.ref C) (.ref C_NoWord) = some false
  C_TooLong : Addr
  g_TooLong : mg "TooLong" = some (.ref C_TooLong)
  k_TooLong : PySem.W.kitOne K (.ref C) (.ref C_TooLong) = some false
  C_TooWide : Addr
  g_TooWide : mg "TooWide" = some (.ref C_TooWide)
  k_TooWide : PySem.W.kitOne K (.ref C) (.ref C_TooWide) = some false
/-! ### heaps -/
theorem same_new {H : Hp} {p : Addr} {o : HO} (h : H p = none) : Same H (upd H p o) := fun b x e => by
  rw [upd_ne (ne_of_none e h)]
  exact e
/-- three ints at a: the law's draw -/
def Drw (H : Hp) (a : Addr) : Prop := ∃ x y z : Int, H a = some (.lst [.int x, .int y, .int z])
theorem Drw.ne {H : Hp} {a p : Addr} (d : Drw H a) (n : H p = none) : a ≠ p := by
  obtain ⟨x, y, z, e⟩ := d
  exact ne_of_none e n
theorem Drw.mono {H H' : Hp} {a : Addr} (d : Drw H a) (s : Same H H') : Drw H' a := by
  obtain ⟨x, y, z, e⟩ := d
  exact ⟨x, y, z, s _ _ e⟩
/-- all but the draw at a is as it was, and a draw stands there -/
def Gr (a : Addr) (H H' : Hp) : Prop := (∀ b o, b ≠ a → H b = some o → H' b = some o) ∧ Drw H' a
theorem Gr.trans {a : Addr} {H H1 H2 : Hp} (x : Gr a H H1) (y : Gr a H1 H2) : Gr a H H2 := ⟨fun b o n e => y.1 b o n (x.1 b o n e), y.2⟩
theorem Gr.of {a : Addr} {H H' : Hp} (s : Same H H') (d : Drw H a) : Gr a H H' := ⟨fun b o _ e => s b o e, by
  obtain ⟨x, y, z, e⟩ := d
  exact ⟨x, y, z, s _ _ e⟩⟩
theorem Gr.set {a : Addr} {H : Hp} {x y z : Int} : Gr a H (upd H a (.lst [.int x, .int y, .int z])) := ⟨fun b o n e => by
  rw [upd_ne n]
  exact e, ⟨x, y, z, upd_same⟩⟩
theorem Gr.same {a : Addr} {H0 H H' : Hp} (n : H0 a = none) (s : Same H0 H) (g : Gr a H H') : Same H0 H' := fun b o e => g.1 b o (ne_of_none e n) (s b o e)
/-! ### mathematics -/
theorem nz {j : Int} (h : (j == 0) = false) : j ≠ 0 := by simpa using h
theorem fmod_pos {i j : Int} (h : 0 < j) : 0 ≤ i.fmod j ∧ i.fmod j < j := by
  rw [Int.fmod_eq_emod_of_nonneg i (Int.le_of_lt h)]
  exact ⟨Int.emod_nonneg i (by omega), Int.emod_lt_of_pos i h⟩
/-- a comprehension that changes nothing that stood before, its list told -/
theorem lc_pure {J : It} {n : Nat} {G : Hp → Prop} {Y : Nat → Hp → V → Hp → Prop} (wk : Walk J n G Y) {g : TG} {tt : TT} {te : TE} {vs : List Nat} {σ : L2.St} {H1 : Hp} {D : Addr} {Qd : Hp → Prop} (nD : H1 D = none) (ys : List V) (hn : ys.length = n) (h1000 : n ≤ 100000)
    (hG : ∀ H, Same H1 H → G H)
    (hs : ∀ i x y H H', ys[i]? = some y → Same H1 H → Y i H x H' → g x (wipe σ vs) H' fun σ2 H2 => wipe σ2 vs = wipe σ vs ∧ tt σ2 H2 fun b H3 => b = true ∧ te σ2 H3 fun y' H4 => y' = y ∧ Same H H4)
    (mg : ∀ x σ H Q Q', (∀ σ2 H2, Q σ2 H2 → Q' σ2 H2) → g x σ H Q → g x σ H Q') (mt : ∀ σ H Q Q', (∀ b H2, Q b H2 → Q' b H2) → tt σ H Q → tt σ H Q') (me : ∀ σ H Q Q', (∀ v H2, Q v H2 → Q' v H2) → te σ H Q → te σ H Q')
    (hd : ∀ H, Same H1 H → H D = some (.lst ys) → Qd H) :
    ∃ W : Nat → Nat → Hp → Prop, (∃ m, W 0 m (upd H1 D (.lst []))) ∧ ∀ i m H, W i m H →
      (J.stop i H ∧ Qd H) ∨ (J.go i H ∧ ∃ Nx : Hp → Prop, (∀ H', Nx H' → ∃ m', m' < m ∧ W (i + 1) m' H') ∧ ∀ x H', J.yld i H x H' → g x (wipe σ vs) H' fun σ2 H2 => wipe σ2 vs = wipe σ vs ∧ tt σ2 H2 fun b H3 =>
        if b = true then te σ2 H3 fun y H4 => ∃ acc, H4 D = some (.lst acc) ∧ acc.length < sizeLine ∧ Nx (upd H4 D (.lst (acc ++ [y]))) else Nx H3) := by
  refine lc_it wk (fun i H => Same H1 H ∧ H D = some (.lst (ys.take i))) ⟨same_new nD, upd_same⟩ (fun i H hi p => hG H p.1) (fun i x H H' hi p y => ?_) (fun H p => hd H p.1 (by rw [p.2, ← hn, List.take_length]))
  have hi' : i < ys.length := by omega
  have gy : ys[i]? = some ys[i] := List.getElem?_eq_getElem hi'
  refine mg _ _ _ _ _ (fun σ2 H2 q => ⟨q.1, mt _ _ _ _ (fun b H3 q => ?_) q.2⟩) (hs i x ys[i] H H' gy p.1 y)
  obtain ⟨rfl, q⟩ := q
  refine iteT (me _ _ _ _ (fun v H4 q => ?_) q)
  obtain ⟨rfl, s4⟩ := q
  refine ⟨_, s4 _ _ p.2, Nat.lt_of_le_of_lt (show _ ≤ 100000 by rw [List.length_take]; omega) (by decide), ?_, ?_⟩
  · exact fun b o e => by
      rw [upd_ne (ne_of_none e nD)]
      exact s4 _ _ (p.1 _ _ e)
  · rw [upd_same, List.take_add_one, gy]
    rfl
section
variable {P : Program} {w : World} {K : PySem.W.Frag} {mg : Str → Option Value} {base : Heap}
/-! ### the draw -/
def spTake : Sp := fun vs H Q _ => ∃ (a : Addr) (many : Int), vs = [.ref a, .int many] ∧ Drw H a ∧ 0 < many ∧ many.natAbs < 2 ^ 8000 ∧ ∀ (d : Int) (H' : Hp), 0 ≤ d → d < many → Gr a H H' → Q (.int d) H'
theorem ok_take (T : Tx P K mg) : FnOk P w K mg base CX0 1 T.f_take T.fd_take ["_law_box_here", "_law_many"] spTake := by
  refine T.F_take.ok sc_take (fun vs H Q E h => ?_) (fun cdv A outer s H vs Q E hr h => ?_)
  · obtain ⟨a, b, rfl, _⟩ := h
    rfl
  · obtain ⟨a, many, rfl, ⟨x, y, z, ea⟩, hm, hb, q⟩ := h
    refine ⟨_, (pss_cons (ps_if (pt_cmpR op_gt (pe_ix ix_list (pv 0) pe_int (fun _ _ => rfl)) pe_int (nomark _)) (pss_cons (ps_set (i := 2) sc_take.nd rfl (.inl rfl) (pe_op op_modN (pe_ix ix_list (pv 0) pe_int (fun _ _ => rfl)) (pv 1))) (pss_cons (ps_asg (pe_op op_fdivW (pe_ix ix_list (pv 0) pe_int (fun _ _ => rfl)) (pv 1)) (pg_sub (pv 0) pe_int set_list)) (pss_one (ps_ret (pv 2))))) pss_nil) (pss_cons (ps_asg (pe_op op_add (pe_ix ix_list (pv 0) pe_int (fun _ _ => rfl)) pe_int) (pg_sub (pv 0) pe_int set_list)) (pss_cons (ps_set (i := 3) sc_take.nd rfl (.inl rfl) (pe_op op_modN (pe_op op_mul (pe_op op_add (pe_ix ix_list (pv 0) pe_int (fun _ _ => rfl)) (pe_op op_mul pe_int (pe_ix ix_list (pv 0) pe_int (fun _ _ => rfl)))) pe_int) pe_int)) (pss_cons (ps_asg (pe_op op_add (pe_op op_modN (pe_op op_add (pe_op op_mul (pv 3) pe_int) pe_int) pe_int) pe_int) (pg_sub (pv 0) pe_int set_list)) (pss_one (ps_ret (pe_op op_modN (pe_op op_fdivW (pe_op op_add (pe_op op_mul (pv 3) pe_int) (pe_ix ix_list (pv 0) pe_int (fun _ _ => rfl))) pe_int) (pv 1)))))))), ?_⟩
    have at0 : ∀ {u v t : V}, atI [u, v, t] 0 = some u := fun {u v t} => rfl
    have at1 : ∀ {u v t : V}, atI [u, v, t] 1 = some v := fun {u v t} => rfl
    have at2 : ∀ {u v t : V}, atI [u, v, t] 2 = some t := fun {u v t} => rfl
    refine ⟨.ref a, rfl, a, _, 0, .int x, rfl, rfl, SqL.of ea, at0, _, _, rfl, rfl, _, rfl, ite2 (fun c => ?_) (fun c => ?_)⟩
    · refine ⟨.ref a, rfl, a, _, 0, .int x, rfl, rfl, SqL.of ea, at0, .int many, rfl, _, _, rfl, rfl, by omega, ?_⟩
      refine ⟨.ref a, rfl, a, _, 0, .int x, rfl, rfl, SqL.of ea, at0, .int many, rfl, _, _, rfl, rfl, wide_div hm hb (by decide) (by decide), .ref a, rfl, a, _, 0, 0, rfl, rfl, ea, rfl, ?_⟩
      have f := fmod_pos (i := x) hm
      exact ⟨_, rfl, q _ _ f.1 f.2 Gr.set⟩
    · refine ⟨.ref a, rfl, a, _, 2, .int z, rfl, rfl, SqL.of ea, at2, _, _, rfl, rfl, .ref a, rfl, a, _, 2, 2, rfl, rfl, ea, rfl, ?_⟩
      have e1 : upd H a (.lst ([V.int x, .int y, .int z].set 2 (.int (z + 1)))) a = some (.lst [.int x, .int y, .int (z + 1)]) := upd_same
      refine ⟨.ref a, rfl, a, _, 1, .int y, rfl, rfl, SqL.of e1, at1, .ref a, rfl, a, _, 2, .int (z + 1), rfl, rfl, SqL.of e1, at2, _, _, rfl, rfl, .inl ⟨by decide, by decide⟩, _, _, rfl, rfl, _, _, rfl, rfl, .inr ⟨by decide, by decide⟩, _, _, rfl, rfl, nz rfl, ?_⟩
      refine ⟨_, rfl, _, _, rfl, rfl, .inr ⟨by decide, by decide⟩, _, _, rfl, rfl, _, _, rfl, rfl, nz rfl, _, _, rfl, rfl, .ref a, rfl, a, _, 1, 1, rfl, rfl, e1, rfl, ?_⟩
      refine ⟨_, rfl, _, _, rfl, rfl, .inr ⟨by decide, by decide⟩, .ref a, rfl, a, _, 1, _, rfl, rfl, SqL.of upd_same, at1, _, _, rfl, rfl, _, _, rfl, rfl, ⟨by decide, by decide⟩, .int many, rfl, _, _, rfl, rfl, by omega, ?_⟩
      have f := fun i => fmod_pos (i := i) hm
      refine q _ _ (f _).1 (f _).2 (Gr.trans Gr.set Gr.set)
/-! ### a fresh draw -/
def spBox (K : PySem.W.Frag) : Sp := fun vs H Q _ => ∃ (a : Addr) (ns : List Int) (k : Int), vs = [.ref a, .int k] ∧ SqL K H a (ns.map V.int) ∧ 0 ≤ k ∧ k ≤ 1000 ∧ ∀ (p : Addr) (H' : Hp), H p = none → Same H H' → Drw H' p → Q (.ref p) H'
theorem at_int {ns : List Int} {k : Int} (h0 : 0 ≤ k) (h1 : k < ns.length) : ∃ v, atI (ns.map V.int) k = some (.int v) := by
  have l : k.toNat < ns.length := by omega
  refine ⟨ns[k.toNat], at_of (j := k.toNat) (by omega) ?_⟩
  rw [List.getElem?_map, List.getElem?_eq_getElem l]
  rfl
theorem s0 : 0 ≤ sizeLine := by decide
theorem s1 : 1 ≤ sizeLine := by decide
theorem s2 : 2 ≤ sizeLine := by decide
theorem s3 : 3 ≤ sizeLine := by decide
theorem s4 : 4 ≤ sizeLine := by decide
theorem ix01 {c : Int} {b : Bool} : ∃ v, atI [V.int 0, V.int c] (if b = true then 1 else 0) = some (.int v) := by
  cases b
  · exact ⟨0, rfl⟩
  · exact ⟨c, rfl⟩
theorem new2 {H : Hp} {p p2 : Addr} {o : HO} (h : H p = none) (h2 : upd H p o p2 = none) : H p2 = none := Same.free (same_new h) h2
theorem ok_box (T : Tx P K mg) : FnOk P w K mg base CX0 1 T.f_box T.fd_box ["_law_script", "_law_k"] (spBox K) := by
  refine T.F_box.ok sc_box (fun vs H Q E h => ?_) (fun cdv A outer s H vs Q E hr h => ?_)
  · obtain ⟨a, b, k, rfl, _⟩ := h
    rfl
  · obtain ⟨a, ns, k, rfl, hS, h0, h1, q⟩ := h
    refine ⟨_, (pss_cons (ps_set (i := 2) sc_box.nd rfl (.inl rfl) (pe_op op_add (pe_op op_mul pe_int (pv 1)) pe_int)) (pss_cons (ps_if (pt_cmpR op_lt (pv 1) (pe_callB call_len_seq (by rfl) T.m_len PySem.boot_len (pa_cons (pv 0) pa_nil)) (nomark _)) (pss_one (ps_set (i := 2) sc_box.nd rfl (.inl rfl) (pe_ix ix_list (pv 0) (pv 1) (fun _ _ => rfl)))) (pss_one (ps_if (pt_cmpR op_gt (pe_callB call_len_seq (by rfl) T.m_len PySem.boot_len (pa_cons (pv 0) pa_nil)) pe_int (nomark _)) (pss_one (ps_set (i := 2) sc_box.nd rfl (.inl rfl) (pe_op op_add (pv 2) (pe_op op_mul (pe_op op_modN (pe_ix ix_list (pv 0) (pe_op op_modN (pv 1) (pe_callB call_len_seq (by rfl) T.m_len PySem.boot_len (pa_cons (pv 0) pa_nil))) (fun _ _ => rfl)) pe_int) pe_int)))) pss_nil))) (pss_cons (ps_set (i := 3) sc_box.nd rfl (.inl rfl) (pe_op op_add (pe_op op_modN (pe_op op_add (pe_op op_mul (pe_op op_modN (pv 2) pe_int) pe_int) (pe_op op_mul pe_int (pv 1))) pe_int) pe_int)) (pss_one (ps_ret (pe_lst (pa_cons (pe_ix ix_list (pe_lst (pa_cons pe_int (pa_cons (pv 2) pa_nil))) (pe_callTy call_int1 (by rfl) T.m_int (by decide +kernel) (pa_cons (pe_cmpR op_ge (pv 2) (pe_op op_pow pe_int pe_int) (nomark _)) pa_nil)) (fun _ _ => rfl)) (pa_cons (pv 3) (pa_cons pe_int pa_nil))))))))), ?_⟩
    refine ⟨_, rfl, _, _, rfl, rfl, .inl ⟨by decide, by decide⟩, _, _, rfl, rfl, ?_⟩
    refine ⟨_, rfl, .ref a, rfl, a, _, rfl, .inl hS, _, _, rfl, rfl, _, rfl, ite2 (fun c => ?_) (fun c => ?_)⟩
    rotate_left
    · refine ⟨.ref a, rfl, a, _, rfl, .inl hS, _, _, rfl, rfl, _, rfl, ite2 (fun c2 => ?_) (fun c2 => ?_)⟩
      · have l0 : (0 : Int) < ((ns.map V.int).length : Int) := of_decide_eq_true c2
        have f := fmod_pos (i := k) l0
        obtain ⟨v, hv⟩ := at_int (ns := ns) (k := k.fmod ((ns.map V.int).length : Int)) f.1 (by rw [List.length_map] at f ⊢; exact f.2)
        refine ⟨_, rfl, .ref a, rfl, _, rfl, .ref a, rfl, a, _, rfl, .inl hS, _, _, rfl, rfl, by omega, a, _, _, _, rfl, rfl, hS, hv, _, _, rfl, rfl, nz rfl, _, _, rfl, rfl, .inr ⟨by decide, by decide⟩, _, _, rfl, rfl, ?_⟩
        refine ⟨_, rfl, _, _, rfl, rfl, nz rfl, _, _, rfl, rfl, .inr ⟨by decide, by decide⟩, _, rfl, _, _, rfl, rfl, .inl ⟨by decide, by decide⟩, _, _, rfl, rfl, _, _, rfl, rfl, nz rfl, _, _, rfl, rfl, ?_⟩
        refine ⟨_, rfl, s2, fun p hp => ⟨_, rfl, _, _, rfl, rfl, ⟨by decide, by decide, by decide⟩, _, _, rfl, rfl, .inr ⟨_, rfl, ?_⟩⟩⟩
        obtain ⟨v, hv⟩ := ix01 (c := _) (b := _)
        refine ⟨p, _, _, _, rfl, rfl, SqL.of upd_same, hv, _, rfl, s3, fun p2 hp2 => ?_⟩
        exact q p2 _ (new2 hp hp2) ((same_new hp).trans (same_new hp2)) ⟨_, _, _, upd_same⟩
      · refine ⟨_, rfl, _, _, rfl, rfl, nz rfl, _, _, rfl, rfl, .inr ⟨by decide, by decide⟩, _, rfl, _, _, rfl, rfl, .inl ⟨by decide, by decide⟩, _, _, rfl, rfl, _, _, rfl, rfl, nz rfl, _, _, rfl, rfl, ?_⟩
        refine ⟨_, rfl, s2, fun p hp => ⟨_, rfl, _, _, rfl, rfl, ⟨by decide, by decide, by decide⟩, _, _, rfl, rfl, .inr ⟨_, rfl, ?_⟩⟩⟩
        obtain ⟨v, hv⟩ := ix01 (c := _) (b := _)
        refine ⟨p, _, _, _, rfl, rfl, SqL.of upd_same, hv, _, rfl, s3, fun p2 hp2 => ?_⟩
        exact q p2 _ (new2 hp hp2) ((same_new hp).trans (same_new hp2)) ⟨_, _, _, upd_same⟩
    · have l0 : k < ((ns.map V.int).length : Int) := of_decide_eq_true c
      obtain ⟨v, hv⟩ := at_int (ns := ns) h0 (by rw [List.length_map] at l0; exact l0)
      refine ⟨.ref a, rfl, _, rfl, a, _, _, _, rfl, rfl, hS, hv, ?_⟩
      refine ⟨_, rfl, _, _, rfl, rfl, nz rfl, _, _, rfl, rfl, .inr ⟨by decide, by decide⟩, _, rfl, _, _, rfl, rfl, .inl ⟨by decide, by decide⟩, _, _, rfl, rfl, _, _, rfl, rfl, nz rfl, _, _, rfl, rfl, ?_⟩
      refine ⟨_, rfl, s2, fun p hp => ⟨_, rfl, _, _, rfl, rfl, ⟨by decide, by decide, by decide⟩, _, _, rfl, rfl, .inr ⟨_, rfl, ?_⟩⟩⟩
      obtain ⟨v, hv⟩ := ix01 (c := _) (b := _)
      refine ⟨p, _, _, _, rfl, rfl, SqL.of upd_same, hv, _, rfl, s3, fun p2 hp2 => ?_⟩
      exact q p2 _ (new2 hp hp2) ((same_new hp).trans (same_new hp2)) ⟨_, _, _, upd_same⟩
end

/-! ### names -/
def abc : List Nat := (Str.ofString "abcdefghijklmnopqrstuvwxyz").cps.toList
/-- whether z is a name -/
def nmB (z : Str) : Bool := decide (1 ≤ z.length) && decide (z.length ≤ 6) && !decide (z = Str.ofString "kind") && z.cps.toList.all fun c => decide (c ∈ abc)
theorem nmB_no {z : Str} (h : ¬ (1 ≤ z.length ∧ z.length ≤ 6) ∨ z = Str.ofString "kind") : nmB z = false := by
  unfold nmB
  rcases h with h | h
  · by_cases h1 : 1 ≤ z.length
    · have h2 : ¬ z.length ≤ 6 := fun z => h ⟨h1, z⟩
      simp [h2]
    · simp [h1]
  · simp [h]
theorem nmB_yes {z : Str} (h1 : 1 ≤ z.length) (h2 : z.length ≤ 6) (h3 : z ≠ Str.ofString "kind") : nmB z = z.cps.toList.all fun c => decide (c ∈ abc) := by
  unfold nmB
  simp [h1, h2, h3]
theorem tNext_mono {g : TG} : True := trivial

/-! ### texts as lists of signs -/
def S (cs : List Nat) : Str := ⟨cs.toArray⟩
theorem S_list (cs : List Nat) : (S cs).cps.toList = cs := by simp [S]
theorem S_len (cs : List Nat) : (S cs).length = cs.length := by simp [S, Str.length]
theorem S_eta (z : Str) : S z.cps.toList = z := by
  cases z
  simp [S]
theorem S_inj {a b : List Nat} : S a = S b ↔ a = b := ⟨fun h => by
  have := congrArg (fun z : Str => z.cps.toList) h
  rw [S_list, S_list] at this
  exact this, fun h => by rw [h]⟩
theorem S_add (a b : List Nat) : S a ++ S b = S (a ++ b) := by
  show Str.append (S a) (S b) = S (a ++ b)
  simp [S, Str.append]
theorem S_to (a : List Nat) (k : Nat) : cutS (S a) none (some (k : Int)) = S (a.take k) := by
  unfold cutS
  rw [S_list, S_len, HT.sIx_none, HT.sIx_nat, List.drop_zero, Nat.sub_zero]
  show S (a.take (min k a.length)) = S (a.take k)
  rw [S_inj, List.take_eq_take_iff]
  omega
theorem S_from (a : List Nat) (k : Nat) : cutS (S a) (some (k : Int)) none = S (a.drop k) := by
  unfold cutS
  rw [S_list, S_len, HT.sIx_none, HT.sIx_nat]
  show S ((a.drop (min k a.length)).take (a.length - min k a.length)) = S (a.drop k)
  rw [S_inj, List.take_of_length_le (by rw [List.length_drop]; exact Nat.le_refl _)]
  by_cases h : k ≤ a.length
  · rw [Nat.min_eq_left h]
  · rw [Nat.min_eq_right (by omega), List.drop_eq_nil_of_le (Nat.le_refl _), List.drop_eq_nil_of_le (by omega)]
/-- single signs joined without anything between -/
theorem S_join : ∀ cs : List Nat, Str.join (Str.ofString "") (cs.map fun c => S [c]) = S cs
  | [] => rfl
  | [c] => rfl
  | c :: d :: r => by
    show S [c] ++ Str.ofString "" ++ Str.join (Str.ofString "") ((d :: r).map fun c => S [c]) = S (c :: d :: r)
    rw [S_join (d :: r), show (Str.ofString "" : Str) = S [] from rfl, S_add, S_add]
    rfl
theorem nmB_S {cs : List Nat} : nmB (S cs) = true ↔ 1 ≤ cs.length ∧ cs.length ≤ 6 ∧ S cs ≠ Str.ofString "kind" ∧ ∀ c ∈ cs, c ∈ abc := by
  unfold nmB
  rw [S_len, S_list]
  simp [Bool.and_eq_true, List.all_eq_true]
  constructor
  · rintro ⟨⟨⟨a, b⟩, c⟩, d⟩
    exact ⟨a, b, c, d⟩
  · rintro ⟨a, b, c, d⟩
    exact ⟨⟨⟨a, b⟩, c⟩, d⟩
theorem inV_S {n : List Nat} : ∀ ns : List (List Nat), inV (.str (S n)) (ns.map fun m => V.str (S m)) = decide (n ∈ ns)
  | [] => rfl
  | m :: r => by
    show (eqV (.str (S m)) (.str (S n)) || inV (.str (S n)) (r.map fun m => V.str (S m))) = _
    rw [inV_S r]
    show ((S m == S n) || decide (n ∈ r)) = _
    by_cases h : m = n
    · subst h
      simp
    · have h1 : (S m == S n) = false := by
        rw [beq_eq_false_iff_ne]
        exact fun z => h (S_inj.mp z)
      have h2 : (n ∈ m :: r) ↔ n ∈ r := ⟨fun z => by
        rcases List.mem_cons.mp z with z | z
        · exact absurd z.symm h
        · exact z, fun z => List.mem_cons_of_mem _ z⟩
      rw [h1, Bool.false_or]
      exact decide_eq_decide.mpr h2.symm
/-! ### pigeons -/
theorem nodup_le {α : Type} [DecidableEq α] : ∀ {l m : List α}, l.Nodup → (∀ x ∈ l, x ∈ m) → l.length ≤ m.length
  | [], _, _, _ => Nat.zero_le _
  | a :: l, m, hn, hs => by
    have hn' := List.nodup_cons.mp hn
    have ha : a ∈ m := hs a List.mem_cons_self
    have h1 : l.length ≤ (m.erase a).length := nodup_le hn'.2 fun x hx => (List.mem_erase_of_ne (fun z => hn'.1 (by rw [← z]; exact hx))).mpr (hs x (List.mem_cons_of_mem _ hx))
    have h2 := List.length_erase_of_mem ha
    have h3 : 0 < m.length := List.length_pos_of_mem ha
    rw [List.length_cons]
    omega
def letter (i : Nat) : Nat := abc.getD (i % 26) 0
theorem letter_abc (i : Nat) : letter i ∈ abc := by
  have h : ∀ j : Fin 26, abc.getD j.1 0 ∈ abc := by decide
  exact h ⟨i % 26, Nat.mod_lt _ (by decide)⟩
theorem letter_inj {i j : Nat} (hi : i < 26) (hj : j < 26) (h : letter i = letter j) : i = j := by
  have k : ∀ a b : Fin 26, abc.getD a.1 0 = abc.getD b.1 0 → a = b := by decide
  unfold letter at h
  rw [Nat.mod_eq_of_lt hi, Nat.mod_eq_of_lt hj] at h
  have := k ⟨i, hi⟩ ⟨j, hj⟩ h
  exact congrArg Fin.val this
/-- among the 26 first letters one leads to no name of found and not to kind -/
theorem free_letter (tail : List Nat) (found : List (List Nat)) (hf : found.length ≤ 12) (c : Nat) : ∃ k, k < 26 ∧ (letter (c + k) :: tail) ∉ found ∧ S (letter (c + k) :: tail) ≠ Str.ofString "kind" := by
  apply Classical.byContradiction
  intro hno
  have all : ∀ k, k < 26 → (letter (c + k) :: tail) ∈ (Str.ofString "kind").cps.toList :: found := fun k hk => by
    by_cases h1 : (letter (c + k) :: tail) ∈ found
    · exact List.mem_cons_of_mem _ h1
    · by_cases h2 : S (letter (c + k) :: tail) = Str.ofString "kind"
      · have h3 := congrArg (fun z : Str => z.cps.toList) h2
        rw [S_list] at h3
        rw [h3]
        exact List.mem_cons_self
      · exact absurd ⟨k, hk, h1, h2⟩ hno
  have nd : ((List.range 26).map fun k => letter (c + k) :: tail).Nodup := by
    refine List.pairwise_map.mpr (List.Pairwise.imp_of_mem (fun {i j} hi hj hne h => hne ?_) (List.nodup_range (n := 26)))
    have hi' := List.mem_range.mp hi
    have hj' := List.mem_range.mp hj
    have h1 : letter (c + i) = letter (c + j) := (List.cons.inj h).1
    have h2 : letter ((c + i) % 26) = letter ((c + j) % 26) := by
      unfold letter at h1 ⊢
      rw [Nat.mod_mod, Nat.mod_mod]
      exact h1
    have h3 := letter_inj (Nat.mod_lt _ (by decide)) (Nat.mod_lt _ (by decide)) h2
    omega
  have le := nodup_le nd (m := (Str.ofString "kind").cps.toList :: found) (fun x hx => by
    obtain ⟨k, hk, rfl⟩ := List.mem_map.mp hx
    exact all k (List.mem_range.mp hk))
  rw [List.length_map, List.length_range, List.length_cons] at le
  omega

/-! ### comprehensions that draw -/
theorem lc_draw {a : Addr} {n : Nat} {g : TG} {tt : TT} {te : TE} {vs : List Nat} {σ : L2.St} {H1 : Hp} {D : Addr} {Qd : Hp → Prop} {lo : Int} (nD : H1 D = none) (dr : Drw H1 a) (h1000 : n ≤ 10000) (Pd : V → Prop)
    (hs : ∀ (i : Nat) (H : Hp), i < n → Gr a H1 H → g (.int (lo + i)) (wipe σ vs) H fun σ2 H2 => wipe σ2 vs = wipe σ vs ∧ tt σ2 H2 fun b H3 => b = true ∧ te σ2 H3 fun y H4 => Pd y ∧ Gr a H H4)
    (mg : ∀ x σ H Q Q', (∀ σ2 H2, Q σ2 H2 → Q' σ2 H2) → g x σ H Q → g x σ H Q') (mt : ∀ σ H Q Q', (∀ b H2, Q b H2 → Q' b H2) → tt σ H Q → tt σ H Q') (me : ∀ σ H Q Q', (∀ v H2, Q v H2 → Q' v H2) → te σ H Q → te σ H Q')
    (hd : ∀ (H : Hp) (acc : List V), Gr a H1 H → H D = some (.lst acc) → acc.length = n → (∀ v ∈ acc, Pd v) → Qd H) :
    ∃ W : Nat → Nat → Hp → Prop, (∃ m, W 0 m (upd H1 D (.lst []))) ∧ ∀ i m H, W i m H →
      ((Itr lo n).stop i H ∧ Qd H) ∨ ((Itr lo n).go i H ∧ ∃ Nx : Hp → Prop, (∀ H', Nx H' → ∃ m', m' < m ∧ W (i + 1) m' H') ∧ ∀ x H', (Itr lo n).yld i H x H' → g x (wipe σ vs) H' fun σ2 H2 => wipe σ2 vs = wipe σ vs ∧ tt σ2 H2 fun b H3 =>
        if b = true then te σ2 H3 fun y H4 => ∃ acc, H4 D = some (.lst acc) ∧ acc.length < sizeLine ∧ Nx (upd H4 D (.lst (acc ++ [y]))) else Nx H3) := by
  have naD : a ≠ D := dr.ne nD
  refine lc_range (lo := lo) (n := n) (fun i H => Gr a H1 H ∧ ∃ acc, H D = some (.lst acc) ∧ acc.length = i ∧ ∀ v ∈ acc, Pd v) ⟨Gr.of (same_new nD) dr, [], upd_same, rfl, fun v hv => nomatch hv⟩ (fun i H hi p => ?_) (fun H p => ?_)
  · obtain ⟨gr, acc, eD, hl, hP⟩ := p
    refine mg _ _ _ _ _ (fun σ2 H2 q => ⟨q.1, mt _ _ _ _ (fun b H3 q => ?_) q.2⟩) (hs i H hi gr)
    obtain ⟨rfl, q⟩ := q
    refine iteT (me _ _ _ _ (fun v H4 q => ?_) q)
    obtain ⟨pv, g4⟩ := q
    refine ⟨acc, g4.1 _ _ naD.symm eD, Nat.lt_of_le_of_lt (show acc.length ≤ 10000 by omega) (by decide), ⟨fun b o nb e => ?_, ?_⟩, acc ++ [v], upd_same, by rw [List.length_append, hl]; rfl, fun u hu => ?_⟩
    · rw [upd_ne (ne_of_none e nD)]
      exact g4.1 _ _ nb (gr.1 _ _ nb e)
    · obtain ⟨x, y, z, e⟩ := g4.2
      exact ⟨x, y, z, by rw [upd_ne naD]; exact e⟩
    · rcases List.mem_append.mp hu with hu | hu
      · exact hP u hu
      · cases List.mem_singleton.mp hu
        exact pv
  · obtain ⟨gr, acc, eD, hl, hP⟩ := p
    exact hd H acc gr eD hl hP
/-- a list of single letters -/
theorem signs_of {acc : List V} {C : Nat → Prop} (h : ∀ v ∈ acc, ∃ c, C c ∧ v = .str (S [c])) : ∃ cs : List Nat, acc = (cs.map fun c => S [c]).map V.str ∧ ∀ c ∈ cs, C c := by
  induction acc with
  | nil => exact ⟨[], rfl, fun _ h => nomatch h⟩
  | cons v r ih =>
    obtain ⟨c, hc, rfl⟩ := h v List.mem_cons_self
    obtain ⟨cs, rfl, hcs⟩ := ih fun u hu => h u (List.mem_cons_of_mem _ hu)
    exact ⟨c :: cs, rfl, fun d hd => by
      rcases List.mem_cons.mp hd with rfl | hd
      · exact hc
      · exact hcs d hd⟩
theorem sum_len (cs : List Nat) : ((cs.map fun c => S [c]).map (·.length)).sum = cs.length := by
  induction cs with
  | nil => rfl
  | cons c r ih =>
    show (S [c]).length + ((r.map fun c => S [c]).map (·.length)).sum = r.length + 1
    rw [ih, S_len]
    show 1 + r.length = r.length + 1
    omega
theorem at_ofN {xs : List Nat} {z : Int} {j : Nat} {v : Nat} (e : z = (j : Int)) (h : xs[j]? = some v) : atI xs z = some v := by
  rw [e]
  exact atI_nat h
theorem abc_at {d : Int} (h0 : 0 ≤ d) (h1 : d < 26) : atI (Str.ofString "abcdefghijklmnopqrstuvwxyz").cps.toList d = some (letter d.toNat) := by
  have h : ∀ j : Fin 26, (Str.ofString "abcdefghijklmnopqrstuvwxyz").cps.toList[j.1]? = some (letter j.1) := by decide
  have hd : d.toNat < 26 := by omega
  exact at_ofN (j := d.toNat) (by omega) (h ⟨d.toNat, hd⟩)

section
variable {P : Program} {w : World} {K : PySem.W.Frag} {mg : Str → Option Value} {base : Heap}
/-! ### _law_names -/
def LET : Str := Str.ofString "abcdefghijklmnopqrstuvwxyz"
/-- letters alone, one to six -/
def Lt (n : List Nat) : Prop := 1 ≤ n.length ∧ n.length ≤ 6 ∧ ∀ c ∈ n, c ∈ abc
theorem letter_of {c : Nat} (h : c ∈ abc) : ∃ i, i < 26 ∧ c = letter i := by
  have k : ∀ c ∈ abc, ∃ i : Fin 26, c = letter i.1 := by decide
  obtain ⟨i, e⟩ := k c h
  exact ⟨i.1, i.2, e⟩
theorem occ (i : Nat) (h : i < 26) : Builtin.Str.occurrences LET (S [letter i]) 0 LET.length 1 = [i] := by
  have k : ∀ j : Fin 26, Builtin.Str.occurrences LET (S [letter j.1]) 0 LET.length 1 = [j.1] := by decide +kernel
  exact k ⟨i, h⟩
theorem letter_mod (i : Nat) : letter (i % 26) = letter i := by
  unfold letter
  rw [Nat.mod_mod]
def nmsV (ns : List (List Nat)) : List V := ns.map fun n => V.str (S n)
def spNames : Sp := fun vs H Q _ => ∃ (a : Addr) (many : Int), vs = [.ref a, .int many] ∧ Drw H a ∧ 0 ≤ many ∧ many ≤ 12 ∧
  ∀ (p : Addr) (H' : Hp) (ns : List (List Nat)), H p = none → Gr a H H' → H' p = some (.lst (nmsV ns)) → (ns.length : Int) = many → ns.Nodup → (∀ n ∈ ns, nmB (S n) = true) → Q (.ref p) H'
theorem small_len {n : Nat} (h : n ≤ 1000) : n ≤ sizeLine := Nat.le_trans h (by decide)
theorem nms_flat (ns : List (List Nat)) : (nmsV ns).all flatV = true := by
  unfold nmsV
  simp [List.all_eq_true, flatV]
theorem ok_names (T : Tx P K mg) : FnOk P w K mg base CX0 2 T.f_names T.fd_names ["_law_box_here", "_law_many"] spNames := by
  refine T.F_names.ok sc_names (fun vs H Q E h => ?_) (fun cdv A outer s H vs Q E hr h => ?_)
  · obtain ⟨a, many, rfl, _⟩ := h
    rfl
  · obtain ⟨a, many, rfl, dr, hm0, hm1, q⟩ := h
    refine ⟨_, (pss_cons (ps_set (i := 2) sc_names.nd rfl (.inr rfl) pe_str) (pss_cons (ps_set (i := 4) sc_names.nd rfl (.inl rfl) (pe_join pe_str (pe_lc (own := [("_law_k", 3)]) (by rfl) sc_names.nd (pi_range1 (by rfl) T.m_range (pa_cons (pe_call (ok_take T) (hr.mono (by decide) : Room 1 _) (by rfl) T.g_take T.F_take.kp T.b_take .nil pass0 (pa_cons (pv 0) (pa_cons pe_int pa_nil))) pa_nil)) (blkOk_by (own := [("_law_k", 3)]) (N := ["_law_box_here", "_law_many", "_law_letters", "_law_k", "_law_stem", "_law_found", "_law_form", "_law_at", "_law_name", "_law_j"]) (sc := defScope st_names) (by decide +kernel)) (fun _ _ _ _ _ => (pg_name (i := 3) sc_names.nd rfl (.inl rfl))) (fun _ _ _ _ _ => pts_nil) (fun _ _ _ _ _ => (pe_ix ix_str (pv 2) (pe_call (ok_take T) (hr.mono (by decide) : Room 1 _) (by rfl) T.g_take T.F_take.kp T.b_take .nil pass0 (pa_cons (pv 0) (pa_cons pe_int pa_nil))) (fun _ _ => rfl)))))) (pss_cons (ps_set (i := 5) sc_names.nd rfl (.inl rfl) (pe_lst pa_nil)) (pss_cons (ps_for PassesOwn.never rfl (pi_range1 (by rfl) T.m_range (pa_cons (pv 1) pa_nil)) (pg_name (i := 3) sc_names.nd rfl (.inl rfl)) (pss_cons (ps_par (i := 6) (j := 7) (by rfl) sc_names.nd rfl rfl (by decide) rfl rfl (pa_cons (pe_call (ok_take T) (hr.mono (by decide) : Room 1 _) (by rfl) T.g_take T.F_take.kp T.b_take .nil pass0 (pa_cons (pv 0) (pa_cons pe_int pa_nil))) (pa_cons (pe_call (ok_take T) (hr.mono (by decide) : Room 1 _) (by rfl) T.g_take T.F_take.kp T.b_take .nil pass0 (pa_cons (pv 0) (pa_cons (pe_op op_add (pe_callB call_len_str (by rfl) T.m_len PySem.boot_len (pa_cons (pv 4) pa_nil)) pe_int) pa_nil))) pa_nil)) (by rfl)) (pss_cons (ps_set (i := 8) sc_names.nd rfl (.inl rfl) (pe_join pe_str (pe_lc (own := [("_law_j", 9)]) (by rfl) sc_names.nd (pi_range1 (by rfl) T.m_range (pa_cons (pe_op op_add pe_int (pe_call (ok_take T) (hr.mono (by decide) : Room 1 _) (by rfl) T.g_take T.F_take.kp T.b_take .nil pass0 (pa_cons (pv 0) (pa_cons pe_int pa_nil)))) pa_nil)) (blkOk_by (own := [("_law_j", 9)]) (N := ["_law_box_here", "_law_many", "_law_letters", "_law_k", "_law_stem", "_law_found", "_law_form", "_law_at", "_law_name", "_law_j"]) (sc := defScope st_names) (by decide +kernel)) (fun _ _ _ _ _ => (pg_name (i := 9) sc_names.nd rfl (.inl rfl))) (fun _ _ _ _ _ => pts_nil) (fun _ _ _ _ _ => (pe_ix ix_str (pv 2) (pe_call (ok_take T) (hr.mono (by decide) : Room 1 _) (by rfl) T.g_take T.F_take.kp T.b_take .nil pass0 (pa_cons (pv 0) (pa_cons pe_int pa_nil))) (fun _ _ => rfl)))))) (C8.pss_cut (ps_if (pt_cmpR op_eq (pv 6) pe_int (nomark _)) (pss_one (ps_set (i := 8) sc_names.nd rfl (.inl rfl) (pe_op op_add_str (pe_op op_add_str (pe_slice sl_str (pv 4) po_none (po_some (pv 7))) (pe_ix ix_str (pv 8) pe_int (fun _ _ => rfl))) (pe_slice sl_str (pv 4) (po_some (pv 7)) po_none)))) pss_nil) (C8.pss_cut (ps_if (pt_cmpR op_eq (pv 6) pe_int (nomark _)) (pss_one (ps_set (i := 8) sc_names.nd rfl (.inl rfl) (pe_slice sl_str (pe_op op_add_str (pv 4) (pv 8)) po_none (po_some pe_int)))) pss_nil) (C8.pss_cut (ps_if (pt_cmpR op_eq (pv 6) pe_int (nomark _)) (pss_one (ps_set (i := 8) sc_names.nd rfl (.inl rfl) (pe_ix ix_str (pv 8) pe_int (fun _ _ => rfl)))) pss_nil) (pss_cons (ps_while PassesOwn.never (PW.pt (pw_or (pt_cmpR op_in_seq (pv 8) (pv 5) (by rfl)) (pw_or1 (pt_cmpR op_eq (pv 8) pe_str (nomark _))))) (pss_one (ps_set (i := 8) sc_names.nd rfl (.inl rfl) (pe_op op_add_str (pe_ix ix_str (pv 2) (pe_op op_modN (pe_op op_add (pe_bm PySem.F.plainAttrs_str PySem.F.slot_str_index PySem.F.type_str_index mt_sindex (pv 2) (pa_cons (pe_ix ix_str (pv 8) pe_int (fun _ _ => rfl)) pa_nil)) pe_int) pe_int) (fun _ _ => rfl)) (pe_slice sl_str (pv 8) (po_some pe_int) po_none))))) (pss_one (ps_expr (pe_bm PySem.F.plainAttrs_list PySem.F.slot_list_append PySem.F.type_list_append mt_append (pv 5) (pa_cons (pv 8) pa_nil))))))))))) (pss_one (ps_ret (pv 5))))))), ?_⟩
    -- the stem
    refine ⟨⟨_, rfl⟩, _, rfl, a, 6, rfl, dr, by decide, by decide +kernel, fun t6 H1 t0 t1 g1 => ?_⟩
    refine ⟨t6, rfl, by omega, by omega, fun D nD => ?_⟩
    refine lc_draw (a := a) nD g1.2 (by omega) (fun v => ∃ c, c ∈ abc ∧ v = .str (S [c])) (fun i H2 hi g2 => ?_) (fun x σ H Q Q' f h => f _ _ h) (fun σ H Q Q' f h => f _ _ h) (fun σ H Q Q' f h => ?_) (fun H2 acc g2 e2 hl hP => ?_)
    · refine ⟨rfl, rfl, _, rfl, _, rfl, a, 26, rfl, g2.2, by decide, by decide +kernel, fun d H3 d0 d1 g3 => ?_⟩
      exact ⟨LET, d, _, rfl, rfl, small_len (by decide), abc_at d0 d1, ⟨_, letter_abc _, rfl⟩, g3⟩
    · obtain ⟨v1, e1, v2, e2, a', m', e3, dr', p1, p2, k⟩ := h
      refine ⟨v1, e1, v2, e2, a', m', e3, dr', p1, p2, fun d H3 d0 d1 g3 => ?_⟩
      obtain ⟨z, i, c, f1, f2, f3, f4, f5⟩ := k d H3 d0 d1 g3
      exact ⟨z, i, c, f1, f2, f3, f4, f _ _ f5⟩
    obtain ⟨st, rfl, hst⟩ := signs_of hP
    rw [List.length_map, List.length_map] at hl
    refine ⟨_, D, st.map fun c => S [c], rfl, rfl, .inl (SqL.of e2), ?_, ?_⟩
    · rw [sum_len, List.length_map]
      show st.length + st.length * 0 ≤ 16777216
      omega
    rw [TL.join_eq, S_join]
    have hst5 : st.length ≤ 5 := by omega
    -- found = []
    refine ⟨s0, fun F nF => ?_⟩
    have nFH : H F = none := by
      cases e : H F with
      | none => rfl
      | some o =>
        have naF : F ≠ a := fun z => by
          obtain ⟨x, y, zz, e'⟩ := g2.2
          rw [z, e'] at nF
          cases nF
        rw [g2.1 _ _ naF (g1.1 _ _ naF e)] at nF
        cases nF
    have naF : a ≠ F := g2.2.ne nF
    refine ⟨_, rfl, many, rfl, by omega, by omega, for_range (lo := 0) (n := many.toNat) (fun i σ H' => ∃ (y3 y6 y7 y8 : Option V) (ns : List (List Nat)), σ = [some (.ref a), some (.int many), some (.str LET), y3, some (.str (S st)), some (.ref F), y6, y7, y8, none] ∧ H' F = some (.lst (nmsV ns)) ∧ ns.length = i ∧ ns.Nodup ∧ (∀ n ∈ ns, nmB (S n) = true) ∧ Gr a H H')
      ⟨none, none, none, none, [], rfl, upd_same, rfl, List.Pairwise.nil, (fun n hn => nomatch hn), (g1.trans g2).trans (Gr.of (same_new nF) g2.2)⟩ (fun i σ H' hi hP' => ?_) (fun σ H' hP' => ?_)⟩
    · obtain ⟨y3, y6, y7, y8, ns, rfl, eF, hlen, hnd, hnm, gr⟩ := hP'
      -- form, at
      refine ⟨_, rfl, a, 4, rfl, gr.2, by decide, by decide +kernel, fun fo H3 fo0 fo1 g3 => ?_⟩
      refine ⟨_, rfl, _, rfl, _, rfl, small_len (by rw [S_len]; omega), _, _, rfl, rfl, ?_⟩
      rw [S_len]
      refine ⟨a, _, rfl, g3.2, by omega, ?_, fun at' H4 at0 at1 g4 => ?_⟩
      · exact Nat.lt_of_le_of_lt (show ((st.length : Int) + 1).natAbs ≤ 6 by omega) (by decide +kernel)
      obtain ⟨ka, rfl⟩ : ∃ ka : Nat, at' = (ka : Int) := ⟨at'.toNat, by omega⟩
      refine ⟨_, _, rfl, ?_⟩
      -- the name
      refine ⟨⟨_, rfl⟩, _, rfl, a, 6, rfl, g4.2, by decide, by decide +kernel, fun t7 H5 t70 t71 g5 => ?_⟩
      refine ⟨_, _, rfl, rfl, 1 + t7, rfl, by omega, by omega, fun D2 nD2 => ?_⟩
      refine lc_draw (a := a) nD2 g5.2 (by omega) (fun v => ∃ c, c ∈ abc ∧ v = .str (S [c])) (fun i H2 hi g2 => ?_) (fun x σ H Q Q' f h => f _ _ h) (fun σ H Q Q' f h => f _ _ h) (fun σ H Q Q' f h => ?_) (fun H6 acc g6 e6 hl6 hP6 => ?_)
      · refine ⟨rfl, rfl, _, rfl, _, rfl, a, 26, rfl, g2.2, by decide, by decide +kernel, fun d H3 d0 d1 g3 => ?_⟩
        exact ⟨LET, d, _, rfl, rfl, small_len (by decide), abc_at d0 d1, ⟨_, letter_abc _, rfl⟩, g3⟩
      · obtain ⟨v1, e1, v2, e2, a', m', e3, dr', p1, p2, k⟩ := h
        refine ⟨v1, e1, v2, e2, a', m', e3, dr', p1, p2, fun d H3 d0 d1 g3 => ?_⟩
        obtain ⟨z, i, c, f1, f2, f3, f4, f5⟩ := k d H3 d0 d1 g3
        exact ⟨z, i, c, f1, f2, f3, f4, f _ _ f5⟩
      obtain ⟨nm0, rfl, hnm0⟩ := signs_of hP6
      rw [List.length_map, List.length_map] at hl6
      refine ⟨_, D2, nm0.map fun c => S [c], rfl, rfl, .inl (SqL.of e6), ?_, ?_⟩
      · rw [sum_len, List.length_map]
        show nm0.length + nm0.length * 0 ≤ 16777216
        omega
      rw [TL.join_eq, S_join]
      have hL0 : Lt nm0 := ⟨by omega, by omega, hnm0⟩
      have G6 : Gr a H H6 := gr.trans (g3.trans (g4.trans (g5.trans g6)))
      have eF6 : H6 F = some (.lst (nmsV ns)) := g6.1 _ _ naF.symm (g5.1 _ _ naF.symm (g4.1 _ _ naF.symm (g3.1 _ _ naF.symm eF)))
      obtain ⟨M1, hM1⟩ : ∃ M : L2.St → Hp → Prop, M = fun σ Hx => Hx = H6 ∧ ∃ n, σ = [some (.ref a), some (.int many), some (.str LET), some (.int (0 + (i : Int))), some (.str (S st)), some (.ref F), some (.int fo), some (.int (ka : Int)), some (.str (S n)), none] ∧ Lt n := ⟨_, rfl⟩
      -- form 0
      refine ⟨M1, ?_, fun σ1 Hx h1 => ?_⟩
      · refine ⟨_, rfl, rfl, _, rfl, ite2 (fun c => ?_) (fun c => ?_)⟩
        · obtain ⟨x, r, rfl⟩ : ∃ x r, nm0 = x :: r := by
            cases nm0 with
            | nil => exact absurd hL0.1 (by decide)
            | cons x r => exact ⟨x, r, rfl⟩
          refine ⟨_, rfl, _, rfl, _, rfl, _, rfl, small_len (by rw [S_len]; omega), _, rfl, S (x :: r), 0, x, rfl, rfl, small_len (by rw [S_len]; have := hL0.2.1; omega), atI_nat (j := 0) (by rw [S_list]; rfl), ?_⟩
          rw [S_to]
          refine ⟨_, _, rfl, rfl, small_len (by rw [S_len, List.length_take]; show _ + (S [x]).length ≤ 1000; rw [S_len]; show _ + 1 ≤ 1000; omega), ?_⟩
          refine ⟨_, rfl, _, rfl, _, rfl, _, rfl, small_len (by rw [S_len]; omega), ?_⟩
          rw [S_from, show (⟨#[x]⟩ : Str) = S [x] from rfl, S_add]
          refine ⟨_, _, rfl, rfl, small_len (by rw [S_len, S_len, List.length_append, List.length_take, List.length_drop]; show _ + 1 + _ ≤ 1000; omega), ?_⟩
          show M1 _ _
          rw [hM1, S_add]
          refine ⟨rfl, _, rfl, ?_, ?_, fun d hd => ?_⟩
          · rw [List.length_append, List.length_append]
            show 1 ≤ _ + 1 + _
            omega
          · rw [List.length_append, List.length_append, List.length_take, List.length_drop]
            show _ + 1 + _ ≤ 6
            omega
          · rcases List.mem_append.mp hd with hd | hd
            · rcases List.mem_append.mp hd with hd | hd
              · exact hst d (List.mem_of_mem_take hd)
              · rw [List.mem_singleton.mp hd]
                exact hL0.2.2 x List.mem_cons_self
            · exact hst d (List.mem_of_mem_drop hd)
        · show M1 _ _
          rw [hM1]
          exact ⟨rfl, nm0, rfl, hL0⟩
      rw [hM1] at h1
      obtain ⟨rfl, n1, rfl, hL1⟩ := h1
      -- form 1
      refine ⟨M1, ?_, fun σ1 Hx h1 => ?_⟩
      · refine ⟨_, rfl, rfl, _, rfl, ite2 (fun c => ?_) (fun c => ?_)⟩
        · refine ⟨_, rfl, _, rfl, _, _, rfl, rfl, small_len (by rw [S_len, S_len]; have := hL1.2.1; omega), 6, rfl, _, rfl, small_len (by rw [S_add, S_len, List.length_append]; have := hL1.2.1; omega), ?_⟩
          show M1 _ _
          rw [hM1, S_add, show (some (6 : Int)) = some ((6 : Nat) : Int) from rfl, S_to _ 6]
          refine ⟨rfl, _, rfl, ?_, ?_, fun d hd => ?_⟩
          · rw [List.length_take, List.length_append]
            have := hL1.1
            omega
          · rw [List.length_take]
            omega
          · rcases List.mem_append.mp (List.mem_of_mem_take hd) with hd | hd
            · exact hst d hd
            · exact hL1.2.2 d hd
        · show M1 _ _
          rw [hM1]
          exact ⟨rfl, n1, rfl, hL1⟩
      rw [hM1] at h1
      obtain ⟨rfl, n2, rfl, hL2⟩ := h1
      -- form 2
      refine ⟨M1, ?_, fun σ1 Hx h1 => ?_⟩
      · refine ⟨_, rfl, rfl, _, rfl, ite2 (fun c => ?_) (fun c => ?_)⟩
        · obtain ⟨x, r, rfl⟩ : ∃ x r, n2 = x :: r := by
            cases n2 with
            | nil => exact absurd hL2.1 (by decide)
            | cons x r => exact ⟨x, r, rfl⟩
          refine ⟨_, rfl, S (x :: r), 0, x, rfl, rfl, small_len (by rw [S_len]; have := hL2.2.1; omega), atI_nat (j := 0) (by rw [S_list]; rfl), ?_⟩
          show M1 _ _
          rw [hM1]
          exact ⟨rfl, [x], rfl, Nat.le_refl 1, (by decide : 1 ≤ 6), fun d hd => by rw [List.mem_singleton.mp hd]; exact hL2.2.2 x List.mem_cons_self⟩
        · show M1 _ _
          rw [hM1]
          exact ⟨rfl, n2, rfl, hL2⟩
      rw [hM1] at h1
      obtain ⟨rfl, n3, rfl, hL3⟩ := h1
      clear hM1
      -- until it is new
      obtain ⟨x, tail, rfl⟩ : ∃ x r, n3 = x :: r := by
        cases n3 with
        | nil => exact absurd hL3.1 (by decide)
        | cons x r => exact ⟨x, r, rfl⟩
      obtain ⟨c0, hc0, rfl⟩ := letter_of (hL3.2.2 x List.mem_cons_self)
      have htl : tail.length ≤ 5 := by
        have := hL3.2.1
        rw [List.length_cons] at this
        omega
      have htm : ∀ d ∈ tail, d ∈ abc := fun d hd => hL3.2.2 d (List.mem_cons_of_mem _ hd)
      obtain ⟨k0, hk0, hf1, hf2⟩ := free_letter tail ns (by omega) c0
      have elen : ∀ c, (S (letter c :: tail)).length ≤ sizeLine := fun c => small_len (by rw [S_len, List.length_cons]; omega)
      refine ⟨fun m σ Hy => Hy = Hx ∧ ∃ c, c < 26 ∧ σ = [some (.ref a), some (.int many), some (.str LET), some (.int (0 + (i : Int))), some (.str (S st)), some (.ref F), some (.int fo), some (.int (ka : Int)), some (.str (S (letter c :: tail))), none] ∧ (letter (c + m) :: tail) ∉ ns ∧ S (letter (c + m) :: tail) ≠ Str.ofString "kind",
        ⟨k0, rfl, c0, hc0, rfl, hf1, hf2⟩, fun m σ Hy hW => ?_⟩
      obtain ⟨eHy, c, hc, rfl, hw1, hw2⟩ := hW
      rw [eHy]
      clear eHy
      have body : ∀ (bad : (letter c :: tail) ∈ ns ∨ S (letter c :: tail) = Str.ofString "kind"), ∃ m', m = m' + 1 := fun bad => by
        cases m with
        | zero =>
          rw [Nat.add_zero] at hw1 hw2
          rcases bad with b | b
          · exact absurd b hw1
          · exact absurd b hw2
        | succ m' => exact ⟨m', rfl⟩
      refine ⟨_, rfl, _, rfl, F, _, rfl, .inl (SqL.of eF6), rfl, nms_flat ns, _, rfl, ?_⟩
      rw [show inV (.str (S (letter c :: tail))) (nmsV ns) = decide ((letter c :: tail) ∈ ns) from inV_S ns]
      have turn : ((letter c :: tail) ∈ ns ∨ S (letter c :: tail) = Str.ofString "kind") → ∃ N : L2.St → Hp → Prop, (∀ σ' H', N σ' H' → ∃ m', m' < m ∧ (H' = Hx ∧ ∃ c, c < 26 ∧ σ' = [some (.ref a), some (.int many), some (.str LET), some (.int (0 + (i : Int))), some (.str (S st)), some (.ref F), some (.int fo), some (.int (ka : Int)), some (.str (S (letter c :: tail))), none] ∧ (letter (c + m') :: tail) ∉ ns ∧ S (letter (c + m') :: tail) ≠ Str.ofString "kind")) ∧ N [some (.ref a), some (.int many), some (.str LET), some (.int (0 + (i : Int))), some (.str (S st)), some (.ref F), some (.int fo), some (.int (ka : Int)), some (.str (S (letter ((c + 1) % 26) :: tail))), none] Hx := fun bad => by
        obtain ⟨m', rfl⟩ := body bad
        refine ⟨fun σ' H' => H' = Hx ∧ σ' = [some (.ref a), some (.int many), some (.str LET), some (.int (0 + (i : Int))), some (.str (S st)), some (.ref F), some (.int fo), some (.int (ka : Int)), some (.str (S (letter ((c + 1) % 26) :: tail))), none], fun σ' H' h => ⟨m', Nat.lt_succ_self _, h.1, (c + 1) % 26, Nat.mod_lt _ (by decide), h.2, ?_, ?_⟩, rfl, rfl⟩
        · rw [show letter ((c + 1) % 26 + m') = letter (c + (m' + 1)) by rw [← letter_mod ((c + 1) % 26 + m'), ← letter_mod (c + (m' + 1))]; congr 1; omega]
          exact hw1
        · rw [show letter ((c + 1) % 26 + m') = letter (c + (m' + 1)) by rw [← letter_mod ((c + 1) % 26 + m'), ← letter_mod (c + (m' + 1))]; congr 1; omega]
          exact hw2
      have efm : ((c : Int) + 1).fmod 26 = (((c + 1) % 26 : Nat) : Int) := by
        rw [Int.fmod_eq_emod_of_nonneg _ (by decide)]
        omega
      by_cases hin : (letter c :: tail) ∈ ns
      · rw [decide_eq_true hin]
        obtain ⟨N, hN1, hN2⟩ := turn (.inl hin)
        refine iteT ⟨N, hN1, ?_⟩
        refine ⟨_, rfl, _, rfl, rfl, _, rfl, S (letter c :: tail), 0, letter c, rfl, rfl, elen c, atI_nat (j := 0) (by rw [S_list]; rfl), LET, S [letter c], c, [], rfl, rfl, occ c hc, _, _, rfl, rfl, _, _, rfl, rfl, nz rfl, LET, _, letter ((c + 1) % 26), rfl, rfl, small_len (by decide), ?_, _, rfl, 1, rfl, _, rfl, elen c, ?_⟩
        · rw [efm]
          have z := abc_at (d := (((c + 1) % 26 : Nat) : Int)) (by omega) (by omega)
          exact z
        · rw [show (some (1 : Int)) = some ((1 : Nat) : Int) from rfl, S_from]
          refine ⟨_, _, rfl, rfl, small_len (by show (S [letter ((c + 1) % 26)]).length + _ ≤ 1000; rw [S_len, S_len]; show 1 + tail.length ≤ 1000; omega), ?_⟩
          rw [show (⟨#[letter ((c + 1) % 26)]⟩ : Str) = S [letter ((c + 1) % 26)] from rfl, S_add]
          exact hN2
      · rw [decide_eq_false hin]
        refine iteF ⟨_, rfl, rfl, _, rfl, ?_⟩
        by_cases hk : S (letter c :: tail) = Str.ofString "kind"
        · rw [show decide (V.str (S (letter c :: tail)) = V.str (Str.ofString "kind")) = true by simp [hk]]
          obtain ⟨N, hN1, hN2⟩ := turn (.inr hk)
          refine iteT ⟨N, hN1, ?_⟩
          refine ⟨_, rfl, _, rfl, rfl, _, rfl, S (letter c :: tail), 0, letter c, rfl, rfl, elen c, atI_nat (j := 0) (by rw [S_list]; rfl), LET, S [letter c], c, [], rfl, rfl, occ c hc, _, _, rfl, rfl, _, _, rfl, rfl, nz rfl, LET, _, letter ((c + 1) % 26), rfl, rfl, small_len (by decide), ?_, _, rfl, 1, rfl, _, rfl, elen c, ?_⟩
          · rw [efm]
            have z := abc_at (d := (((c + 1) % 26 : Nat) : Int)) (by omega) (by omega)
            exact z
          · rw [show (some (1 : Int)) = some ((1 : Nat) : Int) from rfl, S_from]
            refine ⟨_, _, rfl, rfl, small_len (by show (S [letter ((c + 1) % 26)]).length + _ ≤ 1000; rw [S_len, S_len]; show 1 + tail.length ≤ 1000; omega), ?_⟩
            rw [show (⟨#[letter ((c + 1) % 26)]⟩ : Str) = S [letter ((c + 1) % 26)] from rfl, S_add]
            exact hN2
        · rw [show decide (V.str (S (letter c :: tail)) = V.str (Str.ofString "kind")) = false by simp [hk]]
          refine iteF ?_
          have hLc : nmB (S (letter c :: tail)) = true := nmB_S.mpr ⟨by rw [List.length_cons]; omega, by rw [List.length_cons]; omega, hk, fun d hd => by
            rcases List.mem_cons.mp hd with rfl | hd
            · exact letter_abc _
            · exact htm d hd⟩
          refine ⟨.ref F, rfl, .inl ⟨rfl, _, SqL.of eF6⟩, _, rfl, F, _, _, rfl, rfl, eF6, ?_, ?_⟩
          · unfold nmsV
            rw [List.length_map]
            exact Nat.lt_of_le_of_lt (show ns.length ≤ 1000 by omega) (by decide)
          · refine ⟨_, _, _, _, ns ++ [letter c :: tail], rfl, ?_, by rw [List.length_append, hlen]; rfl, ?_, ?_, ?_⟩
            · rw [upd_same]
              unfold nmsV
              rw [List.map_append]
              rfl
            · exact List.nodup_append.mpr ⟨hnd, List.pairwise_singleton _ _, fun x hx y hy => by
                rw [List.mem_singleton.mp hy]
                exact fun z => hin (z ▸ hx)⟩
            · intro n hn
              rcases List.mem_append.mp hn with hn | hn
              · exact hnm n hn
              · rw [List.mem_singleton.mp hn]
                exact hLc
            · refine ⟨fun b o nb e => ?_, ?_⟩
              · rw [upd_ne (ne_of_none e nFH)]
                exact G6.1 _ _ nb e
              · obtain ⟨x, y, z, e⟩ := G6.2
                exact ⟨x, y, z, by rw [upd_ne naF]; exact e⟩
    · obtain ⟨y3, y6, y7, y8, ns, rfl, eF, hlen, hnd, hnm, gr⟩ := hP'
      exact ⟨_, rfl, q F H' ns nFH gr eF (by omega) hnd hnm⟩
end

/-! ### data of texts and ints in a list or a tuple, for == -/
def flD : PyData → Bool
  | .none => true | .bool _ => true | .int _ => true | .str x => PyData.strOk x | _ => false
theorem fl_shape {d : PyData} (h : flD d = true) : d.canLay0 = true ∧ d.depth = 0 := by
  cases d with
  | none => exact ⟨rfl, rfl⟩
  | bool b => exact ⟨rfl, rfl⟩
  | int i => exact ⟨rfl, rfl⟩
  | str z => exact ⟨h, rfl⟩
  | list xs => cases h
  | tuple xs => cases h
  | dict xs => cases h
theorem fl_all : ∀ {ds : List PyData}, (∀ d ∈ ds, flD d = true) → PyData.canLayAll0 ds = true ∧ PyData.depthAll ds = 0
  | [], _ => ⟨rfl, rfl⟩
  | d :: r, h => by
    obtain ⟨a, b⟩ := fl_shape (h d List.mem_cons_self)
    obtain ⟨x, y⟩ := fl_all (ds := r) fun z hz => h z (List.mem_cons_of_mem _ hz)
    refine ⟨?_, ?_⟩
    · show (d.canLay0 && PyData.canLayAll0 r) = true
      rw [a, x]
      rfl
    · show max d.depth (PyData.depthAll r) = 0
      rw [b, y]
      rfl
theorem shaped_list {ds : List PyData} (h : ∀ d ∈ ds, flD d = true) : SeqAt.shaped (.list ds) = true := by
  obtain ⟨x, y⟩ := fl_all h
  show ((PyData.list ds).canLay0 && decide ((PyData.list ds).depth ≤ 64)) = true
  rw [show (PyData.list ds).canLay0 = PyData.canLayAll0 ds from rfl, x, show (PyData.list ds).depth = PyData.depthAll ds + 1 from rfl, y]
  rfl
theorem dpAll_strs {K : PySem.W.Frag} {H : Hp} : ∀ zs : List Str, DpAll K H (zs.map V.str) (zs.map PyData.str)
  | [] => .nil
  | z :: r => .cons (.str z) (dpAll_strs r)
theorem eqv_strs : ∀ as bs : List Str, PyData.eqvAll (as.map PyData.str) (bs.map PyData.str) = decide (as = bs)
  | [], [] => rfl
  | [], _ :: _ => rfl
  | _ :: _, [] => rfl
  | a :: r, b :: t => by
    show ((a == b) && PyData.eqvAll (r.map PyData.str) (t.map PyData.str)) = _
    rw [eqv_strs r t]
    by_cases h : a = b
    · subst h
      simp
    · simp [h]
theorem flat_strs {zs : List Str} (h : ∀ z ∈ zs, PyData.strOk z = true) : ∀ d ∈ zs.map PyData.str, flD d = true := fun d hd => by
  obtain ⟨z, hz, rfl⟩ := List.mem_map.mp hd
  exact h z hz
theorem ok_S {cs : List Nat} : PyData.strOk (S cs) = true ↔ ∀ c ∈ cs, c < 0x110000 := by
  unfold PyData.strOk S
  simp
theorem abc_small {c : Nat} (h : c ∈ abc) : c < 0x110000 := by
  have k : ∀ c ∈ abc, c < 0x110000 := by decide
  exact k c h
section
variable {P : Program} {w : World} {K : PySem.W.Frag} {mg : Str → Option Value} {base : Heap}
/-! ### _law_any_text -/
def odd : List Str := ["kind", "kinds", "kin", "Kind", "kindly", "", "a", "abcdef", "abcdefg", "a1", "a b", "aB", "_a", "a ", " a"].map Str.ofString
theorem odd_at {d : Int} (h0 : 0 ≤ d) (h1 : d < 15) : ∃ z : Str, atI (odd.map V.str) d = some (.str z) ∧ z.length ≤ 8 ∧ PyData.strOk z = true := by
  have k : ∀ z ∈ odd, z.length ≤ 8 ∧ PyData.strOk z = true := by decide +kernel
  have hd : d.toNat < odd.length := by
    show d.toNat < 15
    omega
  obtain ⟨l, o⟩ := k odd[d.toNat] (List.getElem_mem hd)
  exact ⟨odd[d.toNat], at_of (j := d.toNat) (by omega) (by rw [List.getElem?_map, List.getElem?_eq_getElem hd]; rfl), l, o⟩
def spText : Sp := fun vs H Q _ => ∃ a : Addr, vs = [.ref a] ∧ Drw H a ∧ ∀ (z : Str) (H' : Hp), z.length ≤ 8 → PyData.strOk z = true → Gr a H H' → Q (.str z) H'
theorem s15 : 15 ≤ sizeLine := by decide
def SG : Str := Str.ofString "abcdefghijklmnopqrstuvwxyzABCXYZ0189 !\"#$&'()*+,-./:;<=>?\x40[\\]^_`{|}~\n"
theorem SG_len : SG.length = 69 := by decide +kernel
theorem SG_small : ∀ c ∈ SG.cps.toList, c < 0x110000 := by decide +kernel
theorem ok_anytext (T : Tx P K mg) : FnOk P w K mg base CX0 2 T.f_anytext T.fd_anytext ["_law_box_here"] spText := by
  refine T.F_anytext.ok sc_anytext (fun vs H Q E h => ?_) (fun cdv A outer s H vs Q E hr h => ?_)
  · obtain ⟨a, rfl, _⟩ := h
    rfl
  · obtain ⟨a, rfl, dr, q⟩ := h
    refine ⟨_, (pss_cons (ps_set (i := 1) sc_anytext.nd rfl (.inl rfl) (pe_lst (pa_cons pe_str (pa_cons pe_str (pa_cons pe_str (pa_cons pe_str (pa_cons pe_str (pa_cons pe_str (pa_cons pe_str (pa_cons pe_str (pa_cons pe_str (pa_cons pe_str (pa_cons pe_str (pa_cons pe_str (pa_cons pe_str (pa_cons pe_str (pa_cons pe_str pa_nil))))))))))))))))) (pss_cons (ps_set (i := 2) sc_anytext.nd rfl (.inr rfl) pe_str) (pss_cons (ps_if (pt_cmpR op_eq (pe_call (ok_take T) (hr.mono (by decide) : Room 1 _) (by rfl) T.g_take T.F_take.kp T.b_take .nil pass0 (pa_cons (pv 0) (pa_cons pe_int pa_nil))) pe_int (nomark _)) (pss_one (ps_ret (pe_ix ix_list (pv 1) (pe_call (ok_take T) (hr.mono (by decide) : Room 1 _) (by rfl) T.g_take T.F_take.kp T.b_take .nil pass0 (pa_cons (pv 0) (pa_cons pe_int pa_nil))) (fun _ _ => rfl)))) pss_nil) (pss_cons (ps_set (i := 3) sc_anytext.nd rfl (.inr rfl) (pe_ix ix_list (pe_lst (pa_cons pe_int (pa_cons (pe_callB call_len_str (by rfl) T.m_len PySem.boot_len (pa_cons (pv 2) pa_nil)) pa_nil))) (pe_callTy call_int1 (by rfl) T.m_int (by decide +kernel) (pa_cons (pe_cmpR op_eq (pe_call (ok_take T) (hr.mono (by decide) : Room 1 _) (by rfl) T.g_take T.F_take.kp T.b_take .nil pass0 (pa_cons (pv 0) (pa_cons pe_int pa_nil))) pe_int (nomark _)) pa_nil)) (fun _ _ => rfl))) (pss_one (ps_ret (pe_join pe_str (pe_lc (own := [("_law_k", 4)]) (by rfl) sc_anytext.nd (pi_range1 (by rfl) T.m_range (pa_cons (pe_call (ok_take T) (hr.mono (by decide) : Room 1 _) (by rfl) T.g_take T.F_take.kp T.b_take .nil pass0 (pa_cons (pv 0) (pa_cons pe_int pa_nil))) pa_nil)) (blkOk_by (own := [("_law_k", 4)]) (N := ["_law_box_here", "_law_some", "_law_signs", "_law_many", "_law_k"]) (sc := defScope st_anytext) (by decide +kernel)) (fun _ _ _ _ _ => (pg_name (i := 4) sc_anytext.nd rfl (.inl rfl))) (fun _ _ _ _ _ => pts_nil) (fun _ _ _ _ _ => (pe_ix ix_str (pv 2) (pe_call (ok_take T) (hr.mono (by decide) : Room 1 _) (by rfl) T.g_take T.F_take.kp T.b_take .nil pass0 (pa_cons (pv 0) (pa_cons (pv 3) pa_nil))) (fun _ _ => rfl))))))))))), ?_⟩
    refine ⟨s15, fun L hL => ?_⟩
    have naL : a ≠ L := dr.ne hL
    refine ⟨_, rfl, a, 3, rfl, dr.mono (same_new hL), by decide, by decide +kernel, fun t3 H1 t30 t31 g1 => ?_⟩
    have G1 : Gr a H H1 := (Gr.of (same_new hL) dr).trans g1
    refine ⟨rfl, _, rfl, ite2 (fun c => ?_) (fun c => ?_)⟩
    · refine ⟨.ref L, rfl, _, rfl, a, 15, rfl, g1.2, by decide, by decide +kernel, fun d H2 d0 d1 g2 => ?_⟩
      obtain ⟨z, hz, lz, oz⟩ := odd_at d0 d1
      exact ⟨L, odd.map V.str, d, _, rfl, rfl, SqL.of (g2.1 _ _ naL.symm (g1.1 _ _ naL.symm upd_same)), hz, q z H2 lz oz (G1.trans g2)⟩
    · refine ⟨_, rfl, _, rfl, small_len (by show SG.length ≤ 1000; rw [SG_len]; decide), s2, fun L2 hL2 => ?_⟩
      refine ⟨_, rfl, a, 3, rfl, g1.2.mono (same_new hL2), by decide, by decide +kernel, fun t4 H2 t40 t41 g2 => ?_⟩
      refine ⟨rfl, .inr ⟨_, rfl, ?_⟩⟩
      have naL2 : a ≠ L2 := g1.2.ne hL2
      obtain ⟨many, hmany, m0, m1⟩ : ∃ many : Int, atI [V.int 26, V.int (SG.length : Int)] (if decide (V.int t4 = V.int 0) = true then 1 else 0) = some (.int many) ∧ 0 < many ∧ many ≤ 69 := by
        cases decide (V.int t4 = V.int 0)
        · exact ⟨26, rfl, by decide, by decide⟩
        · exact ⟨(SG.length : Int), rfl, by rw [SG_len]; decide, by rw [SG_len]; decide⟩
      refine ⟨L2, _, _, _, rfl, rfl, SqL.of (g2.1 _ _ naL2.symm upd_same), hmany, ?_⟩
      have G2 : Gr a H H2 := (G1.trans (Gr.of (same_new hL2) g1.2)).trans g2
      refine ⟨⟨_, rfl⟩, _, rfl, a, 9, rfl, g2.2, by decide, by decide +kernel, fun t9 H3 t90 t91 g3 => ?_⟩
      refine ⟨t9, rfl, by omega, by omega, fun D nD => ?_⟩
      refine lc_draw (a := a) nD g3.2 (by omega) (fun v => ∃ c : Nat, c < 0x110000 ∧ v = .str (S [c])) (fun i H4 hi g4 => ?_) (fun x σ H Q Q' f h => f _ _ h) (fun σ H Q Q' f h => f _ _ h) (fun σ H Q Q' f h => ?_) (fun H4 acc g4 e4 hl hP => ?_)
      · refine ⟨rfl, rfl, _, rfl, _, rfl, _, rfl, a, many, rfl, g4.2, m0, Nat.lt_of_le_of_lt (show many.natAbs ≤ 69 by omega) (by decide +kernel), fun d H5 d0 d1 g5 => ?_⟩
        have hd : d.toNat < SG.cps.toList.length := by
          show d.toNat < SG.cps.toList.length
          rw [show SG.cps.toList.length = SG.length by simp [Str.length], SG_len]
          omega
        exact ⟨SG, d, SG.cps.toList[d.toNat], rfl, rfl, small_len (by rw [SG_len]; decide), at_ofN (j := d.toNat) (by omega) (List.getElem?_eq_getElem hd), ⟨_, SG_small _ (List.getElem_mem hd), rfl⟩, g5⟩
      · obtain ⟨v1, e1, v2, e2, v3, e3', a', m', e3, dr', p1, p2, k⟩ := h
        refine ⟨v1, e1, v2, e2, v3, e3', a', m', e3, dr', p1, p2, fun d H3 d0 d1 g3 => ?_⟩
        obtain ⟨z, i, c, f1, f2, f3, f4, f5⟩ := k d H3 d0 d1 g3
        exact ⟨z, i, c, f1, f2, f3, f4, f _ _ f5⟩
      obtain ⟨cs, rfl, hcs⟩ := signs_of hP
      rw [List.length_map, List.length_map] at hl
      refine ⟨_, D, cs.map fun c => S [c], rfl, rfl, .inl (SqL.of e4), ?_, ?_⟩
      · rw [sum_len, List.length_map]
        show cs.length + cs.length * 0 ≤ 16777216
        omega
      rw [TL.join_eq, S_join]
      exact q _ _ (by rw [S_len]; omega) (ok_S.mpr hcs) ((G2.trans g3).trans g4)
end

/-! ### woods, as they stand in the heap -/
abbrev Nam := List Nat
abbrev Mk := Nam × List Nam
abbrev Wood := List (Nam × List Mk)
/-- tuples stand as they stood -/
def KT (H H' : Hp) : Prop := ∀ p xs, H p = some (.tup xs) → H' p = some (.tup xs)
theorem KT.of {H H' : Hp} (s : Same H H') : KT H H' := fun p xs e => s _ _ e
theorem KT.gr {a : Addr} {H H' : Hp} (d : Drw H a) (g : Gr a H H') : KT H H' := fun p xs e => g.1 _ _ (fun z => by
  obtain ⟨x, y, w, e'⟩ := d
  rw [z, e'] at e
  cases e) e
theorem KT.lst {H : Hp} {p : Addr} {xs ys : List V} (h : H p = some (.lst xs)) : KT H (upd H p (.lst ys)) := fun q zs e => by
  rw [upd_ne (ne_of e h (by intro z; cases z))]
  exact e
theorem KT.trans {H H1 H2 : Hp} (a : KT H H1) (b : KT H1 H2) : KT H H2 := fun p xs e => b _ _ (a _ _ e)
def MkAt (H : Hp) (v : V) (m : Mk) : Prop := ∃ p t, v = .ref p ∧ H p = some (.tup [.str (S m.1), .ref t]) ∧ H t = some (.tup (nmsV m.2))
theorem MkAt.mono {H H' : Hp} {v : V} {m : Mk} (k : KT H H') (h : MkAt H v m) : MkAt H' v m := by
  obtain ⟨p, t, e, h1, h2⟩ := h
  exact ⟨p, t, e, k _ _ h1, k _ _ h2⟩
abbrev MksAt (H : Hp) : List V → List Mk → Prop := Paired (MkAt H)
def KdAt (H : Hp) (v : V) (k : Nam × List Mk) : Prop := ∃ p t vs, v = .ref p ∧ H p = some (.tup [.str (S k.1), .ref t]) ∧ H t = some (.tup vs) ∧ MksAt H vs k.2
theorem KdAt.mono {H H' : Hp} {v : V} {m : Nam × List Mk} (k : KT H H') (h : KdAt H v m) : KdAt H' v m := by
  obtain ⟨p, t, vs, e, h1, h2, h3⟩ := h
  exact ⟨p, t, vs, e, k _ _ h1, k _ _ h2, Paired.mapP h3 fun _ _ z => z.mono k⟩
def WdAt (H : Hp) (p : Addr) (w : Wood) : Prop := ∃ vs, H p = some (.tup vs) ∧ Paired (KdAt H) vs w
theorem WdAt.mono {H H' : Hp} {p : Addr} {w : Wood} (k : KT H H') (h : WdAt H p w) : WdAt H' p w := by
  obtain ⟨vs, h1, h2⟩ := h
  exact ⟨vs, k _ _ h1, Paired.mapP h2 fun _ _ z => z.mono k⟩
/-- all makers, kind by kind -/
def mks (w : Wood) : List Mk := w.flatMap (·.2)
structure Good (w : Wood) : Prop where
  some : 1 ≤ w.length
  few : w.length ≤ 4
  kinds : (w.map (·.1)).Nodup
  kindN : ∀ k ∈ w.map (·.1), nmB (S k) = true
  makers : ((mks w).map (·.1)).Nodup
  makerN : ∀ m ∈ (mks w).map (·.1), nmB (S m) = true
  many : (mks w).length ≤ 12
  parts : ∀ m ∈ mks w, m.2.length ≤ 2 ∧ ∀ q ∈ m.2, q ∈ w.map (·.1)
theorem paired_snoc {α β : Type} {F : α → β → Prop} {x : α} {y : β} : ∀ {xs : List α} {ys : List β}, Paired F xs ys → F x y → Paired F (xs ++ [x]) (ys ++ [y])
  | _, _, .nil, h => .cons h .nil
  | _, _, .cons a b, h => .cons a (paired_snoc b h)
theorem paired_at {α β : Type} {F : α → β → Prop} : ∀ {xs : List α} {ys : List β}, Paired F xs ys → ∀ {i : Nat} {x : α}, xs[i]? = some x → ∃ y, ys[i]? = some y ∧ F x y
  | _, _, .nil, i, x, h => by simp at h
  | _, _, .cons r t, 0, x, h => by
    cases Option.some.inj h
    exact ⟨_, rfl, r⟩
  | _, _, .cons r t, i + 1, x, h => paired_at t h
theorem paired_at2 {α β : Type} {F : α → β → Prop} : ∀ {xs : List α} {ys : List β}, Paired F xs ys → ∀ {i : Nat} {y : β}, ys[i]? = some y → ∃ x, xs[i]? = some x ∧ F x y
  | _, _, .nil, i, x, h => by simp at h
  | _, _, .cons r t, 0, x, h => by
    cases Option.some.inj h
    exact ⟨_, rfl, r⟩
  | _, _, .cons r t, i + 1, x, h => paired_at2 t h
/-- one more at the k-th row -/
theorem perm_set {α : Type} {x : α} : ∀ {ws : List (List α)} {k : Nat} {w : List α}, ws[k]? = some w → ((ws.set k (w ++ [x])).flatten).Perm (ws.flatten ++ [x])
  | [], k, w, h => by simp at h
  | u :: r, 0, w, h => by
    cases Option.some.inj h
    show (u ++ [x] ++ r.flatten).Perm (u ++ r.flatten ++ [x])
    rw [List.append_assoc, List.append_assoc]
    exact List.Perm.append_left u List.perm_append_comm
  | u :: r, k + 1, w, h => by
    show (u ++ (r.set k (w ++ [x])).flatten).Perm (u ++ r.flatten ++ [x])
    rw [List.append_assoc]
    exact List.Perm.append_left u (perm_set h)
/-- the makers' rows: the lists rs, distinct, each with its makers -/
def RowsAt (H : Hp) (rs : List Addr) (ws : List (List Mk)) : Prop := rs.length = ws.length ∧ rs.Nodup ∧ ∀ (k : Nat) (r : Addr) (w : List Mk), rs[k]? = some r → ws[k]? = some w → ∃ vs, H r = some (.lst vs) ∧ MksAt H vs w
theorem RowsAt.mono {H H' : Hp} {rs : List Addr} {ws : List (List Mk)} (k : KT H H') (s : ∀ r ∈ rs, ∀ vs, H r = some (.lst vs) → H' r = some (.lst vs)) (h : RowsAt H rs ws) : RowsAt H' rs ws := ⟨h.1, h.2.1, fun i r w e1 e2 => by
  obtain ⟨vs, a, b⟩ := h.2.2 i r w e1 e2
  exact ⟨vs, s r (List.mem_of_getElem? e1) vs a, Paired.mapP b fun _ _ z => z.mono k⟩⟩
theorem RowsAt.add {H : Hp} {rs : List Addr} {ws : List (List Mk)} {k : Nat} {r : Addr} {w : List Mk} {vs : List V} {v : V} {m : Mk} (h : RowsAt H rs ws) (er : rs[k]? = some r) (ew : ws[k]? = some w) (eH : H r = some (.lst vs)) (hv : MksAt H vs w) (hm : MkAt H v m) :
    RowsAt (upd H r (.lst (vs ++ [v]))) rs (ws.set k (w ++ [m])) := by
  have kt : KT H (upd H r (.lst (vs ++ [v]))) := KT.lst eH
  refine ⟨by rw [List.length_set]; exact h.1, h.2.1, fun j r' w' e1 e2 => ?_⟩
  by_cases hj : j = k
  · subst hj
    rw [er] at e1
    cases Option.some.inj e1
    have hlt : j < ws.length := (List.getElem?_eq_some_iff.mp ew).1
    rw [List.getElem?_set_self hlt] at e2
    cases Option.some.inj e2
    exact ⟨_, upd_same, paired_snoc (Paired.mapP hv fun _ _ z => z.mono kt) (hm.mono kt)⟩
  · rw [List.getElem?_set_ne (Ne.symm hj)] at e2
    obtain ⟨vs', a, b⟩ := h.2.2 j r' w' e1 e2
    have nr : r' ≠ r := fun z => by
      subst z
      exact hj (nd_ix h.2.1 e1 er)
    exact ⟨vs', by rw [upd_ne nr]; exact a, Paired.mapP b fun _ _ z => z.mono kt⟩
section
variable {P : Program} {w : World} {K : PySem.W.Frag} {mg : Str → Option Value} {base : Heap}
/-! ### _law_wood -/
def spWood : Sp := fun vs H Q _ => ∃ (a : Addr) (most : Int), vs = [.ref a, .int most] ∧ Drw H a ∧ 0 < most ∧ most ≤ 12 ∧
  ∀ (p : Addr) (H' : Hp) (wd : Wood), Gr a H H' → WdAt H' p wd → Good wd → Q (.ref p) H'
theorem ixk {d : Int} (h0 : 0 ≤ d) (h1 : d < 6) : ∃ v : Int, atI [V.int 0, V.int 0, V.int 1, V.int 1, V.int 2, V.int 3] d = some (.int v) ∧ 0 ≤ v ∧ v ≤ 3 := by
  have : d = 0 ∨ d = 1 ∨ d = 2 ∨ d = 3 ∨ d = 4 ∨ d = 5 := by omega
  rcases this with rfl | rfl | rfl | rfl | rfl | rfl
  all_goals exact ⟨_, rfl, by decide, by decide⟩
theorem ixp {d : Int} (h0 : 0 ≤ d) (h1 : d < 6) : ∃ v : Int, atI [V.int 0, V.int 0, V.int 1, V.int 1, V.int 2, V.int 2] d = some (.int v) ∧ 0 ≤ v ∧ v ≤ 2 := by
  have : d = 0 ∨ d = 1 ∨ d = 2 ∨ d = 3 ∨ d = 4 ∨ d = 5 := by omega
  rcases this with rfl | rfl | rfl | rfl | rfl | rfl
  all_goals exact ⟨_, rfl, by decide, by decide⟩
theorem s6 : 6 ≤ sizeLine := by decide
theorem nms_at {ns : List Nam} {d : Int} (h0 : 0 ≤ d) (h1 : d < ns.length) : ∃ n ∈ ns, atI (nmsV ns) d = some (.str (S n)) := by
  have l : d.toNat < ns.length := by omega
  refine ⟨ns[d.toNat], List.getElem_mem l, at_of (j := d.toNat) (by omega) ?_⟩
  unfold nmsV
  rw [List.getElem?_map, List.getElem?_eq_getElem l]
  rfl
theorem nms_of {acc : List V} {C : Nam → Prop} (h : ∀ v ∈ acc, ∃ q, C q ∧ v = .str (S q)) : ∃ qs : List Nam, acc = nmsV qs ∧ ∀ q ∈ qs, C q := by
  induction acc with
  | nil => exact ⟨[], rfl, fun _ h => nomatch h⟩
  | cons v r ih =>
    obtain ⟨c, hc, rfl⟩ := h v List.mem_cons_self
    obtain ⟨cs, rfl, hcs⟩ := ih fun u hu => h u (List.mem_cons_of_mem _ hu)
    exact ⟨c :: cs, rfl, fun d hd => by
      rcases List.mem_cons.mp hd with rfl | hd
      · exact hc
      · exact hcs d hd⟩
/-- new there where a draw went on: new before -/
theorem Gr.back {a p : Addr} {H H' : Hp} (d : Drw H' a) (g : Gr a H H') (n : H' p = none) : H p = none := by
  cases e : H p with
  | none => rfl
  | some o =>
    rw [g.1 p o (d.ne n).symm e] at n
    cases n
/-- n new lists -/
theorem lc_news {n : Nat} {lo : Int} {j : Nat} {vs : List Nat} {σ : L2.St} {H1 : Hp} {D : Addr} {Qd : Hp → Prop} (nD : H1 D = none) (hn : n ≤ 10000) (hw : ∀ v : V, wipe ((wipe σ vs).set j (some v)) vs = wipe σ vs)
    (hd : ∀ (H : Hp) (rs : List Addr), rs.length = n → rs.Nodup → (∀ r ∈ rs, H1 r = none ∧ r ≠ D ∧ H r = some (.lst [])) → Same H1 H → H D = some (.lst (rs.map V.ref)) → Qd H) :
    ∃ W : Nat → Nat → Hp → Prop, (∃ m, W 0 m (upd H1 D (.lst []))) ∧ ∀ i m H, W i m H →
      ((Itr lo n).stop i H ∧ Qd H) ∨ ((Itr lo n).go i H ∧ ∃ Nx : Hp → Prop, (∀ H', Nx H' → ∃ m', m' < m ∧ W (i + 1) m' H') ∧ ∀ x H', (Itr lo n).yld i H x H' → (gName j) x (wipe σ vs) H' fun σ2 H2 => wipe σ2 vs = wipe σ vs ∧ tYes σ2 H2 fun b H3 =>
        if b = true then tLst tNil σ2 H3 fun y H4 => ∃ acc, H4 D = some (.lst acc) ∧ acc.length < sizeLine ∧ Nx (upd H4 D (.lst (acc ++ [y]))) else Nx H3) := by
  refine lc_range (lo := lo) (n := n) (fun i H => Same H1 H ∧ ∃ rs : List Addr, rs.length = i ∧ rs.Nodup ∧ (∀ r ∈ rs, H1 r = none ∧ r ≠ D ∧ H r = some (.lst [])) ∧ H D = some (.lst (rs.map V.ref))) ⟨same_new nD, [], rfl, List.Pairwise.nil, (fun _ h => nomatch h), upd_same⟩ (fun i H hi p => ?_) (fun H p => ?_)
  · obtain ⟨s1, rs, hl, hnd, hr, eD⟩ := p
    refine ⟨hw _, ?_⟩
    unfold tYes
    refine iteT ?_
    refine ⟨s0, fun r nr => ⟨rs.map V.ref, ?_, ?_, ?_, rs ++ [r], by rw [List.length_append, hl]; rfl, ?_, ?_, ?_⟩⟩
    · rw [upd_ne (ne_of_none eD nr)]
      exact eD
    · rw [List.length_map]
      exact Nat.lt_of_le_of_lt (show rs.length ≤ 10000 by omega) (by decide)
    · exact fun b o e => by
        rw [upd_ne (ne_of_none e nD), upd_ne (ne_of_none (s1 _ _ e) nr)]
        exact s1 _ _ e
    · refine List.nodup_append.mpr ⟨hnd, List.pairwise_singleton _ _, fun x hx y hy => ?_⟩
      rw [List.mem_singleton.mp hy]
      exact ne_of_none (hr x hx).2.2 nr
    · intro x hx
      rcases List.mem_append.mp hx with hx | hx
      · obtain ⟨x1, x2, x3⟩ := hr x hx
        refine ⟨x1, x2, ?_⟩
        rw [upd_ne x2, upd_ne (ne_of_none x3 nr)]
        exact x3
      · rw [List.mem_singleton.mp hx]
        have : r ≠ D := (ne_of_none eD nr).symm
        exact ⟨Same.free s1 nr, this, by rw [upd_ne this]; exact upd_same⟩
    · rw [upd_same, List.map_append]
      rfl
  · obtain ⟨s1, rs, hl, hnd, hr, eD⟩ := p
    exact hd H rs hl hnd hr s1 eD
theorem ok_wood (T : Tx P K mg) : FnOk P w K mg base CX0 3 T.f_wood T.fd_wood ["_law_box_here", "_law_most"] spWood := by
  refine T.F_wood.ok sc_wood (fun vs H Q E h => ?_) (fun cdv A outer s H vs Q E hr h => ?_)
  · obtain ⟨a, m, rfl, _⟩ := h
    rfl
  · obtain ⟨a, most, rfl, dr, hm0, hm1, q⟩ := h
    refine ⟨_, (pss_cons (ps_asg (pe_tup (pa_cons (pe_call (ok_take T) (hr.mono (by decide) : Room 1 _) (by rfl) T.g_take T.F_take.kp T.b_take .nil pass0 (pa_cons (pv 0) (pa_cons pe_int pa_nil))) (pa_cons (pe_op op_add pe_int (pe_ix ix_list (pe_lst (pa_cons pe_int (pa_cons pe_int (pa_cons pe_int (pa_cons pe_int (pa_cons pe_int (pa_cons pe_int pa_nil))))))) (pe_call (ok_take T) (hr.mono (by decide) : Room 1 _) (by rfl) T.g_take T.F_take.kp T.b_take .nil pass0 (pa_cons (pv 0) (pa_cons pe_int pa_nil))) (fun _ _ => rfl))) pa_nil))) (pg_tup rfl (pgs_cons (pg_name (i := 2) sc_wood.nd rfl (.inl rfl)) (pgs_cons (pg_name (i := 3) sc_wood.nd rfl (.inr rfl)) pgs_nil)))) (pss_cons (ps_asg (pe_tup (pa_cons (pe_call (ok_names T) (hr.mono (by decide) : Room 2 _) (by rfl) T.g_names T.F_names.kp T.b_names .nil pass0 (pa_cons (pv 0) (pa_cons (pv 3) pa_nil))) (pa_cons (pe_call (ok_names T) (hr.mono (by decide) : Room 2 _) (by rfl) T.g_names T.F_names.kp T.b_names .nil pass0 (pa_cons (pv 0) (pa_cons (pe_op op_add pe_int (pe_call (ok_take T) (hr.mono (by decide) : Room 1 _) (by rfl) T.g_take T.F_take.kp T.b_take .nil pass0 (pa_cons (pv 0) (pa_cons (pv 1) pa_nil)))) pa_nil))) pa_nil))) (pg_tup rfl (pgs_cons (pg_name (i := 4) sc_wood.nd rfl (.inr rfl)) (pgs_cons (pg_name (i := 5) sc_wood.nd rfl (.inl rfl)) pgs_nil)))) (pss_cons (ps_setLc (i := 7) (own := [("_law_k", 6)]) (by rfl) sc_wood.nd rfl rfl (sw_true rfl rfl rfl (by decide +kernel)) (pi_range1 (by rfl) T.m_range (pa_cons (pv 3) pa_nil)) (blkOk_by (own := [("_law_k", 6)]) (N := ["_law_box_here", "_law_most", "_law_plain", "_law_many", "_law_kinds", "_law_names_here", "_law_k", "_law_rows", "_law_name", "_law_kind", "_law_wide", "_law_parts", "_law_row", "_law_j"]) (sc := defScope st_wood) (by decide +kernel)) (fun _ _ _ _ _ => (pg_name (i := 6) sc_wood.nd rfl (.inl rfl))) (fun _ _ _ _ _ => pts_nil) (fun _ _ _ _ _ => (pe_lst pa_nil))) (pss_cons (ps_for PassesOwn.never rfl (pi_enum (by rfl) T.m_enumerate (pa_cons (pv 5) pa_nil)) (pg_tup rfl (pgs_cons (pg_name (i := 6) sc_wood.nd rfl (.inl rfl)) (pgs_cons (pg_name (i := 8) sc_wood.nd rfl (.inl rfl)) pgs_nil))) (pss_cons (ps_par (i := 9) (j := 10) (by rfl) sc_wood.nd rfl rfl (by decide) rfl rfl (pa_cons (pe_call (ok_take T) (hr.mono (by decide) : Room 1 _) (by rfl) T.g_take T.F_take.kp T.b_take .nil pass0 (pa_cons (pv 0) (pa_cons (pv 3) pa_nil))) (pa_cons (pe_ix ix_list (pe_lst (pa_cons pe_int (pa_cons pe_int (pa_cons pe_int (pa_cons pe_int (pa_cons pe_int (pa_cons pe_int pa_nil))))))) (pe_call (ok_take T) (hr.mono (by decide) : Room 1 _) (by rfl) T.g_take T.F_take.kp T.b_take .nil pass0 (pa_cons (pv 0) (pa_cons pe_int pa_nil))) (fun _ _ => rfl)) pa_nil)) (by rfl)) (pss_cons (ps_set (i := 11) sc_wood.nd rfl (.inl rfl) (pe_callTy call_tuple_of (by rfl) T.m_tuple (by decide +kernel) (pa_cons (pe_lc (own := [("_law_j", 13)]) (by rfl) sc_wood.nd (pi_range1 (by rfl) T.m_range (pa_cons (pv 10) pa_nil)) (blkOk_by (own := [("_law_j", 13)]) (N := ["_law_box_here", "_law_most", "_law_plain", "_law_many", "_law_kinds", "_law_names_here", "_law_k", "_law_rows", "_law_name", "_law_kind", "_law_wide", "_law_parts", "_law_row", "_law_j"]) (sc := defScope st_wood) (by decide +kernel)) (fun _ _ _ _ _ => (pg_name (i := 13) sc_wood.nd rfl (.inl rfl))) (fun _ _ _ _ _ => pts_nil) (fun _ _ _ _ _ => (pe_ix (KX.ix_listK K) (pv 4) (pe_call (ok_take T) (hr.mono (by decide) : Room 1 _) (by rfl) T.g_take T.F_take.kp T.b_take .nil pass0 (pa_cons (pv 0) (pa_cons (pv 3) pa_nil))) (fun _ _ => rfl)))) pa_nil))) (C8.pss_cut (ps_if (PW.pt (pw_and (pt_cmpR op_gt (pv 2) pe_int (nomark _)) (pw_and1 (pt_cmpR op_lt (pv 6) (pv 3) (nomark _))))) (pss_one (ps_par (i := 9) (j := 11) (by rfl) sc_wood.nd rfl rfl (by decide) rfl rfl (pa_cons (pv 6) (pa_cons (pe_tup pa_nil) pa_nil)) (by rfl))) pss_nil) (pss_one (ps_expr (pe_bm PySem.F.plainAttrs_list PySem.F.slot_list_append PySem.F.type_list_append mt_append (pe_ix ix_list (pv 7) (pv 9) (fun _ _ => rfl)) (pa_cons (pe_tup (pa_cons (pv 8) (pa_cons (pv 11) pa_nil))) pa_nil)))))))) (pss_one (ps_ret (pe_callTy call_tuple_of (by rfl) T.m_tuple (by decide +kernel) (pa_cons (pe_lc (own := [("_law_kind", 9), ("_law_row", 12)]) (by rfl) sc_wood.nd (pi_zip (by rfl) T.m_zip (pa_cons (pv 4) (pa_cons (pv 7) pa_nil))) (blkOk_by (own := [("_law_kind", 9), ("_law_row", 12)]) (N := ["_law_box_here", "_law_most", "_law_plain", "_law_many", "_law_kinds", "_law_names_here", "_law_k", "_law_rows", "_law_name", "_law_kind", "_law_wide", "_law_parts", "_law_row", "_law_j"]) (sc := defScope st_wood) (by decide +kernel)) (fun _ _ _ _ _ => (KX.pg_tupK K (n := 2) rfl (pgs_cons (pg_name (i := 9) sc_wood.nd rfl (.inl rfl)) (pgs_cons (pg_name (i := 12) sc_wood.nd rfl (.inl rfl)) pgs_nil)))) (fun _ _ _ _ _ => pts_nil) (fun _ _ _ _ _ => (pe_tup (pa_cons (pv 9) (pa_cons (pe_callTy (KX.call_tuple_K K) (by rfl) T.m_tuple (by decide +kernel) (pa_cons (pv 12) pa_nil)) pa_nil))))) pa_nil)))))))), ?_⟩
    -- plain, many
    refine ⟨_, rfl, a, 5, rfl, dr, by decide, by decide +kernel, fun pl H1 pl0 pl1 g1 => ?_⟩
    refine ⟨s6, fun L1 nL1 => ?_⟩
    refine ⟨_, rfl, a, 6, rfl, g1.2.mono (same_new nL1), by decide, by decide +kernel, fun d6 H2 d60 d61 g2 => ?_⟩
    obtain ⟨mv, hmv, mv0, mv1⟩ := ixk d60 d61
    have nL1a : L1 ≠ a := (g1.2.ne nL1).symm
    refine ⟨L1, _, _, _, rfl, rfl, SqL.of (g2.1 _ _ nL1a upd_same), hmv, _, _, rfl, rfl, s2, fun t1 nt1 => ?_⟩
    have G2 : Gr a H H2 := (g1.trans (Gr.of (same_new nL1) g1.2)).trans g2
    refine ⟨t1, _, rfl, .inl (.inl upd_same), rfl, _, _, rfl, _, _, rfl, rfl, ?_⟩
    have G3 : Gr a H (upd H2 t1 (.tup [.int pl, .int (1 + mv)])) := G2.trans (Gr.of (same_new nt1) g2.2)
    generalize upd H2 t1 (.tup [.int pl, .int (1 + mv)]) = H3 at G3
    -- kinds, names
    refine ⟨_, rfl, _, rfl, a, 1 + mv, rfl, G3.2, by omega, by omega, fun kd H4 kns nkd g4 ekd klen knd knm => ?_⟩
    refine ⟨_, rfl, _, rfl, _, rfl, a, most, rfl, g4.2, hm0, Nat.lt_of_le_of_lt (show most.natAbs ≤ 12 by omega) (by decide +kernel), fun sv H5 sv0 sv1 g5 => ?_⟩
    refine ⟨_, _, rfl, rfl, a, 1 + sv, rfl, g5.2, by omega, by omega, fun nh H7 nns nnh g7 enh7 nlen nnd nnm => ?_⟩
    refine ⟨s2, fun t2 nt2 => ?_⟩
    refine ⟨t2, _, rfl, .inl (.inl upd_same), rfl, _, _, rfl, _, _, rfl, rfl, ?_⟩
    have nka : kd ≠ a := fun z => by
      obtain ⟨x, y, u, e⟩ := G3.2
      rw [z, e] at nkd
      cases nkd
    have nha : nh ≠ a := fun z => by
      obtain ⟨x, y, u, e⟩ := g5.2
      rw [z, e] at nnh
      cases nnh
    have G7 : Gr a H H7 := ((G3.trans g4).trans g5).trans g7
    have s78 : Same H7 (upd H7 t2 (.tup [.ref kd, .ref nh])) := same_new nt2
    have G8 : Gr a H (upd H7 t2 (.tup [.ref kd, .ref nh])) := G7.trans (Gr.of s78 g7.2)
    have ekd8 : upd H7 t2 (.tup [.ref kd, .ref nh]) kd = some (.lst (nmsV kns)) := s78 _ _ (g7.1 _ _ nka (g5.1 _ _ nka ekd))
    have enh : upd H7 t2 (.tup [.ref kd, .ref nh]) nh = some (.lst (nmsV nns)) := s78 _ _ enh7
    have g8 : Drw (upd H7 t2 (.tup [.ref kd, .ref nh])) a := G8.2
    generalize upd H7 t2 (.tup [.ref kd, .ref nh]) = H8 at G8 ekd8 enh g8
    -- the rows
    refine ⟨_, rfl, 1 + mv, rfl, by omega, by omega, fun R nR => ?_⟩
    refine lc_news nR (by omega) (fun v => rfl) (fun H9 rs rlen rnd rnew s9 eR => ?_)
    have G9 : Gr a H H9 := G8.trans (Gr.of s9 g8)
    have nRH : H R = none := G8.back G8.2 nR
    have nRa : R ≠ a := fun z => by
      obtain ⟨x, y, u, e⟩ := G8.2
      rw [z, e] at nR
      cases nR
    have rH : ∀ r ∈ rs, H r = none ∧ r ≠ a ∧ r ≠ R ∧ r ≠ kd ∧ r ≠ nh := fun r hr => by
      obtain ⟨x1, x2, x3⟩ := rnew r hr
      refine ⟨G8.back G8.2 x1, (G8.2.ne x1).symm, x2, (ne_of_none ekd8 x1).symm, (ne_of_none enh x1).symm⟩
    -- the makers
    refine ⟨_, rfl, nh, nmsV nns, rfl, SqL.of (s9 _ _ enh), for_it (walk_enum (xs := nmsV nns)) (fun i σ H' => ∃ (y7 y9 y10 y11 y12 : Option V) (ws : List (List Mk)), σ = [some (.ref a), some (.int most), some (.int pl), some (.int (1 + mv)), some (.ref kd), some (.ref nh), y7, some (.ref R), y9, y10, y11, y12, none, none] ∧
        Gr a H H' ∧ H' kd = some (.lst (nmsV kns)) ∧ H' nh = some (.lst (nmsV nns)) ∧ H' R = some (.lst (rs.map V.ref)) ∧ RowsAt H' rs ws ∧ (ws.flatten.map (·.1)).Perm (nns.take i) ∧ ∀ m ∈ ws.flatten, m.2.length ≤ 2 ∧ ∀ q ∈ m.2, q ∈ kns)
      ⟨none, none, none, none, none, List.replicate (1 + mv).toNat [], rfl, G9, s9 _ _ ekd8, s9 _ _ enh, eR, ⟨?_, rnd, fun k r w e1 e2 => ?_⟩, ?_, ?_⟩ (fun i σ H' hi p => ?_) (fun i x σ H' H'' hi p y => ?_) (fun σ H' p => ?_)⟩
    · rw [List.length_replicate]
      exact rlen
    · have hr := List.mem_of_getElem? e1
      rw [List.getElem?_replicate] at e2
      split at e2
      · cases Option.some.inj e2
        exact ⟨[], (rnew r hr).2.2, .nil⟩
      · cases e2
    · rw [List.flatten_replicate_nil, List.take_zero]
      exact List.Perm.nil
    · intro m hm
      rw [List.flatten_replicate_nil] at hm
      cases hm
    · obtain ⟨_, _, _, _, _, _, _, _, _, e, _⟩ := p
      exact SqL.of e
    · obtain ⟨y7, y9, y10, y11, y12, ws, rfl, gr, ekd', enh', eR', rows, hper, hpt⟩ := p
      obtain ⟨Tt, xi, xn, rfl, nTt, rfl, exi, exn⟩ := y
      cases Option.some.inj exi
      have hi' : i < nns.length := by
        unfold nmsV at hi
        rw [List.length_map] at hi
        exact hi
      have exn' : xn = .str (S nns[i]) := by
        unfold nmsV at exn
        dsimp only at exn
        rw [List.getElem?_map, List.getElem?_eq_getElem hi'] at exn
        exact (Option.some.inj exn).symm
      subst exn'
      refine ⟨Tt, _, rfl, .inl (.inl upd_same), rfl, _, _, rfl, _, _, rfl, rfl, ?_⟩
      have gT : Gr a H (upd H' Tt (.tup [.int (i : Nat), .str (S nns[i])])) := gr.trans (Gr.of (same_new nTt) gr.2)
      have sT : Same H' (upd H' Tt (.tup [.int (i : Nat), .str (S nns[i])])) := same_new nTt
      generalize upd H' Tt (.tup [.int (i : Nat), .str (S nns[i])]) = Ha at gT sT
      -- kind, wide
      refine ⟨_, rfl, _, rfl, a, 1 + mv, rfl, gT.2, by omega, Nat.lt_of_le_of_lt (show (1 + mv).natAbs ≤ 12 by omega) (by decide +kernel), fun ki Hb ki0 ki1 gb => ?_⟩
      refine ⟨s6, fun L2' nL2 => ?_⟩
      refine ⟨_, rfl, a, 6, rfl, gb.2.mono (same_new nL2), by decide, by decide +kernel, fun d7 Hc d70 d71 gc => ?_⟩
      obtain ⟨wv, hwv, wv0, wv1⟩ := ixp d70 d71
      have nL2a : L2' ≠ a := (gb.2.ne nL2).symm
      refine ⟨L2', _, _, _, rfl, rfl, SqL.of (gc.1 _ _ nL2a upd_same), hwv, _, _, rfl, ?_⟩
      have GC : Gr a Ha Hc := (gb.trans (Gr.of (same_new nL2) gb.2)).trans gc
      have ekdC : Hc kd = some (.lst (nmsV kns)) := GC.1 _ _ nka (sT _ _ ekd')
      -- parts
      refine ⟨_, rfl, wv, rfl, by omega, by omega, fun D nD => ?_⟩
      refine lc_draw (a := a) nD GC.2 (by omega) (fun v => ∃ q, q ∈ kns ∧ v = .str (S q)) (fun j Hj hj gj => ?_) (fun x σ H Q Q' f h => f _ _ h) (fun σ H Q Q' f h => f _ _ h) (fun σ H Q Q' f h => ?_) (fun Hd acc gd eD hl hP => ?_)
      · obtain ⟨x0, y0, z0, e0⟩ := gj.2
        refine ⟨rfl, rfl, _, rfl, _, rfl, _, rfl, a, 1 + mv, rfl, gj.2, by omega, Nat.lt_of_le_of_lt (show (1 + mv).natAbs ≤ 12 by omega) (by decide +kernel), fun d Hk d0 d1 gk => ?_⟩
        obtain ⟨n, hn, en⟩ := nms_at (ns := kns) d0 (by omega)
        exact ⟨kd, _, d, _, rfl, rfl, SqL.of (gk.1 _ _ nka (gj.1 _ _ nka ekdC)), en, ⟨n, hn, rfl⟩, gk⟩
      · obtain ⟨v0, e0, v1, e1, v2, e2, a', m', e3, dr', p1, p2, k⟩ := h
        refine ⟨v0, e0, v1, e1, v2, e2, a', m', e3, dr', p1, p2, fun d H3 d0 d1 g3 => ?_⟩
        obtain ⟨z, i, c, v, f1, f2, f3, f4, f5⟩ := k d H3 d0 d1 g3
        exact ⟨z, i, c, v, f1, f2, f3, f4, f _ _ f5⟩
      obtain ⟨qs, rfl, hqs⟩ := nms_of hP
      have hql : qs.length ≤ 2 := by
        unfold nmsV at hl
        rw [List.length_map] at hl
        omega
      refine ⟨D, _, rfl, .inl ⟨SqL.of eD, fun tp ntp => ?_⟩⟩
      have GE : Gr a H' (upd Hd tp (.tup (nmsV qs))) := ((Gr.of sT gr.2).trans (GC.trans gd)).trans (Gr.of (same_new ntp) gd.2)
      have etp : upd Hd tp (.tup (nmsV qs)) tp = some (.tup (nmsV qs)) := upd_same
      generalize upd Hd tp (.tup (nmsV qs)) = He at GE etp
      obtain ⟨M, hM⟩ : ∃ M : L2.St → Hp → Prop, M = fun σ Hx => ∃ (ki' : Int) (tp' : Addr) (qs' : List Nam), σ = [some (.ref a), some (.int most), some (.int pl), some (.int (1 + mv)), some (.ref kd), some (.ref nh), some (.int (i : Nat)), some (.ref R), some (.str (S nns[i])), some (.int ki'), some (.int wv), some (.ref tp'), none, none] ∧ 0 ≤ ki' ∧ ki' < 1 + mv ∧ Hx tp' = some (.tup (nmsV qs')) ∧ qs'.length ≤ 2 ∧ (∀ q ∈ qs', q ∈ kns) ∧ Gr a H' Hx := ⟨_, rfl⟩
      refine ⟨M, ?_, fun σ1 Hx h1 => ?_⟩
      · refine ⟨_, rfl, _, _, rfl, rfl, _, rfl, ite2 (fun c => ?_) (fun c => ?_)⟩
        · refine ⟨_, rfl, _, rfl, _, _, rfl, rfl, _, rfl, ite2 (fun c => ?_) (fun c => ?_)⟩
          · refine ⟨_, rfl, s0, fun t0 nt0 => ⟨_, _, rfl, ?_⟩⟩
            show M _ _
            rw [hM]
            exact ⟨_, t0, [], rfl, by omega, of_decide_eq_true c, upd_same, by decide, (fun _ h => nomatch h), GE.trans (Gr.of (same_new nt0) GE.2)⟩
          · show M _ _
            rw [hM]
            exact ⟨ki, tp, qs, rfl, ki0, ki1, etp, hql, hqs, GE⟩
        · show M _ _
          rw [hM]
          exact ⟨ki, tp, qs, rfl, ki0, ki1, etp, hql, hqs, GE⟩
      rw [hM] at h1
      obtain ⟨k1, tp1, qs1, rfl, k10, k11, etp1, hql1, hqs1, gx⟩ := h1
      clear hM M
      have eRx : Hx R = some (.lst (rs.map V.ref)) := gx.1 _ _ nRa eR'
      have hk1 : k1.toNat < rs.length := by omega
      have eat : atI (rs.map V.ref) k1 = some (.ref rs[k1.toNat]) := at_of (j := k1.toNat) (by omega) (by rw [List.getElem?_map, List.getElem?_eq_getElem hk1]; rfl)
      have hrm : rs[k1.toNat] ∈ rs := List.getElem_mem hk1
      obtain ⟨r1, r2, r3, r4, r5⟩ := rH _ hrm
      have ktx : KT H' Hx := KT.gr gr.2 gx
      have rowsx : RowsAt Hx rs ws := rows.mono ktx fun r hr vs e => gx.1 _ _ (rH r hr).2.1 e
      have hkw : k1.toNat < ws.length := by rw [← rows.1]; exact hk1
      obtain ⟨vs, evs, hvs⟩ := rowsx.2.2 k1.toNat rs[k1.toNat] ws[k1.toNat] (List.getElem?_eq_getElem hk1) (List.getElem?_eq_getElem hkw)
      refine ⟨_, rfl, _, rfl, R, _, k1, _, rfl, rfl, SqL.of eRx, eat, .inl ⟨rfl, _, SqL.of evs⟩, ?_⟩
      refine ⟨_, rfl, _, rfl, s2, fun tm ntm => ?_⟩
      have sM : Same Hx (upd Hx tm (.tup [.str (S nns[i]), .ref tp1])) := same_new ntm
      have em : upd Hx tm (.tup [.str (S nns[i]), .ref tp1]) tm = some (.tup [.str (S nns[i]), .ref tp1]) := upd_same
      generalize upd Hx tm (.tup [.str (S nns[i]), .ref tp1]) = Hm at sM em
      have hfl : ws.flatten.length = i := by
        have := hper.length_eq
        rw [List.length_map, List.length_take] at this
        omega
      have ewk : ws[k1.toNat]? = some ws[k1.toNat] := List.getElem?_eq_getElem hkw
      have hvl : vs.length ≤ 12 := by
        rw [hvs.length]
        have : (ws[k1.toNat]).length ≤ ws.flatten.length := (List.sublist_flatten_of_mem (List.getElem_mem hkw)).length_le
        omega
      refine ⟨rs[k1.toNat], _, _, rfl, rfl, sM _ _ evs, Nat.lt_of_le_of_lt hvl (by decide), ?_⟩
      have rowsm : RowsAt Hm rs ws := rowsx.mono (KT.of sM) fun r hr vs e => sM _ _ e
      have hmk : MkAt Hm (.ref tm) (nns[i], qs1) := ⟨tm, tp1, rfl, em, sM _ _ etp1⟩
      refine ⟨_, _, _, _, _, ws.set k1.toNat (ws[k1.toNat] ++ [(nns[i], qs1)]), rfl, ?_, ?_, ?_, ?_, rowsm.add (List.getElem?_eq_getElem hk1) ewk (sM _ _ evs) (Paired.mapP hvs fun _ _ z => z.mono (KT.of sM)) hmk, ?_, ?_⟩
      · have gm := (gr.trans gx).trans (Gr.of sM gx.2)
        refine ⟨fun b o nb e => ?_, ?_⟩
        · rw [upd_ne (ne_of_none e r1)]
          exact gm.1 _ _ nb e
        · obtain ⟨x, y, z, e⟩ := gm.2
          exact ⟨x, y, z, by rw [upd_ne r2.symm]; exact e⟩
      · rw [upd_ne r4.symm]
        exact sM _ _ (gx.1 _ _ nka ekd')
      · rw [upd_ne r5.symm]
        exact sM _ _ (gx.1 _ _ nha enh')
      · rw [upd_ne r3.symm]
        exact sM _ _ eRx
      · have p1 := (perm_set (x := (nns[i], qs1)) ewk).map (·.1)
        refine p1.trans ?_
        rw [List.map_append, List.take_add_one, List.getElem?_eq_getElem hi']
        exact List.Perm.append_right _ hper
      · intro m hm
        have := (perm_set (x := (nns[i], qs1)) ewk).mem_iff.mp hm
        rcases List.mem_append.mp this with h | h
        · exact hpt m h
        · rw [List.mem_singleton.mp h]
          exact ⟨hql1, hqs1⟩
    · obtain ⟨y7, y9, y10, y11, y12, ws, rfl, gr, ekd', enh', eR', rows, hper, hpt⟩ := p
      have hnl : (nmsV nns).length = nns.length := by
        unfold nmsV
        rw [List.length_map]
      rw [hnl, List.take_length] at hper
      have hkw : kns.length = ws.length := by
        have := rows.1
        omega
      have ezf : (kns.zip ws).map (·.1) = kns := List.map_fst_zip (Nat.le_of_eq hkw)
      have ezs : (kns.zip ws).map (·.2) = ws := List.map_snd_zip (Nat.le_of_eq hkw.symm)
      have emk : mks (kns.zip ws) = ws.flatten := by
        unfold mks
        rw [List.flatMap_def, ezs]
      have hzl : (kns.zip ws).length = kns.length := by
        rw [List.length_zip]
        omega
      have hgood : Good (kns.zip ws) := ⟨by omega, by omega, by rw [ezf]; exact knd, by rw [ezf]; exact knm, by rw [emk]; exact hper.nodup_iff.mpr nnd, by rw [emk]; exact fun m hm => nnm m (hper.mem_iff.mp hm), by
          rw [emk]
          have := hper.length_eq
          rw [List.length_map] at this
          omega, by rw [emk, ezf]; exact hpt⟩
      refine ⟨_, rfl, _, rfl, kd, R, _, _, rfl, SqL.of ekd', SqL.of eR', fun D nD => ?_⟩
      refine lc_it (walk_zip (n := kns.length) (xs := nmsV kns) (ys := rs.map V.ref) (by unfold nmsV; rw [List.length_map, List.length_map]; omega)) (fun i Hx => Same H' Hx ∧ ∃ acc, Hx D = some (.lst acc) ∧ Paired (KdAt Hx) acc ((kns.zip ws).take i)) ⟨same_new nD, [], upd_same, by rw [List.take_zero]; exact .nil⟩ (fun i Hx hi p => ⟨SqL.of (p.1 _ _ ekd'), SqL.of (p.1 _ _ eR')⟩) (fun i x Hx Hy hi p y => ?_) (fun Hx p => ?_)
      · obtain ⟨sx, acc, eD, hac⟩ := p
        obtain ⟨Tt, xk, xr, rfl, nTt, rfl, exk, exr⟩ := y
        have hir : i < rs.length := by omega
        have hiw : i < ws.length := by omega
        have exk' : xk = .str (S kns[i]) := by
          unfold nmsV at exk
          dsimp only at exk
          rw [List.getElem?_map, List.getElem?_eq_getElem hi] at exk
          exact (Option.some.inj exk).symm
        have exr' : xr = .ref rs[i] := by
          dsimp only at exr
          rw [List.getElem?_map, List.getElem?_eq_getElem hir] at exr
          exact (Option.some.inj exr).symm
        subst exk' exr'
        refine ⟨Tt, _, rfl, .inl (.inl upd_same), rfl, _, _, rfl, _, _, rfl, rfl, rfl, ?_⟩
        have sT : Same Hx (upd Hx Tt (.tup [.str (S kns[i]), .ref rs[i]])) := same_new nTt
        generalize upd Hx Tt (.tup [.str (S kns[i]), .ref rs[i]]) = Ha at sT
        obtain ⟨vs, evs, hvs⟩ := rows.2.2 i rs[i] ws[i] (List.getElem?_eq_getElem hir) (List.getElem?_eq_getElem hiw)
        unfold tYes
        refine iteT ?_
        refine ⟨_, rfl, _, rfl, rs[i], vs, rfl, .inl ⟨SqL.of (sT _ _ (sx _ _ evs)), fun tr ntr => ⟨s2, fun tk ntk => ?_⟩⟩⟩
        have s3' : Same Hx (upd (upd Ha tr (.tup vs)) tk (.tup [.str (S kns[i]), .ref tr])) := (sT.trans (same_new ntr)).trans (same_new ntk)
        have etr : upd (upd Ha tr (.tup vs)) tk (.tup [.str (S kns[i]), .ref tr]) tr = some (.tup vs) := (same_new ntk) _ _ upd_same
        have etk : upd (upd Ha tr (.tup vs)) tk (.tup [.str (S kns[i]), .ref tr]) tk = some (.tup [.str (S kns[i]), .ref tr]) := upd_same
        generalize upd (upd Ha tr (.tup vs)) tk (.tup [.str (S kns[i]), .ref tr]) = Hb at s3' etr etk
        refine ⟨acc, s3' _ _ eD, ?_, ?_, acc ++ [.ref tk], upd_same, ?_⟩
        · rw [hac.length, List.length_take]
          exact Nat.lt_of_le_of_lt (show _ ≤ 1000 by omega) (by decide)
        · exact fun b o e => by
            rw [upd_ne (ne_of_none e nD)]
            exact s3' _ _ (sx _ _ e)
        · have kt : KT Hb (upd Hb D (.lst (acc ++ [.ref tk]))) := KT.lst (s3' _ _ eD)
          rw [List.take_add_one, List.getElem?_eq_getElem (show i < (kns.zip ws).length by omega), List.getElem_zip]
          refine paired_snoc (Paired.mapP hac fun _ _ z => (z.mono (KT.of s3')).mono kt) ⟨tk, tr, vs, rfl, kt _ _ etk, kt _ _ etr, Paired.mapP hvs fun _ _ z => (z.mono (KT.of (sx.trans s3'))).mono kt⟩
      · obtain ⟨sx, acc, eD, hac⟩ := p
        rw [← hzl, List.take_length] at hac
        refine ⟨D, acc, rfl, .inl ⟨SqL.of eD, fun p np => ?_⟩⟩
        refine q p _ (kns.zip ws) ((gr.trans (Gr.of sx gr.2)).trans (Gr.of (same_new np) (gr.2.mono sx))) ⟨acc, upd_same, Paired.mapP hac fun _ _ z => z.mono (KT.of (same_new np))⟩ hgood
end

theorem nm_short {n : Nam} (h : nmB (S n) = true) : (S n).length ≤ 10000 := by
  have := (nmB_S.mp h).2.1
  rw [S_len]
  omega
theorem nodup_take {α : Type} {l : List α} {i : Nat} {x : α} (h : l.Nodup) (e : l[i]? = some x) : x ∉ l.take i := fun hm => by
  obtain ⟨j, hj, ej⟩ := List.getElem_of_mem hm
  rw [List.length_take] at hj
  rw [List.getElem_take] at ej
  have := nd_ix h (i := j) (j := i) (x := x) (by rw [List.getElem?_eq_getElem (by omega), ej]) e
  omega
theorem walk_it {J : It} {n : Nat} {G : Hp → Prop} {Y : Nat → Hp → V → Hp → Prop} (wk : Walk J n G Y) {step : V → Hp → (Hp → Prop) → Prop} {Hs : Hp} {Qd : Hp → Prop} (Pv : Nat → Hp → Prop) (h0 : Pv 0 Hs) (hG : ∀ i H, i ≤ n → Pv i H → G H)
    (hs : ∀ i x H H', i < n → Pv i H → Y i H x H' → step x H' (Pv (i + 1))) (hd : ∀ H, Pv n H → Qd H) :
    ∃ W : Nat → Nat → Hp → Prop, (∃ m, W 0 m Hs) ∧ ∀ i m H, W i m H →
      (J.stop i H ∧ Qd H) ∨ (J.go i H ∧ ∃ Nx : Hp → Prop, (∀ H', Nx H' → ∃ m', m' < m ∧ W (i + 1) m' H') ∧ ∀ x H', J.yld i H x H' → step x H' Nx) := by
  refine ⟨fun i m H => m = n - i ∧ i ≤ n ∧ Pv i H, ⟨n, by simp, Nat.zero_le _, h0⟩, ?_⟩
  rintro i m H ⟨rfl, hi, p⟩
  have q := hG i H hi p
  by_cases hlt : i < n
  · exact .inr ⟨wk.goes i H hlt q, Pv (i + 1), fun H' p' => ⟨n - (i + 1), by omega, rfl, hlt, p'⟩, fun x H' y => hs i x H H' hlt p (wk.yields i H x H' hlt q y)⟩
  · have e : i = n := by omega
    subst e
    exact .inl ⟨wk.stops H q, hd H p⟩
theorem mks_take {wd : Wood} {i : Nat} {k : Nam × List Mk} (e : wd[i]? = some k) : mks (wd.take (i + 1)) = mks (wd.take i) ++ k.2 := by
  unfold mks
  rw [List.take_add_one, e, List.flatMap_append]
  simp
theorem mks_le {wd : Wood} {i : Nat} : (mks (wd.take i)).length ≤ (mks wd).length := by
  have h := congrArg (fun l => (mks l).length) (List.take_append_drop i wd)
  unfold mks at h ⊢
  rw [List.flatMap_append, List.length_append] at h
  omega

/-! ### the table of makers -/
theorem walk_enumT {K : PySem.W.Frag} {a : Addr} {xs : List V} : Walk (EnT.IteT K a xs.length) xs.length (fun H => SqT K H a xs) (YPair (fun i => some (.int (i : Nat))) (fun i => xs[i]?)) := by
  refine ⟨fun i H hi q => ⟨xs, xs[i], q, rfl, List.getElem?_eq_getElem hi⟩, fun H q => ⟨xs, q, rfl, Nat.le_refl _⟩, fun i H v H' hi q y => ?_⟩
  obtain ⟨T, x, rfl, nT, rfl, fx⟩ := y
  exact ⟨T, _, x, rfl, nT, rfl, rfl, fx xs q⟩
abbrev Ky (n : Nam) : Key := .inr (S n)
theorem Ky_inj {a b : Nam} (h : Ky a = Ky b) : a = b := S_inj.mp (Sum.inr.inj h)
/-- the numbers of the kinds -/
def nums : Nat → List Nam → List (Key × V)
  | _, [] => []
  | i, n :: r => (Ky n, .int (i : Nat)) :: nums (i + 1) r
theorem nums_len : ∀ {i : Nat} {ks : List Nam}, (nums i ks).length = ks.length
  | _, [] => rfl
  | i, n :: r => by
    show (nums (i + 1) r).length + 1 = r.length + 1
    rw [nums_len]
theorem nums_val {q : Nam} : ∀ {i : Nat} {ks : List Nam}, valV (nums i ks) (Ky q) = if q ∈ ks then some (.int ((i + ks.idxOf q : Nat) : Int)) else none
  | _, [] => rfl
  | i, n :: r => by
    show valV ((Ky n, .int (i : Nat)) :: nums (i + 1) r) (Ky q) = _
    by_cases h : n = q
    · subst h
      rw [valV_pos rfl, if_pos List.mem_cons_self, List.idxOf_cons_self]
      rfl
    · rw [valV_neg (fun z => h (Ky_inj z)), nums_val]
      by_cases hq : q ∈ r
      · rw [if_pos hq, if_pos (List.mem_cons_of_mem _ hq)] 
        have : (n :: r).idxOf q = r.idxOf q + 1 := by
          rw [List.idxOf_cons, show (n == q) = false from beq_false_of_ne h]
          rfl
        rw [this]
        congr 2
        omega
      · rw [if_neg hq, if_neg (fun z => by
          rcases List.mem_cons.mp z with z | z
          · exact h z.symm
          · exact hq z)]
theorem nums_snoc {q : Nam} : ∀ {i : Nat} {ks : List Nam}, nums i (ks ++ [q]) = nums i ks ++ [(Ky q, .int ((i + ks.length : Nat) : Int))]
  | _, [] => rfl
  | i, n :: r => by
    show (Ky n, V.int (i : Nat)) :: nums (i + 1) (r ++ [q]) = (Ky n, .int (i : Nat)) :: (nums (i + 1) r ++ [(Ky q, .int ((i + (r.length + 1) : Nat) : Int))])
    rw [nums_snoc, show i + 1 + r.length = i + (r.length + 1) by omega]
theorem putK_new {kvs : List (Key × V)} {k : Key} {v : V} (h : valV kvs k = none) : putK kvs k v = kvs ++ [(k, v)] := by
  unfold putK
  rw [valV_any, h]
  rfl
/-- the makers with their kinds' numbers -/
def ents (ks : List Nam) (w : Wood) : List (Mk × Nat) := w.flatMap fun k => k.2.map fun m => (m, ks.idxOf k.1)
theorem ents_take {ks : List Nam} {wd : Wood} {i : Nat} {k : Nam × List Mk} (e : wd[i]? = some k) : ents ks (wd.take (i + 1)) = ents ks (wd.take i) ++ k.2.map fun m => (m, ks.idxOf k.1) := by
  unfold ents
  rw [List.take_add_one, e, List.flatMap_append]
  simp
theorem ents_fst {ks : List Nam} {w : Wood} : (ents ks w).map (·.1) = mks w := by
  unfold ents mks
  rw [List.map_flatMap]
  congr 1
  funext k
  rw [List.map_map]
  exact List.map_id' _
def prts (ks : List Nam) (ps : List Nam) : List V := ps.map fun q => .int ((ks.idxOf q : Nat) : Int)
def RowAt (H : Hp) (ks : List Nam) (kv : Key × V) (e : Mk × Nat) : Prop := ∃ t u, kv = (Ky e.1.1, .ref t) ∧ H t = some (.tup [.int (e.2 : Nat), .ref u]) ∧ H u = some (.tup (prts ks e.1.2))
theorem RowAt.mono {H H' : Hp} {ks : List Nam} {kv : Key × V} {e : Mk × Nat} (k : KT H H') (h : RowAt H ks kv e) : RowAt H' ks kv e := by
  obtain ⟨t, u, e1, h1, h2⟩ := h
  exact ⟨t, u, e1, k _ _ h1, k _ _ h2⟩
theorem row_none {H : Hp} {ks : List Nam} {n : Nam} : ∀ {kvs : List (Key × V)} {es : List (Mk × Nat)}, Paired (RowAt H ks) kvs es → n ∉ es.map (·.1.1) → valV kvs (Ky n) = none
  | _, _, .nil, _ => rfl
  | _, _, .cons r t, hn => by
    obtain ⟨a, b, rfl, _, _⟩ := r
    rw [valV_neg (fun z => hn (by
      rw [List.map_cons, ← Ky_inj z]
      exact List.mem_cons_self))]
    exact row_none t fun z => hn (List.mem_cons_of_mem _ z)
theorem row_some {H : Hp} {ks : List Nam} : ∀ {kvs : List (Key × V)} {es : List (Mk × Nat)}, Paired (RowAt H ks) kvs es → (es.map (·.1.1)).Nodup → ∀ e ∈ es, ∃ t u, valV kvs (Ky e.1.1) = some (.ref t) ∧ H t = some (.tup [.int (e.2 : Nat), .ref u]) ∧ H u = some (.tup (prts ks e.1.2))
  | _, _, .nil, _, e, he => nomatch he
  | _, _, .cons r t, hn, e, he => by
    obtain ⟨a, b, rfl, h1, h2⟩ := r
    rcases List.mem_cons.mp he with rfl | he
    · exact ⟨a, b, valV_pos rfl, h1, h2⟩
    · have hn' := List.nodup_cons.mp hn
      rw [valV_neg (fun z => hn'.1 (by
        dsimp only
        rw [Ky_inj z]
        exact List.mem_map.mpr ⟨e, he, rfl⟩))]
      exact row_some t hn'.2 e he
theorem row_keys {H : Hp} {ks : List Nam} : ∀ {kvs : List (Key × V)} {es : List (Mk × Nat)}, Paired (RowAt H ks) kvs es → kvs.map (fun kv => kV kv.1) = nmsV (es.map (·.1.1))
  | _, _, .nil => rfl
  | _, _, .cons r t => by
    obtain ⟨a, b, rfl, _, _⟩ := r
    have := row_keys t
    unfold nmsV at this ⊢
    rw [List.map_cons, List.map_cons, List.map_cons, this]
    rfl
theorem KT.dict {H : Hp} {p : Addr} {xs ys : List (Key × V)} (h : H p = some (.dK xs)) : KT H (upd H p (.dK ys)) := fun q zs e => by
  rw [upd_ne (ne_of e h (by intro z; cases z))]
  exact e
/-- a maker's name is not ahead of it -/
theorem new_name {wd : Wood} {i j : Nat} {k : Nam × List Mk} {m : Mk} (hn : ((mks wd).map (·.1)).Nodup) (e : wd[i]? = some k) (em : k.2[j]? = some m) : m.1 ∉ (mks (wd.take i) ++ k.2.take j).map (·.1) := by
  have h : ((mks (wd.take (i + 1))).map (·.1)).Nodup := by
    have hs : ((mks (wd.take (i + 1))).map (·.1)).Sublist ((mks wd).map (·.1)) := by
      refine List.Sublist.map _ ?_
      have h := congrArg mks (List.take_append_drop (i + 1) wd)
      unfold mks at h ⊢
      rw [List.flatMap_append] at h
      rw [← h]
      exact List.sublist_append_left _ _
    exact hn.sublist hs
  rw [mks_take e] at h
  have e2 : ((mks (wd.take i) ++ k.2).map (·.1))[(mks (wd.take i)).length + j]? = some m.1 := by
    rw [List.getElem?_map, List.getElem?_append_right (Nat.le_add_right _ _), Nat.add_sub_cancel_left, em]
    rfl
  have := nodup_take h e2
  rw [← List.map_take, List.take_append, List.take_of_length_le (Nat.le_add_right _ _), Nat.add_sub_cancel_left] at this
  exact this
section
variable {P : Program} {w : World} {K : PySem.W.Frag} {mg : Str → Option Value} {base : Heap}
abbrev kds (wd : Wood) : List Nam := wd.map (·.1)
def spTab : Sp := fun vs H Q _ => ∃ (p : Addr) (wd : Wood), vs = [.ref p] ∧ WdAt H p wd ∧ Good wd ∧ ∀ (l : Addr) (H' : Hp) (kvs : List (Key × V)), H l = none → Same H H' → H' l = some (.dK kvs) → Paired (RowAt H' (kds wd)) kvs (ents (kds wd) wd) → Q (.ref l) H'
theorem ok_table (T : Tx P K mg) : FnOk P w K mg base CX0 1 T.f_table T.fd_table ["wood"] spTab := by
  refine T.F_table.ok sc_table (fun vs H Q E h => ?_) (fun cdv A outer s H vs Q E hr h => ?_)
  · obtain ⟨a, b, rfl, _⟩ := h
    rfl
  · obtain ⟨p, wd, rfl, ⟨vs, ep, hw⟩, good, q⟩ := h
    refine ⟨_, (pss_cons (ps_set (i := 3) sc_table.nd rfl (.inr rfl) (pe_dc (own := [("number", 7), ("name", 1), ("makers", 2)]) (by rfl) sc_table.nd (EnT.pi_enumT (by rfl) T.m_enumerate (pa_cons (pv 0) pa_nil)) (blkOk_by (own := [("number", 7), ("name", 1), ("makers", 2)]) (N := ["wood", "name", "makers", "numbers", "table", "kind", "parts", "number", "part"]) (sc := defScope st_table) (by decide +kernel)) (fun _ _ _ _ _ => (KX.pg_tupK K (n := 2) rfl (pgs_cons (pg_name (i := 7) sc_table.nd rfl (.inl rfl)) (pgs_cons (KX.pg_tupK K (n := 2) rfl (pgs_cons (pg_name (i := 1) sc_table.nd rfl (.inl rfl)) (pgs_cons (pg_name (i := 2) sc_table.nd rfl (.inl rfl)) pgs_nil))) pgs_nil)))) (fun _ _ _ _ _ => pts_nil) (fun _ _ _ _ _ => (pv 1)) (fun _ _ _ _ _ => (pv 7)))) (pss_cons (ps_set (i := 4) sc_table.nd rfl (.inl rfl) pe_dnewK) (pss_cons (ps_for PassesOwn.never rfl (pi_tup (pv 0)) (pg_tup rfl (pgs_cons (pg_name (i := 5) sc_table.nd rfl (.inl rfl)) (pgs_cons (pg_name (i := 2) sc_table.nd rfl (.inl rfl)) pgs_nil))) (pss_one (ps_for PassesOwn.never rfl (pi_tup (pv 2)) (pg_tup rfl (pgs_cons (pg_name (i := 1) sc_table.nd rfl (.inl rfl)) (pgs_cons (pg_name (i := 6) sc_table.nd rfl (.inl rfl)) pgs_nil))) (pss_one (ps_dput (KX.hu hr) (pv 4) (pv 1) (pe_tup (pa_cons (pe_dget (KX.hu hr) (pv 3) (pv 5) (fun _ _ => rfl)) (pa_cons (pe_callTy call_tuple_of (by rfl) T.m_tuple (by decide +kernel) (pa_cons (pe_lc (own := [("part", 8)]) (by rfl) sc_table.nd (pi_tup (pv 6)) (blkOk_by (own := [("part", 8)]) (N := ["wood", "name", "makers", "numbers", "table", "kind", "parts", "number", "part"]) (sc := defScope st_table) (by decide +kernel)) (fun _ _ _ _ _ => (pg_name (i := 8) sc_table.nd rfl (.inl rfl))) (fun _ _ _ _ _ => pts_nil) (fun _ _ _ _ _ => (pe_dget (KX.hu hr) (pv 3) (pv 8) (fun _ _ => rfl)))) pa_nil)) pa_nil))) (by rfl)))))) (pss_one (ps_ret (pv 4)))))), ?_⟩
    have hkl : (kds wd).length = wd.length := List.length_map _
    -- the kinds' numbers
    refine ⟨_, rfl, p, vs, rfl, .inl (.inl ep), fun N nN => ?_⟩
    refine walk_it (walk_enumT (xs := vs)) (fun i Hx => Same H Hx ∧ Hx N = some (.dK (nums 0 ((kds wd).take i)))) ⟨same_new nN, upd_same⟩ (fun i Hx hi P => .inl (.inl (P.1 _ _ ep))) (fun i x Hx Hy hi P y => ?_) (fun Hx P => ?_)
    · obtain ⟨sx, eN⟩ := P
      obtain ⟨Tt, xi, xn, rfl, nTt, rfl, exi, exn⟩ := y
      cases Option.some.inj exi
      obtain ⟨⟨nm, ms⟩, enm, tk, tt, mvs, rfl, etk, ett, hms⟩ := paired_at hw exn
      have emap : (kds wd)[i]? = some nm := by
        rw [List.getElem?_map, enm]
        rfl
      have sT := same_new (o := .tup [.int (i : Nat), .ref tk]) nTt
      refine ⟨Tt, _, rfl, .inl (.inl upd_same), rfl, _, _, rfl, _, _, rfl, tk, _, rfl, .inl (.inl (sT _ _ (sx _ _ etk))), rfl, _, _, rfl, _, _, rfl, rfl, rfl, rfl, ?_⟩
      unfold tYes
      refine iteT ?_
      refine ⟨_, rfl, _, rfl, _, Ky nm, rfl, sT _ _ eN, ?_, fun b o e => ?_, ?_⟩
      · rw [nums_len, List.length_take]
        exact Nat.lt_of_le_of_lt (show _ ≤ 1000 by have := good.few; omega) (by decide)
      · rw [upd_ne (ne_of_none e nN)]
        exact sT _ _ (sx _ _ e)
      · have hil : i < (kds wd).length := (List.getElem?_eq_some_iff.mp emap).1
        rw [upd_same, putK_new (by rw [nums_val, if_neg (nodup_take good.kinds emap)]), List.take_add_one, emap]
        show _ = some (HO.dK (nums 0 ((kds wd).take i ++ [nm])))
        rw [nums_snoc, List.length_take, Nat.min_eq_left (by omega), Nat.zero_add]
    · obtain ⟨sx, eN⟩ := P
      rw [hw.length, ← hkl, List.take_length] at eN
      -- the table
      intro Tb nTb
      have nTbH : H Tb = none := Same.free sx nTb
      refine ⟨_, rfl, p, rfl, ⟨vs, .inl (.inl ((same_new nTb) _ _ (sx _ _ ep)))⟩, for_it (walk_tup (xs := vs)) (fun i σ H' => ∃ (y1 y2 y5 y6 : Option V) (kvs : List (Key × V)), σ = [some (.ref p), y1, y2, some (.ref N), some (.ref Tb), y5, y6, none, none] ∧ Same Hx H' ∧ H' Tb = some (.dK kvs) ∧ Paired (RowAt H' (kds wd)) kvs (ents (kds wd) (wd.take i)))
        ⟨none, none, none, none, [], rfl, same_new nTb, upd_same, .nil⟩ (fun i σ H' hi P => ?_) (fun i x σ H' H'' hi P y => ?_) (fun σ H' P => ?_)⟩
      · obtain ⟨_, _, _, _, _, _, s1, _⟩ := P
        exact .inl (.inl (s1 _ _ (sx _ _ ep)))
      · obtain ⟨y1, y2, y5, y6, kvs, rfl, s1, eT, hkv⟩ := P
        obtain ⟨rfl, ex⟩ := y
        obtain ⟨⟨nm, ms⟩, enm, tk, tt, mvs, rfl, etk, ett, hms⟩ := paired_at hw ex
        have emap : (kds wd)[i]? = some nm := by
          rw [List.getElem?_map, enm]
          rfl
        have hkm := List.mem_of_getElem? emap
        refine ⟨tk, _, rfl, .inl (.inl (s1 _ _ (sx _ _ etk))), rfl, _, _, rfl, _, _, rfl, rfl, ?_⟩
        refine ⟨_, rfl, tt, rfl, ⟨mvs, .inl (.inl (s1 _ _ (sx _ _ ett)))⟩, for_it (walk_tup (xs := mvs)) (fun j σ H' => ∃ (y1 y6 : Option V) (kvs : List (Key × V)), σ = [some (.ref p), y1, some (.ref tt), some (.ref N), some (.ref Tb), some (.str (S nm)), y6, none, none] ∧ Same Hx H' ∧ H' Tb = some (.dK kvs) ∧ Paired (RowAt H' (kds wd)) kvs (ents (kds wd) (wd.take i) ++ (ms.take j).map fun m => (m, (kds wd).idxOf nm)))
          ⟨y1, y6, kvs, rfl, s1, eT, by rw [List.take_zero, List.map_nil, List.append_nil]; exact hkv⟩ (fun j σ H' hj P => ?_) (fun j x σ H' H'' hj P y => ?_) (fun σ H' P => ?_)⟩
        · obtain ⟨_, _, _, _, s2, _⟩ := P
          exact .inl (.inl (s2 _ _ (sx _ _ ett)))
        · obtain ⟨y1, y6, kvs, rfl, s2, eT, hkv⟩ := P
          obtain ⟨rfl, ex'⟩ := y
          obtain ⟨⟨mn, ps⟩, emk, mk, mt, rfl, emk1, emt⟩ := paired_at hms ex'
          have hmem : (mn, ps) ∈ mks wd := by
            unfold mks
            exact List.mem_flatMap.mpr ⟨_, List.mem_of_getElem? enm, List.mem_of_getElem? emk⟩
          obtain ⟨hp2, hpk⟩ := good.parts _ hmem
          dsimp only at hp2 hpk
          refine ⟨mk, _, rfl, .inl (.inl (s2 _ _ (sx _ _ emk1))), rfl, _, _, rfl, _, _, rfl, rfl, ?_⟩
          have eN2 := s2 _ _ eN
          have emt2 := s2 _ _ (sx _ _ emt)
          have hpl : (nmsV ps).length = ps.length := by
            unfold nmsV
            rw [List.length_map]
          have dg : ∀ {Hq : Hp} {x : Nam}, Hq N = some (.dK (nums 0 (kds wd))) → x ∈ kds wd → DGet Hq N (.str (S x)) (some (.int (((kds wd).idxOf x : Nat) : Int))) := fun {Hq x} e hx => by
            have := DGet.k (k := Ky x) e
            rw [nums_val, if_pos hx, Nat.zero_add] at this
            exact this
          refine ⟨_, rfl, _, rfl, N, _, rfl, dg eN2 hkm, ?_⟩
          refine ⟨_, rfl, mt, rfl, ⟨_, .inl (.inl emt2)⟩, fun D nD => ?_⟩
          refine lc_pure (walk_tup (xs := nmsV ps)) nD (prts (kds wd) ps) (by unfold prts; rw [List.length_map, hpl]) (by rw [hpl]; omega) (fun Hq sq => .inl (.inl (sq _ _ emt2))) (fun j x y H3 H4 hy s3 hY => ?_) (fun x σ H Q Q' f h => f _ _ h) (fun σ H Q Q' f h => f _ _ h) (fun σ H Q Q' f h => ?_) (fun H3 s3 e3 => ?_)
          · obtain ⟨rfl, ex⟩ := hY
            unfold nmsV at ex
            unfold prts at hy
            rw [List.getElem?_map] at ex hy
            cases epj : ps[j]? with
            | none =>
              rw [epj] at ex
              cases ex
            | some pj =>
              rw [epj] at ex hy
              cases Option.some.inj ex
              cases Option.some.inj hy
              exact ⟨rfl, rfl, _, rfl, _, rfl, N, _, rfl, dg (s3 _ _ eN2) (hpk pj (List.mem_of_getElem? epj)), rfl, Same.refl _⟩
          · obtain ⟨v1, e1, v2, e2, z1, z2, z3, z4, z5⟩ := h
            exact ⟨v1, e1, v2, e2, z1, z2, z3, z4, f _ _ z5⟩
          refine ⟨D, _, rfl, .inl ⟨SqL.of e3, fun u nu => ?_⟩⟩
          refine ⟨B08.s2, fun t nt => ?_⟩
          have s4 : Same H'' (upd (upd H3 u (.tup (prts (kds wd) ps))) t (.tup [.int (((kds wd).idxOf nm : Nat) : Int), .ref u])) := (s3.trans (same_new nu)).trans (same_new nt)
          have eu : upd (upd H3 u (.tup (prts (kds wd) ps))) t (.tup [.int (((kds wd).idxOf nm : Nat) : Int), .ref u]) u = some (.tup (prts (kds wd) ps)) := (same_new nt) _ _ upd_same
          have et : upd (upd H3 u (.tup (prts (kds wd) ps))) t (.tup [.int (((kds wd).idxOf nm : Nat) : Int), .ref u]) t = some (.tup [.int (((kds wd).idxOf nm : Nat) : Int), .ref u]) := upd_same
          generalize upd (upd H3 u (.tup (prts (kds wd) ps))) t (.tup [.int (((kds wd).idxOf nm : Nat) : Int), .ref u]) = H5 at s4 eu et
          have eT5 := s4 _ _ eT
          have hnew : valV kvs (Ky mn) = none := by
            refine row_none hkv ?_
            have := new_name good.makers enm emk
            rw [List.map_append, List.map_map]
            rw [List.map_append, ← ents_fst (ks := kds wd), List.map_map] at this
            exact this
          have hkl5 : kvs.length ≤ 12 := by
            have h1 := mks_le (wd := wd) (i := i + 1)
            rw [mks_take enm, List.length_append] at h1
            dsimp only at h1
            have h2 := good.many
            rw [hkv.length, List.length_append, List.length_map, List.length_take, show (ents (kds wd) (wd.take i)).length = (mks (wd.take i)).length by rw [← ents_fst (ks := kds wd), List.length_map]]
            omega
          refine ⟨_, rfl, _, rfl, Tb, _, rfl, DPut.k (k := Ky mn) eT5 (Nat.lt_of_le_of_lt hkl5 (by decide)), ?_⟩
          rw [putK_new hnew]
          refine ⟨_, _, kvs ++ [(Ky mn, .ref t)], rfl, fun b o e => ?_, upd_same, ?_⟩
          · rw [upd_ne (ne_of_none e nTb)]
            exact s4 _ _ (s2 _ _ e)
          · have kt : KT H5 (upd H5 Tb (.dK (kvs ++ [(Ky mn, .ref t)]))) := KT.dict eT5
            rw [List.take_add_one, emk]
            show Paired _ _ (ents (kds wd) (wd.take i) ++ List.map _ (ms.take j ++ [(mn, ps)]))
            rw [List.map_append, ← List.append_assoc]
            exact paired_snoc (Paired.mapP hkv fun _ _ z => (z.mono (KT.of s4)).mono kt) ⟨t, u, rfl, kt _ _ et, kt _ _ eu⟩
        · obtain ⟨y1, y6, kvs, rfl, s2, eT, hkv⟩ := P
          refine ⟨_, _, _, _, kvs, rfl, s2, eT, ?_⟩
          rw [ents_take enm]
          rw [hms.length, List.take_length] at hkv
          exact hkv
      · obtain ⟨y1, y2, y5, y6, kvs, rfl, s1, eT, hkv⟩ := P
        rw [hw.length, List.take_length] at hkv
        exact ⟨_, rfl, q Tb H' kvs nTbH (sx.trans s1) eT hkv⟩
end

/-! ### what the law holds against -/
def SC_mk : Scope := { kind := ScopeKind.function, names := [(Str.ofString ".0", NameKind.local), (Str.ofString "_law_maker", NameKind.local), (Str.ofString "_law_parts", NameKind.local), (Str.ofString "tuple", NameKind.globalImplicit), (Str.ofString "_law_kind", NameKind.cell), (Str.ofString "_law_kinds", NameKind.cell)], isGenerator := false, isCoroutine := false }
section
variable {P : Program} {w : World} {K : PySem.W.Frag} {mg : Str → Option Value} {base : Heap}
def DueAt (H : Hp) (ks : List Nam) (v : V) (e : Mk × Nat) : Prop := ∃ t u, v = .ref t ∧ H t = some (.tup [.str (S e.1.1), .int (e.2 : Nat), .ref u]) ∧ H u = some (.tup (prts ks e.1.2))
theorem DueAt.mono {H H' : Hp} {ks : List Nam} {v : V} {e : Mk × Nat} (k : KT H H') (h : DueAt H ks v e) : DueAt H' ks v e := by
  obtain ⟨t, u, e1, h1, h2⟩ := h
  exact ⟨t, u, e1, k _ _ h1, k _ _ h2⟩
def spDue : Sp := fun vs H Q _ => ∃ (p : Addr) (wd : Wood), vs = [.ref p] ∧ WdAt H p wd ∧ Good wd ∧ ∀ (l : Addr) (H' : Hp) (ds : List V), H l = none → Same H H' → H' l = some (.lst ds) → Paired (DueAt H' (kds wd)) ds (ents (kds wd) wd) → Q (.ref l) H'
theorem paired_append {α β : Type} {F : α → β → Prop} {xs' : List α} {ys' : List β} (h' : Paired F xs' ys') : ∀ {xs : List α} {ys : List β}, Paired F xs ys → Paired F (xs ++ xs') (ys ++ ys')
  | _, _, .nil => h'
  | _, _, .cons a b => .cons a (paired_append h' b)
theorem idx_at {q : Nam} : ∀ {ks : List Nam}, q ∈ ks → ks[ks.idxOf q]? = some q ∧ ∀ m x, m < ks.idxOf q → ks[m]? = some x → x ≠ q
  | [], h => nomatch h
  | n :: r, h => by
    by_cases e : n = q
    · subst e
      rw [List.idxOf_cons_self]
      exact ⟨rfl, fun m x hm => absurd hm (Nat.not_lt_zero _)⟩
    · have h' : q ∈ r := by
        rcases List.mem_cons.mp h with z | z
        · exact absurd z.symm e
        · exact z
      obtain ⟨i1, i2⟩ := idx_at h'
      have : (n :: r).idxOf q = r.idxOf q + 1 := by
        rw [List.idxOf_cons, show (n == q) = false from beq_false_of_ne e]
        rfl
      rw [this]
      refine ⟨i1, fun m x hm hx => ?_⟩
      cases m with
      | zero =>
        cases Option.some.inj hx
        exact e
      | succ m => exact i2 m x (by omega) hx
theorem idx_of {ks : List Nam} {i : Nat} {q : Nam} (hn : ks.Nodup) (h : ks[i]? = some q) : ks.idxOf q = i := nd_ix hn (idx_at (List.mem_of_getElem? h)).1 h
theorem eqV_str {a b : Str} : eqV (.str a) (.str b) = decide (a = b) := by
  unfold eqV
  by_cases h : a = b
  · subst h
    simp
  · simp [h]
theorem nms_ix {ks : List Nam} {m : Nat} {z : V} (h : (nmsV ks)[m]? = some z) : ∃ x, ks[m]? = some x ∧ z = .str (S x) := by
  unfold nmsV at h
  rw [List.getElem?_map] at h
  cases e : ks[m]? with
  | none =>
    rw [e] at h
    cases h
  | some x =>
    rw [e] at h
    exact ⟨x, rfl, (Option.some.inj h).symm⟩
theorem ok_lmakers (T : Tx P K mg) : FnOk P w K mg base CX0 1 T.f_lmakers T.fd_lmakers ["_law_wood_here"] spDue := by
  refine T.F_lmakers.ok sc_lmakers (fun vs H Q E h => ?_) (fun cdv A outer s H vs Q E hr h => ?_)
  · obtain ⟨a, b, rfl, _⟩ := h
    rfl
  · obtain ⟨p, wd, rfl, ⟨vs, ep, hw⟩, good, q⟩ := h
    refine ⟨_, (pss_cons (ps_set (i := 3) sc_lmakers.nd rfl (.inr rfl) (pe_lc (own := [("_law_name", 1), ("_law_makers_here", 2)]) (by rfl) sc_lmakers.nd (pi_tup (pv 0)) (blkOk_by (own := [("_law_name", 1), ("_law_makers_here", 2)]) (N := ["_law_wood_here", "_law_name", "_law_makers_here", "_law_kinds", "_law_found", "_law_kind", "_law_maker", "_law_parts", "_law_part"]) (sc := defScope st_lmakers) (by decide +kernel)) (fun _ _ _ _ _ => (KX.pg_tupK K (n := 2) rfl (pgs_cons (pg_name (i := 1) sc_lmakers.nd rfl (.inl rfl)) (pgs_cons (pg_name (i := 2) sc_lmakers.nd rfl (.inl rfl)) pgs_nil)))) (fun _ _ _ _ _ => pts_nil) (fun _ _ _ _ _ => (pv 1)))) (pss_cons (ps_set (i := 4) sc_lmakers.nd rfl (.inl rfl) (pe_lst pa_nil)) (pss_cons (ps_for PassesOwn.never rfl (EnT.pi_enumT (by rfl) T.m_enumerate (pa_cons (pv 0) pa_nil)) (pg_tup rfl (pgs_cons (pg_name (i := 5) sc_lmakers.nd rfl (.inr rfl)) (pgs_cons (pg_tup rfl (pgs_cons (pg_name (i := 1) sc_lmakers.nd rfl (.inl rfl)) (pgs_cons (pg_name (i := 2) sc_lmakers.nd rfl (.inl rfl)) pgs_nil))) pgs_nil))) (pss_one (ps_expr (pe_bm PySem.F.plainAttrs_list PySem.F.slot_list_extend PySem.F.type_list_extend mt_extend (pv 4) (pa_cons (pe_lc (own := [("_law_maker", 6), ("_law_parts", 7)]) (by rfl) sc_lmakers.nd (pi_tup (pv 2)) (blkOk_by (own := [("_law_maker", 6), ("_law_parts", 7)]) (N := ["_law_wood_here", "_law_name", "_law_makers_here", "_law_kinds", "_law_found", "_law_kind", "_law_maker", "_law_parts", "_law_part"]) (sc := defScope st_lmakers) (by decide +kernel)) (fun _ _ _ _ _ => (KX.pg_tupK K (n := 2) rfl (pgs_cons (pg_name (i := 6) sc_lmakers.nd rfl (.inl rfl)) (pgs_cons (pg_name (i := 7) sc_lmakers.nd rfl (.inl rfl)) pgs_nil)))) (fun _ _ _ _ _ => pts_nil) (fun _ _ _ _ _ => (pe_tup (pa_cons (pv 6) (pa_cons (pv 5) (pa_cons (pe_callTy (KX.call_tuple_K K) (by rfl) T.m_tuple (by decide +kernel) (pa_cons (pe_lc (own := [("_law_part", 8)]) (by rfl) sc_lmakers.nd (KX.pi_tupK K (pv 7)) (blkOk_by (own := [("_law_part", 8)]) (N := ["_law_wood_here", "_law_name", "_law_makers_here", "_law_kinds", "_law_found", "_law_kind", "_law_maker", "_law_parts", "_law_part"]) (sc := SC_mk) (by decide +kernel)) (fun _ _ _ _ _ => (pg_name (i := 8) sc_lmakers.nd rfl (.inl rfl))) (fun _ _ _ _ _ => pts_nil) (fun _ _ _ _ _ => (KX.pe_bmK K PySem.F.plainAttrs_list PySem.F.slot_list_index PySem.F.type_list_index (KX.mt_indexK K) (pv 3) (pa_cons (pv 8) pa_nil)))) pa_nil)) pa_nil)))))) pa_nil))))) (pss_one (ps_ret (pv 4)))))), ?_⟩
    have hkl : (kds wd).length = wd.length := List.length_map _
    refine ⟨_, rfl, p, rfl, ⟨vs, .inl (.inl ep)⟩, fun Kd nKd => ?_⟩
    refine walk_it (walk_tup (xs := vs)) (fun i Hx => Same H Hx ∧ Hx Kd = some (.lst (nmsV ((kds wd).take i)))) ⟨same_new nKd, upd_same⟩ (fun i Hx hi P => .inl (.inl (P.1 _ _ ep))) (fun i x Hx Hy hi P y => ?_) (fun Hx P => ?_)
    · obtain ⟨sx, eK⟩ := P
      obtain ⟨rfl, ex⟩ := y
      obtain ⟨⟨nm, ms⟩, enm, tk, tt, mvs, rfl, etk, ett, hms⟩ := paired_at hw ex
      have emap : (kds wd)[i]? = some nm := by
        rw [List.getElem?_map, enm]
        rfl
      refine ⟨tk, _, rfl, .inl (.inl (sx _ _ etk)), rfl, _, _, rfl, _, _, rfl, rfl, rfl, ?_⟩
      unfold tYes
      refine iteT ?_
      refine ⟨_, rfl, _, eK, ?_, fun b o e => ?_, ?_⟩
      · unfold nmsV
        rw [List.length_map, List.length_take]
        exact Nat.lt_of_le_of_lt (show _ ≤ 1000 by have := good.few; omega) (by decide)
      · rw [upd_ne (ne_of_none e nKd)]
        exact sx _ _ e
      · rw [upd_same, List.take_add_one, emap]
        unfold nmsV
        rw [List.map_append]
        rfl
    obtain ⟨sx, eK⟩ := P
    rw [hw.length, ← hkl, List.take_length] at eK
    refine ⟨s0, fun F nF => ?_⟩
    have nFH : H F = none := Same.free sx nF
    refine ⟨_, rfl, p, vs, rfl, .inl (.inl ((same_new nF) _ _ (sx _ _ ep))), for_it (walk_enumT (xs := vs)) (fun i σ H' => ∃ (y1 y2 y5 : Option V) (ds : List V), σ = [some (.ref p), y1, y2, some (.ref Kd), some (.ref F), y5, none, none, none] ∧ Same Hx H' ∧ H' F = some (.lst ds) ∧ Paired (DueAt H' (kds wd)) ds (ents (kds wd) (wd.take i)))
      ⟨none, none, none, [], rfl, same_new nF, upd_same, .nil⟩ (fun i σ H' hi P => ?_) (fun i x σ H' H'' hi P y => ?_) (fun σ H' P => ?_)⟩
    · obtain ⟨_, _, _, _, _, s1, _⟩ := P
      exact .inl (.inl (s1 _ _ (sx _ _ ep)))
    · obtain ⟨y1, y2, y5, ds, rfl, s1, eF, hds⟩ := P
      obtain ⟨Tt, xi, xn, rfl, nTt, rfl, exi, exn⟩ := y
      cases Option.some.inj exi
      obtain ⟨⟨nm, ms⟩, enm, tk, tt, mvs, rfl, etk, ett, hms⟩ := paired_at hw exn
      have emap : (kds wd)[i]? = some nm := by
        rw [List.getElem?_map, enm]
        rfl
      have eidx : (kds wd).idxOf nm = i := idx_of good.kinds emap
      have sT := (s1.trans (same_new (o := .tup [.int (i : Nat), .ref tk]) nTt))
      have sT1 := same_new (o := .tup [.int (i : Nat), .ref tk]) nTt
      refine ⟨Tt, _, rfl, .inl (.inl upd_same), rfl, _, _, rfl, _, _, rfl, tk, _, rfl, .inl (.inl (sT _ _ (sx _ _ etk))), rfl, _, _, rfl, _, _, rfl, rfl, rfl, ?_⟩
      generalize upd H' Tt (.tup [.int (i : Nat), .ref tk]) = Ha at sT sT1
      have eFa := sT1 _ _ eF
      refine ⟨.ref F, rfl, .inl ⟨rfl, _, SqL.of eFa⟩, ?_⟩
      refine ⟨_, rfl, tt, rfl, ⟨mvs, .inl (.inl (sT _ _ (sx _ _ ett)))⟩, fun D nD => ?_⟩
      refine walk_it (walk_tup (xs := mvs)) (fun j Hz => Same Ha Hz ∧ ∃ es, Hz D = some (.lst es) ∧ Paired (DueAt Hz (kds wd)) es ((ms.take j).map fun m => (m, (kds wd).idxOf nm))) ⟨same_new nD, [], upd_same, .nil⟩ (fun j Hz hj P => .inl (.inl (P.1 _ _ (sT _ _ (sx _ _ ett))))) (fun j x Hz Hz' hj P y => ?_) (fun Hz P => ?_)
      · obtain ⟨sz, es, eD, hes⟩ := P
        obtain ⟨rfl, ex'⟩ := y
        obtain ⟨⟨mn, ps⟩, emk, mk, mt, rfl, emk1, emt⟩ := paired_at hms ex'
        have hmem : (mn, ps) ∈ mks wd := by
          unfold mks
          exact List.mem_flatMap.mpr ⟨_, List.mem_of_getElem? enm, List.mem_of_getElem? emk⟩
        obtain ⟨hp2, hpk⟩ := good.parts _ hmem
        dsimp only at hp2 hpk
        have s3 := sT.trans sz
        have emt3 := s3 _ _ (sx _ _ emt)
        have hpl : (nmsV ps).length = ps.length := by
          unfold nmsV
          rw [List.length_map]
        refine ⟨mk, _, rfl, .inl (.inl (s3 _ _ (sx _ _ emk1))), rfl, _, _, rfl, _, _, rfl, rfl, rfl, ?_⟩
        unfold tYes
        refine iteT ?_
        refine ⟨_, rfl, _, rfl, _, rfl, mt, rfl, ⟨_, .inl (.inl emt3)⟩, fun D2 nD2 => ?_⟩
        refine lc_pure (g := gName 8) (tt := tYes) (te := tBM K "list" (rIndex K) (tVar 3) (tCons (tVar 8) tNil)) (vs := [8]) (walk_tup (xs := nmsV ps)) nD2 (prts (kds wd) ps) (by unfold prts; rw [List.length_map, hpl]) (by rw [hpl]; omega) (fun Hq sq => .inl (.inl (sq _ _ emt3))) (fun j x y H3 H4 hy s4 hY => ?_) (fun x σ H Q Q' f h => f _ _ h) (fun σ H Q Q' f h => f _ _ h) (fun σ H Q Q' f h => ?_) (fun H3 s4 e3 => ?_)
        · obtain ⟨rfl, ex⟩ := hY
          obtain ⟨pj, epj, rfl⟩ := nms_ix ex
          unfold prts at hy
          rw [List.getElem?_map, epj] at hy
          cases Option.some.inj hy
          obtain ⟨i1, i2⟩ := idx_at (hpk pj (List.mem_of_getElem? epj))
          have eK4 := s4 _ _ (s3 _ _ eK)
          refine ⟨rfl, rfl, .ref Kd, rfl, .inl ⟨rfl, _, SqL.of eK4⟩, _, rfl, Kd, nmsV (kds wd), .str (S pj), (kds wd).idxOf pj, .str (S pj), rfl, rfl, SqL.of eK4, rfl, nms_flat _, ?_, by rw [eqV_str]; exact decide_eq_true rfl, fun m z hm hz => ?_, rfl, Same.refl _⟩
          · unfold nmsV
            rw [List.getElem?_map, i1]
            rfl
          · obtain ⟨x, ex, rfl⟩ := nms_ix hz
            rw [eqV_str]
            exact decide_eq_false fun z => i2 m x hm ex (S_inj.mp z)
        · obtain ⟨v1, e1, z0, v2, e2, z1, z2, z3, z4, z5, z6, z7, z8, z9, z10, z11, z12, z13, z14⟩ := h
          exact ⟨v1, e1, z0, v2, e2, z1, z2, z3, z4, z5, z6, z7, z8, z9, z10, z11, z12, z13, f _ _ z14⟩
        refine ⟨D2, _, rfl, .inl ⟨SqL.of e3, fun u nu => ?_⟩⟩
        refine ⟨B08.s3, fun t nt => ?_⟩
        have s5 : Same Hz' (upd (upd H3 u (.tup (prts (kds wd) ps))) t (.tup [.str (S mn), .int (i : Nat), .ref u])) := (s4.trans (same_new nu)).trans (same_new nt)
        have eu : upd (upd H3 u (.tup (prts (kds wd) ps))) t (.tup [.str (S mn), .int (i : Nat), .ref u]) u = some (.tup (prts (kds wd) ps)) := (same_new nt) _ _ upd_same
        have et : upd (upd H3 u (.tup (prts (kds wd) ps))) t (.tup [.str (S mn), .int (i : Nat), .ref u]) t = some (.tup [.str (S mn), .int (i : Nat), .ref u]) := upd_same
        generalize upd (upd H3 u (.tup (prts (kds wd) ps))) t (.tup [.str (S mn), .int (i : Nat), .ref u]) = H5 at s5 eu et
        refine ⟨es, s5 _ _ eD, ?_, fun b o e => ?_, _, upd_same, ?_⟩
        · rw [hes.length, List.length_map, List.length_take]
          have h1 := mks_le (wd := wd) (i := i + 1)
          rw [mks_take enm, List.length_append] at h1
          dsimp only at h1
          have h2 := good.many
          exact Nat.lt_of_le_of_lt (show _ ≤ 12 by omega) (by decide)
        · rw [upd_ne (ne_of_none e nD)]
          exact s5 _ _ (sz _ _ e)
        · have kt : KT H5 (upd H5 D (.lst (es ++ [.ref t]))) := KT.lst (s5 _ _ eD)
          rw [List.take_add_one, emk]
          show Paired _ _ (List.map _ (ms.take j ++ [(mn, ps)]))
          rw [List.map_append]
          refine paired_snoc (Paired.mapP hes fun _ _ z => (z.mono (KT.of s5)).mono kt) ⟨t, u, rfl, ?_, kt _ _ eu⟩
          dsimp only
          rw [eidx]
          exact kt _ _ et
      · obtain ⟨sz, es, eD, hes⟩ := P
        rw [hms.length, List.take_length] at hes
        have hlen : ds.length + es.length ≤ 12 := by
          rw [hds.length, hes.length, List.length_map, show (ents (kds wd) (wd.take i)).length = (mks (wd.take i)).length by rw [← ents_fst (ks := kds wd), List.length_map]]
          have h1 := mks_le (wd := wd) (i := i + 1)
          rw [mks_take enm, List.length_append] at h1
          dsimp only at h1
          have h2 := good.many
          dsimp only
          omega
        refine ⟨F, D, ds, es, rfl, rfl, sz _ _ eFa, eD, Nat.le_trans hlen (by decide), ?_⟩
        have kt : KT Hz (upd Hz F (.lst (ds ++ es))) := KT.lst (sz _ _ eFa)
        refine ⟨_, _, _, ds ++ es, rfl, fun b o e => ?_, upd_same, ?_⟩
        · rw [upd_ne (ne_of_none e nF)]
          exact sz _ _ (sT _ _ e)
        · rw [ents_take enm]
          exact paired_append (Paired.mapP hes fun _ _ z => z.mono kt) (Paired.mapP hds fun _ _ z => (z.mono (KT.of (sT1.trans sz))).mono kt)
    · obtain ⟨y1, y2, y5, ds, rfl, s1, eF, hds⟩ := P
      rw [hw.length, List.take_length] at hds
      exact ⟨_, rfl, q F H' ds nFH (sx.trans s1) eF hds⟩
end

/-! ### trees, as they stand in the heap; what is amiss first -/
def tx (n : Nam) : Prop := n.length ≤ 10 ∧ PyData.strOk (S n) = true
abbrev Row := Nam × List Int
def TrwAt (H : Hp) (v : V) (r : Row) : Prop := ∃ q t, v = .ref q ∧ H q = some (.tup [.str (S r.1), .ref t]) ∧ H t = some (.tup (r.2.map V.int))
theorem TrwAt.mono {H H' : Hp} {v : V} {r : Row} (k : KT H H') (h : TrwAt H v r) : TrwAt H' v r := by
  obtain ⟨q, t, e, h1, h2⟩ := h
  exact ⟨q, t, e, k _ _ h1, k _ _ h2⟩
def TrAt (H : Hp) (p : Addr) (tr : List Row) : Prop := ∃ vs, H p = some (.tup vs) ∧ Paired (TrwAt H) vs tr
theorem TrAt.mono {H H' : Hp} {p : Addr} {tr : List Row} (k : KT H H') (h : TrAt H p tr) : TrAt H' p tr := by
  obtain ⟨vs, e, h1⟩ := h
  exact ⟨vs, k _ _ e, Paired.mapP h1 fun _ _ z => z.mono k⟩
def entOf (wd : Wood) (n : Nam) : Option (Mk × Nat) := (ents (kds wd) wd).find? fun e => decide (e.1.1 = n)
def pks (wd : Wood) (e : Mk × Nat) : List Nat := e.1.2.map fun q => (kds wd).idxOf q
abbrev natV (ks : List Nat) : List V := ks.map fun k => V.int (k : Nat)
theorem prts_pks {wd : Wood} {e : Mk × Nat} : prts (kds wd) e.1.2 = natV (pks wd e) := by
  unfold prts pks natV
  rw [List.map_map]
  rfl
def fit1 (ks : List Nat) (z : Int × Nat) : Bool := decide (0 ≤ z.1) && (decide (z.1 < ks.length) && decide (ks[z.1.toNat]? = some z.2))
def fits (ks : List Nat) (xs : List Int) (qs : List Nat) : Bool := decide (xs.length = qs.length) && (xs.zip qs).all (fit1 ks)
def rowK (wd : Wood) (ks : List Nat) (r : Row) : Option Nat := match entOf wd r.1 with
  | none => none
  | some e => if fits ks r.2 (pks wd e) = true then some e.2 else none
def amiss (wd : Wood) : List Nat → List Row → Option Nat
  | _, [] => none
  | ks, r :: t => match rowK wd ks r with
    | none => some ks.length
    | some k => amiss wd (ks ++ [k]) t
theorem amiss_cons {wd : Wood} {ks : List Nat} {r : Row} {t : List Row} : amiss wd ks (r :: t) = match rowK wd ks r with
    | none => some ks.length
    | some k => amiss wd (ks ++ [k]) t := rfl
def badT (wd : Wood) (tr : List Row) : Option Nat := if tr.length = 0 then some 0 else amiss wd [] tr
/-- what can be asked -/
structure TmT (b : Nat) (tr : List Row) : Prop where
  few : tr.length ≤ b
  rowT : ∀ r ∈ tr, tx r.1 ∧ r.2.length ≤ b
theorem drop_at {α : Type} {l : List α} {i : Nat} {x : α} (e : l[i]? = some x) : l.drop i = x :: l.drop (i + 1) := by
  obtain ⟨h, rfl⟩ := List.getElem?_eq_some_iff.mp e
  exact List.drop_eq_getElem_cons h
theorem natV_len {ks : List Nat} : (natV ks).length = ks.length := List.length_map _
theorem natV_snoc {ks : List Nat} {k : Nat} : natV (ks ++ [k]) = natV ks ++ [.int (k : Nat)] := by
  unfold natV
  rw [List.map_append]
  rfl
theorem natV_at {ks : List Nat} {x : Int} (h0 : 0 ≤ x) (h1 : x < ks.length) : ∃ k, ks[x.toNat]? = some k ∧ atI (natV ks) x = some (.int (k : Nat)) := by
  have l : x.toNat < ks.length := by omega
  refine ⟨ks[x.toNat], List.getElem?_eq_getElem l, at_of (j := x.toNat) (by omega) ?_⟩
  rw [List.getElem?_map, List.getElem?_eq_getElem l]
  rfl
theorem walk_zipT {K : PySem.W.Frag} {a b : Addr} {xs ys : List V} {n : Nat} (hn : n = min xs.length ys.length) : Walk (RZ.ItzT K a b) n (fun H => SqT K H a xs ∧ SqT K H b ys) (YPair (fun i => xs[i]?) (fun i => ys[i]?)) := by
  subst hn
  refine ⟨fun i _ hi q => ?_, fun _ q => ⟨xs, ys, q.1, q.2, by omega⟩, fun i H v H' _ q y => ?_⟩
  · have h1 : i < xs.length := by omega
    have h2 : i < ys.length := by omega
    exact ⟨xs, ys, xs[i], ys[i], q.1, q.2, List.getElem?_eq_getElem h1, List.getElem?_eq_getElem h2⟩
  · obtain ⟨T, x, y, h1, h2, h3, h4, h5⟩ := y
    exact ⟨T, x, y, h1, h2, h3, h4 xs q.1, h5 ys q.2⟩
section
variable {P : Program} {w : World} {K : PySem.W.Frag} {mg : Str → Option Value} {base : Heap}
theorem eqi (x y : Int) : decide (V.int x = V.int y) = decide (x = y) := by simp
def spRo : Sp := fun vs H Q _ => ∃ (k p t : Addr) (ks : List Nat) (xs : List Int) (qs : List Nat), vs = [.ref k, .ref p, .ref t] ∧ H k = some (.lst (natV ks)) ∧ H p = some (.tup (xs.map V.int)) ∧ H t = some (.tup (natV qs)) ∧ xs.length ≤ 1000 ∧ ∀ H', Same H H' → Q (.bl (fits ks xs qs)) H'
theorem ok_rowsof (T : Tx P K mg) : FnOk P w K mg base CX0 1 T.f_rowsof T.fd_rowsof ["kinds", "parts", "wanted"] spRo := by
  refine T.F_rowsof.ok sc_rowsof (fun vs H Q E h => ?_) (fun cdv A outer s H vs Q E hr h => ?_)
  · obtain ⟨k, p, t, ks, xs, qs, rfl, _⟩ := h
    rfl
  · obtain ⟨k, p, t, ks, xs, qs, rfl, ek, ep, et, hx, q⟩ := h
    refine ⟨_, (pss_cons (ps_if (pt_cmpR op_ne (pe_callB call_len_seq (by rfl) T.m_len PySem.boot_len (pa_cons (pv 1) pa_nil)) (pe_callB call_len_seq (by rfl) T.m_len PySem.boot_len (pa_cons (pv 2) pa_nil)) (nomark _)) (pss_one (ps_ret pe_bl)) pss_nil) (pss_one (ps_ret (pe_callB (cr_all rfl) (by rfl) T.m_all (by decide +kernel) (pa_cons (pe_lc (own := [("part", 3), ("kind", 4)]) (by rfl) sc_rowsof.nd (RZ.pi_zipA (by rfl) T.m_zip (pa_cons (pv 1) (pa_cons (pv 2) pa_nil))) (blkOk_by (own := [("part", 3), ("kind", 4)]) (N := ["kinds", "parts", "wanted", "part", "kind"]) (sc := defScope st_rowsof) (by decide +kernel)) (fun _ _ _ _ _ => (KX.pg_tupK K (n := 2) rfl (pgs_cons (pg_name (i := 3) sc_rowsof.nd rfl (.inl rfl)) (pgs_cons (pg_name (i := 4) sc_rowsof.nd rfl (.inl rfl)) pgs_nil)))) (fun _ _ _ _ _ => pts_nil) (fun _ _ _ _ _ => (pe_and (pe_chain op_le op_lt pe_int (pv 3) (pe_callB (KX.len_seqK K) (by rfl) T.m_len PySem.boot_len (pa_cons (pv 0) pa_nil))) (pe_one (pe_cmpR op_eq (pe_ix (KX.ix_listK K) (pv 0) (pv 3) (fun _ _ => rfl)) (pv 4) (nomark _)))))) pa_nil))))), ?_⟩
    refine ⟨_, rfl, p, _, rfl, .inr (.inl (.inl ep)), _, rfl, t, _, rfl, .inr (.inl (.inl et)), rfl, _, rfl, ?_⟩
    rw [List.length_map, natV_len, eqi]
    by_cases hl : xs.length = qs.length
    rotate_left
    · rw [decide_eq_false (show ¬ ((xs.length : Int) = (qs.length : Int)) by omega)]
      refine iteT ?_
      have := q H (Same.refl H)
      rw [show fits ks xs qs = false by unfold fits; rw [decide_eq_false hl]; rfl] at this
      exact this
    rw [decide_eq_true (show ((xs.length : Int) = (qs.length : Int)) by omega)]
    refine iteF ?_
    have hf : fits ks xs qs = ((xs.zip qs).map (fit1 ks)).all id := by
      unfold fits
      rw [decide_eq_true hl, List.all_map]
      rfl
    rw [hf] at q
    refine ⟨_, rfl, _, rfl, p, t, _, _, rfl, .inr ⟨SqT.of ep, SqT.of et, fun D nD => ?_⟩⟩
    refine walk_it (walk_zipT (n := xs.length) (xs := xs.map V.int) (ys := natV qs) (by rw [List.length_map, natV_len]; omega)) (fun i Hx => Same H Hx ∧ Hx D = some (.lst ((((xs.zip qs).map (fit1 ks)).take i).map V.bl))) ⟨same_new nD, upd_same⟩ (fun i Hx hi P => ⟨SqT.of (P.1 _ _ ep), SqT.of (P.1 _ _ et)⟩) (fun i x Hx Hy hi P y => ?_) (fun Hx P => ?_)
    · obtain ⟨sx, eD⟩ := P
      obtain ⟨Tt, x1, x2, rfl, nT, rfl, e1, e2⟩ := y
      have hi2 : i < qs.length := by omega
      have e1' : x1 = .int xs[i] := by
        dsimp only at e1
        rw [List.getElem?_map, List.getElem?_eq_getElem hi] at e1
        exact (Option.some.inj e1).symm
      have e2' : x2 = .int (qs[i] : Nat) := by
        dsimp only at e2
        rw [List.getElem?_map, List.getElem?_eq_getElem hi2] at e2
        exact (Option.some.inj e2).symm
      subst e1' e2'
      have sT := same_new (o := .tup [.int xs[i], .int (qs[i] : Nat)]) nT
      refine ⟨Tt, _, rfl, .inl (.inl upd_same), rfl, _, _, rfl, _, _, rfl, rfl, rfl, ?_⟩
      generalize upd Hx Tt (.tup [.int xs[i], .int (qs[i] : Nat)]) = Hy at sT
      have ekx := sT _ _ (sx _ _ ek)
      have fin : ∀ b : Bool, b = fit1 ks (xs[i], qs[i]) → ∃ acc, Hy D = some (.lst acc) ∧ acc.length < sizeLine ∧ (Same H (upd Hy D (.lst (acc ++ [.bl b]))) ∧ upd Hy D (.lst (acc ++ [.bl b])) D = some (.lst ((((xs.zip qs).map (fit1 ks)).take (i + 1)).map V.bl))) := fun b hb => by
        refine ⟨_, sT _ _ eD, ?_, fun c o e => ?_, ?_⟩
        · rw [List.length_map, List.length_take]
          exact Nat.lt_of_le_of_lt (show _ ≤ 1000 by omega) (by decide)
        · rw [upd_ne (ne_of_none e nD)]
          exact sT _ _ (sx _ _ e)
        · have hz : i < (xs.zip qs).length := by
            rw [List.length_zip]
            omega
          rw [upd_same, List.take_add_one, List.getElem?_map, List.getElem?_eq_getElem hz, List.getElem_zip, List.map_append, hb]
          rfl
      unfold tYes
      refine iteT ?_
      refine ⟨_, rfl, _, _, rfl, rfl, _, rfl, ?_⟩
      by_cases h0 : 0 ≤ xs[i]
      · rw [decide_eq_true h0]
        refine iteT ⟨_, rfl, k, _, rfl, .inl (SqL.of ekx), _, _, rfl, rfl, _, rfl, ?_⟩
        rw [natV_len]
        by_cases h1 : xs[i] < ks.length
        · rw [decide_eq_true h1]
          obtain ⟨k', ek', ea⟩ := natV_at h0 h1
          refine iteT ⟨_, rfl, _, rfl, k, _, _, _, rfl, rfl, SqL.of ekx, ea, _, rfl, rfl, ?_⟩
          rw [eqi]
          refine fin _ ?_
          unfold fit1
          dsimp only
          rw [decide_eq_true h0, decide_eq_true h1, ek']
          by_cases h2 : k' = qs[i]
          · simp [h2]
          · simp [h2]
            omega
        · rw [decide_eq_false h1]
          refine iteF (fin _ ?_)
          unfold fit1
          dsimp only
          rw [decide_eq_false h1]
          simp
      · rw [decide_eq_false h0]
        refine iteF ⟨_, rfl, iteF (fin _ ?_)⟩
        unfold fit1
        dsimp only
        rw [decide_eq_false h0]
        rfl
    · obtain ⟨sx, eD⟩ := P
      refine ⟨D, (xs.zip qs).map (fit1 ks), rfl, SqL.of ?_, q Hx sx⟩
      rw [eD, List.take_of_length_le]
      rw [List.length_map, List.length_zip]
      omega
end

/-! ### look_tree -/
section
variable {P : Program} {w : World} {K : PySem.W.Frag} {mg : Str → Option Value} {base : Heap}
def RefT (C : Addr) (E : XK) (H : Hp) (i : Nat) : Prop := ∀ (d : Addr) (H' : Hp), Same H H' → H' d = some (.xd [("at", .int (i : Nat))]) → E (.ref C) (some d) H'
theorem RefT.here {C : Addr} {E : XK} {H H1 : Hp} {i : Nat} {v : V} (h : RefT C E H i) (s : Same H H1) (e : v = .int (i : Nat)) : ∃ y, [v] = [y] ∧ ∀ dx, H1 dx = none → E (.ref C) (some dx) (upd H1 dx (.xd [("at", y)])) := ⟨v, rfl, fun dx n => h dx _ (s.trans (same_new n)) (by rw [e]; exact upd_same)⟩
theorem ents_names {ks : List Nam} {w : Wood} : (ents ks w).map (·.1.1) = (mks w).map (·.1) := by
  rw [← ents_fst (ks := ks), List.map_map]
  rfl
theorem entOf_none {wd : Wood} {n : Nam} (h : entOf wd n = none) : n ∉ (ents (kds wd) wd).map (·.1.1) := fun hm => by
  obtain ⟨e, he, rfl⟩ := List.mem_map.mp hm
  have := List.find?_eq_none.mp h e he
  simp at this
theorem entOf_some {wd : Wood} {n : Nam} {e : Mk × Nat} (h : entOf wd n = some e) : e ∈ ents (kds wd) wd ∧ e.1.1 = n := ⟨List.mem_of_find?_eq_some h, by
  have := List.find?_some h
  simpa using this⟩
theorem parts_le {wd : Wood} (g : Good wd) {e : Mk × Nat} (he : e ∈ ents (kds wd) wd) : (pks wd e).length ≤ 2 := by
  unfold pks
  rw [List.length_map]
  refine (g.parts e.1 ?_).1
  rw [← ents_fst (ks := kds wd)]
  exact List.mem_map_of_mem he
def spLt (C : Addr) : Sp := fun vs H Q E => ∃ (p t : Addr) (wd : Wood) (tr : List Row), vs = [.ref p, .ref t] ∧ WdAt H p wd ∧ Good wd ∧ TrAt H t tr ∧ TmT 1000 tr ∧ (∀ i, badT wd tr = some i → RefT C E H i) ∧ (badT wd tr = none → ∀ H', Same H H' → Q (.bl true) H')
theorem ok_looktree (T : Tx P K mg) : FnOk P w K mg base (L2.CX P w) 2 T.f_looktree T.fd_looktree ["wood", "tree"] (spLt T.C) := by
  refine T.F_looktree.okX sc_looktree (fun vs H Q E h => ?_) (fun cdv A outer s H vs Q E hr h => ?_)
  · obtain ⟨a, b, wd, tr, rfl, _⟩ := h
    rfl
  · obtain ⟨p, t, wd, tr, rfl, hw, good, ⟨vs, et, htr⟩, tm, qx, q⟩ := h
    refine ⟨_, (pss_cons (ps_if (pt_cmpR op_eq (pe_callB call_len_seq (by rfl) T.m_len PySem.boot_len (pa_cons (pv 1) pa_nil)) pe_int (nomark _)) (pss_one (ps_raise rfl (takes_of rfl rfl rfl rfl) (pmk_e1 T.exc T.fld T.is1 hr (by rfl) (fun _ _ _ _ _ _ _ _ => .of_eq rfl) (by decide) (by decide +kernel) rfl rfl (pa_cons pe_int pa_nil)))) pss_nil) (pss_cons (ps_set (i := 2) sc_looktree.nd rfl (.inl rfl) (pe_call (ok_table T) (hr.mono (by decide) : Room 1 _) (by rfl) T.g_table T.F_table.kp T.b_table .nil pass0 (pa_cons (pv 0) pa_nil))) (pss_cons (ps_set (i := 3) sc_looktree.nd rfl (.inl rfl) (pe_lst pa_nil)) (pss_cons (ps_for (passes_of rfl) rfl (EnT.pi_enumT (by rfl) T.m_enumerate (pa_cons (pv 1) pa_nil)) (pg_tup rfl (pgs_cons (pg_name (i := 4) sc_looktree.nd rfl (.inl rfl)) (pgs_cons (pg_tup rfl (pgs_cons (pg_name (i := 5) sc_looktree.nd rfl (.inl rfl)) (pgs_cons (pg_name (i := 6) sc_looktree.nd rfl (.inl rfl)) pgs_nil))) pgs_nil))) (pss_cons (ps_if (pt_cmp (pc_dnotin (KX.hu hr) (pv 5) (pv 2)) (by rfl)) (pss_one (ps_raise rfl (takes_of rfl rfl rfl rfl) (pmk_e1 T.exc T.fld T.is1 hr (by rfl) (fun _ _ _ _ _ _ _ _ => .of_eq rfl) (by decide) (by decide +kernel) rfl rfl (pa_cons (pv 4) pa_nil)))) pss_nil) (pss_cons (ps_asg (pe_dget (KX.hu hr) (pv 2) (pv 5) (fun _ _ => rfl)) (pg_tup rfl (pgs_cons (pg_name (i := 7) sc_looktree.nd rfl (.inl rfl)) (pgs_cons (pg_name (i := 8) sc_looktree.nd rfl (.inl rfl)) pgs_nil)))) (pss_cons (ps_if (pt_not (pt_val (pe_call (ok_rowsof T) (hr.mono (by decide) : Room 1 _) (by rfl) T.g_rowsof T.F_rowsof.kp T.b_rowsof .nil pass0 (pa_cons (pv 3) (pa_cons (pv 6) (pa_cons (pv 8) pa_nil)))))) (pss_one (ps_raise rfl (takes_of rfl rfl rfl rfl) (pmk_e1 T.exc T.fld T.is1 hr (by rfl) (fun _ _ _ _ _ _ _ _ => .of_eq rfl) (by decide) (by decide +kernel) rfl rfl (pa_cons (pv 4) pa_nil)))) pss_nil) (pss_one (ps_expr (pe_bm PySem.F.plainAttrs_list PySem.F.slot_list_append PySem.F.type_list_append mt_append (pv 3) (pa_cons (pv 7) pa_nil)))))))) (pss_one (ps_ret pe_bl)))))), ?_⟩
    have hl := htr.length
    have hfew := tm.few
    unfold badT at qx q
    refine ⟨_, rfl, t, _, rfl, .inr (.inl (.inl et)), rfl, _, rfl, ?_⟩
    rw [eqi]
    by_cases h0 : tr.length = 0
    · rw [decide_eq_true (show ((vs.length : Int) = 0) by omega)]
      rw [if_pos h0] at qx
      exact iteT ((qx _ rfl).here (Same.refl _) rfl)
    rw [decide_eq_false (show ¬ ((vs.length : Int) = 0) by omega)]
    refine iteF ?_
    rw [if_neg h0] at qx q
    refine ⟨_, rfl, p, wd, rfl, hw, good, fun Tb H1 kvs nTb s1 eTb hkv => ?_⟩
    refine ⟨s0, fun Kd nKd => ?_⟩
    have sA := same_new (o := .lst []) nKd
    refine ⟨_, rfl, t, vs, rfl, .inl (.inl (sA _ _ (s1 _ _ et))), for_it (walk_enumT (xs := vs)) (fun i σ H' => ∃ (y4 y5 y6 y7 y8 : Option V) (ks : List Nat), σ = [some (.ref p), some (.ref t), some (.ref Tb), some (.ref Kd), y4, y5, y6, y7, y8] ∧ Same H1 H' ∧ ks.length = i ∧ H' Kd = some (.lst (natV ks)) ∧ amiss wd [] tr = amiss wd ks (tr.drop i)) ⟨none, none, none, none, none, [], rfl, sA, rfl, upd_same, rfl⟩ (fun i σ H' hi P => ?_) (fun i x σ H' H'' hi P y => ?_) (fun σ H' P => ?_)⟩
    · obtain ⟨_, _, _, _, _, _, _, s2, _⟩ := P
      exact .inl (.inl (s2 _ _ (s1 _ _ et)))
    · obtain ⟨y4, y5, y6, y7, y8, ks, rfl, s2, hks, eK, hb⟩ := P
      obtain ⟨Tt, xi, xn, rfl, nTt, rfl, exi, exn⟩ := y
      cases Option.some.inj exi
      obtain ⟨⟨nm, xs⟩, enm, tk, tt, rfl, etk, ett⟩ := paired_at htr exn
      obtain ⟨htn, hxl⟩ := tm.rowT _ (List.mem_of_getElem? enm)
      dsimp only at htn hxl etk ett
      rw [drop_at enm, amiss_cons] at hb
      have sT := same_new (o := .tup [.int (i : Nat), .ref tk]) nTt
      have s3 := s2.trans sT
      refine ⟨Tt, _, rfl, .inl (.inl upd_same), rfl, _, _, rfl, _, _, rfl, tk, _, rfl, .inl (.inl (s3 _ _ (s1 _ _ etk))), rfl, _, _, rfl, _, _, rfl, rfl, rfl, ?_⟩
      have eK3 := sT _ _ eK
      generalize upd H' Tt (.tup [.int (i : Nat), .ref tk]) = H3 at sT s3 eK3
      have eTb3 := s3 _ _ eTb
      have nvi : (V.int ((i : Nat) : Int)) = .int (ks.length : Nat) := by rw [hks]
      cases ee : entOf wd nm with
      | none =>
        have hr0 : rowK wd ks (nm, xs) = none := by
          unfold rowK
          dsimp only
          rw [ee]
        rw [hr0] at hb
        dsimp only at hb
        rw [hb] at qx
        have g := DGet.k (k := Ky nm) eTb3
        rw [row_none hkv (entOf_none ee)] at g
        refine ⟨_, rfl, _, rfl, Tb, none, rfl, g, _, rfl, iteT ?_⟩
        exact ⟨_, rfl, (qx _ rfl).here (s1.trans s3) nvi⟩
      | some e =>
        obtain ⟨hm, rfl⟩ := entOf_some ee
        obtain ⟨t1, u1, ev, et1, eu1⟩ := row_some hkv (by rw [ents_names]; exact good.makers) e hm
        have g := DGet.k (k := Ky e.1.1) eTb3
        rw [ev] at g
        refine ⟨_, rfl, _, rfl, Tb, some (.ref t1), rfl, g, _, rfl, iteF ?_⟩
        refine ⟨_, rfl, _, rfl, Tb, .ref t1, rfl, g, ?_⟩
        refine ⟨t1, _, rfl, .inl (.inl (s3 _ _ et1)), rfl, _, _, rfl, _, _, rfl, rfl, ?_⟩
        rw [prts_pks] at eu1
        refine ⟨_, rfl, _, rfl, _, rfl, Kd, tt, u1, ks, xs, pks wd e, rfl, eK3, s3 _ _ (s1 _ _ ett), s3 _ _ eu1, hxl, fun H4 s4 => ⟨_, rfl, ?_⟩⟩
        have hr0 : rowK wd ks (e.1.1, xs) = if fits ks xs (pks wd e) = true then some e.2 else none := by
          unfold rowK
          dsimp only
          rw [ee]
        rw [hr0] at hb
        by_cases hf : fits ks xs (pks wd e) = true
        · rw [if_pos hf] at hb
          dsimp only at hb
          rw [hf]
          refine iteF ?_
          have eK4 := s4 _ _ eK3
          refine ⟨.ref Kd, rfl, .inl ⟨rfl, _, SqL.of eK4⟩, _, rfl, Kd, _, _, rfl, rfl, eK4, ?_, ?_⟩
          · rw [natV_len]
            exact Nat.lt_of_le_of_lt (show _ ≤ 1000 by omega) (by decide)
          · refine ⟨_, _, _, _, _, ks ++ [e.2], rfl, fun c o ec => ?_, by rw [List.length_append, hks]; rfl, by rw [upd_same, natV_snoc], hb⟩
            rw [upd_ne (ne_of_none ec nKd)]
            exact s4 _ _ (s3 _ _ ec)
        · rw [if_neg hf] at hb
          dsimp only at hb
          rw [hb] at qx
          rw [Bool.not_eq_true] at hf
          rw [hf]
          exact iteT ⟨_, rfl, (qx _ rfl).here ((s1.trans s3).trans s4) nvi⟩
    · obtain ⟨y4, y5, y6, y7, y8, ks, rfl, s2, hks, eK, hb⟩ := P
      rw [hl, List.drop_length] at hb
      exact q hb _ (s1.trans s2)
end

theorem dp_all {K : PySem.W.Frag} {H : Hp} {n : Nat} : ∀ {vs : List V}, (∀ v ∈ vs, ∃ d, Dp K H v d ∧ d.canLay0 = true ∧ d.depth ≤ n) → ∃ ds, DpAll K H vs ds ∧ PyData.canLayAll0 ds = true ∧ PyData.depthAll ds ≤ n ∧ ds.length = vs.length
  | [], _ => ⟨[], .nil, rfl, Nat.zero_le _, rfl⟩
  | v :: r, h => by
    obtain ⟨d, h1, h2, h3⟩ := h v List.mem_cons_self
    obtain ⟨ds, g1, g2, g3, g4⟩ := dp_all (vs := r) fun u hu => h u (List.mem_cons_of_mem _ hu)
    refine ⟨d :: ds, .cons h1 g1, ?_, ?_, by rw [List.length_cons, List.length_cons, g4]⟩
    · show (d.canLay0 && PyData.canLayAll0 ds) = true
      rw [h2, g2]
      rfl
    · show max d.depth (PyData.depthAll ds) ≤ n
      omega
theorem dp_lst {K : PySem.W.Frag} {H : Hp} {n : Nat} {a : Addr} {vs : List V} (e : SqL K H a vs) (h : ∀ v ∈ vs, ∃ d, Dp K H v d ∧ d.canLay0 = true ∧ d.depth ≤ n) : ∃ ds, Dp K H (.ref a) (.list ds) ∧ (PyData.list ds).canLay0 = true ∧ (PyData.list ds).depth ≤ n + 1 ∧ ds.length = vs.length := by
  obtain ⟨ds, g1, g2, g3, g4⟩ := dp_all h
  exact ⟨ds, .lst e g1, g2, Nat.succ_le_succ g3, g4⟩
theorem dp_tup {K : PySem.W.Frag} {H : Hp} {n : Nat} {a : Addr} {vs : List V} (e : SqT K H a vs) (h : ∀ v ∈ vs, ∃ d, Dp K H v d ∧ d.canLay0 = true ∧ d.depth ≤ n) : ∃ ds, Dp K H (.ref a) (.tuple ds) ∧ (PyData.tuple ds).canLay0 = true ∧ (PyData.tuple ds).depth ≤ n + 1 ∧ ds.length = vs.length := by
  obtain ⟨ds, g1, g2, g3, g4⟩ := dp_all h
  exact ⟨ds, .tup e g1, g2, Nat.succ_le_succ g3, g4⟩
theorem dp_str {K : PySem.W.Frag} {H : Hp} {n : Nat} {z : Nam} (h : tx z) : ∃ d, Dp K H (.str (S z)) d ∧ d.canLay0 = true ∧ d.depth ≤ n := ⟨_, .str _, h.2, Nat.zero_le _⟩
theorem two_mem {α : Type} {P : α → Prop} {x y : α} (hx : P x) (hy : P y) : ∀ v ∈ [x, y], P v := fun v hv => by
  rcases List.mem_cons.mp hv with rfl | hv
  · exact hx
  · rw [List.mem_singleton.mp hv]
    exact hy
theorem shaped_of {d : PyData} {n : Nat} (h1 : d.canLay0 = true) (h2 : d.depth ≤ n) (h3 : n ≤ 64) : SeqAt.shaped d = true := by
  show (d.canLay0 && decide (d.depth ≤ 64)) = true
  rw [h1, decide_eq_true (Nat.le_trans h2 h3)]
  rfl
theorem eqv_nil {ds : List PyData} : PyData.eqv (.list ds) (.list []) = decide (ds.length = 0) := by
  cases ds <;> rfl

/-! ### what is due -/
theorem nm_tx {n : Nam} (h : nmB (S n) = true) : tx n := by
  unfold nmB at h
  simp only [Bool.and_eq_true, decide_eq_true_eq, List.all_eq_true] at h
  obtain ⟨⟨⟨h1, h2⟩, h3⟩, h4⟩ := h
  rw [S_len] at h2
  exact ⟨by omega, ok_S.mpr fun c hc => abc_small (h4 c (by simpa [S] using hc))⟩
theorem dp_int {K : PySem.W.Frag} {H : Hp} {n : Nat} {z : Int} : ∃ d, Dp K H (.int z) d ∧ d.canLay0 = true ∧ d.depth ≤ n := ⟨_, .int _, rfl, Nat.zero_le _⟩
theorem dp_ints {K : PySem.W.Frag} {H : Hp} {n : Nat} {ks : List Nat} : ∀ v ∈ natV ks, ∃ d, Dp K H v d ∧ d.canLay0 = true ∧ d.depth ≤ n := fun v hv => by
  obtain ⟨k, _, rfl⟩ := List.mem_map.mp hv
  exact dp_int
theorem DueAt.dp {K : PySem.W.Frag} {H : Hp} {wd : Wood} {v : V} {e : Mk × Nat} (ht : tx e.1.1) (h : DueAt H (kds wd) v e) : ∃ d, Dp K H v d ∧ d.canLay0 = true ∧ d.depth ≤ 2 := by
  obtain ⟨t, u, rfl, h1, h2⟩ := h
  rw [prts_pks] at h2
  obtain ⟨dt, t1, t2, t3, _⟩ := dp_tup (K := K) (n := 0) (SqT.of h2) dp_ints
  obtain ⟨dl, l1, l2, l3, _⟩ := dp_tup (K := K) (n := 1) (SqT.of h1) (fun v hv => by
    rcases List.mem_cons.mp hv with rfl | hv
    · exact dp_str ht
    · rcases List.mem_cons.mp hv with rfl | hv
      · exact dp_int
      · rw [List.mem_singleton.mp hv]
        exact ⟨_, t1, t2, t3⟩)
  exact ⟨_, l1, l2, l3⟩
theorem ent_tx {wd : Wood} (g : Good wd) {e : Mk × Nat} (he : e ∈ ents (kds wd) wd) : tx e.1.1 := nm_tx (g.makerN _ (by
  rw [← ents_names (ks := kds wd)]
  exact List.mem_map_of_mem he))
theorem paired_mem {α β : Type} {F : α → β → Prop} {xs : List α} {ys : List β} (h : Paired F xs ys) {x : α} (hx : x ∈ xs) : ∃ y ∈ ys, F x y := by
  obtain ⟨i, hi, rfl⟩ := List.getElem_of_mem hx
  obtain ⟨y, ey, hF⟩ := paired_at h (List.getElem?_eq_getElem hi)
  exact ⟨y, List.mem_of_getElem? ey, hF⟩
def toldsT (wd : Wood) (tr : List Row) : List V := match badT wd tr with
  | none => [.str "let by"]
  | some i => [.str "refused", .int (i : Nat)]
theorem ents_len {wd : Wood} (g : Good wd) : (ents (kds wd) wd).length ≤ 12 := by
  rw [show (ents (kds wd) wd).length = (mks wd).length by rw [← ents_fst (ks := kds wd), List.length_map]]
  exact g.many
theorem at0c {x : V} {r : List V} : atI (x :: r) 0 = some x := at_of (j := 0) rfl rfl
theorem fits_no {ks : List Nat} {xs : List Int} {qs : List Nat} {j : Nat} (h1 : j < xs.length) (h2 : j < qs.length) (h : fit1 ks (xs[j], qs[j]) = false) : fits ks xs qs = false := by
  unfold fits
  rw [show ((xs.zip qs).all (fit1 ks)) = false from List.all_eq_false.mpr ⟨(xs[j], qs[j]), by
    have hz : j < (xs.zip qs).length := by
      rw [List.length_zip]
      omega
    have := List.getElem_mem hz
    rw [List.getElem_zip] at this
    exact this, by rw [h]; exact Bool.false_ne_true⟩, Bool.and_false]
section
variable {P : Program} {w : World} {K : PySem.W.Frag} {mg : Str → Option Value} {base : Heap}
def spTold : Sp := fun vs H Q _ => ∃ (p t : Addr) (wd : Wood) (tr : List Row), vs = [.ref p, .ref t] ∧ WdAt H p wd ∧ Good wd ∧ TrAt H t tr ∧ TmT 1000 tr ∧ ∀ (u : Addr) (H' : Hp), Same H H' → H' u = some (.tup (toldsT wd tr)) → Q (.ref u) H'
theorem ok_due (T : Tx P K mg) : FnOk P w K mg base CX0 2 T.f_due T.fd_due ["_law_wood_here", "_law_tree_here"] spTold := by
  refine T.F_due.ok sc_due (fun vs H Q E h => ?_) (fun cdv A outer s H vs Q E hr h => ?_)
  · obtain ⟨a, b, wd, tr, rfl, _⟩ := h
    rfl
  · obtain ⟨p, t, wd, tr, rfl, hw, good, ⟨vs, et, htr⟩, tm, q⟩ := h
    refine ⟨_, (pss_cons (ps_set (i := 2) sc_due.nd rfl (.inl rfl) (pe_lst pa_nil)) (pss_cons (ps_for PassesOwn.never rfl (EnT.pi_enumT (by rfl) T.m_enumerate (pa_cons (pv 1) pa_nil)) (pg_tup rfl (pgs_cons (pg_name (i := 3) sc_due.nd rfl (.inl rfl)) (pgs_cons (pg_tup rfl (pgs_cons (pg_name (i := 4) sc_due.nd rfl (.inr rfl)) (pgs_cons (pg_name (i := 5) sc_due.nd rfl (.inl rfl)) pgs_nil))) pgs_nil))) (pss_cons (ps_setLc (i := 6) (own := [("_law_one", 9)]) (by rfl) sc_due.nd rfl rfl (sw_true rfl rfl rfl (by decide +kernel)) (pi_list (pe_call (ok_lmakers T) (hr.mono (by decide) : Room 1 _) (by rfl) T.g_lmakers T.F_lmakers.kp T.b_lmakers .nil pass0 (pa_cons (pv 0) pa_nil))) (blkOk_by (own := [("_law_one", 9)]) (N := ["_law_wood_here", "_law_tree_here", "_law_kinds", "_law_at", "_law_maker", "_law_numbers", "_law_some", "_law_number", "_law_part", "_law_one"]) (sc := defScope st_due) (by decide +kernel)) (fun _ _ _ _ _ => (pg_name (i := 9) sc_due.nd rfl (.inl rfl))) (fun _ _ _ _ _ => (pts_one (pt_cmpR op_eq (pe_ix (KX.ix_tupK K) (pv 9) pe_int (fun _ _ => rfl)) (pv 4) (nomark _)))) (fun _ _ _ _ _ => (pv 9))) (pss_cons (ps_if (PW.pt (pw_or (pt_cmpR (op_eqD hr.units) (pv 6) (pe_lst pa_nil) (nomark _)) (pw_or1 (pt_cmpR op_ne (pe_callB call_len_seq (by rfl) T.m_len PySem.boot_len (pa_cons (pv 5) pa_nil)) (pe_callB call_len_seq (by rfl) T.m_len PySem.boot_len (pa_cons (pe_ix ix_tup (pe_ix ix_list (pv 6) pe_int (fun _ _ => rfl)) pe_int (fun _ _ => rfl)) pa_nil)) (nomark _))))) (pss_one (ps_ret (pe_tup (pa_cons pe_str (pa_cons (pv 3) pa_nil))))) pss_nil) (pss_cons (ps_for PassesOwn.never rfl (RZ.pi_zipA (by rfl) T.m_zip (pa_cons (pv 5) (pa_cons (pe_ix ix_tup (pe_ix ix_list (pv 6) pe_int (fun _ _ => rfl)) pe_int (fun _ _ => rfl)) pa_nil))) (pg_tup rfl (pgs_cons (pg_name (i := 7) sc_due.nd rfl (.inl rfl)) (pgs_cons (pg_name (i := 8) sc_due.nd rfl (.inl rfl)) pgs_nil))) (pss_one (ps_if (PW.pt (pw_or (pt_cmpR op_lt (pv 7) pe_int (nomark _)) (pw_or (pt_cmpR op_ge (pv 7) (pv 3) (nomark _)) (pw_or1 (pt_cmpR op_ne (pe_ix ix_list (pv 2) (pv 7) (fun _ _ => rfl)) (pv 8) (nomark _)))))) (pss_one (ps_ret (pe_tup (pa_cons pe_str (pa_cons (pv 3) pa_nil))))) pss_nil))) (pss_one (ps_expr (pe_bm PySem.F.plainAttrs_list PySem.F.slot_list_append PySem.F.type_list_append mt_append (pv 2) (pa_cons (pe_ix ix_tup (pe_ix ix_list (pv 6) pe_int (fun _ _ => rfl)) pe_int (fun _ _ => rfl)) pa_nil)))))))) (pss_one (ps_ret (pe_ix ix_list (pe_lst (pa_cons (pe_tup (pa_cons pe_str pa_nil)) (pa_cons (pe_tup (pa_cons pe_str (pa_cons pe_int pa_nil))) pa_nil))) (pe_callTy call_int1 (by rfl) T.m_int (by decide +kernel) (pa_cons (pe_cmpR (op_eqD hr.units) (pv 2) (pe_lst pa_nil) (nomark _)) pa_nil)) (fun _ _ => rfl)))))), ?_⟩
    have hl := htr.length
    have hfew := tm.few
    refine ⟨s0, fun Kd nKd => ?_⟩
    have sA := same_new (o := .lst []) nKd
    refine ⟨_, rfl, t, vs, rfl, .inl (.inl (sA _ _ et)), for_it (walk_enumT (xs := vs)) (fun i σ H' => ∃ (y3 y4 y5 y6 y7 y8 : Option V) (ks : List Nat), σ = [some (.ref p), some (.ref t), some (.ref Kd), y3, y4, y5, y6, y7, y8, none] ∧ Same H H' ∧ ks.length = i ∧ H' Kd = some (.lst (natV ks)) ∧ amiss wd [] tr = amiss wd ks (tr.drop i)) ⟨none, none, none, none, none, none, [], rfl, sA, rfl, upd_same, rfl⟩ (fun i σ H' hi P => ?_) (fun i x σ H' H'' hi P y => ?_) (fun σ H' P => ?_)⟩
    · obtain ⟨_, _, _, _, _, _, _, _, s2, _⟩ := P
      exact .inl (.inl (s2 _ _ et))
    · obtain ⟨y3, y4, y5, y6, y7, y8, ks, rfl, s2, hks, eK, hb⟩ := P
      obtain ⟨Tt, xi, xn, rfl, nTt, rfl, exi, exn⟩ := y
      cases Option.some.inj exi
      obtain ⟨⟨nm, xs⟩, enm, tk, tt, rfl, etk, ett⟩ := paired_at htr exn
      obtain ⟨htn, hxl⟩ := tm.rowT _ (List.mem_of_getElem? enm)
      dsimp only at htn hxl etk ett
      have hil : i < tr.length := (List.getElem?_eq_some_iff.mp enm).1
      rw [drop_at enm, amiss_cons] at hb
      have sT := same_new (o := .tup [.int (i : Nat), .ref tk]) nTt
      have s3 := s2.trans sT
      refine ⟨Tt, _, rfl, .inl (.inl upd_same), rfl, _, _, rfl, _, _, rfl, tk, _, rfl, .inl (.inl (s3 _ _ etk)), rfl, _, _, rfl, _, _, rfl, rfl, rfl, ?_⟩
      have eK3 := sT _ _ eK
      generalize upd H' Tt (.tup [.int (i : Nat), .ref tk]) = H3 at sT s3 eK3
      have nvi : (V.int ((i : Nat) : Int)) = .int (ks.length : Nat) := by rw [hks]
      have refd : rowK wd ks (nm, xs) = none → toldsT wd tr = [.str "refused", .int (i : Nat)] := fun hn => by
        rw [hn] at hb
        dsimp only at hb
        unfold toldsT badT
        rw [if_neg (by omega), hb]
        dsimp only
        rw [hks]
      -- the makers called so
      refine ⟨_, rfl, p, wd, rfl, hw.mono (KT.of s3), good, fun L H4 ds nL s4 eL hds => ?_⟩
      refine ⟨L, rfl, ⟨ds, SqL.of eL⟩, fun D nD => ?_⟩
      refine walk_it (walk_list (xs := ds)) (fun j Hx => Same H4 Hx ∧ ∃ acc, Hx D = some (.lst acc) ∧ Paired (DueAt Hx (kds wd)) acc (((ents (kds wd) wd).take j).filter fun e => decide (e.1.1 = nm))) ⟨same_new nD, [], upd_same, .nil⟩ (fun j Hx hj P => SqL.of (P.1 _ _ eL)) (fun j x Hx Hy hj P y => ?_) (fun H5 P => ?_)
      · obtain ⟨sx, acc, eD, hac⟩ := P
        obtain ⟨rfl, ex⟩ := y
        obtain ⟨e, ee, hd⟩ := paired_at hds ex
        have hd' := hd
        obtain ⟨t1, u1, rfl, et1, eu1⟩ := hd
        refine ⟨rfl, _, rfl, t1, _, 0, _, rfl, rfl, SqT.of (sx _ _ et1), rfl, _, rfl, rfl, _, rfl, ?_⟩
        rw [show decide (V.str (S e.1.1) = V.str (S nm)) = decide (e.1.1 = nm) by simp [S_inj]]
        rw [List.take_add_one, ee]
        show (if decide (e.1.1 = nm) = true then _ else _)
        by_cases hn : e.1.1 = nm
        · rw [decide_eq_true hn]
          refine iteT ⟨_, rfl, acc, eD, ?_, fun c o ec => ?_, acc ++ [.ref t1], upd_same, ?_⟩
          · have h1 := hac.length
            have h2 := List.length_filter_le (fun e : Mk × Nat => decide (e.1.1 = nm)) ((ents (kds wd) wd).take j)
            have h3 := ents_len good
            rw [List.length_take] at h2
            exact Nat.lt_of_le_of_lt (show acc.length ≤ 12 by omega) (by decide)
          · rw [upd_ne (ne_of_none ec nD)]
            exact sx _ _ ec
          · have kt : KT Hy (upd Hy D (.lst (acc ++ [.ref t1]))) := KT.lst eD
            rw [List.filter_append, show ((some e).toList.filter fun e => decide (e.1.1 = nm)) = [e] by simp [hn]]
            exact paired_snoc (Paired.mapP hac fun _ _ z => z.mono kt) ((hd'.mono (KT.of sx)).mono kt)
        · rw [decide_eq_false hn]
          refine iteF ⟨sx, acc, eD, ?_⟩
          rw [List.filter_append, show ((some e).toList.filter fun e => decide (e.1.1 = nm)) = [] by simp [hn], List.append_nil]
          exact hac
      obtain ⟨s5, acc, eD, hac⟩ := P
      rw [hds.length, List.take_length] at hac
      have sAll : Same H H5 := (s3.trans s4).trans s5
      -- none
      refine ⟨_, rfl, s0, fun L2 nL2 => ?_⟩
      have sL2 := same_new (o := .lst []) nL2
      obtain ⟨dd, p1, p2, p3, p4⟩ := dp_lst (K := K) (n := 2) (SqL.of (sL2 _ _ eD)) (fun v hv => by
        obtain ⟨e, he, hF⟩ := paired_mem hac hv
        exact (hF.mono (KT.of sL2)).dp (ent_tx good (List.mem_filter.mp he).1))
      refine ⟨.list dd, .list [], p1, .lst (SqL.of upd_same) .nil, shaped_of p2 p3 (by decide), rfl, _, rfl, ?_⟩
      rw [eqv_nil, p4, hac.length]
      have eD6 := sL2 _ _ eD
      have hac6 : Paired (DueAt (upd H5 L2 (.lst [])) (kds wd)) acc ((ents (kds wd) wd).filter fun e => decide (e.1.1 = nm)) := Paired.mapP hac fun _ _ z => z.mono (KT.of sL2)
      have s6 : Same H3 (upd H5 L2 (.lst [])) := (s4.trans s5).trans sL2
      generalize upd H5 L2 (.lst []) = H6 at sL2 eD6 hac6 p1 s6
      have s6' : Same H H6 := s3.trans s6
      have hfind : entOf wd nm = ((ents (kds wd) wd).filter fun e => decide (e.1.1 = nm)).head? := by
        unfold entOf
        rw [List.head?_filter]
      cases hfl : ((ents (kds wd) wd).filter fun e => decide (e.1.1 = nm)) with
      | nil =>
        rw [hfl] at hfind
        rw [decide_eq_true (show ([] : List (Mk × Nat)).length = 0 from rfl)]
        refine iteT ⟨_, rfl, B08.s2, fun u nu => ?_⟩
        refine q u _ (s6'.trans (same_new nu)) ?_
        rw [upd_same, refd (by unfold rowK; dsimp only; rw [hfind]; rfl)]
      | cons e r =>
        rw [hfl] at hfind hac6
        rw [decide_eq_false (show ¬ ((e :: r).length = 0) by rw [List.length_cons]; omega)]
        refine iteF ?_
        obtain ⟨x0, acc', hx0, hax⟩ : ∃ x0 acc', DueAt H6 (kds wd) x0 e ∧ acc = x0 :: acc' := by
          cases hac6 with
          | cons h1 h2 => exact ⟨_, _, h1, rfl⟩
        obtain ⟨t1, u1, rfl, et1, eu1⟩ := hx0
        subst hax
        rw [prts_pks] at eu1
        have ett6 := s6' _ _ ett
        have eK6 := s6 _ _ eK3
        have hrk : rowK wd ks (nm, xs) = if fits ks xs (pks wd e) = true then some e.2 else none := by
          unfold rowK
          dsimp only
          rw [hfind]
          rfl
        have hno : fits ks xs (pks wd e) = false → rowK wd ks (nm, xs) = none := fun z => by
          rw [hrk, z]
          rfl
        refine ⟨_, rfl, tt, _, rfl, .inr (.inl (.inl ett6)), _, rfl, D, _, 0, .ref t1, rfl, rfl, SqL.of eD6, at0c, t1, _, 2, .ref u1, rfl, rfl, SqT.of et1, rfl, u1, _, rfl, .inr (.inl (.inl eu1)), rfl, _, rfl, ?_⟩
        rw [List.length_map, natV_len, eqi]
        by_cases hlx : xs.length = (pks wd e).length
        rotate_left
        · rw [decide_eq_false (show ¬ ((xs.length : Int) = ((pks wd e).length : Int)) by omega)]
          refine iteT ⟨_, rfl, B08.s2, fun u nu => ?_⟩
          refine q u _ (s6'.trans (same_new nu)) ?_
          rw [upd_same, refd (hno (by unfold fits; rw [decide_eq_false hlx]; rfl))]
        rw [decide_eq_true (show ((xs.length : Int) = ((pks wd e).length : Int)) by omega)]
        refine iteF ?_
        refine ⟨_, rfl, _, rfl, D, _, 0, .ref t1, rfl, rfl, SqL.of eD6, at0c, t1, _, 2, .ref u1, rfl, rfl, SqT.of et1, rfl, tt, u1, _, _, rfl, .inr ⟨SqT.of ett6, SqT.of eu1, ?_⟩⟩
        refine for_it (walk_zipT (n := xs.length) (xs := xs.map V.int) (ys := natV (pks wd e)) (by rw [List.length_map, natV_len]; omega)) (fun j σ H' => ∃ (y7 y8 : Option V), σ = [some (.ref p), some (.ref t), some (.ref Kd), some (.int (i : Nat)), some (.str (S nm)), some (.ref tt), some (.ref D), y7, y8, none] ∧ Same H6 H' ∧ ((xs.zip (pks wd e)).take j).all (fit1 ks) = true) ⟨_, _, rfl, Same.refl _, rfl⟩ (fun j σ H' hj P => ?_) (fun j x σ H' H'' hj P y => ?_) (fun σ H' P => ?_)
        · obtain ⟨_, _, _, s7, _⟩ := P
          exact ⟨SqT.of (s7 _ _ ett6), SqT.of (s7 _ _ eu1)⟩
        · obtain ⟨y7, y8, rfl, s7, hall⟩ := P
          obtain ⟨Tz, x1, x2, rfl, nTz, rfl, e1, e2⟩ := y
          have hj2 : j < (pks wd e).length := by omega
          have e1' : x1 = .int xs[j] := by
            dsimp only at e1
            rw [List.getElem?_map, List.getElem?_eq_getElem hj] at e1
            exact (Option.some.inj e1).symm
          have e2' : x2 = .int ((pks wd e)[j] : Nat) := by
            dsimp only at e2
            rw [List.getElem?_map, List.getElem?_eq_getElem hj2] at e2
            exact (Option.some.inj e2).symm
          subst e1' e2'
          have sZ := same_new (o := .tup [.int xs[j], .int ((pks wd e)[j] : Nat)]) nTz
          refine ⟨Tz, _, rfl, .inl (.inl upd_same), rfl, _, _, rfl, _, _, rfl, rfl, ?_⟩
          generalize upd H' Tz (.tup [.int xs[j], .int ((pks wd e)[j] : Nat)]) = H7 at sZ
          have s8 := s7.trans sZ
          have eK8 := s8 _ _ eK6
          have out : fit1 ks (xs[j], (pks wd e)[j]) = false → 2 ≤ sizeLine ∧ ∀ u, H7 u = none → Q (.ref u) (upd H7 u (.tup [.str "refused", .int (i : Nat)])) := fun z => ⟨B08.s2, fun u nu => by
            refine q u _ ((s6'.trans s8).trans (same_new nu)) ?_
            rw [upd_same, refd (hno (fits_no hj hj2 z))]⟩
          refine ⟨_, rfl, _, _, rfl, rfl, _, rfl, ?_⟩
          by_cases c1 : xs[j] < 0
          · rw [decide_eq_true c1]
            refine iteT ⟨_, rfl, out ?_⟩
            unfold fit1
            dsimp only
            rw [decide_eq_false (show ¬ (0 ≤ xs[j]) by omega)]
            rfl
          rw [decide_eq_false c1]
          refine iteF ⟨_, rfl, _, rfl, _, _, rfl, rfl, _, rfl, ?_⟩
          by_cases c2 : (i : Int) ≤ xs[j]
          · rw [decide_eq_true c2]
            refine iteT ⟨_, rfl, out ?_⟩
            unfold fit1
            dsimp only
            rw [decide_eq_false (show ¬ (xs[j] < (ks.length : Int)) by omega)]
            simp
          rw [decide_eq_false c2]
          obtain ⟨k', ek', ea⟩ := natV_at (ks := ks) (x := xs[j]) (by omega) (by omega)
          refine iteF ⟨_, rfl, _, rfl, Kd, _, _, _, rfl, rfl, SqL.of eK8, ea, _, rfl, rfl, _, rfl, ?_⟩
          rw [eqi]
          by_cases c3 : k' = (pks wd e)[j]
          · rw [decide_eq_true (show ((k' : Int) = ((pks wd e)[j] : Nat)) by omega)]
            refine iteF ⟨_, _, rfl, s8, ?_⟩
            have hz : j < (xs.zip (pks wd e)).length := by
              rw [List.length_zip]
              omega
            rw [List.take_add_one, List.getElem?_eq_getElem hz, List.getElem_zip, List.all_append, hall]
            show (true && (fit1 ks (xs[j], (pks wd e)[j]) && true)) = true
            unfold fit1
            dsimp only
            rw [decide_eq_true (show 0 ≤ xs[j] by omega), decide_eq_true (show xs[j] < (ks.length : Int) by omega), ek', c3]
            simp
          · rw [decide_eq_false (show ¬ ((k' : Int) = ((pks wd e)[j] : Nat)) by omega)]
            refine iteT ⟨_, rfl, out ?_⟩
            unfold fit1
            dsimp only
            rw [ek']
            simp [c3]
        · obtain ⟨y7, y8, rfl, s7, hall⟩ := P
          rw [List.take_of_length_le (by rw [List.length_zip]; omega)] at hall
          have hyes : rowK wd ks (nm, xs) = some e.2 := by
            rw [hrk, if_pos]
            unfold fits
            rw [decide_eq_true hlx, hall]
            rfl
          rw [hyes] at hb
          dsimp only at hb
          have eK7 := s7 _ _ eK6
          refine ⟨.ref Kd, rfl, .inl ⟨rfl, _, SqL.of eK7⟩, _, rfl, D, _, 0, .ref t1, rfl, rfl, SqL.of (s7 _ _ eD6), at0c, t1, _, 1, .int (e.2 : Nat), rfl, rfl, SqT.of (s7 _ _ et1), rfl, Kd, _, _, rfl, rfl, eK7, ?_, ?_⟩
          · rw [natV_len]
            exact Nat.lt_of_le_of_lt (show _ ≤ 1000 by omega) (by decide)
          · refine ⟨_, _, _, _, _, _, ks ++ [e.2], rfl, fun c o ec => ?_, by rw [List.length_append, hks]; rfl, by rw [upd_same, natV_snoc], hb⟩
            rw [upd_ne (ne_of_none ec nKd)]
            exact s7 _ _ (s6' _ _ ec)
    · obtain ⟨y3, y4, y5, y6, y7, y8, ks, rfl, s2, hks, eK, hb⟩ := P
      rw [hl, List.drop_length] at hb
      have hb' : amiss wd [] tr = none := hb
      refine ⟨B08.s1, fun t1 nt1 => ⟨B08.s2, fun t2 nt2 => ⟨B08.s2, fun L nL => ⟨_, rfl, s0, fun L2 nL2 => ?_⟩⟩⟩⟩
      have e1 : upd H' t1 (.tup [.str "let by"]) t1 = some (.tup [.str "let by"]) := upd_same
      have z1 := same_new (o := .tup [.str "let by"]) nt1
      generalize upd H' t1 (.tup [.str "let by"]) = Ha at nt2 nL nL2 e1 z1
      have e2 : upd Ha t2 (.tup [.str "refused", .int 0]) t2 = some (.tup [.str "refused", .int 0]) := upd_same
      have z2 := same_new (o := .tup [.str "refused", .int 0]) nt2
      generalize upd Ha t2 (.tup [.str "refused", .int 0]) = Hb at nL nL2 e2 z2
      have e3 : upd Hb L (.lst [.ref t1, .ref t2]) L = some (.lst [.ref t1, .ref t2]) := upd_same
      have z3 := same_new (o := .lst [.ref t1, .ref t2]) nL
      generalize upd Hb L (.lst [.ref t1, .ref t2]) = Hc at nL2 e3 z3
      have z4 := same_new (o := .lst []) nL2
      have zz := ((z1.trans z2).trans z3).trans z4
      obtain ⟨dd, p1, p2, p3, p4⟩ := dp_lst (K := K) (n := 0) (SqL.of (zz _ _ eK)) dp_ints
      refine ⟨.list dd, .list [], p1, .lst (SqL.of upd_same) .nil, shaped_of p2 p3 (by decide), rfl, .inr ⟨_, rfl, ?_⟩⟩
      rw [eqv_nil, p4, natV_len]
      by_cases h0 : tr.length = 0
      · rw [decide_eq_true (show ks.length = 0 by omega)]
        refine ⟨L, _, 1, .ref t2, rfl, rfl, SqL.of (z4 _ _ e3), rfl, q t2 _ (s2.trans zz) ?_⟩
        rw [z4 _ _ (z3 _ _ e2)]
        unfold toldsT badT
        rw [if_pos h0]
        rfl
      · rw [decide_eq_false (show ¬ (ks.length = 0) by omega)]
        refine ⟨L, _, 0, .ref t1, rfl, rfl, SqL.of (z4 _ _ e3), rfl, q t1 _ (s2.trans zz) ?_⟩
        rw [z4 _ _ (z3 _ _ (z2 _ _ e1))]
        unfold toldsT badT
        rw [if_neg h0, hb']
end

/-! ### told -/
section
variable {P : Program} {w : World} {K : PySem.W.Frag} {mg : Str → Option Value} {base : Heap}
theorem s10 : 10 ≤ sizeLine := by decide
theorem ok_told (T : Tx P K mg) : FnOk P w K mg base CX0 3 T.f_told T.fd_told ["_law_wood_here", "_law_tree_here"] spTold := by
  refine T.F_told.ok sc_told (fun vs H Q E h => ?_) (fun cdv A outer s H vs Q E hr h => ?_)
  · obtain ⟨a, b, wd, tr, rfl, _⟩ := h
    rfl
  · obtain ⟨p, t, wd, tr, rfl, hw, good, ht, tm, q⟩ := h
    refine ⟨_, (pss_cons (ps_set (i := 2) sc_told.nd rfl (.inl rfl) (pe_tup (pa_cons pe_str pa_nil))) (pss_cons (ps_try_as (i := 3) (Wout := fun _ _ _ _ => False) rfl rfl sc_told.nd rfl rfl ⟨rfl, by decide, .inl T.g_BoughError⟩ takes0 (fun W pn xe tk _ => (pss_one (ps_if (pt_cmpR op_is_bl (pe_callS (ok_looktree T) (hr.mono (by decide) : Room 2 _) (by rfl) T.g_looktree T.F_looktree.kp T.b_looktree (fun σ => passAt tk σ) (by exact (pa_cons (pv 0) (pa_cons (pv 1) pa_nil)))) pe_bl (nomark _)) (pss_one (ps_set (i := 2) sc_told.nd rfl (.inl rfl) (pe_tup (pa_cons pe_str pa_nil)))) pss_nil))) (fun a oe cls d pn hz hf => (pss_cons (ps_set (i := 4) sc_told.nd rfl (.inl rfl) (pe_callB (BI.call_FT T.exI hz hf) (by rfl) T.m_isinstance (by decide +kernel) (pa_cons (pv 3) (pa_cons (pe_tup (pa_cons (pe_glob (v := .ref T.C_NoFit) (by rfl) T.g_NoFit rfl) (pa_cons (pe_glob (v := .ref T.C_NoPrinter) (by rfl) T.g_NoPrinter rfl) (pa_cons (pe_glob (v := .ref T.C_NoReader) (by rfl) T.g_NoReader rfl) (pa_cons (pe_glob (v := .ref T.C_NoRow) (by rfl) T.g_NoRow rfl) (pa_cons (pe_glob (v := .ref T.C_NoText) (by rfl) T.g_NoText rfl) (pa_cons (pe_glob (v := .ref T.C_NoTurner) (by rfl) T.g_NoTurner rfl) (pa_cons (pe_glob (v := .ref T.C_NoWood) (by rfl) T.g_NoWood rfl) (pa_cons (pe_glob (v := .ref T.C_NoWord) (by rfl) T.g_NoWord rfl) (pa_cons (pe_glob (v := .ref T.C_TooLong) (by rfl) T.g_TooLong rfl) (pa_cons (pe_glob (v := .ref T.C_TooWide) (by rfl) T.g_TooWide rfl) pa_nil))))))))))) pa_nil)))) (pss_one (ps_if (PW.pt (pw_and (pt_val (pe_callB (BI.call_F T.exI hz hf) (by rfl) T.m_isinstance (by decide +kernel) (pa_cons (pv 3) (pa_cons (pe_glob (v := .ref T.C) (by rfl) T.exc.gC rfl) pa_nil)))) (pw_and (pt_val (pe_callB (BI.call_F T.exI hz hf) (by rfl) T.m_isinstance (by decide +kernel) (pa_cons (pv 3) (pa_cons (pe_bltn (v := .ty "ValueError") (by rfl) T.m_ValueError (by decide +kernel) rfl) pa_nil)))) (pw_and1 (pt_not (pt_val (pv 4))))))) (pss_one (ps_set (i := 2) sc_told.nd rfl (.inl rfl) (pe_tup (pa_cons pe_str (pa_cons (pe_xf T.xfc T.noAt hz hf (pv 3)) pa_nil))))) pss_nil))))) (pss_one (ps_ret (pv 2))))), ?_⟩
    unfold toldsT at q
    refine ⟨s1, fun t0 nt0 => ?_⟩
    have sA : Same H (upd H t0 (.tup [.str "other"])) := same_new nt0
    refine ⟨_, rfl, _, rfl, p, t, wd, tr, rfl, hw.mono (KT.of sA), good, ht.mono (KT.of sA), tm, fun r hr d H1 s1 ed => ?_, fun hb H1 s1 => ?_⟩
    · rw [hr] at q
      refine ⟨true, T.exm, fun _ x _ => ?_, fun z => Bool.noConfusion z⟩
      refine ⟨_, rfl, s10, fun tc ntc => ?_⟩
      have ed2 := (same_new (o := .tup [.ref T.C_NoFit, .ref T.C_NoPrinter, .ref T.C_NoReader, .ref T.C_NoRow, .ref T.C_NoText, .ref T.C_NoTurner, .ref T.C_NoWood, .ref T.C_NoWord, .ref T.C_TooLong, .ref T.C_TooWide]) ntc) _ _ ed
      refine ⟨tc, _, _, false, d, _, rfl, rfl, ed2, rfl, upd_same, .cons (fun u h => h) (.cons (fun u h => h) (.cons (fun u h => h) (.cons (fun u h => h) (.cons (fun u h => h) (.cons (fun u h => h) (.cons (fun u h => h) (.cons (fun u h => h) (.cons (fun u h => h) (.cons (fun u h => h) .nil))))))))), ?_, ?_⟩
      · exact kitAny_cons T.k_NoFit (fun _ => kitAny_cons T.k_NoPrinter (fun _ => kitAny_cons T.k_NoReader (fun _ => kitAny_cons T.k_NoRow (fun _ => kitAny_cons T.k_NoText (fun _ => kitAny_cons T.k_NoTurner (fun _ => kitAny_cons T.k_NoWood (fun _ => kitAny_cons T.k_NoWord (fun _ => kitAny_cons T.k_TooLong (fun _ => kitAny_cons T.k_TooWide (fun _ => kitAny_nil) nofun) nofun) nofun) nofun) nofun) nofun) nofun) nofun) nofun) nofun
      refine ⟨_, rfl, _, _, true, d, _, rfl, rfl, ed2, rfl, (fun u h => h), T.kC, _, rfl, iteT ?_⟩
      refine ⟨_, rfl, _, _, true, d, _, rfl, rfl, ed2, rfl, (fun u h => h), T.kV, _, rfl, iteT ?_⟩
      refine ⟨_, rfl, _, rfl, iteT ?_⟩
      refine ⟨_, rfl, rfl, rfl, d, _, .int (r : Nat), rfl, ed2, rfl, ?_⟩
      refine ⟨B08.s2, fun u nu => ?_⟩
      exact ⟨_, rfl, q u _ (((sA.trans s1).trans (same_new ntc)).trans (same_new nu)) upd_same⟩
    · rw [hb] at q
      refine ⟨_, _, rfl, rfl, _, rfl, iteT ⟨B08.s1, fun u nu => ?_⟩⟩
      exact ⟨_, rfl, q u _ ((sA.trans s1).trans (same_new nu)) upd_same⟩
end

/-! ### _law_tree -/
def SC_t1 : Scope := { kind := ScopeKind.function, names := [(Str.ofString ".0", NameKind.local), (Str.ofString "_law_one", NameKind.local), (Str.ofString "len", NameKind.globalImplicit), (Str.ofString "_law_kinds", NameKind.cell)], isGenerator := false, isCoroutine := false }
/-- the kinds of the rows, where all stand -/
def runK (wd : Wood) : List Nat → List Row → Option (List Nat)
  | ks, [] => some ks
  | ks, r :: t => match rowK wd ks r with
    | none => none
    | some k => runK wd (ks ++ [k]) t
theorem runK_snoc {wd : Wood} {r : Row} {k : Nat} : ∀ {tr : List Row} {ks ks' : List Nat}, runK wd ks tr = some ks' → rowK wd ks' r = some k → runK wd ks (tr ++ [r]) = some (ks' ++ [k])
  | [], ks, ks', h1, h2 => by
    cases Option.some.inj h1
    show (match rowK wd ks r with | none => none | some k => runK wd (ks ++ [k]) []) = _
    rw [h2]
    rfl
  | u :: t, ks, ks', h1, h2 => by
    show (match rowK wd ks u with | none => none | some k => runK wd (ks ++ [k]) (t ++ [r])) = _
    have h1' : (match rowK wd ks u with | none => none | some k => runK wd (ks ++ [k]) t) = some ks' := h1
    cases e : rowK wd ks u with
    | none =>
      rw [e] at h1'
      cases h1'
    | some j =>
      rw [e] at h1'
      exact runK_snoc h1' h2
theorem runK_len {wd : Wood} : ∀ {tr : List Row} {ks ks' : List Nat}, runK wd ks tr = some ks' → ks'.length = ks.length + tr.length
  | [], ks, ks', h => by
    cases Option.some.inj h
    rfl
  | u :: t, ks, ks', h => by
    have h1' : (match rowK wd ks u with | none => none | some k => runK wd (ks ++ [k]) t) = some ks' := h
    cases e : rowK wd ks u with
    | none =>
      rw [e] at h1'
      cases h1'
    | some j =>
      rw [e] at h1'
      have := runK_len h1'
      rw [List.length_append, List.length_singleton] at this
      rw [this, List.length_cons]
      omega
theorem runK_row {wd : Wood} : ∀ {tr : List Row} {ks ks' : List Nat}, runK wd ks tr = some ks' → ∀ r ∈ tr, ∃ e, entOf wd r.1 = some e ∧ r.2.length = (pks wd e).length
  | [], _, _, _, r, hr => nomatch hr
  | u :: t, ks, ks', h, r, hr => by
    have h1' : (match rowK wd ks u with | none => none | some k => runK wd (ks ++ [k]) t) = some ks' := h
    cases e : rowK wd ks u with
    | none =>
      rw [e] at h1'
      cases h1'
    | some j =>
      rw [e] at h1'
      rcases List.mem_cons.mp hr with rfl | hr
      · unfold rowK at e
        cases ee : entOf wd r.1 with
        | none =>
          rw [ee] at e
          cases e
        | some x =>
          rw [ee] at e
          dsimp only at e
          split at e
          · rename_i hf
            unfold fits at hf
            exact ⟨x, rfl, of_decide_eq_true (Bool.and_eq_true_iff.mp hf).1⟩
          · cases e
      · exact runK_row h1' r hr
def szStep (s : List Int) (r : Row) : List Int := s ++ [1 + (r.2.map fun x => s.getD x.toNat 0).sum]
def sizesOf (tr : List Row) : List Int := tr.foldl szStep []
theorem sizesOf_snoc {tr : List Row} {r : Row} : sizesOf (tr ++ [r]) = sizesOf tr ++ [1 + (r.2.map fun x => (sizesOf tr).getD x.toNat 0).sum] := by
  unfold sizesOf
  rw [List.foldl_append]
  rfl
/-- a tree that was drawn -/
structure DrT (wd : Wood) (size : Int) (most : Nat) (tr : List Row) : Prop where
  run : ∃ ks, runK wd [] tr = some ks
  few : tr.length ≤ most
  sz : ∀ s ∈ sizesOf tr, s ≤ size
theorem DrT.tm {wd : Wood} {size : Int} {most b : Nat} {tr : List Row} (g : Good wd) (h : DrT wd size most tr) (h1 : most ≤ b) (h2 : 2 ≤ b) : TmT b tr := ⟨Nat.le_trans h.few h1, fun r hr => by
  obtain ⟨ks, hk⟩ := h.run
  obtain ⟨e, ee, hl⟩ := runK_row hk r hr
  obtain ⟨hm, hn⟩ := entOf_some ee
  refine ⟨?_, ?_⟩
  · rw [← hn]
    exact ent_tx g hm
  · have := parts_le g hm
    omega⟩
theorem nat_flat (ks : List Nat) : (natV ks).all flatV = true := by
  unfold natV
  simp [List.all_eq_true, flatV]
theorem inV_nat {n : Nat} : ∀ ks : List Nat, inV (.int (n : Nat)) (natV ks) = decide (n ∈ ks)
  | [] => rfl
  | m :: r => by
    show (eqV (.int (m : Nat)) (.int (n : Nat)) || inV (.int (n : Nat)) (natV r)) = _
    rw [inV_nat r]
    have : eqV (.int (m : Nat)) (.int (n : Nat)) = decide (m = n) := by
      unfold eqV
      by_cases h : m = n
      · simp [h]
      · simp [h]
        omega
    rw [this]
    by_cases h : m = n
    · simp [h]
    · have h' : ¬ n = m := fun z => h z.symm
      simp [h, h']
theorem find_nodup {es : List (Mk × Nat)} {e : Mk × Nat} : (es.map (·.1.1)).Nodup → e ∈ es → es.find? (fun x => decide (x.1.1 = e.1.1)) = some e := by
  induction es with
  | nil => intro _ h; cases h
  | cons u t ih =>
    intro hn he
    rw [List.map_cons, List.nodup_cons] at hn
    rw [List.find?_cons]
    by_cases hu : u.1.1 = e.1.1
    · rw [decide_eq_true hu]
      rcases List.mem_cons.mp he with rfl | he
      · rfl
      · exact absurd (by rw [hu]; exact List.mem_map_of_mem he) hn.1
    · rw [decide_eq_false hu]
      rcases List.mem_cons.mp he with rfl | he
      · exact absurd rfl hu
      · exact ih hn.2 he
theorem entOf_mem {wd : Wood} (g : Good wd) {e : Mk × Nat} (he : e ∈ ents (kds wd) wd) : entOf wd e.1.1 = some e := find_nodup (by rw [ents_names]; exact g.makers) he
theorem Gr.new {a p : Addr} {H Hx : Hp} {o : HO} (g : Gr a H Hx) (n : H p = none) (na : p ≠ a) : Gr a H (upd Hx p o) := ⟨fun c u nc e => by
  rw [upd_ne (ne_of_none e n)]
  exact g.1 _ _ nc e, by
  obtain ⟨x, y, z, e⟩ := g.2
  exact ⟨x, y, z, by rw [upd_ne na.symm]; exact e⟩⟩
theorem cut2 {ps : List Nat} : ∃ k, cutV (natV ps) (some (-2)) none = natV (ps.drop k) ∧ (0 < ps.length → k < ps.length) := by
  refine ⟨HT.sIx (natV ps).length 0 (some (-2)), ?_, fun h => ?_⟩
  · unfold cutV
    rw [List.take_of_length_le]
    · unfold natV
      rw [List.map_drop]
    · rw [List.length_drop]
      exact Nat.le_refl _
  · show (if (-2 : Int) < 0 then ((-2 : Int) + ((natV ps).length : Int)).toNat else min (-2 : Int).toNat (natV ps).length) < ps.length
    rw [if_pos (by decide), natV_len]
    omega
theorem natV_ix {ps : List Nat} {d : Int} (h0 : 0 ≤ d) (h1 : d < ps.length) : ∃ x ∈ ps, atI (natV ps) d = some (.int (x : Nat)) := by
  have l : d.toNat < ps.length := by omega
  refine ⟨ps[d.toNat], List.getElem_mem l, at_of (j := d.toNat) (by omega) ?_⟩
  rw [List.getElem?_map, List.getElem?_eq_getElem l]
  rfl
def pOk (wd : Wood) (ks : List Nat) (e : Mk × Nat) : Bool := decide (((pks wd e).filter fun q => !decide (q ∈ ks)).length = 0)
theorem pOk_mem {wd : Wood} {ks : List Nat} {e : Mk × Nat} (h : pOk wd ks e = true) : ∀ q ∈ pks wd e, q ∈ ks := fun q hq => by
  have h1 := List.eq_nil_of_length_eq_zero (of_decide_eq_true h)
  have h2 := List.filter_eq_nil_iff.mp h1 q hq
  simpa using h2
/-- makers, as the law has them -/
def EsAt (H : Hp) (wd : Wood) (ks : List Nat) (S : Addr) (es : List (Mk × Nat)) : Prop := (∃ sv, H S = some (.lst sv) ∧ Paired (DueAt H (kds wd)) sv es) ∧ es.length ≤ 12 ∧ ∀ e ∈ es, e ∈ ents (kds wd) wd ∧ pOk wd ks e = true
theorem EsAt.gr {a : Addr} {H H' : Hp} {wd : Wood} {ks : List Nat} {S : Addr} {es : List (Mk × Nat)} (d : Drw H a) (n : S ≠ a) (g : Gr a H H') (h : EsAt H wd ks S es) : EsAt H' wd ks S es := by
  obtain ⟨⟨sv, e, hp⟩, h2, h3⟩ := h
  exact ⟨⟨sv, g.1 _ _ n e, Paired.mapP hp fun _ _ z => z.mono (KT.gr d g)⟩, h2, h3⟩
theorem EsAt.same {H H' : Hp} {wd : Wood} {ks : List Nat} {S : Addr} {es : List (Mk × Nat)} (s : Same H H') (h : EsAt H wd ks S es) : EsAt H' wd ks S es := by
  obtain ⟨⟨sv, e, hp⟩, h2, h3⟩ := h
  exact ⟨⟨sv, s _ _ e, Paired.mapP hp fun _ _ z => z.mono (KT.of s)⟩, h2, h3⟩
theorem EsAt.dp {K : PySem.W.Frag} {H : Hp} {wd : Wood} {ks : List Nat} {S : Addr} {es : List (Mk × Nat)} (g : Good wd) (h : EsAt H wd ks S es) : ∃ ds, Dp K H (.ref S) (.list ds) ∧ SeqAt.shaped (.list ds) = true ∧ ds.length = es.length := by
  obtain ⟨⟨sv, e, hp⟩, h2, h3⟩ := h
  obtain ⟨dd, p1, p2, p3, p4⟩ := dp_lst (K := K) (n := 2) (SqL.of e) (fun v hv => by
    obtain ⟨x, hx, hF⟩ := paired_mem hp hv
    exact hF.dp (ent_tx g (h3 x hx).1))
  exact ⟨dd, p1, shaped_of p2 p3 (by decide), by rw [p4, hp.length]⟩
section
variable {P : Program} {w : World} {K : PySem.W.Frag} {mg : Str → Option Value} {base : Heap}
def spTree : Sp := fun vs H Q _ => ∃ (a p : Addr) (most size : Int) (wd : Wood), vs = [.ref a, .ref p, .int most, .int size] ∧ Drw H a ∧ WdAt H p wd ∧ Good wd ∧ 0 < most ∧ most ≤ 60 ∧
  ∀ (t : Addr) (H' : Hp) (tr : List Row), Gr a H H' → TrAt H' t tr → DrT wd size most.toNat tr → Q (.ref t) H'
theorem ok_tree (T : Tx P K mg) : FnOk P w K mg base CX0 2 T.f_tree T.fd_tree ["_law_box_here", "_law_wood_here", "_law_most", "_law_size"] spTree := by
  refine T.F_tree.ok sc_tree (fun vs H Q E h => ?_) (fun cdv A outer s H vs Q E hr h => ?_)
  · obtain ⟨a, p, most, size, wd, rfl, _⟩ := h
    rfl
  · obtain ⟨a, p, most, size, wd, rfl, dr, hw, good, hm0, hm1, q⟩ := h
    refine ⟨_, (pss_cons (ps_asg (pe_tup (pa_cons (pe_lst pa_nil) (pa_cons (pe_lst pa_nil) (pa_cons (pe_lst pa_nil) pa_nil)))) (pg_tup rfl (pgs_cons (pg_name (i := 4) sc_tree.nd rfl (.inl rfl)) (pgs_cons (pg_name (i := 5) sc_tree.nd rfl (.inr rfl)) (pgs_cons (pg_name (i := 6) sc_tree.nd rfl (.inr rfl)) pgs_nil))))) (pss_cons (ps_for PassesOwn.never rfl (pi_range1 (by rfl) T.m_range (pa_cons (pe_op op_add pe_int (pe_call (ok_take T) (hr.mono (by decide) : Room 1 _) (by rfl) T.g_take T.F_take.kp T.b_take .nil pass0 (pa_cons (pv 0) (pa_cons (pv 2) pa_nil)))) pa_nil)) (pg_name (i := 7) sc_tree.nd rfl (.inl rfl)) (pss_cons (ps_setLc (i := 9) (own := [("_law_one", 17)]) (by rfl) sc_tree.nd rfl rfl (sw_true rfl rfl rfl (by decide +kernel)) (pi_list (pe_call (ok_lmakers T) (hr.mono (by decide) : Room 1 _) (by rfl) T.g_lmakers T.F_lmakers.kp T.b_lmakers .nil pass0 (pa_cons (pv 1) pa_nil))) (blkOk_by (own := [("_law_one", 17)]) (N := ["_law_box_here", "_law_wood_here", "_law_most", "_law_size", "_law_rows", "_law_kinds", "_law_sizes", "_law_turn", "_law_part", "_law_some", "_law_wide", "_law_maker", "_law_kind", "_law_parts", "_law_numbers", "_law_ahead", "_law_many", "_law_one", "_law_at", "_law_number"]) (sc := defScope st_tree) (by decide +kernel)) (fun _ _ _ _ _ => (pg_name (i := 17) sc_tree.nd rfl (.inl rfl))) (fun _ _ _ _ _ => (pts_one (pt_cmpR op_eq (pe_callB (KX.len_seqK K) (by rfl) T.m_len PySem.boot_len (pa_cons (pe_lc (own := [("_law_part", 8)]) (by rfl) sc_tree.nd (KX.pi_tupK K (pe_ix (KX.ix_tupK K) (pv 17) pe_int (fun _ _ => rfl))) (blkOk_by (own := [("_law_part", 8)]) (N := ["_law_box_here", "_law_wood_here", "_law_most", "_law_size", "_law_rows", "_law_kinds", "_law_sizes", "_law_turn", "_law_part", "_law_some", "_law_wide", "_law_maker", "_law_kind", "_law_parts", "_law_numbers", "_law_ahead", "_law_many", "_law_one", "_law_at", "_law_number"]) (sc := SC_t1) (by decide +kernel)) (fun _ _ _ _ _ => (pg_name (i := 8) sc_tree.nd rfl (.inl rfl))) (fun _ _ _ _ _ => (pts_one (pt_cmpR (KX.notin_seqK K) (pv 8) (pv 5) (by rfl)))) (fun _ _ _ _ _ => (pv 8))) pa_nil)) pe_int (nomark _)))) (fun _ _ _ _ _ => (pv 17))) (pss_cons (ps_setLc (i := 10) (own := [("_law_one", 17)]) (by rfl) sc_tree.nd rfl rfl (sw_true rfl rfl rfl (by decide +kernel)) (pi_list (pv 9)) (blkOk_by (own := [("_law_one", 17)]) (N := ["_law_box_here", "_law_wood_here", "_law_most", "_law_size", "_law_rows", "_law_kinds", "_law_sizes", "_law_turn", "_law_part", "_law_some", "_law_wide", "_law_maker", "_law_kind", "_law_parts", "_law_numbers", "_law_ahead", "_law_many", "_law_one", "_law_at", "_law_number"]) (sc := defScope st_tree) (by decide +kernel)) (fun _ _ _ _ _ => (pg_name (i := 17) sc_tree.nd rfl (.inl rfl))) (fun _ _ _ _ _ => (pts_one (pt_cmpR op_gt (pe_callB (KX.len_seqK K) (by rfl) T.m_len PySem.boot_len (pa_cons (pe_ix (KX.ix_tupK K) (pv 17) pe_int (fun _ _ => rfl)) pa_nil)) pe_int (nomark _)))) (fun _ _ _ _ _ => (pv 17))) (C8.pss_cut (ps_if (PW.pt (pw_and (pt_cmpR (op_neD hr.units) (pv 10) (pe_lst pa_nil) (nomark _)) (pw_and1 (pt_cmpR op_gt (pe_call (ok_take T) (hr.mono (by decide) : Room 1 _) (by rfl) T.g_take T.F_take.kp T.b_take .nil pass0 (pa_cons (pv 0) (pa_cons pe_int pa_nil))) pe_int (nomark _))))) (pss_one (ps_set (i := 9) sc_tree.nd rfl (.inl rfl) (pv 10))) pss_nil) (pss_one (ps_if (pt_cmpR (op_neD hr.units) (pv 9) (pe_lst pa_nil) (nomark _)) (pss_cons (ps_asg (pe_ix ix_list (pv 9) (pe_call (ok_take T) (hr.mono (by decide) : Room 1 _) (by rfl) T.g_take T.F_take.kp T.b_take .nil pass0 (pa_cons (pv 0) (pa_cons (pe_callB call_len_seq (by rfl) T.m_len PySem.boot_len (pa_cons (pv 9) pa_nil)) pa_nil))) (fun _ _ => rfl)) (pg_tup rfl (pgs_cons (pg_name (i := 11) sc_tree.nd rfl (.inl rfl)) (pgs_cons (pg_name (i := 12) sc_tree.nd rfl (.inl rfl)) (pgs_cons (pg_name (i := 13) sc_tree.nd rfl (.inl rfl)) pgs_nil))))) (pss_cons (ps_set (i := 14) sc_tree.nd rfl (.inl rfl) (pe_lst pa_nil)) (pss_cons (ps_for PassesOwn.never rfl (pi_tup (pv 13)) (pg_name (i := 8) sc_tree.nd rfl (.inr rfl)) (pss_cons (ps_setLc (i := 15) (own := [("_law_at", 18), ("_law_one", 17)]) (by rfl) sc_tree.nd rfl rfl (sw_true rfl rfl rfl (by decide +kernel)) (pi_enum (by rfl) T.m_enumerate (pa_cons (pv 5) pa_nil)) (blkOk_by (own := [("_law_at", 18), ("_law_one", 17)]) (N := ["_law_box_here", "_law_wood_here", "_law_most", "_law_size", "_law_rows", "_law_kinds", "_law_sizes", "_law_turn", "_law_part", "_law_some", "_law_wide", "_law_maker", "_law_kind", "_law_parts", "_law_numbers", "_law_ahead", "_law_many", "_law_one", "_law_at", "_law_number"]) (sc := defScope st_tree) (by decide +kernel)) (fun _ _ _ _ _ => (KX.pg_tupK K (n := 2) rfl (pgs_cons (pg_name (i := 18) sc_tree.nd rfl (.inl rfl)) (pgs_cons (pg_name (i := 17) sc_tree.nd rfl (.inl rfl)) pgs_nil)))) (fun _ _ _ _ _ => (pts_one (pt_cmpR op_eq (pv 17) (pv 8) (nomark _)))) (fun _ _ _ _ _ => (pv 18))) (pss_cons (ps_set (i := 15) sc_tree.nd rfl (.inl rfl) (pe_ix ix_list (pe_lst (pa_cons (pv 15) (pa_cons (pe_slice sl_list (pv 15) (po_some (pe_un un_neg pe_int)) po_none) pa_nil))) (pe_call (ok_take T) (hr.mono (by decide) : Room 1 _) (by rfl) T.g_take T.F_take.kp T.b_take .nil pass0 (pa_cons (pv 0) (pa_cons pe_int pa_nil))) (fun _ _ => rfl))) (pss_one (ps_expr (pe_bm PySem.F.plainAttrs_list PySem.F.slot_list_append PySem.F.type_list_append mt_append (pv 14) (pa_cons (pe_ix ix_list (pv 15) (pe_call (ok_take T) (hr.mono (by decide) : Room 1 _) (by rfl) T.g_take T.F_take.kp T.b_take .nil pass0 (pa_cons (pv 0) (pa_cons (pe_callB call_len_seq (by rfl) T.m_len PySem.boot_len (pa_cons (pv 15) pa_nil)) pa_nil))) (fun _ _ => rfl)) pa_nil))))))) (pss_cons (ps_set (i := 16) sc_tree.nd rfl (.inl rfl) (pe_op op_add pe_int (pe_callB (cr_sum rfl) (by rfl) T.m_sum (by decide +kernel) (pa_cons (pe_lc (own := [("_law_number", 19)]) (by rfl) sc_tree.nd (pi_list (pv 14)) (blkOk_by (own := [("_law_number", 19)]) (N := ["_law_box_here", "_law_wood_here", "_law_most", "_law_size", "_law_rows", "_law_kinds", "_law_sizes", "_law_turn", "_law_part", "_law_some", "_law_wide", "_law_maker", "_law_kind", "_law_parts", "_law_numbers", "_law_ahead", "_law_many", "_law_one", "_law_at", "_law_number"]) (sc := defScope st_tree) (by decide +kernel)) (fun _ _ _ _ _ => (pg_name (i := 19) sc_tree.nd rfl (.inl rfl))) (fun _ _ _ _ _ => pts_nil) (fun _ _ _ _ _ => (pe_ix (KX.ix_listK K) (pv 6) (pv 19) (fun _ _ => rfl)))) pa_nil)))) (pss_one (ps_if (pt_cmpR op_le (pv 16) (pv 3) (nomark _)) (pss_cons (ps_expr (pe_bm PySem.F.plainAttrs_list PySem.F.slot_list_append PySem.F.type_list_append mt_append (pv 4) (pa_cons (pe_tup (pa_cons (pv 11) (pa_cons (pe_callTy call_tuple_of (by rfl) T.m_tuple (by decide +kernel) (pa_cons (pv 14) pa_nil)) pa_nil))) pa_nil))) (pss_cons (ps_expr (pe_bm PySem.F.plainAttrs_list PySem.F.slot_list_append PySem.F.type_list_append mt_append (pv 5) (pa_cons (pv 12) pa_nil))) (pss_one (ps_expr (pe_bm PySem.F.plainAttrs_list PySem.F.slot_list_append PySem.F.type_list_append mt_append (pv 6) (pa_cons (pv 16) pa_nil)))))) pss_nil)))))) pss_nil)))))) (pss_one (ps_ret (pe_callTy call_tuple_of (by rfl) T.m_tuple (by decide +kernel) (pa_cons (pv 4) pa_nil)))))), ?_⟩
    refine ⟨s0, fun R nR => ⟨s0, fun Kd nKd => ⟨s0, fun Sz nSz => ⟨B08.s3, fun t0 nt0 => ?_⟩⟩⟩⟩
    refine ⟨t0, _, rfl, .inl (.inl upd_same), rfl, _, _, rfl, _, _, rfl, _, _, rfl, rfl, ?_⟩
    have hRK : R ≠ Kd := ne_of_none (show upd H R (.lst []) R = _ from upd_same) nKd
    have eR1 : upd (upd H R (.lst [])) Kd (.lst []) R = some (.lst []) := (same_new nKd) _ _ upd_same
    have eK1 : upd (upd H R (.lst [])) Kd (.lst []) Kd = some (.lst []) := upd_same
    have hRS : R ≠ Sz := ne_of_none eR1 nSz
    have hKS : Kd ≠ Sz := ne_of_none eK1 nSz
    have nKH : H Kd = none := Same.free (same_new nR) nKd
    have nSH : H Sz = none := Same.free ((same_new nR).trans (same_new nKd)) nSz
    have sA : Same H (upd (upd (upd (upd H R (.lst [])) Kd (.lst [])) Sz (.lst [])) t0 (.tup [.ref R, .ref Kd, .ref Sz])) := (((same_new nR).trans (same_new nKd)).trans (same_new nSz)).trans (same_new nt0)
    have eRA : upd (upd (upd (upd H R (.lst [])) Kd (.lst [])) Sz (.lst [])) t0 (.tup [.ref R, .ref Kd, .ref Sz]) R = some (.lst []) := (same_new nt0) _ _ ((same_new nSz) _ _ eR1)
    have eKA : upd (upd (upd (upd H R (.lst [])) Kd (.lst [])) Sz (.lst [])) t0 (.tup [.ref R, .ref Kd, .ref Sz]) Kd = some (.lst []) := (same_new nt0) _ _ ((same_new nSz) _ _ eK1)
    have eSA : upd (upd (upd (upd H R (.lst [])) Kd (.lst [])) Sz (.lst [])) t0 (.tup [.ref R, .ref Kd, .ref Sz]) Sz = some (.lst []) := (same_new nt0) _ _ upd_same
    generalize upd (upd (upd (upd H R (.lst [])) Kd (.lst [])) Sz (.lst [])) t0 (.tup [.ref R, .ref Kd, .ref Sz]) = HA at sA eRA eKA eSA
    have nRa : R ≠ a := (dr.ne nR).symm
    have nKa : Kd ≠ a := (dr.ne nKH).symm
    have nSa : Sz ≠ a := (dr.ne nSH).symm
    refine ⟨_, rfl, _, rfl, a, most, rfl, dr.mono sA, hm0, Nat.lt_of_le_of_lt (show most.natAbs ≤ 100 by omega) (by decide +kernel), fun tn H0 tn0 tn1 g0 => ?_⟩
    refine ⟨_, _, rfl, rfl, 1 + tn, rfl, by omega, by omega, ?_⟩
    refine for_range (lo := 0) (n := (1 + tn).toNat) (fun i σ H' => ∃ (y7 y8 y9 y10 y11 y12 y13 y14 y15 y16 : Option V) (rv : List V) (tr : List Row) (ks : List Nat), σ = [some (.ref a), some (.ref p), some (.int most), some (.int size), some (.ref R), some (.ref Kd), some (.ref Sz), y7, y8, y9, y10, y11, y12, y13, y14, y15, y16, none, none, none] ∧ Gr a H H' ∧ H' R = some (.lst rv) ∧ Paired (TrwAt H') rv tr ∧ H' Kd = some (.lst (natV ks)) ∧ H' Sz = some (.lst ((sizesOf tr).map V.int)) ∧ runK wd [] tr = some ks ∧ tr.length ≤ i ∧ (sizesOf tr).length = tr.length ∧ ∀ s ∈ sizesOf tr, s ≤ size)
      ⟨none, none, none, none, none, none, none, none, none, none, [], [], [], rfl, (Gr.of sA dr).trans g0, g0.1 _ _ nRa eRA, .nil, g0.1 _ _ nKa eKA, g0.1 _ _ nSa eSA, rfl, Nat.le_refl _, rfl, fun _ h => nomatch h⟩ (fun i σ H' hi P => ?_) (fun σ H' P => ?_)
    · obtain ⟨y7, y8, y9, y10, y11, y12, y13, y14, y15, y16, rv, tr, ks, rfl, gr, eR, hrv, eK, eS, hrun, hlen, hsl, hsz⟩ := P
      have hksl : ks.length = tr.length := by
        have := runK_len hrun
        rw [this]
        exact Nat.zero_add _
      have hw' : WdAt H' p wd := hw.mono (KT.gr dr gr)
      refine ⟨_, rfl, p, wd, rfl, hw', good, fun L H2 ds nL s2 eL hds => ?_⟩
      refine ⟨L, rfl, ⟨ds, SqL.of eL⟩, fun D nD => ?_⟩
      -- makers whose parts are there
      refine walk_it (walk_list (xs := ds)) (fun j Hx => Same H2 Hx ∧ ∃ acc, Hx D = some (.lst acc) ∧ Paired (DueAt Hx (kds wd)) acc (((ents (kds wd) wd).take j).filter (pOk wd ks))) ⟨same_new nD, [], upd_same, .nil⟩ (fun j Hx hj P => SqL.of (P.1 _ _ eL)) (fun j x Hx Hy hj P y => ?_) (fun H3 P => ?_)
      · obtain ⟨sx, acc, eD, hac⟩ := P
        obtain ⟨rfl, ex⟩ := y
        obtain ⟨e, ee, hd⟩ := paired_at hds ex
        have hd' := hd
        obtain ⟨t1, u1, rfl, et1, eu1⟩ := hd
        rw [prts_pks] at eu1
        refine ⟨rfl, ?_⟩
        refine ⟨_, rfl, t1, _, 2, .ref u1, rfl, rfl, SqT.of (sx _ _ et1), rfl, u1, rfl, ⟨_, SqT.of (sx _ _ eu1)⟩, fun D2 nD2 => ?_⟩
        refine walk_it (walk_tup (xs := natV (pks wd e))) (fun m Hz => Same Hy Hz ∧ Hz D2 = some (.lst (natV (((pks wd e).take m).filter fun q => !decide (q ∈ ks))))) ⟨same_new nD2, upd_same⟩ (fun m Hz hm P => SqT.of (P.1 _ _ (sx _ _ eu1))) (fun m x Hz Hz' hm P y => ?_) (fun Hz P => ?_)
        · obtain ⟨sz, eD2⟩ := P
          obtain ⟨rfl, exm⟩ := y
          rw [natV_len] at hm
          have exm' : x = .int ((pks wd e)[m] : Nat) := by
            rw [List.getElem?_map, List.getElem?_eq_getElem hm] at exm
            exact (Option.some.inj exm).symm
          subst exm'
          have eKz := sz _ _ (sx _ _ (s2 _ _ eK))
          refine ⟨rfl, _, rfl, _, rfl, Kd, _, rfl, .inl (SqL.of eKz), rfl, nat_flat _, _, rfl, ?_⟩
          rw [inV_nat]
          show (if (!decide ((pks wd e)[m] ∈ ks)) = true then _ else _)
          rw [List.take_add_one, List.getElem?_eq_getElem hm]
          by_cases hin : (pks wd e)[m] ∈ ks
          · rw [decide_eq_true hin]
            refine iteF ⟨sz, ?_⟩
            rw [eD2, List.filter_append]
            simp [hin]
          · rw [decide_eq_false hin]
            refine iteT ⟨_, rfl, _, eD2, ?_, fun c o ec => ?_, ?_⟩
            · rw [natV_len]
              have h1 := List.length_filter_le (fun q => !decide (q ∈ ks)) ((pks wd e).take m)
              have h2 := parts_le good (List.mem_of_getElem? ee)
              rw [List.length_take] at h1
              exact Nat.lt_of_le_of_lt (show _ ≤ 10 by omega) (by decide)
            · rw [upd_ne (ne_of_none ec nD2)]
              exact sz _ _ ec
            · rw [upd_same, List.filter_append, show ((some (pks wd e)[m]).toList.filter fun q => !decide (q ∈ ks)) = [(pks wd e)[m]] by simp [hin], natV_snoc]
        obtain ⟨sz, eD2⟩ := P
        rw [natV_len, List.take_length] at eD2
        refine ⟨D2, _, rfl, .inl (SqL.of eD2), rfl, _, rfl, ?_⟩
        rw [natV_len, eqi]
        rw [List.take_add_one, ee, List.filter_append]
        have hp0 : decide ((((pks wd e).filter fun q => !decide (q ∈ ks)).length : Int) = 0) = pOk wd ks e := by
          unfold pOk
          rw [decide_eq_decide]
          omega
        rw [hp0]
        cases hpk : pOk wd ks e with
        | true =>
          refine iteT ⟨_, rfl, acc, sz _ _ eD, ?_, fun c o ec => ?_, acc ++ [.ref t1], upd_same, ?_⟩
          · have h1 := hac.length
            have h2 := List.length_filter_le (pOk wd ks) ((ents (kds wd) wd).take j)
            have h3 := ents_len good
            rw [List.length_take] at h2
            exact Nat.lt_of_le_of_lt (show acc.length ≤ 12 by omega) (by decide)
          · rw [upd_ne (ne_of_none ec nD)]
            exact sz _ _ (sx _ _ ec)
          · have kt : KT Hz (upd Hz D (.lst (acc ++ [.ref t1]))) := KT.lst (sz _ _ eD)
            rw [show ((some e).toList.filter (pOk wd ks)) = [e] by simp [hpk]]
            exact paired_snoc (Paired.mapP hac fun _ _ z => (z.mono (KT.of sz)).mono kt) ((hd'.mono (KT.of (sx.trans sz))).mono kt)
        | false =>
          refine iteF ⟨sx.trans sz, acc, sz _ _ eD, ?_⟩
          rw [show ((some e).toList.filter (pOk wd ks)) = [] by simp [hpk], List.append_nil]
          exact Paired.mapP hac fun _ _ z => z.mono (KT.of sz)
      obtain ⟨s3, acc, eD, hac⟩ := P
      rw [hds.length, List.take_length] at hac
      have hEs : EsAt H3 wd ks D ((ents (kds wd) wd).filter (pOk wd ks)) := ⟨⟨acc, eD, hac⟩, Nat.le_trans (List.length_filter_le _ _) (ents_len good), fun e he => ⟨(List.mem_filter.mp he).1, (List.mem_filter.mp he).2⟩⟩
      generalize (ents (kds wd) wd).filter (pOk wd ks) = es at hEs hac
      have s03 : Same H' H3 := s2.trans s3
      have nDa : D ≠ a := (gr.2.ne (Same.free s2 nD)).symm
      -- wide
      refine ⟨_, rfl, D, rfl, ⟨acc, SqL.of eD⟩, fun W nW => ?_⟩
      refine walk_it (walk_list (xs := acc)) (fun j Hx => Same H3 Hx ∧ ∃ ws fs, Hx W = some (.lst ws) ∧ Paired (DueAt Hx (kds wd)) ws fs ∧ fs.length ≤ j ∧ ∀ e ∈ fs, e ∈ es) ⟨same_new nW, [], [], upd_same, .nil, Nat.le_refl _, fun _ h => nomatch h⟩ (fun j Hx hj P => SqL.of (P.1 _ _ eD)) (fun j x Hx Hy hj P y => ?_) (fun H4 P => ?_)
      · obtain ⟨sx, ws, fs, eW, hws, hfl, hfs⟩ := P
        obtain ⟨rfl, ex⟩ := y
        obtain ⟨e, ee, hd⟩ := paired_at hac ex
        have hd' := hd
        obtain ⟨t1, u1, rfl, et1, eu1⟩ := hd
        refine ⟨rfl, _, rfl, t1, _, 2, .ref u1, rfl, rfl, SqT.of (sx _ _ et1), rfl, u1, _, rfl, .inr (SqT.of (sx _ _ eu1)), _, _, rfl, rfl, _, rfl, ite2 (fun c => ?_) (fun c => ?_)⟩
        · have hal := hac.length
          have h12 := hEs.2.1
          refine ⟨_, rfl, ws, eW, ?_, fun c o ec => ?_, ws ++ [.ref t1], fs ++ [e], upd_same, ?_, ?_, fun e' he => ?_⟩
          · rw [hws.length]
            exact Nat.lt_of_le_of_lt (show _ ≤ 12 by omega) (by decide)
          · rw [upd_ne (ne_of_none ec nW)]
            exact sx _ _ ec
          · have kt : KT Hy (upd Hy W (.lst (ws ++ [.ref t1]))) := KT.lst eW
            exact paired_snoc (Paired.mapP hws fun _ _ z => z.mono kt) ((hd'.mono (KT.of sx)).mono kt)
          · rw [List.length_append]
            show fs.length + 1 ≤ j + 1
            omega
          · rcases List.mem_append.mp he with he | he
            · exact hfs e' he
            · rw [List.mem_singleton.mp he]
              exact List.mem_of_getElem? ee
        · exact ⟨sx, ws, fs, eW, hws, by omega, hfs⟩
      obtain ⟨s4, ws, fs, eW, hws, hfl, hfs⟩ := P
      have hal := hac.length
      have h12 := hEs.2.1
      have hEs4 : EsAt H4 wd ks D es := hEs.same s4
      have hWs4 : EsAt H4 wd ks W fs := ⟨⟨ws, eW, hws⟩, by omega, fun e he => hEs.2.2 e (hfs e he)⟩
      have nWa : W ≠ a := (gr.2.ne (Same.free s03 nW)).symm
      have G4 : Gr a H' H4 := Gr.of (s03.trans s4) gr.2
      clear hws eW hac hfl hfs hal
      -- which
      obtain ⟨M, hM⟩ : ∃ M : L2.St → Hp → Prop, M = fun σ Hx => ∃ (S0 : Addr) (es0 : List (Mk × Nat)), σ = [some (.ref a), some (.ref p), some (.int most), some (.int size), some (.ref R), some (.ref Kd), some (.ref Sz), some (.int (0 + (i : Int))), y8, some (.ref S0), some (.ref W), y11, y12, y13, y14, y15, y16, none, none, none] ∧ S0 ≠ a ∧ EsAt Hx wd ks S0 es0 ∧ Gr a H' Hx := ⟨_, rfl⟩
      refine ⟨M, ?_, fun σ1 H5 h1 => ?_⟩
      · refine ⟨_, rfl, s0, fun L4 nL4 => ?_⟩
        have sL := same_new (o := .lst []) nL4
        obtain ⟨dd, p1, p2, p3⟩ := (hWs4.same sL).dp (K := K) good
        refine ⟨.list dd, .list [], p1, .lst (SqL.of upd_same) .nil, p2, rfl, _, rfl, ite2 (fun c => ?_) (fun c => ?_)⟩
        · refine ⟨_, rfl, a, 4, rfl, G4.2.mono sL, by decide, by decide +kernel, fun d4 H5 d40 d41 g5 => ?_⟩
          have G5 : Gr a H' H5 := (G4.trans (Gr.of sL G4.2)).trans g5
          refine ⟨_, _, rfl, rfl, _, rfl, ite2 (fun c => ?_) (fun c => ?_)⟩
          · refine ⟨_, rfl, ?_⟩
            show M _ _
            rw [hM]
            exact ⟨W, fs, rfl, nWa, (hWs4.same sL).gr (G4.2.mono sL) nWa g5, G5⟩
          · show M _ _
            rw [hM]
            exact ⟨D, es, rfl, nDa, (hEs4.same sL).gr (G4.2.mono sL) nDa g5, G5⟩
        · show M _ _
          rw [hM]
          exact ⟨D, es, rfl, nDa, hEs4.same sL, G4.trans (Gr.of sL G4.2)⟩
      rw [hM] at h1
      obtain ⟨S0, es0, rfl, nS0a, hE5, G5⟩ := h1
      clear hM M hEs4 hWs4 hEs G4 s4 s3 s2 s03 eD nD nW
      have keep : ∀ {Hx : Hp}, Gr a H' Hx → Gr a H Hx ∧ Hx R = some (.lst rv) ∧ Paired (TrwAt Hx) rv tr ∧ Hx Kd = some (.lst (natV ks)) ∧ Hx Sz = some (.lst ((sizesOf tr).map V.int)) := fun {Hx} g => ⟨gr.trans g, g.1 _ _ nRa eR, Paired.mapP hrv fun _ _ z => z.mono (KT.gr gr.2 g), g.1 _ _ nKa eK, g.1 _ _ nSa eS⟩
      refine ⟨_, rfl, s0, fun L5 nL5 => ?_⟩
      have sL := same_new (o := .lst []) nL5
      have hE5' := hE5.same sL
      have G5' : Gr a H' (upd H5 L5 (.lst [])) := G5.trans (Gr.of sL G5.2)
      obtain ⟨dd, p1, p2, p3⟩ := hE5'.dp (K := K) good
      refine ⟨.list dd, .list [], p1, .lst (SqL.of upd_same) .nil, p2, rfl, _, rfl, ?_⟩
      rw [eqv_nil, p3]
      by_cases hz : es0.length = 0
      · rw [decide_eq_true hz]
        refine iteF ?_
        obtain ⟨k1, k2, k3, k4, k5⟩ := keep G5'
        exact ⟨_, _, _, _, _, _, _, _, _, _, rv, tr, ks, rfl, k1, k2, k3, k4, k5, hrun, by omega, hsl, hsz⟩
      rw [decide_eq_false hz]
      refine iteT ?_
      clear p1
      generalize upd H5 L5 (.lst []) = H6 at hE5' G5'
      clear sL hE5 G5
      obtain ⟨⟨sv, eS0, hsv⟩, h12', hes⟩ := hE5'
      have hsvl := hsv.length
      refine ⟨_, rfl, _, rfl, _, rfl, S0, sv, rfl, .inl (SqL.of eS0), a, _, rfl, G5'.2, by omega, Nat.lt_of_le_of_lt (show ((sv.length : Nat) : Int).natAbs ≤ 100 by omega) (by decide +kernel), fun d6 H7 d60 d61 g7 => ?_⟩
      have hd6 : d6.toNat < sv.length := by omega
      obtain ⟨e, ee, hdue⟩ := paired_at hsv (List.getElem?_eq_getElem hd6)
      obtain ⟨t1, u1, ev, et1, eu1⟩ := hdue.mono (KT.gr G5'.2 g7)
      rw [prts_pks] at eu1
      obtain ⟨hem, hep⟩ := hes e (List.mem_of_getElem? ee)
      have hin := pOk_mem hep
      have hp2 := parts_le good hem
      refine ⟨S0, sv, d6, .ref t1, rfl, rfl, SqL.of (g7.1 _ _ nS0a eS0), at_of (j := d6.toNat) (by omega) (by rw [List.getElem?_eq_getElem hd6, ev]), ?_⟩
      refine ⟨t1, _, rfl, .inl (.inl et1), rfl, _, _, rfl, _, _, rfl, _, _, rfl, rfl, ?_⟩
      have G7 : Gr a H' H7 := G5'.trans g7
      clear g7 G5' eS0 hsv hsvl
      -- the numbers
      refine ⟨s0, fun Nn nNn => ?_⟩
      have nNa : Nn ≠ a := (G7.2.ne nNn).symm
      have sN := same_new (o := .lst []) nNn
      refine ⟨_, rfl, u1, rfl, ⟨_, SqT.of (sN _ _ eu1)⟩, ?_⟩
      refine for_it (walk_tup (xs := natV (pks wd e))) (fun j σ Hx => ∃ (z8 z15 : Option V) (xs : List Int), σ = [some (.ref a), some (.ref p), some (.int most), some (.int size), some (.ref R), some (.ref Kd), some (.ref Sz), some (.int (0 + (i : Int))), z8, some (.ref S0), some (.ref W), some (.str (S e.1.1)), some (.int (e.2 : Nat)), some (.ref u1), some (.ref Nn), z15, y16, none, none, none] ∧ Gr a H7 Hx ∧ Hx Nn = some (.lst (xs.map V.int)) ∧ xs.length = j ∧ (xs.zip (pks wd e)).all (fit1 ks) = true) ⟨_, _, [], rfl, Gr.of sN G7.2, upd_same, rfl, rfl⟩ (fun j σ Hx hj P => ?_) (fun j x σ Hw Hx hj P y => ?_) (fun σ Hx P => ?_)
      · obtain ⟨_, _, _, _, g, _⟩ := P
        exact SqT.of (KT.gr G7.2 g _ _ eu1)
      · obtain ⟨z8, z15, xs, rfl, g8, eN, hxl, hall⟩ := P
        obtain ⟨rfl, ex⟩ := y
        rw [natV_len] at hj
        have exq : x = .int ((pks wd e)[j] : Nat) := by
          rw [List.getElem?_map, List.getElem?_eq_getElem hj] at ex
          exact (Option.some.inj ex).symm
        subst exq
        have hqin : (pks wd e)[j] ∈ ks := hin _ (List.getElem_mem hj)
        generalize hq : (pks wd e)[j] = qj at hqin
        have eK8 : Hx Kd = some (.lst (natV ks)) := (keep (G7.trans g8)).2.2.2.1
        -- ahead
        refine ⟨_, rfl, Kd, natV ks, rfl, SqL.of eK8, fun A1 nA1 => ?_⟩
        refine walk_it (walk_enum (xs := natV ks)) (fun m Hz => Same Hx Hz ∧ ∃ ps : List Nat, Hz A1 = some (.lst (natV ps)) ∧ (∀ x ∈ ps, ks[x]? = some qj) ∧ (∀ x, x < m → ks[x]? = some qj → x ∈ ps) ∧ ps.length ≤ m) ⟨same_new nA1, [], upd_same, (fun _ h => nomatch h), (fun x h => absurd h (Nat.not_lt_zero _)), Nat.le_refl _⟩ (fun m Hz hm P => SqL.of (P.1 _ _ eK8)) (fun m x Hz Hz' hm P y => ?_) (fun Hz P => ?_)
        · obtain ⟨sz, ps, eA, hps1, hps2, hps3⟩ := P
          obtain ⟨Tt, xi, xn, rfl, nTt, rfl, exi, exn⟩ := y
          cases Option.some.inj exi
          rw [natV_len] at hm
          have exn' : xn = .int (ks[m] : Nat) := by
            dsimp only at exn
            rw [List.getElem?_map, List.getElem?_eq_getElem hm] at exn
            exact (Option.some.inj exn).symm
          subst exn'
          have sT := same_new (o := .tup [.int (m : Nat), .int (ks[m] : Nat)]) nTt
          refine ⟨Tt, _, rfl, .inl (.inl upd_same), rfl, _, _, rfl, _, _, rfl, rfl, rfl, _, rfl, _, rfl, rfl, _, rfl, ?_⟩
          generalize upd Hz Tt (.tup [.int (m : Nat), .int (ks[m] : Nat)]) = Hy at sT
          rw [eqi]
          by_cases hk : ks[m] = qj
          · rw [decide_eq_true (show ((ks[m] : Int) = (qj : Nat)) by omega)]
            refine iteT ⟨_, rfl, _, sT _ _ eA, ?_, fun c o ec => ?_, ps ++ [m], by rw [upd_same, natV_snoc], fun x hx => ?_, fun x hx ex => ?_, ?_⟩
            · rw [natV_len]
              exact Nat.lt_of_le_of_lt (show _ ≤ 1000 by omega) (by decide)
            · rw [upd_ne (ne_of_none ec nA1)]
              exact sT _ _ (sz _ _ ec)
            · rcases List.mem_append.mp hx with hx | hx
              · exact hps1 x hx
              · rw [List.mem_singleton.mp hx, List.getElem?_eq_getElem hm, hk]
            · by_cases hxm : x = m
              · rw [hxm]
                exact List.mem_append_right _ List.mem_cons_self
              · exact List.mem_append_left _ (hps2 x (by omega) ex)
            · rw [List.length_append]
              show ps.length + 1 ≤ m + 1
              omega
          · rw [decide_eq_false (show ¬ ((ks[m] : Int) = (qj : Nat)) by omega)]
            refine iteF ⟨sz.trans sT, ps, sT _ _ eA, hps1, fun x hx ex => ?_, by omega⟩
            by_cases hxm : x = m
            · rw [hxm, List.getElem?_eq_getElem hm] at ex
              exact absurd (Option.some.inj ex) hk
            · exact hps2 x (by omega) ex
        obtain ⟨sz, ps, eA, hps1, hps2, hps3⟩ := P
        rw [natV_len] at hps2 hps3
        have hpne : 0 < ps.length := by
          obtain ⟨m, hm, em⟩ := List.getElem_of_mem hqin
          exact List.length_pos_of_mem (hps2 m hm (by rw [List.getElem?_eq_getElem hm, em]))
        have g9 : Gr a H7 Hz := g8.trans (Gr.of sz g8.2)
        have eN9 := sz _ _ eN
        have nA1a : A1 ≠ a := (g8.2.ne nA1).symm
        refine ⟨_, rfl, _, rfl, _, rfl, _, rfl, ?_⟩
        dsimp only [tNoPart]
        refine ⟨A1, _, rfl, SqL.of eA, fun A2 nA2 => ?_⟩
        have sA2 := same_new (o := .lst (cutV (natV ps) (some (-2)) none)) nA2
        have nA2a : A2 ≠ a := (g9.2.ne nA2).symm
        obtain ⟨k2, ecut, hk2⟩ := cut2 (ps := ps)
        rw [ecut] at sA2 ⊢
        have eA2 : upd Hz A2 (.lst (natV (ps.drop k2))) A2 = some (.lst (natV (ps.drop k2))) := upd_same
        have eA1 := sA2 _ _ eA
        have eN10 := sA2 _ _ eN9
        have g10 : Gr a H7 (upd Hz A2 (.lst (natV (ps.drop k2)))) := g9.trans (Gr.of sA2 g9.2)
        refine ⟨B08.s2, fun L6 nL6 => ?_⟩
        generalize upd Hz A2 (.lst (natV (ps.drop k2))) = Hb at eA1 eA2 eN10 g10 nL6
        have sL6 := same_new (o := .lst [.ref A1, .ref A2]) nL6
        have nL6a : L6 ≠ a := (g10.2.ne nL6).symm
        refine ⟨_, rfl, a, 2, rfl, g10.2.mono sL6, by decide, by decide +kernel, fun d2 Hc d20 d21 gc => ?_⟩
        obtain ⟨A0, ps0, hA0, nA0, eA0, hp0, hp1, hp2'⟩ : ∃ (A0 : Addr) (ps0 : List Nat), atI [V.ref A1, .ref A2] d2 = some (.ref A0) ∧ A0 ≠ a ∧ Hc A0 = some (.lst (natV ps0)) ∧ 0 < ps0.length ∧ ps0.length ≤ 1000 ∧ ∀ x ∈ ps0, ks[x]? = some qj := by
          have : d2 = 0 ∨ d2 = 1 := by omega
          rcases this with rfl | rfl
          · exact ⟨A1, ps, rfl, nA1a, gc.1 _ _ nA1a (sL6 _ _ eA1), hpne, by omega, hps1⟩
          · refine ⟨A2, ps.drop k2, rfl, nA2a, gc.1 _ _ nA2a (sL6 _ _ eA2), ?_, ?_, fun x hx => hps1 x (List.mem_of_mem_drop hx)⟩
            · rw [List.length_drop]
              have := hk2 hpne
              omega
            · rw [List.length_drop]
              omega
        refine ⟨L6, _, d2, .ref A0, rfl, rfl, SqL.of (gc.1 _ _ nL6a upd_same), hA0, ?_⟩
        have g11 : Gr a H7 Hc := (g10.trans (Gr.of sL6 g10.2)).trans gc
        have eN11 := gc.1 _ _ nNa (sL6 _ _ eN10)
        refine ⟨.ref Nn, rfl, .inl ⟨rfl, _, SqL.of eN11⟩, ?_⟩
        refine ⟨_, rfl, _, rfl, _, rfl, A0, _, rfl, .inl (SqL.of eA0), a, _, rfl, g11.2, by rw [natV_len]; omega, Nat.lt_of_le_of_lt (show (((natV ps0).length : Nat) : Int).natAbs ≤ 1000 by rw [natV_len]; omega) (by decide +kernel), fun d9 Hd d90 d91 gd => ?_⟩
        rw [natV_len] at d91
        obtain ⟨x9, hx9, ea9⟩ := natV_ix d90 d91
        have eN12 := gd.1 _ _ nNa eN11
        refine ⟨A0, _, d9, .int (x9 : Nat), rfl, rfl, SqL.of (gd.1 _ _ nA0 eA0), ea9, Nn, _, _, rfl, rfl, eN12, ?_, ?_⟩
        · rw [List.length_map]
          exact Nat.lt_of_le_of_lt (show _ ≤ 1000 by omega) (by decide)
        · have hkx := hp2' x9 hx9
          have hxlt : x9 < ks.length := (List.getElem?_eq_some_iff.mp hkx).1
          refine ⟨_, _, xs ++ [(x9 : Int)], rfl, (g11.trans gd).new nNn nNa, by rw [upd_same, List.map_append]; rfl, by rw [List.length_append, hxl]; rfl, ?_⟩
          have hsplit : (xs ++ [(x9 : Int)]).zip (pks wd e) = xs.zip (pks wd e) ++ [((x9 : Int), qj)] := by
            have h1 : (pks wd e) = (pks wd e).take j ++ (pks wd e)[j] :: (pks wd e).drop (j + 1) := by
              rw [← List.drop_eq_getElem_cons hj, List.take_append_drop]
            have h2 : ((pks wd e).take j).length = xs.length := by
              rw [List.length_take]
              omega
            rw [hq] at h1
            have h3 : xs.zip (pks wd e) = xs.zip ((pks wd e).take j) := by
              conv => lhs; rw [h1]
              rw [show xs = xs ++ [] by simp, List.zip_append (by simpa using h2.symm)]
              simp
            rw [h3]
            conv => lhs; rw [h1]
            rw [List.zip_append h2.symm]
            rfl
          rw [hsplit, List.all_append, hall]
          show (true && (fit1 ks ((x9 : Int), qj) && true)) = true
          unfold fit1
          dsimp only
          rw [decide_eq_true (show (0 : Int) ≤ (x9 : Int) by omega), decide_eq_true (show (x9 : Int) < (ks.length : Int) by omega), show ((x9 : Int)).toNat = x9 from Int.toNat_natCast _, hkx]
          simp
      · obtain ⟨z8, z15, xs, rfl, g8, eN, hxl, hall⟩ := P
        rw [natV_len] at hxl
        have hfit : fits ks xs (pks wd e) = true := by
          unfold fits
          rw [decide_eq_true hxl, hall]
          rfl
        have hrk : rowK wd ks (e.1.1, xs) = some e.2 := by
          unfold rowK
          dsimp only
          rw [entOf_mem good hem]
          dsimp only
          rw [if_pos hfit]
        have G8 : Gr a H' Hx := G7.trans g8
        obtain ⟨k1, k2, k3, k4, k5⟩ := keep G8
        have hxr : ∀ x ∈ xs, 0 ≤ x ∧ x < ks.length := fun x hx => by
          obtain ⟨m, hm, rfl⟩ := List.getElem_of_mem hx
          have hz : m < (xs.zip (pks wd e)).length := by
            rw [List.length_zip]
            omega
          have h1 := List.all_eq_true.mp hall _ (List.getElem_mem hz)
          rw [List.getElem_zip] at h1
          unfold fit1 at h1
          dsimp only at h1
          obtain ⟨h2, h3⟩ := Bool.and_eq_true_iff.mp h1
          exact ⟨of_decide_eq_true h2, of_decide_eq_true (Bool.and_eq_true_iff.mp h3).1⟩
        refine ⟨_, rfl, Nn, rfl, ⟨_, SqL.of eN⟩, fun D5 nD5 => ?_⟩
        refine walk_it (walk_list (xs := xs.map V.int)) (fun m Hz => Same Hx Hz ∧ Hz D5 = some (.lst (((xs.take m).map fun x => (sizesOf tr).getD x.toNat 0).map V.int))) ⟨same_new nD5, upd_same⟩ (fun m Hz hm P => SqL.of (P.1 _ _ eN)) (fun m x Hz Hz' hm P y => ?_) (fun Hz P => ?_)
        · obtain ⟨sz, eD5⟩ := P
          obtain ⟨rfl, exm⟩ := y
          rw [List.length_map] at hm
          have exm' : x = .int xs[m] := by
            rw [List.getElem?_map, List.getElem?_eq_getElem hm] at exm
            exact (Option.some.inj exm).symm
          subst exm'
          obtain ⟨x0, x1⟩ := hxr _ (List.getElem_mem hm)
          have hlt : (xs[m]).toNat < (sizesOf tr).length := by omega
          have eat : atI ((sizesOf tr).map V.int) xs[m] = some (.int ((sizesOf tr).getD (xs[m]).toNat 0)) := at_of (j := (xs[m]).toNat) (by omega) (by
            rw [List.getElem?_map, List.getElem?_eq_getElem hlt, List.getD_eq_getElem?_getD, List.getElem?_eq_getElem hlt]
            rfl)
          refine ⟨rfl, ?_⟩
          unfold tYes
          refine iteT ?_
          refine ⟨_, rfl, _, rfl, Sz, _, _, _, rfl, rfl, SqL.of (sz _ _ k5), eat, _, eD5, ?_, fun c o ec => ?_, ?_⟩
          · rw [List.length_map, List.length_map, List.length_take]
            exact Nat.lt_of_le_of_lt (show _ ≤ 1000 by omega) (by decide)
          · rw [upd_ne (ne_of_none ec nD5)]
            exact sz _ _ ec
          · rw [upd_same, List.take_add_one, List.getElem?_eq_getElem hm, List.map_append, List.map_append]
            rfl
        obtain ⟨sz, eD5⟩ := P
        rw [List.length_map, List.take_length] at eD5
        refine ⟨D5, xs.map fun x => (sizesOf tr).getD x.toNat 0, rfl, SqL.of eD5, _, _, rfl, rfl, ?_⟩
        have G9 : Gr a H' Hz := G8.trans (Gr.of sz G8.2)
        obtain ⟨k1, k2, k3, k4, k5⟩ := keep G9
        have eN9 := sz _ _ eN
        refine ⟨_, rfl, _, rfl, _, _, rfl, rfl, _, rfl, ite2 (fun c => ?_) (fun c => ?_)⟩
        rotate_left
        · exact ⟨_, _, _, _, _, _, _, _, _, _, rv, tr, ks, rfl, k1, k2, k3, k4, k5, hrun, by omega, hsl, hsz⟩
        have hle := of_decide_eq_true c
        -- one row more
        refine ⟨.ref R, rfl, .inl ⟨rfl, _, SqL.of k2⟩, _, rfl, _, rfl, Nn, _, rfl, .inl ⟨SqL.of eN9, fun t5 nt5 => ⟨B08.s2, fun t6 nt6 => ?_⟩⟩⟩
        have sT : Same Hz (upd (upd Hz t5 (.tup (xs.map V.int))) t6 (.tup [.str (S e.1.1), .ref t5])) := (same_new nt5).trans (same_new nt6)
        have e5 : upd (upd Hz t5 (.tup (xs.map V.int))) t6 (.tup [.str (S e.1.1), .ref t5]) t5 = some (.tup (xs.map V.int)) := (same_new nt6) _ _ upd_same
        have e6 : upd (upd Hz t5 (.tup (xs.map V.int))) t6 (.tup [.str (S e.1.1), .ref t5]) t6 = some (.tup [.str (S e.1.1), .ref t5]) := upd_same
        generalize upd (upd Hz t5 (.tup (xs.map V.int))) t6 (.tup [.str (S e.1.1), .ref t5]) = Hm at sT e5 e6
        have hrvl := hrv.length
        refine ⟨R, rv, .ref t6, rfl, rfl, sT _ _ k2, Nat.lt_of_le_of_lt (show rv.length ≤ 1000 by omega) (by decide), ?_⟩
        have kt1 : KT Hm (upd Hm R (.lst (rv ++ [.ref t6]))) := KT.lst (sT _ _ k2)
        have hK1 : upd Hm R (.lst (rv ++ [.ref t6])) Kd = some (.lst (natV ks)) := by
          rw [upd_ne hRK.symm]
          exact sT _ _ k4
        have hS1 : upd Hm R (.lst (rv ++ [.ref t6])) Sz = some (.lst ((sizesOf tr).map V.int)) := by
          rw [upd_ne hRS.symm]
          exact sT _ _ k5
        have hR1 : upd Hm R (.lst (rv ++ [.ref t6])) R = some (.lst (rv ++ [.ref t6])) := upd_same
        have gR : Gr a H (upd Hm R (.lst (rv ++ [.ref t6]))) := (k1.trans (Gr.of sT k1.2)).new nR nRa
        have hP1 : Paired (TrwAt (upd Hm R (.lst (rv ++ [.ref t6])))) (rv ++ [.ref t6]) (tr ++ [(e.1.1, xs)]) := paired_snoc (Paired.mapP k3 fun _ _ z => (z.mono (KT.of sT)).mono kt1) ⟨t6, t5, rfl, kt1 _ _ e6, kt1 _ _ e5⟩
        generalize upd Hm R (.lst (rv ++ [.ref t6])) = Hn at hK1 hS1 hR1 gR hP1
        refine ⟨.ref Kd, rfl, .inl ⟨rfl, _, SqL.of hK1⟩, _, rfl, Kd, _, _, rfl, rfl, hK1, ?_, ?_⟩
        · rw [natV_len]
          exact Nat.lt_of_le_of_lt (show _ ≤ 1000 by omega) (by decide)
        have kt2 : KT Hn (upd Hn Kd (.lst (natV ks ++ [.int (e.2 : Nat)]))) := KT.lst hK1
        have hS2 : upd Hn Kd (.lst (natV ks ++ [.int (e.2 : Nat)])) Sz = some (.lst ((sizesOf tr).map V.int)) := by
          rw [upd_ne hKS.symm]
          exact hS1
        have hR2 : upd Hn Kd (.lst (natV ks ++ [.int (e.2 : Nat)])) R = some (.lst (rv ++ [.ref t6])) := by
          rw [upd_ne hRK]
          exact hR1
        have hK2 : upd Hn Kd (.lst (natV ks ++ [.int (e.2 : Nat)])) Kd = some (.lst (natV (ks ++ [e.2]))) := by
          rw [upd_same, natV_snoc]
        have gK : Gr a H (upd Hn Kd (.lst (natV ks ++ [.int (e.2 : Nat)]))) := gR.new nKH nKa
        have hP2 := Paired.mapP hP1 fun _ _ z => z.mono kt2
        generalize upd Hn Kd (.lst (natV ks ++ [.int (e.2 : Nat)])) = Ho at hS2 hR2 hK2 gK hP2
        refine ⟨.ref Sz, rfl, .inl ⟨rfl, _, SqL.of hS2⟩, _, rfl, Sz, _, _, rfl, rfl, hS2, ?_, ?_⟩
        · rw [List.length_map]
          exact Nat.lt_of_le_of_lt (show _ ≤ 1000 by omega) (by decide)
        have kt3 : KT Ho (upd Ho Sz (.lst ((sizesOf tr).map V.int ++ [.int (1 + (xs.map fun x => (sizesOf tr).getD x.toNat 0).sum)]))) := KT.lst hS2
        refine ⟨_, _, _, _, _, _, _, _, _, _, rv ++ [.ref t6], tr ++ [(e.1.1, xs)], ks ++ [e.2], rfl, gK.new nSH nSa, ?_, Paired.mapP hP2 fun _ _ z => z.mono kt3, ?_, ?_, runK_snoc hrun hrk, by rw [List.length_append]; show tr.length + 1 ≤ i + 1; omega, ?_, fun s hs => ?_⟩
        · rw [upd_ne hRS]
          exact hR2
        · rw [upd_ne hKS]
          exact hK2
        · rw [upd_same, sizesOf_snoc, List.map_append]
          rfl
        · rw [sizesOf_snoc, List.length_append, List.length_append, hsl]
          rfl
        · rw [sizesOf_snoc] at hs
          rcases List.mem_append.mp hs with hs | hs
          · exact hsz s hs
          · rw [List.mem_singleton.mp hs]
            exact hle
    · obtain ⟨y7, y8, y9, y10, y11, y12, y13, y14, y15, y16, rv, tr, ks, rfl, gr, eR, hrv, eK, eS, hrun, hlen, hsl, hsz⟩ := P
      refine ⟨_, rfl, R, rv, rfl, .inl ⟨SqL.of eR, fun t nt => ?_⟩⟩
      exact q t _ tr (gr.trans (Gr.of (same_new nt) gr.2)) ⟨rv, upd_same, Paired.mapP hrv fun _ _ z => z.mono (KT.of (same_new nt))⟩ ⟨⟨ks, hrun⟩, by omega, hsz⟩
end

theorem slA_of {K : PySem.W.Frag} {H : Hp} {t : Addr} {xs : List V} {lo hi : Option Int} {Q : VK} (e : H t = some (.tup xs)) (q : ∀ p' H', Same H H' → H' p' = some (.tup (cutV xs lo hi)) → Q (.ref p') H') : rSlA K (.ref t) lo hi H Q := by
  refine ⟨t, xs, rfl, SqT.of e, fun h => q t H (Same.refl H) ?_, fun _ p' n => q p' _ (same_new n) upd_same⟩
  unfold cutV
  rw [h.1, h.2, List.drop_zero, Nat.sub_zero, List.take_length]
  exact e
theorem catA_of {K : PySem.W.Frag} {H : Hp} {t u : Addr} {xs ys : List V} {Q : VK} (e : H t = some (.tup xs)) (e2 : H u = some (.tup ys)) (hz : xs.length + ys.length ≤ sizeLine) (q : ∀ p' H', Same H H' → H' p' = some (.tup (xs ++ ys)) → Q (.ref p') H') : rCatA K (.ref t) (.ref u) H Q := by
  refine ⟨t, u, xs, ys, rfl, rfl, SqT.of e, SqT.of e2, hz, fun h => q u H (Same.refl H) ?_, fun _ h => q t H (Same.refl H) ?_, fun _ _ p' n => q p' _ (same_new n) upd_same⟩
  · rw [h]
    exact e2
  · rw [h, List.append_nil]
    exact e
theorem cut_hi {xs : List V} {k : Int} (h : 0 ≤ k) : (cutV xs none (some k)).length = min k.toNat xs.length := by
  unfold cutV
  rw [List.length_take, List.length_drop]
  show min ((if k < 0 then _ else min k.toNat xs.length) - 0) (xs.length - 0) = _
  rw [if_neg (by omega)]
  omega
theorem cut_lo {xs : List V} {k : Int} : (cutV xs (some k) none).length = xs.length - (if k < 0 then (k + (xs.length : Int)).toNat else min k.toNat xs.length) := by
  unfold cutV
  rw [List.length_take, List.length_drop]
  show min (xs.length - (if k < 0 then _ else min k.toNat xs.length)) (xs.length - (if k < 0 then _ else min k.toNat xs.length)) = _
  exact Nat.min_self _
theorem tailOf {T G : Prop} (f : T → G) (t : T) : G := f t

/-! ### _law_spoilt_tree -/
def TupI (b : Nat) (H : Hp) (t : Addr) : Prop := ∃ xs : List Int, H t = some (.tup (xs.map V.int)) ∧ xs.length ≤ b
def RwI (N : Hp) (b : Nat) (H : Hp) (v : V) : Prop := ∃ r n t, v = .ref r ∧ H r = some (.lst [.str (S n), .ref t]) ∧ (tx n ∧ N r = none) ∧ TupI b H t
def RsI (N : Hp) (b : Nat) (H : Hp) (R : Addr) : Prop := ∃ rs : List V, H R = some (.lst rs) ∧ rs.length ≤ b ∧ ∀ v ∈ rs, RwI N b H v
section
variable {b : Nat} {H H' N : Hp}
theorem TupI.mono (k : KT H H') {t : Addr} (h : TupI b H t) : TupI b H' t := by
  obtain ⟨ps, e, h1⟩ := h
  exact ⟨ps, k _ _ e, h1⟩
theorem TupI.le {c : Nat} (hb : b ≤ c) {t : Addr} (h : TupI b H t) : TupI c H t := by
  obtain ⟨ps, e, h1⟩ := h
  exact ⟨ps, e, Nat.le_trans h1 hb⟩
theorem RwI.same {v : V} (s : Same H H') (h : RwI N b H v) : RwI N b H' v := by
  obtain ⟨m, n, t, e1, h1, h2, h3⟩ := h
  exact ⟨m, n, t, e1, s _ _ h1, h2, h3.mono (KT.of s)⟩
theorem RwI.gr {a : Addr} {v : V} (d : Drw H a) (g : Gr a H H') (h : RwI N b H v) : RwI N b H' v := by
  obtain ⟨m, n, t, e1, h1, h2, h3⟩ := h
  refine ⟨m, n, t, e1, g.1 _ _ (fun z => ?_) h1, h2, h3.mono (KT.gr d g)⟩
  obtain ⟨x, y, u, e⟩ := d
  rw [z, e] at h1
  cases h1
theorem RwI.le {c : Nat} {v : V} (hb : b ≤ c) (h : RwI N b H v) : RwI N c H v := by
  obtain ⟨m, n, t, e1, h1, h2, h3⟩ := h
  exact ⟨m, n, t, e1, h1, h2, h3.le hb⟩
theorem RwI.ref {v : V} (h : RwI N b H v) : ∃ p, v = .ref p := by
  obtain ⟨m, _, _, e, _⟩ := h
  exact ⟨m, e⟩
/-- a list of rows changes -/
theorem RwI.other {D : Addr} {ms o : List V} {v : V} (e : H D = some (.lst ms)) (f : ∀ v ∈ ms, ∃ p, v = V.ref p) (h : RwI N b H v) : RwI N b (upd H D (.lst o)) v := by
  obtain ⟨m, n, t, e1, h1, h2, h3⟩ := h
  refine ⟨m, n, t, e1, ?_, h2, h3.mono (KT.lst e)⟩
  rw [upd_ne (fun z => by
    rw [z, e] at h1
    cases h1
    obtain ⟨p, e2⟩ := f (.str (S n)) List.mem_cons_self
    cases e2)]
  exact h1
/-- a row changes -/
theorem RwI.set {r t t' : Addr} {n n' : Nam} {v : V} (e : H r = some (.lst [.str (S n), .ref t])) (hn : tx n' ∧ N r = none) (ht' : TupI b H t') (h : RwI N b H v) : RwI N b (upd H r (.lst [.str (S n'), .ref t'])) v := by
  obtain ⟨m1, n1, t1, e1, h1, h2, h3⟩ := h
  have kt : KT H (upd H r (.lst [.str (S n'), .ref t'])) := KT.lst e
  by_cases z : m1 = r
  · subst z
    exact ⟨m1, n', t', e1, upd_same, hn, ht'.mono kt⟩
  · exact ⟨m1, n1, t1, e1, by rw [upd_ne z]; exact h1, h2, h3.mono kt⟩
theorem RsI.set {r t t' R : Addr} {n n' : Nam} (e : H r = some (.lst [.str (S n), .ref t])) (hn : tx n' ∧ N r = none) (ht' : TupI b H t') (h : RsI N b H R) : RsI N b (upd H r (.lst [.str (S n'), .ref t'])) R := by
  obtain ⟨rs, h1, h2, h3⟩ := h
  refine ⟨rs, ?_, h2, fun v hv => (h3 v hv).set e hn ht'⟩
  rw [upd_ne (fun z => by
    rw [z, e] at h1
    cases h1
    obtain ⟨p, e2⟩ := (h3 (.str (S n)) List.mem_cons_self).ref
    cases e2)]
  exact h1
theorem RsI.rows {R : Addr} {rs rs' : List V} (e : H R = some (.lst rs)) (h : ∀ v ∈ rs, RwI N b H v) (hl : rs'.length ≤ b) (h' : ∀ v ∈ rs', RwI N b H v) : RsI N b (upd H R (.lst rs')) R :=
  ⟨rs', upd_same, hl, fun v hv => (h' v hv).other e fun u hu => (h u hu).ref⟩
theorem RsI.le {c : Nat} {R : Addr} (hb : b ≤ c) (h : RsI N b H R) : RsI N c H R := by
  obtain ⟨rs, h1, h2, h3⟩ := h
  exact ⟨rs, h1, Nat.le_trans h2 hb, fun v hv => (h3 v hv).le hb⟩
end
/-- ints, as values -/
def Il (B : Nat) (xs : List V) : Prop := ∃ ps : List Int, xs = ps.map V.int ∧ ps.length ≤ B
theorem Il.cut {B : Nat} {xs : List V} {lo hi : Option Int} (h : Il B xs) : Il (cutV xs lo hi).length (cutV xs lo hi) := by
  obtain ⟨ps, rfl, h1⟩ := h
  refine ⟨(ps.drop (HT.sIx (ps.map V.int).length 0 lo)).take (HT.sIx (ps.map V.int).length (ps.map V.int).length hi - HT.sIx (ps.map V.int).length 0 lo), ?_, ?_⟩
  · unfold cutV
    rw [List.map_take, List.map_drop]
  · unfold cutV
    rw [← List.map_drop, ← List.map_take, List.length_map, List.length_map]
    exact Nat.le_refl _
theorem Il.app {B C : Nat} {xs ys : List V} (h : Il B xs) (g : Il C ys) : Il (B + C) (xs ++ ys) := by
  obtain ⟨ps, rfl, h1⟩ := h
  obtain ⟨qs, rfl, g1⟩ := g
  exact ⟨ps ++ qs, by rw [List.map_append], by rw [List.length_append]; omega⟩
theorem Il.one {z : Int} : Il 1 [.int z] := ⟨[z], rfl, Nat.le_refl _⟩
theorem Il.at {B b : Nat} {H : Hp} {t : Addr} {xs : List V} (h : Il B xs) (e : H t = some (.tup xs)) (hb : B ≤ b) : TupI b H t := by
  obtain ⟨ps, rfl, h1⟩ := h
  exact ⟨ps, e, Nat.le_trans h1 hb⟩
section
variable {P : Program} {w : World} {K : PySem.W.Frag} {mg : Str → Option Value} {base : Heap}
theorem RwI.dp {b : Nat} {H N : Hp} {v : V} (h : RwI N b H v) : ∃ d, Dp K H v d ∧ d.canLay0 = true ∧ d.depth ≤ 2 := by
  obtain ⟨m, n, t, rfl, h1, h2, xs, h3, h4⟩ := h
  obtain ⟨dt, t1, t2, t3, _⟩ := dp_tup (K := K) (n := 0) (SqT.of h3) (fun v hv => by
    obtain ⟨q, hq, rfl⟩ := List.mem_map.mp hv
    exact dp_int)
  obtain ⟨dl, l1, l2, l3, _⟩ := dp_lst (K := K) (n := 1) (SqL.of h1) (two_mem (dp_str h2.1) ⟨_, t1, t2, t3⟩)
  exact ⟨_, l1, l2, l3⟩
theorem ixN_of {n : Nat} {k : Int} (h0 : 0 ≤ k) (h1 : k < (n : Int)) : ixN n k = some k.toNat := by
  unfold ixN
  rw [if_pos h0, if_pos h1]
theorem s5 : 5 ≤ sizeLine := by decide
def spSp : Sp := fun vs H Q _ => ∃ (a p t : Addr) (b : Nat) (wd : Wood) (tr : List Row), vs = [.ref a, .ref p, .ref t] ∧ Drw H a ∧ WdAt H p wd ∧ Good wd ∧ TrAt H t tr ∧ TmT b tr ∧ 2 ≤ b ∧ b ≤ 100 ∧ ∀ (t' : Addr) (H' : Hp) (tr' : List Row), Gr a H H' → TrAt H' t' tr' → TmT (b + 3) tr' → Q (.ref t') H'
theorem ok_spoilt (T : Tx P K mg) : FnOk P w K mg base CX0 3 T.f_spoilt T.fd_spoilt ["_law_box_here", "_law_wood_here", "_law_tree_here"] spSp := by
  refine T.F_spoilt.ok sc_spoilt (fun vs H Q E h => ?_) (fun cdv A outer s H vs Q E hr h => ?_)
  · obtain ⟨a, p, t, b, wd, tr, rfl, _⟩ := h
    rfl
  · obtain ⟨a, p, t, b, wd, tr, rfl, dr, hw, good, ⟨vs, et, htr⟩, tm, hb2, hb, q⟩ := h
    refine ⟨_, (pss_cons (ps_setLc (i := 3) (own := [("_law_row", 12)]) (by rfl) sc_spoilt.nd rfl rfl (sw_true rfl rfl rfl (by decide +kernel)) (pi_tup (pv 2)) (blkOk_by (own := [("_law_row", 12)]) (N := ["_law_box_here", "_law_wood_here", "_law_tree_here", "_law_rows", "_law_way", "_law_at", "_law_names_here", "_law_one", "_law_spot", "_law_far", "_law_number", "_law_other", "_law_row", "_law_name", "_law_kind", "_law_parts"]) (sc := defScope st_spoilt) (by decide +kernel)) (fun _ _ _ _ _ => (pg_name (i := 12) sc_spoilt.nd rfl (.inl rfl))) (fun _ _ _ _ _ => pts_nil) (fun _ _ _ _ _ => (pe_callTy (KX.call_list_K K) (by rfl) T.m_list (by decide +kernel) (pa_cons (pv 12) pa_nil)))) (pss_cons (ps_par (i := 4) (j := 5) (by rfl) sc_spoilt.nd rfl rfl (by decide) rfl rfl (pa_cons (pe_call (ok_take T) (hr.mono (by decide) : Room 1 _) (by rfl) T.g_take T.F_take.kp T.b_take .nil pass0 (pa_cons (pv 0) (pa_cons pe_int pa_nil))) (pa_cons (pe_call (ok_take T) (hr.mono (by decide) : Room 1 _) (by rfl) T.g_take T.F_take.kp T.b_take .nil pass0 (pa_cons (pv 0) (pa_cons (pe_callB (call_max2 rfl) (by rfl) T.m_max (by decide +kernel) (pa_cons pe_int (pa_cons (pe_callB call_len_seq (by rfl) T.m_len PySem.boot_len (pa_cons (pv 3) pa_nil)) pa_nil))) pa_nil))) pa_nil)) (by rfl)) (pss_cons (ps_setLc (i := 6) (own := [("_law_name", 13), ("_law_kind", 14), ("_law_parts", 15)]) (by rfl) sc_spoilt.nd rfl rfl (sw_true rfl rfl rfl (by decide +kernel)) (pi_list (pe_call (ok_lmakers T) (hr.mono (by decide) : Room 1 _) (by rfl) T.g_lmakers T.F_lmakers.kp T.b_lmakers .nil pass0 (pa_cons (pv 1) pa_nil))) (blkOk_by (own := [("_law_name", 13), ("_law_kind", 14), ("_law_parts", 15)]) (N := ["_law_box_here", "_law_wood_here", "_law_tree_here", "_law_rows", "_law_way", "_law_at", "_law_names_here", "_law_one", "_law_spot", "_law_far", "_law_number", "_law_other", "_law_row", "_law_name", "_law_kind", "_law_parts"]) (sc := defScope st_spoilt) (by decide +kernel)) (fun _ _ _ _ _ => (KX.pg_tupK K (n := 3) rfl (pgs_cons (pg_name (i := 13) sc_spoilt.nd rfl (.inl rfl)) (pgs_cons (pg_name (i := 14) sc_spoilt.nd rfl (.inl rfl)) (pgs_cons (pg_name (i := 15) sc_spoilt.nd rfl (.inl rfl)) pgs_nil))))) (fun _ _ _ _ _ => pts_nil) (fun _ _ _ _ _ => (pv 13))) (pss_cons (ps_if (pt_cmpR (op_eqD hr.units) (pv 3) (pe_lst pa_nil) (nomark _)) (pss_one (ps_ret (pe_tup (pa_cons (pe_tup (pa_cons (pe_ix ix_list (pe_op op_cat (pv 6) (pe_lst (pa_cons pe_str pa_nil))) pe_int (fun _ _ => rfl)) (pa_cons (pe_tup pa_nil) pa_nil))) pa_nil)))) pss_nil) (pss_cons (ps_par (i := 7) (j := 8) (by rfl) sc_spoilt.nd rfl rfl (by decide) rfl rfl (pa_cons (pe_ix ix_list (pv 3) (pv 5) (fun _ _ => rfl)) (pa_cons (pe_call (ok_take T) (hr.mono (by decide) : Room 1 _) (by rfl) T.g_take T.F_take.kp T.b_take .nil pass0 (pa_cons (pv 0) (pa_cons (pe_op op_add (pe_callB call_len_seq (by rfl) T.m_len PySem.boot_len (pa_cons (pe_ix ix_list (pe_ix ix_list (pv 3) (pv 5) (fun _ _ => rfl)) pe_int (fun _ _ => rfl)) pa_nil)) pe_int) pa_nil))) pa_nil)) (by rfl)) (pss_cons (ps_set (i := 9) sc_spoilt.nd rfl (.inl rfl) (pe_ix ix_list (pe_lst (pa_cons (pe_call (ok_take T) (hr.mono (by decide) : Room 1 _) (by rfl) T.g_take T.F_take.kp T.b_take .nil pass0 (pa_cons (pv 0) (pa_cons (pe_op op_pow pe_int pe_int) pa_nil))) (pa_cons (pe_op op_sub pe_int (pe_call (ok_take T) (hr.mono (by decide) : Room 1 _) (by rfl) T.g_take T.F_take.kp T.b_take .nil pass0 (pa_cons (pv 0) (pa_cons pe_int pa_nil)))) pa_nil))) (pe_call (ok_take T) (hr.mono (by decide) : Room 1 _) (by rfl) T.g_take T.F_take.kp T.b_take .nil pass0 (pa_cons (pv 0) (pa_cons pe_int pa_nil))) (fun _ _ => rfl))) (pss_cons (ps_set (i := 10) sc_spoilt.nd rfl (.inl rfl) (pe_ix ix_list (pe_lst (pa_cons (pv 5) (pa_cons (pe_op op_sub pe_int pe_int) (pa_cons (pe_call (ok_take T) (hr.mono (by decide) : Room 1 _) (by rfl) T.g_take T.F_take.kp T.b_take .nil pass0 (pa_cons (pv 0) (pa_cons (pe_op op_add (pv 5) pe_int) pa_nil))) (pa_cons (pe_op op_add (pv 5) pe_int) (pa_cons (pv 9) pa_nil)))))) (pe_call (ok_take T) (hr.mono (by decide) : Room 1 _) (by rfl) T.g_take T.F_take.kp T.b_take .nil pass0 (pa_cons (pv 0) (pa_cons pe_int pa_nil))) (fun _ _ => rfl))) (C8.pss_cut (ps_if (pt_cmpR op_eq (pv 4) pe_int (nomark _)) (pss_one (ps_asg (pe_ix ix_list (pe_op op_cat (pv 6) (pe_lst (pa_cons (pe_call (ok_anytext T) (hr.mono (by decide) : Room 2 _) (by rfl) T.g_anytext T.F_anytext.kp T.b_anytext .nil pass0 (pa_cons (pv 0) pa_nil)) pa_nil))) (pe_call (ok_take T) (hr.mono (by decide) : Room 1 _) (by rfl) T.g_take T.F_take.kp T.b_take .nil pass0 (pa_cons (pv 0) (pa_cons (pe_op op_add (pe_callB call_len_seq (by rfl) T.m_len PySem.boot_len (pa_cons (pv 6) pa_nil)) pe_int) pa_nil))) (fun _ _ => rfl)) (pg_sub (pv 7) pe_int set_list))) (pss_one (ps_if (pt_cmpR op_lt (pv 4) pe_int (nomark _)) (pss_one (ps_asg (pe_op op_catA (pe_op op_catA (pe_slice sl_tupA (pe_ix ix_list (pv 7) pe_int (fun _ _ => rfl)) po_none (po_some (pv 8))) (pe_tup (pa_cons (pv 10) pa_nil))) (pe_slice sl_tupA (pe_ix ix_list (pv 7) pe_int (fun _ _ => rfl)) (po_some (pe_op op_sub (pe_op op_add (pv 8) (pv 4)) pe_int)) po_none)) (pg_sub (pv 7) pe_int set_list))) (pss_one (ps_if (pt_cmpR op_eq (pv 4) pe_int (nomark _)) (pss_one (ps_asg (pe_op op_catA (pe_slice sl_tupA (pe_ix ix_list (pv 7) pe_int (fun _ _ => rfl)) po_none (po_some (pv 8))) (pe_slice sl_tupA (pe_ix ix_list (pv 7) pe_int (fun _ _ => rfl)) (po_some (pe_op op_add (pv 8) pe_int)) po_none)) (pg_sub (pv 7) pe_int set_list))) (pss_one (ps_if (pt_cmpR op_eq (pv 4) pe_int (nomark _)) (pss_cons (ps_set (i := 11) sc_spoilt.nd rfl (.inl rfl) (pe_call (ok_take T) (hr.mono (by decide) : Room 1 _) (by rfl) T.g_take T.F_take.kp T.b_take .nil pass0 (pa_cons (pv 0) (pa_cons (pe_callB call_len_seq (by rfl) T.m_len PySem.boot_len (pa_cons (pv 3) pa_nil)) pa_nil)))) (pss_one (ps_asg (pe_tup (pa_cons (pe_ix ix_list (pv 3) (pv 11) (fun _ _ => rfl)) (pa_cons (pe_ix ix_list (pv 3) (pv 5) (fun _ _ => rfl)) pa_nil))) (pg_tup rfl (pgs_cons (pg_sub (pv 3) (pv 5) set_list) (pgs_cons (pg_sub (pv 3) (pv 11) set_list) pgs_nil)))))) (pss_one (ps_if (pt_cmpR op_eq (pv 4) pe_int (nomark _)) (pss_one (ps_expr (pe_bm PySem.F.plainAttrs_list PySem.F.slot_list_pop PySem.F.type_list_pop mt_popAt (pv 3) (pa_cons (pv 5) pa_nil)))) (pss_one (ps_expr (pe_bm PySem.F.plainAttrs_list PySem.F.slot_list_insert PySem.F.type_list_insert mt_insert (pv 3) (pa_cons (pv 5) (pa_cons (pe_callTy call_list_of (by rfl) T.m_list (by decide +kernel) (pa_cons (pe_ix ix_list (pv 3) (pe_call (ok_take T) (hr.mono (by decide) : Room 1 _) (by rfl) T.g_take T.F_take.kp T.b_take .nil pass0 (pa_cons (pv 0) (pa_cons (pe_callB call_len_seq (by rfl) T.m_len PySem.boot_len (pa_cons (pv 3) pa_nil)) pa_nil))) (fun _ _ => rfl)) pa_nil)) pa_nil)))))))))))))) (pss_one (ps_ret (pe_callTy call_tuple_of (by rfl) T.m_tuple (by decide +kernel) (pa_cons (pe_lc (own := [("_law_row", 12)]) (by rfl) sc_spoilt.nd (pi_list (pv 3)) (blkOk_by (own := [("_law_row", 12)]) (N := ["_law_box_here", "_law_wood_here", "_law_tree_here", "_law_rows", "_law_way", "_law_at", "_law_names_here", "_law_one", "_law_spot", "_law_far", "_law_number", "_law_other", "_law_row", "_law_name", "_law_kind", "_law_parts"]) (sc := defScope st_spoilt) (by decide +kernel)) (fun _ _ _ _ _ => (pg_name (i := 12) sc_spoilt.nd rfl (.inl rfl))) (fun _ _ _ _ _ => pts_nil) (fun _ _ _ _ _ => (pe_callTy (KX.call_tuple_K K) (by rfl) T.m_tuple (by decide +kernel) (pa_cons (pv 12) pa_nil)))) pa_nil)))))))))))), ?_⟩
    have hfew := tm.few
    -- the rows
    refine ⟨_, rfl, t, rfl, ⟨vs, SqT.of et⟩, fun R nR => ?_⟩
    refine walk_it (walk_tup (xs := vs)) (fun i Hx => Same H Hx ∧ ∃ rs, Hx R = some (.lst rs) ∧ rs.length = i ∧ ∀ v ∈ rs, RwI H b Hx v) ⟨same_new nR, [], upd_same, rfl, fun _ h => nomatch h⟩ (fun i Hx hi P => SqT.of (P.1 _ _ et)) (fun i x Hx Hy hi P y => ?_) (fun H1 P => ?_)
    · obtain ⟨sx, rs, eR, hlen, hrs⟩ := P
      obtain ⟨rfl, ex⟩ := y
      obtain ⟨⟨nm, xs⟩, enm, tk, tt, rfl, etk, ett⟩ := paired_at htr ex
      obtain ⟨htn, hxl⟩ := tm.rowT _ (List.mem_of_getElem? enm)
      dsimp only at htn hxl etk ett
      have hil : i < tr.length := (List.getElem?_eq_some_iff.mp enm).1
      refine ⟨rfl, ?_⟩
      unfold tYes
      refine iteT ?_
      refine ⟨_, rfl, tk, _, rfl, .inr (SqT.of (sx _ _ etk)), fun l nl => ?_⟩
      have sl := same_new (o := .lst [.str (S nm), .ref tt]) nl
      have eR2 := sl _ _ eR
      refine ⟨rs, eR2, Nat.lt_of_le_of_lt (show rs.length ≤ 1000 by omega) (by decide), fun c o e => ?_, rs ++ [.ref l], upd_same, by rw [List.length_append, hlen]; rfl, fun v hv => ?_⟩
      · rw [upd_ne (ne_of_none e nR)]
        exact sl _ _ (sx _ _ e)
      · refine RwI.other eR2 (fun v hv => (hrs v hv).ref) ?_
        rcases List.mem_append.mp hv with hv | hv
        · exact (hrs v hv).same sl
        · rw [List.mem_singleton.mp hv]
          exact ⟨l, nm, tt, rfl, upd_same, ⟨htn, Same.free sx nl⟩, xs, sl _ _ (sx _ _ ett), hxl⟩
    obtain ⟨sA, rs, eR, hlen, hrs⟩ := P
    rw [htr.length] at hlen
    have nRa : R ≠ a := (dr.ne nR).symm
    have G1 : Gr a H H1 := Gr.of sA dr
    -- way, at
    refine ⟨_, rfl, a, 8, rfl, G1.2, by decide, by decide +kernel, fun way H2 w0 w1 g2 => ?_⟩
    refine ⟨_, rfl, _, rfl, R, _, rfl, .inl (SqL.of (g2.1 _ _ nRa eR)), _, _, rfl, ?_⟩
    obtain ⟨mx, hmx, hmx1, hmx2, hmx3⟩ : ∃ mx : Int, (if ((rs.length : Nat) : Int) > 1 then ((rs.length : Nat) : Int) else 1) = mx ∧ 1 ≤ mx ∧ mx ≤ 200 ∧ (0 < rs.length → mx ≤ rs.length) := by
      refine ⟨_, rfl, ?_, ?_, ?_⟩ <;> split <;> omega
    rw [hmx]
    refine ⟨a, mx, rfl, g2.2, by omega, Nat.lt_of_le_of_lt (show mx.natAbs ≤ 200 by omega) (by decide +kernel), fun at' H3 a0 a1 g3 => ?_⟩
    refine ⟨_, _, rfl, ?_⟩
    have G3 : Gr a H H3 := (G1.trans g2).trans g3
    have eR3 : H3 R = some (.lst rs) := g3.1 _ _ nRa (g2.1 _ _ nRa eR)
    have hr3 : ∀ v ∈ rs, RwI H b H3 v := fun v hv => RwI.gr g2.2 g3 (RwI.gr G1.2 g2 (hrs v hv))
    clear g2 g3 eR hrs sA
    -- names
    refine ⟨_, rfl, p, wd, rfl, hw.mono (KT.gr dr G3), good, fun L H4 ds nL s4 eL hds => ?_⟩
    refine ⟨L, rfl, ⟨ds, SqL.of eL⟩, fun Nh nNh => ?_⟩
    refine walk_it (walk_list (xs := ds)) (fun i Hx => Same H4 Hx ∧ Hx Nh = some (.lst (nmsV (((ents (kds wd) wd).take i).map (·.1.1))))) ⟨same_new nNh, upd_same⟩ (fun i Hx hi P => SqL.of (P.1 _ _ eL)) (fun i x Hx Hy hi P y => ?_) (fun H5 P => ?_)
    · obtain ⟨sx, eN⟩ := P
      obtain ⟨rfl, ex⟩ := y
      obtain ⟨e, ee, hd⟩ := paired_at hds ex
      obtain ⟨t1, u1, rfl, et1, eu1⟩ := hd
      refine ⟨t1, _, rfl, .inl (.inl (sx _ _ et1)), rfl, _, _, rfl, _, _, rfl, _, _, rfl, rfl, rfl, ?_⟩
      unfold tYes
      refine iteT ⟨_, rfl, _, eN, ?_, fun c o ec => ?_, ?_⟩
      · have h3 := ents_len good
        unfold nmsV
        rw [List.length_map, List.length_map, List.length_take]
        exact Nat.lt_of_le_of_lt (show _ ≤ 12 by omega) (by decide)
      · rw [upd_ne (ne_of_none ec nNh)]
        exact sx _ _ ec
      · rw [upd_same, List.take_add_one, ee, List.map_append]
        unfold nmsV
        rw [List.map_append]
        rfl
    obtain ⟨s5', eN⟩ := P
    rw [hds.length, List.take_length] at eN
    obtain ⟨ns, hns, hnl, hnt⟩ : ∃ ns : List Nam, (ents (kds wd) wd).map (·.1.1) = ns ∧ ns.length ≤ 12 ∧ ∀ n ∈ ns, tx n := ⟨_, rfl, by rw [List.length_map]; exact ents_len good, fun n hn => by
      obtain ⟨e, he, rfl⟩ := List.mem_map.mp hn
      exact ent_tx good he⟩
    rw [hns] at eN
    have s35 := s4.trans s5'
    have G5 : Gr a H H5 := G3.trans (Gr.of s35 G3.2)
    have eR5 := s35 _ _ eR3
    have hr5 : ∀ v ∈ rs, RwI H b H5 v := fun v hv => (hr3 v hv).same s35
    have nNa : Nh ≠ a := (G3.2.ne (Same.free s4 nNh)).symm
    clear s4 s5' eR3 hr3 hns eL hds
    -- none
    refine ⟨_, rfl, s0, fun Lb nLb => ?_⟩
    have sL := same_new (o := .lst []) nLb
    obtain ⟨dd, p1, p2, p3, p4⟩ := dp_lst (K := K) (n := 2) (SqL.of (sL _ _ eR5)) (fun v hv => ((hr5 v hv).same sL).dp)
    refine ⟨.list dd, .list [], p1, .lst (SqL.of upd_same) .nil, shaped_of p2 p3 (by decide), rfl, _, rfl, ?_⟩
    rw [eqv_nil, p4]
    have eR6 := sL _ _ eR5
    have eN6 := sL _ _ eN
    have hr6 : ∀ v ∈ rs, RwI H b (upd H5 Lb (.lst [])) v := fun v hv => (hr5 v hv).same sL
    have G6 : Gr a H (upd H5 Lb (.lst [])) := G5.trans (Gr.of sL G5.2)
    clear p1
    generalize upd H5 Lb (.lst []) = H6 at eR6 eN6 hr6 G6
    clear sL eR5 eN hr5 G5
    by_cases hz : rs.length = 0
    · rw [decide_eq_true hz]
      refine iteT ?_
      refine ⟨_, rfl, B08.s1, fun La nLa => ?_⟩
      have sa := same_new (o := .lst [.str ""]) nLa
      refine ⟨Nh, La, _, _, rfl, rfl, sa _ _ eN6, upd_same, ?_, fun Cc nCc => ?_⟩
      · unfold nmsV
        rw [List.length_map]
        exact Nat.le_trans (show ns.length + 1 ≤ 100 by omega) (by decide)
      obtain ⟨n0, hn0, en0⟩ := nms_at (ns := ns ++ [[]]) (d := 0) (Int.le_refl _) (by rw [List.length_append]; show (0 : Int) < ((ns.length + 1 : Nat) : Int); omega)
      have t0 : tx n0 := by
        rcases List.mem_append.mp hn0 with h | h
        · exact hnt n0 h
        · rw [List.mem_singleton.mp h]
          exact ⟨by decide, by decide +kernel⟩
      have ecc : nmsV (ns ++ [[]]) = nmsV ns ++ [.str ""] := by
        unfold nmsV
        rw [List.map_append]
        rfl
      rw [ecc] at en0
      have sc := sa.trans (same_new (o := .lst (nmsV ns ++ [.str ""])) nCc)
      have eC : upd (upd H6 La (.lst [.str ""])) Cc (.lst (nmsV ns ++ [.str ""])) Cc = some (.lst (nmsV ns ++ [.str ""])) := upd_same
      refine ⟨Cc, _, 0, _, rfl, rfl, SqL.of eC, en0, s0, fun te nte => ⟨B08.s2, fun t1 nt1 => ⟨B08.s1, fun t2 nt2 => ?_⟩⟩⟩
      have sd : Same H6 _ := ((sc.trans (same_new (o := .tup []) nte)).trans (same_new (o := .tup [.str (S n0), .ref te]) nt1)).trans (same_new (o := .tup [.ref t1]) nt2)
      refine q t2 _ [(n0, [])] (G6.trans (Gr.of sd G6.2)) ⟨_, upd_same, .cons ⟨t1, te, rfl, (same_new nt2) _ _ upd_same, (same_new nt2) _ _ ((same_new nt1) _ _ upd_same)⟩ .nil⟩ ⟨by show 1 ≤ b + 3; omega, fun r hr => ?_⟩
      rw [List.mem_singleton.mp hr]
      exact ⟨t0, Nat.zero_le _⟩
    rw [decide_eq_false hz]
    refine iteF ?_
    have hat : at'.toNat < rs.length := by
      have := hmx3 (by omega)
      omega
    obtain ⟨r, n, t1, er, f1, f2, xs, f3, f4⟩ := hr6 rs[at'.toNat] (List.getElem_mem hat)
    have eat : atI rs at' = some (.ref r) := at_of (j := at'.toNat) (by omega) (by rw [List.getElem?_eq_getElem hat, er])
    have nra : r ≠ a := (dr.ne f2.2).symm
    -- one, spot
    refine ⟨_, rfl, _, rfl, R, rs, at', .ref r, rfl, rfl, SqL.of eR6, eat, _, rfl, _, rfl, _, rfl, R, rs, at', .ref r, rfl, rfl, SqL.of eR6, eat, r, _, 1, .ref t1, rfl, rfl, SqL.of f1, rfl, t1, _, rfl, .inr (.inl (.inl f3)), _, _, rfl, rfl, ?_⟩
    rw [List.length_map]
    refine ⟨a, _, rfl, G6.2, by omega, Nat.lt_of_le_of_lt (show ((xs.length : Int) + 1).natAbs ≤ 200 by omega) (by decide +kernel), fun sp H7 sp0 sp1 g7 => ⟨_, _, rfl, ?_⟩⟩
    -- far
    refine ⟨_, rfl, _, _, rfl, rfl, ⟨by decide, by decide, by decide⟩, a, _, rfl, g7.2, by decide, by decide +kernel, fun v1 H8 v10 v11 g8 => ?_⟩
    refine ⟨_, rfl, a, 9, rfl, g8.2, by decide, by decide +kernel, fun v2 H9 v20 v21 g9 => ?_⟩
    refine ⟨_, _, rfl, rfl, B08.s2, fun L3 nL3 => ?_⟩
    have sL3 := same_new (o := .lst [.int v1, .int (0 - v2)]) nL3
    have nL3a : L3 ≠ a := (g9.2.ne nL3).symm
    refine ⟨_, rfl, a, 2, rfl, g9.2.mono sL3, by decide, by decide +kernel, fun d2 Ha d20 d21 ga => ?_⟩
    obtain ⟨far, hfar⟩ := at_int (ns := [v1, 0 - v2]) d20 d21
    refine ⟨L3, _, d2, .int far, rfl, rfl, SqL.of (ga.1 _ _ nL3a upd_same), hfar, ?_⟩
    have GA : Gr a H6 Ha := (((g7.trans g8).trans g9).trans (Gr.of sL3 g9.2)).trans ga
    -- number
    refine ⟨_, rfl, _, _, rfl, rfl, _, rfl, _, rfl, _, _, rfl, rfl, a, _, rfl, ga.2, by omega, Nat.lt_of_le_of_lt (show (at' + 1).natAbs ≤ 300 by omega) (by decide +kernel), fun n3 Hb n30 n31 gb => ?_⟩
    refine ⟨_, rfl, _, _, rfl, rfl, _, rfl, s5, fun L5 nL5 => ?_⟩
    have sL5 := same_new (o := .lst [.int at', .int (0 - 1), .int n3, .int (at' + 1), .int far]) nL5
    have nL5a : L5 ≠ a := (gb.2.ne nL5).symm
    refine ⟨_, rfl, a, 5, rfl, gb.2.mono sL5, by decide, by decide +kernel, fun d5 Hc d50 d51 gc => ?_⟩
    obtain ⟨num, hnum⟩ := at_int (ns := [at', 0 - 1, n3, at' + 1, far]) d50 d51
    refine ⟨L5, _, d5, .int num, rfl, rfl, SqL.of (gc.1 _ _ nL5a upd_same), hnum, ?_⟩
    have GC : Gr a H6 Hc := ((GA.trans gb).trans (Gr.of sL5 gb.2)).trans gc
    have eRC := GC.1 _ _ nRa eR6
    have eNC := GC.1 _ _ nNa eN6
    have f1C := GC.1 _ _ nra f1
    have f3C := KT.gr G6.2 GC _ _ f3
    have hrC : ∀ v ∈ rs, RwI H b Hc v := fun v hv => RwI.gr G6.2 GC (hr6 v hv)
    have GHC : Gr a H Hc := G6.trans GC
    clear gc gb ga g9 g8 g7 GA GC hfar hnum sL3 sL5 eR6 eN6 hr6 f1 f3
    have hle : b ≤ b + 3 := Nat.le_add_right _ _
    have hRC : RsI H (b + 3) Hc R := RsI.le hle ⟨rs, eRC, by omega, hrC⟩
    have hrC3 : ∀ v ∈ rs, RwI H (b + 3) Hc v := fun v hv => (hrC v hv).le hle
    have il : Il xs.length (xs.map V.int) := ⟨xs, rfl, Nat.le_refl _⟩
    have hxm : (xs.map V.int).length = xs.length := List.length_map _
    obtain ⟨M, hM⟩ : ∃ M : L2.St → Hp → Prop, M = fun σ Hx => ∃ y11, σ = [some (.ref a), some (.ref p), some (.ref t), some (.ref R), some (.int way), some (.int at'), some (.ref Nh), some (.ref r), some (.int sp), some (.int far), some (.int num), y11, none, none, none, none] ∧ RsI H (b + 3) Hx R ∧ Gr a H Hx := ⟨_, rfl⟩
    refine ⟨M, ?_, fun σ1 Hx h1 => ?_⟩
    · have fin : ∀ (t' : Addr) (H' : Hp) (ys : List V), Same Hc H' → H' t' = some (.tup ys) → Il (b + 3) ys → ∃ y11 : Option V, [some (V.ref a), some (.ref p), some (.ref t), some (.ref R), some (.int way), some (.int at'), some (.ref Nh), some (.ref r), some (.int sp), some (.int far), some (.int num), none, none, none, none, none] = [some (.ref a), some (.ref p), some (.ref t), some (.ref R), some (.int way), some (.int at'), some (.ref Nh), some (.ref r), some (.int sp), some (.int far), some (.int num), y11, none, none, none, none] ∧ RsI H (b + 3) (upd H' r (.lst [.str (S n), .ref t'])) R ∧ Gr a H (upd H' r (.lst [.str (S n), .ref t'])) := fun t' H' ys s' e' il' =>
        ⟨_, rfl, RsI.set (s' _ _ f1C) f2 (il'.at e' (Nat.le_refl _)) ⟨rs, s' _ _ eRC, by omega, fun v hv => (hrC3 v hv).same s'⟩, (GHC.trans (Gr.of s' GHC.2)).new f2.2 nra⟩
      refine ⟨_, rfl, rfl, _, rfl, ite2 (fun c0 => ?_) (fun c0 => ?_)⟩
      · -- another name
        refine ⟨_, rfl, _, rfl, a, rfl, GHC.2, fun z Hd hz' ho gd => ?_⟩
        refine ⟨B08.s1, fun La nLa => ?_⟩
        have sa := same_new (o := .lst [.str z]) nLa
        have eNd := gd.1 _ _ nNa eNC
        refine ⟨Nh, La, _, _, rfl, rfl, sa _ _ eNd, upd_same, ?_, fun Cc nCc => ?_⟩
        · unfold nmsV
          rw [List.length_map]
          exact Nat.le_trans (show ns.length + 1 ≤ 100 by omega) (by decide)
        have sc := sa.trans (same_new (o := .lst (nmsV ns ++ [.str z])) nCc)
        have nCa : Cc ≠ a := (gd.2.ne (Same.free sa nCc)).symm
        have eC : upd (upd Hd La (.lst [.str z])) Cc (.lst (nmsV ns ++ [.str z])) Cc = some (.lst (nmsV (ns ++ [z.cps.toList]))) := by
          unfold nmsV
          rw [upd_same, List.map_append, List.map_cons, S_eta]
          rfl
        generalize upd (upd Hd La (.lst [.str z])) Cc (.lst (nmsV ns ++ [.str z])) = He at sc eC
        refine ⟨_, rfl, _, rfl, Nh, _, rfl, .inl (SqL.of (sc _ _ eNd)), _, _, rfl, rfl, ?_⟩
        have hnv : (nmsV ns).length = ns.length := by
          unfold nmsV
          rw [List.length_map]
        rw [hnv]
        refine ⟨a, _, rfl, gd.2.mono sc, by omega, Nat.lt_of_le_of_lt (show ((ns.length : Int) + 1).natAbs ≤ 100 by omega) (by decide +kernel), fun d8 Hf d80 d81 gf => ?_⟩
        obtain ⟨n8, hn8, en8⟩ := nms_at (ns := ns ++ [z.cps.toList]) d80 (by rw [List.length_append]; show d8 < ((ns.length + 1 : Nat) : Int); omega)
        have t8 : tx n8 := by
          rcases List.mem_append.mp hn8 with h | h
          · exact hnt n8 h
          · rw [List.mem_singleton.mp h]
            refine ⟨?_, by rw [S_eta]; exact ho⟩
            have : z.cps.toList.length = z.length := by simp [Str.length]
            omega
        have GF : Gr a Hc Hf := (gd.trans (Gr.of sc gd.2)).trans gf
        have f1F := GF.1 _ _ nra f1C
        refine ⟨Cc, _, d8, _, rfl, rfl, SqL.of (gf.1 _ _ nCa eC), en8, _, rfl, r, _, 0, 0, rfl, rfl, f1F, rfl, ?_⟩
        show M _ _
        rw [hM]
        have f3F := KT.gr GHC.2 GF _ _ f3C
        exact ⟨_, rfl, RsI.set f1F ⟨t8, f2.2⟩ (il.at f3F (by omega)) ⟨rs, GF.1 _ _ nRa eRC, by omega, fun v hv => RwI.gr GHC.2 GF (hrC3 v hv)⟩, (GHC.trans GF).new f2.2 nra⟩
      refine ⟨_, rfl, _, _, rfl, rfl, _, rfl, ite2 (fun c4 => ?_) (fun c4 => ?_)⟩
      · -- a number in, or otherwise
        have w4 : way < 4 := of_decide_eq_true c4
        have wn0 : way ≠ 0 := fun z => c0 (by rw [z]; rfl)
        refine ⟨_, rfl, r, _, 1, .ref t1, rfl, rfl, SqL.of f1C, rfl, _, rfl, _, rfl, slA_of f3C fun u1 Hd sd ed => ?_⟩
        refine ⟨_, rfl, B08.s1, fun u2 nu2 => ?_⟩
        have sb := sd.trans (same_new (o := .tup [.int num]) nu2)
        have ed2 := (same_new (o := .tup [.int num]) nu2) _ _ ed
        have c1 := cut_hi (xs := xs.map V.int) sp0
        refine catA_of ed2 upd_same ?_ fun u3 He se ee => ?_
        · exact small_len (by rw [c1, hxm]; show min sp.toNat xs.length + 1 ≤ 1000; omega)
        have sf := sb.trans se
        refine ⟨_, rfl, r, _, 1, .ref t1, rfl, rfl, SqL.of (sf _ _ f1C), rfl, _, rfl, _, rfl, _, _, rfl, rfl, _, _, rfl, rfl, _, rfl, ?_⟩
        dsimp only [tNoPart]
        refine slA_of (sf _ _ f3C) fun u4 Hf sf2 ef => ?_
        have c2 := cut_lo (xs := xs.map V.int) (k := sp + way - 1)
        rw [if_neg (by omega)] at c2
        refine catA_of (sf2 _ _ ee) ef ?_ fun u5 Hg sg eg => ?_
        · exact small_len (by rw [List.length_append, c1, c2, hxm]; show min sp.toNat xs.length + 1 + _ ≤ 1000; omega)
        have sall := (sf.trans sf2).trans sg
        refine ⟨_, rfl, r, _, 1, 1, rfl, rfl, sall _ _ f1C, rfl, ?_⟩
        show M _ _
        rw [hM]
        refine fin u5 Hg _ sall eg ?_
        obtain ⟨ps, e1, h1⟩ := ((il.cut (lo := none) (hi := some sp)).app (Il.one (z := num))).app (il.cut (lo := some (sp + way - 1)) (hi := none))
        refine ⟨ps, e1, Nat.le_trans h1 ?_⟩
        rw [c1, c2, hxm]
        omega
      refine ⟨_, rfl, rfl, _, rfl, ite2 (fun c5 => ?_) (fun c5 => ?_)⟩
      · -- a number out
        refine ⟨_, rfl, r, _, 1, .ref t1, rfl, rfl, SqL.of f1C, rfl, _, rfl, _, rfl, slA_of f3C fun u1 Hd sd ed => ?_⟩
        have c1 := cut_hi (xs := xs.map V.int) sp0
        refine ⟨_, rfl, r, _, 1, .ref t1, rfl, rfl, SqL.of (sd _ _ f1C), rfl, _, rfl, _, _, rfl, rfl, _, rfl, ?_⟩
        dsimp only [tNoPart]
        refine slA_of (sd _ _ f3C) fun u4 Hf sf2 ef => ?_
        have c2 := cut_lo (xs := xs.map V.int) (k := sp + 1)
        rw [if_neg (by omega)] at c2
        refine catA_of (sf2 _ _ ed) ef ?_ fun u5 Hg sg eg => ?_
        · exact small_len (by rw [c1, c2, hxm]; omega)
        have sall := (sd.trans sf2).trans sg
        refine ⟨_, rfl, r, _, 1, 1, rfl, rfl, sall _ _ f1C, rfl, ?_⟩
        show M _ _
        rw [hM]
        refine fin u5 Hg _ sall eg ?_
        obtain ⟨ps, e1, h1⟩ := (il.cut (lo := none) (hi := some sp)).app (il.cut (lo := some (sp + 1)) (hi := none))
        refine ⟨ps, e1, Nat.le_trans h1 ?_⟩
        rw [c1, c2, hxm]
        omega
      refine ⟨_, rfl, rfl, _, rfl, ite2 (fun c6 => ?_) (fun c6 => ?_)⟩
      · -- two rows exchanged
        refine ⟨_, rfl, _, rfl, R, _, rfl, .inl (SqL.of eRC), a, _, rfl, GHC.2, by omega, Nat.lt_of_le_of_lt (show ((rs.length : Nat) : Int).natAbs ≤ 300 by omega) (by decide +kernel), fun ot Hd ot0 ot1 gd => ?_⟩
        have hot : ot.toNat < rs.length := by omega
        have eRd := gd.1 _ _ nRa eRC
        have eot : atI rs ot = some rs[ot.toNat] := at_of (j := ot.toNat) (by omega) (List.getElem?_eq_getElem hot)
        refine ⟨_, rfl, _, rfl, R, rs, ot, _, rfl, rfl, SqL.of eRd, eot, _, rfl, _, rfl, R, rs, at', .ref r, rfl, rfl, SqL.of eRd, eat, B08.s2, fun tt ntt => ?_⟩
        have sT := same_new (o := .tup [rs[ot.toNat], .ref r]) ntt
        have eRt := sT _ _ eRd
        have hrd : ∀ v ∈ rs, RwI H (b + 3) (upd Hd tt (.tup [rs[ot.toNat], .ref r])) v := fun v hv => (RwI.gr GHC.2 gd (hrC3 v hv)).same sT
        have Gd : Gr a H (upd Hd tt (.tup [rs[ot.toNat], .ref r])) := (GHC.trans gd).trans (Gr.of sT gd.2)
        refine ⟨tt, _, rfl, .inl (.inl upd_same), rfl, _, _, rfl, ?_⟩
        generalize upd Hd tt (.tup [rs[ot.toNat], .ref r]) = He at eRt hrd Gd
        refine ⟨_, rfl, _, rfl, R, rs, at', at'.toNat, rfl, rfl, eRt, ixN_of (by omega) (by omega), ?_⟩
        refine ⟨_, _, rfl, _, rfl, _, rfl, R, rs.set at'.toNat rs[ot.toNat], ot, ot.toNat, rfl, rfl, upd_same, ixN_of (by omega) (by rw [List.length_set]; omega), rfl, ?_⟩
        show M _ _
        rw [hM]
        have hmem : ∀ v ∈ (rs.set at'.toNat rs[ot.toNat]).set ot.toNat (.ref r), v ∈ rs := fun v hv => by
          rcases List.mem_or_eq_of_mem_set hv with hv | rfl
          · rcases List.mem_or_eq_of_mem_set hv with hv | rfl
            · exact hv
            · exact List.getElem_mem hot
          · rw [← er]
            exact List.getElem_mem hat
        have hmem1 : ∀ v ∈ rs.set at'.toNat rs[ot.toNat], v ∈ rs := fun v hv => by
          rcases List.mem_or_eq_of_mem_set hv with hv | rfl
          · exact hv
          · exact List.getElem_mem hot
        have x1 : ∀ v ∈ rs, RwI H (b + 3) (upd He R (.lst (rs.set at'.toNat rs[ot.toNat]))) v := fun v hv => (hrd v hv).other eRt fun u hu => (hrd u hu).ref
        exact ⟨_, rfl, RsI.rows upd_same (fun v hv => x1 v (hmem1 v hv)) (by rw [List.length_set, List.length_set]; omega) (fun v hv => x1 v (hmem v hv)), (Gd.new nR nRa).new nR nRa⟩
      refine ⟨_, rfl, rfl, _, rfl, ite2 (fun c7 => ?_) (fun c7 => ?_)⟩
      · -- a row out
        refine ⟨.ref R, rfl, .inl ⟨rfl, _, SqL.of eRC⟩, _, rfl, R, rs, at', at'.toNat, rs[at'.toNat], rfl, rfl, eRC, by omega, by omega, seqIndex_of (by omega) (by omega), List.getElem?_eq_getElem hat, ?_⟩
        show M _ _
        rw [hM]
        refine ⟨_, rfl, RsI.rows eRC hrC3 ?_ (fun v hv => hrC3 v (List.mem_of_mem_eraseIdx hv)), GHC.new nR nRa⟩
        have := List.length_eraseIdx_le rs at'.toNat
        omega
      -- a row more
      refine ⟨.ref R, rfl, .inl ⟨rfl, _, SqL.of eRC⟩, _, rfl, ?_⟩
      refine ⟨_, rfl, _, rfl, _, rfl, R, _, rfl, .inl (SqL.of eRC), a, _, rfl, GHC.2, by omega, Nat.lt_of_le_of_lt (show ((rs.length : Nat) : Int).natAbs ≤ 300 by omega) (by decide +kernel), fun ot Hd ot0 ot1 gd => ?_⟩
      have hot : ot.toNat < rs.length := by omega
      have eRd := gd.1 _ _ nRa eRC
      have hrd : ∀ v ∈ rs, RwI H (b + 3) Hd v := fun v hv => RwI.gr GHC.2 gd (hrC3 v hv)
      obtain ⟨r2, n2, t2, er2, q1, q2, q3⟩ := hrd rs[ot.toNat] (List.getElem_mem hot)
      refine ⟨R, rs, ot, .ref r2, rfl, rfl, SqL.of eRd, at_of (j := ot.toNat) (by omega) (by rw [List.getElem?_eq_getElem hot, er2]), r2, _, rfl, .inl (SqL.of q1), fun l nl => ?_⟩
      have sl := same_new (o := .lst [.str (S n2), .ref t2]) nl
      have eRl := sl _ _ eRd
      refine ⟨R, rs, at', .ref l, rfl, rfl, eRl, Nat.lt_of_le_of_lt (show rs.length ≤ 1000 by omega) (by decide), by omega, by omega, ?_⟩
      show M _ _
      rw [hM]
      have hrl : ∀ v ∈ rs, RwI H (b + 3) (upd Hd l (.lst [.str (S n2), .ref t2])) v := fun v hv => (hrd v hv).same sl
      have Gd := GHC.trans gd
      refine ⟨_, rfl, RsI.rows eRl hrl ?_ (fun v hv => ?_), (Gd.trans (Gr.of sl gd.2)).new nR nRa⟩
      · rw [List.length_append, List.length_append, List.length_take, List.length_drop]
        show min at'.toNat rs.length + 1 + (rs.length - at'.toNat) ≤ b + 3
        omega
      · have : v ∈ rs ∨ v = .ref l := by
          rcases List.mem_append.mp hv with hv | hv
          · rcases List.mem_append.mp hv with hv | hv
            · exact .inl (List.mem_of_mem_take hv)
            · exact .inr (List.mem_singleton.mp hv)
          · exact .inl (List.mem_of_mem_drop hv)
        rcases this with hv | rfl
        · exact hrl v hv
        · exact ⟨l, n2, t2, rfl, upd_same, ⟨q2.1, Gd.back gd.2 nl⟩, q3.mono (KT.of sl)⟩
    · rw [hM] at h1
      obtain ⟨y11, rfl, ⟨rsx, eRx, hlx, hrx⟩, gx⟩ := h1
      clear hM M
      refine ⟨_, rfl, R, rfl, ⟨rsx, SqL.of eRx⟩, fun D nD => ?_⟩
      refine walk_it (walk_list (xs := rsx)) (fun i H' => Same Hx H' ∧ ∃ acc tr', H' D = some (.lst acc) ∧ Paired (TrwAt H') acc tr' ∧ tr'.length = i ∧ ∀ k ∈ tr', tx k.1 ∧ k.2.length ≤ b + 3) ⟨same_new nD, [], [], upd_same, .nil, rfl, fun _ h => nomatch h⟩ (fun i H' hi P => SqL.of (P.1 _ _ eRx)) (fun i x H' H'' hi P y => ?_) (fun H' P => ?_)
      · obtain ⟨sx, acc, tr', eD, hac, hwl, hwd⟩ := P
        obtain ⟨rfl, ex⟩ := y
        obtain ⟨m, n', t', rfl, h1, h2, xs', i1, i2⟩ := hrx x (List.mem_of_getElem? ex)
        refine ⟨rfl, ?_⟩
        unfold tYes
        refine iteT ⟨_, rfl, m, _, rfl, .inl ⟨SqL.of (sx _ _ h1), fun u nu => ?_⟩⟩
        have sl := same_new (o := .tup [.str (S n'), .ref t']) nu
        have kt : KT (upd H'' u (.tup [.str (S n'), .ref t'])) (upd (upd H'' u (.tup [.str (S n'), .ref t'])) D (.lst (acc ++ [.ref u]))) := KT.lst (sl _ _ eD)
        refine ⟨acc, sl _ _ eD, ?_, fun c o e => ?_, acc ++ [.ref u], tr' ++ [(n', xs')], upd_same, ?_, by rw [List.length_append, hwl]; rfl, fun m' hm => ?_⟩
        · rw [hac.length]
          exact Nat.lt_of_le_of_lt (show tr'.length ≤ 1000 by omega) (by decide)
        · rw [upd_ne (ne_of_none e nD)]
          exact sl _ _ (sx _ _ e)
        · exact paired_snoc (Paired.mapP hac fun _ _ z => (z.mono (KT.of sl)).mono kt) ⟨u, t', rfl, kt _ _ upd_same, kt _ _ (sl _ _ (sx _ _ i1))⟩
        · rcases List.mem_append.mp hm with hm | hm
          · exact hwd m' hm
          · rw [List.mem_singleton.mp hm]
            exact ⟨h2.1, i2⟩
      · obtain ⟨sx, acc, tr', eD, hac, hwl, hwd⟩ := P
        refine ⟨D, acc, rfl, .inl ⟨SqL.of eD, fun p' np => ?_⟩⟩
        refine q p' _ tr' ((gx.trans (Gr.of sx gx.2)).trans (Gr.of (same_new np) (gx.2.mono sx))) ⟨acc, upd_same, Paired.mapP hac fun _ _ z => z.mono (KT.of (same_new np))⟩ ⟨by omega, hwd⟩
end

/-! ### the law -/
def spLaw (K : PySem.W.Frag) : Sp := fun vs H Q _ => ∃ (a : Addr) (ns : List Int), vs = [.ref a] ∧ SqL K H a (ns.map V.int) ∧ ns.length ≤ 63 ∧ ∀ H', Q (.bl true) H'
theorem shaped_tuple {ds : List PyData} (h : ∀ d ∈ ds, flD d = true) : SeqAt.shaped (.tuple ds) = true := by
  obtain ⟨x, y⟩ := fl_all h
  show ((PyData.tuple ds).canLay0 && decide ((PyData.tuple ds).depth ≤ 64)) = true
  rw [show (PyData.tuple ds).canLay0 = PyData.canLayAll0 ds from rfl, x, show (PyData.tuple ds).depth = PyData.depthAll ds + 1 from rfl, y]
  rfl
def toldD (wd : Wood) (tr : List Row) : List PyData := match badT wd tr with
  | none => [.str "let by"]
  | some i => [.str "refused", .int (i : Nat)]
theorem toldD_at {K : PySem.W.Frag} {H : Hp} {wd : Wood} {tr : List Row} : DpAll K H (toldsT wd tr) (toldD wd tr) := by
  unfold toldsT toldD
  cases badT wd tr with
  | none => exact .cons (.str _) .nil
  | some i => exact .cons (.str _) (.cons (.int _) .nil)
theorem toldD_ok {wd : Wood} {tr : List Row} : SeqAt.shaped (.tuple (toldD wd tr)) = true := by
  refine shaped_tuple ?_
  unfold toldD
  cases badT wd tr with
  | none =>
    intro d hd
    rw [List.mem_singleton.mp hd]
    decide +kernel
  | some i =>
    intro d hd
    rcases List.mem_cons.mp hd with rfl | hd
    · decide +kernel
    · rw [List.mem_singleton.mp hd]
      rfl
theorem toldD_eq {wd : Wood} {tr : List Row} : PyData.eqv (.tuple (toldD wd tr)) (.tuple (toldD wd tr)) = true := by
  unfold toldD
  cases badT wd tr with
  | none => decide +kernel
  | some i =>
    show ((Str.ofString "refused" == Str.ofString "refused") && ((((i : Nat) : Int) == ((i : Nat) : Int)) && true)) = true
    simp
section
variable {P : Program} {w : World} {K : PySem.W.Frag} {mg : Str → Option Value} {base : Heap}
theorem ok_law (T : Tx P K mg) {f : Addr} {fd : FuncData} (F : Fun K "law" "law" st_law f fd) : FnOk P w K mg base CX0 4 f fd ["_law_script"] (spLaw K) := by
  refine F.ok sc_law (fun vs H Q E h => ?_) (fun cdv A outer s H vs Q E hr h => ?_)
  · obtain ⟨a, ns, rfl, _⟩ := h
    rfl
  · obtain ⟨a, ns, rfl, hS, hlen63, q⟩ := h
    refine ⟨_, (pss_cons (ps_for PassesOwn.never rfl (pi_range1 (by rfl) T.m_range (pa_cons (pe_callB (call_max2 rfl) (by rfl) T.m_max (by decide +kernel) (pa_cons pe_int (pa_cons (pe_callB (call_min2 rfl) (by rfl) T.m_min (by decide +kernel) (pa_cons pe_int (pa_cons (pe_callB call_len_seq (by rfl) T.m_len PySem.boot_len (pa_cons (pv 0) pa_nil)) pa_nil))) pa_nil))) pa_nil)) (pg_name (i := 1) sc_law.nd rfl (.inl rfl)) (pss_cons (ps_set (i := 2) sc_law.nd rfl (.inl rfl) (pe_call (ok_box T) (hr.mono (by decide) : Room 1 _) (by rfl) T.g_box T.F_box.kp T.b_box .nil pass0 (pa_cons (pv 0) (pa_cons (pv 1) pa_nil)))) (pss_cons (ps_set (i := 3) sc_law.nd rfl (.inl rfl) (pe_call (ok_wood T) (hr.mono (by decide) : Room 3 _) (by rfl) T.g_wood T.F_wood.kp T.b_wood .nil pass0 (pa_cons (pv 2) (pa_cons pe_int pa_nil)))) (pss_cons (ps_set (i := 4) sc_law.nd rfl (.inl rfl) (pe_call (ok_tree T) (hr.mono (by decide) : Room 2 _) (by rfl) T.g_tree T.F_tree.kp T.b_tree .nil pass0 (pa_cons (pv 2) (pa_cons (pv 3) (pa_cons (pe_ix ix_list (pe_lst (pa_cons pe_int (pa_cons pe_int pa_nil))) (pe_call (ok_take T) (hr.mono (by decide) : Room 1 _) (by rfl) T.g_take T.F_take.kp T.b_take .nil pass0 (pa_cons (pv 2) (pa_cons pe_int pa_nil))) (fun _ _ => rfl)) (pa_cons (pe_op op_pow pe_int pe_int) pa_nil)))))) (pss_cons (ps_set (i := 5) sc_law.nd rfl (.inl rfl) (pv 4)) (pss_cons (ps_for PassesOwn.never rfl (pi_range1 (by rfl) T.m_range (pa_cons (pe_op op_add pe_int (pe_call (ok_take T) (hr.mono (by decide) : Room 1 _) (by rfl) T.g_take T.F_take.kp T.b_take .nil pass0 (pa_cons (pv 2) (pa_cons pe_int pa_nil)))) pa_nil)) (pg_name (i := 6) sc_law.nd rfl (.inl rfl)) (pss_one (ps_set (i := 5) sc_law.nd rfl (.inl rfl) (pe_call (ok_spoilt T) (hr.mono (by decide) : Room 3 _) (by rfl) T.g_spoilt T.F_spoilt.kp T.b_spoilt .nil pass0 (pa_cons (pv 2) (pa_cons (pv 3) (pa_cons (pv 5) pa_nil))))))) (pss_one (ps_for PassesOwn.never rfl (pi_tup (pe_tup (pa_cons (pv 5) (pa_cons (pv 4) (pa_cons (pv 5) (pa_cons (pe_tup pa_nil) pa_nil)))))) (pg_name (i := 7) sc_law.nd rfl (.inl rfl)) (pss_one (ps_if (pt_cmpR (op_neD hr.units) (pe_call (ok_told T) (hr.mono (by decide) : Room 3 _) (by rfl) T.g_told T.F_told.kp T.b_told .nil pass0 (pa_cons (pv 3) (pa_cons (pv 7) pa_nil))) (pe_call (ok_due T) (hr.mono (by decide) : Room 2 _) (by rfl) T.g_due T.F_due.kp T.b_due .nil pass0 (pa_cons (pv 3) (pa_cons (pv 7) pa_nil))) (nomark _)) (pss_one (ps_ret pe_bl)) pss_nil)))))))))) (pss_one (ps_ret pe_bl))), ?_⟩
    refine ⟨.ref a, rfl, a, _, rfl, .inl hS, _, _, rfl, _, _, rfl, ?_⟩
    rw [List.length_map]
    obtain ⟨n, hn, hn3, hn8⟩ : ∃ n : Nat, (if (if (ns.length : Int) < 8 then (ns.length : Int) else 8) > 3 then (if (ns.length : Int) < 8 then (ns.length : Int) else 8) else 3) = (n : Int) ∧ 3 ≤ n ∧ n ≤ 8 := by
      refine ⟨max 3 (min 8 ns.length), ?_, by omega, by omega⟩
      split <;> split at * <;> omega
    rw [hn]
    refine ⟨_, rfl, by omega, by omega, for_range (lo := 0) (n := (n : Int).toNat) (fun i σ H' => ∃ (y1 y2 y3 y4 y5 y6 y7 : Option V), σ = [some (.ref a), y1, y2, y3, y4, y5, y6, y7] ∧ Same H H')
      ⟨none, none, none, none, none, none, none, rfl, Same.refl H⟩ (fun i σ H' hi hP => ?_) (fun σ H' hP => ?_)⟩
    · obtain ⟨y1, y2, y3, y4, y5, y6, y7, rfl, sm⟩ := hP
      refine ⟨.ref a, rfl, _, rfl, a, ns, _, rfl, sm.seq hS, by omega, by omega, fun b H1 nb s1 db => ?_⟩
      have nbH : H b = none := Same.free sm nb
      refine ⟨_, rfl, b, 12, rfl, db, by decide, by decide, fun p H2 wd g2 hw good => ?_⟩
      -- the tree
      refine ⟨_, rfl, _, rfl, B08.s2, fun L nL => ?_⟩
      have sL := same_new (o := .lst [.int 8, .int 57]) nL
      have nLb : L ≠ b := (g2.2.ne nL).symm
      refine ⟨_, rfl, b, 2, rfl, g2.2.mono sL, by decide, by decide +kernel, fun d2 H3 d20 d21 g3 => ?_⟩
      obtain ⟨mo, hmo, mo0, mo1⟩ : ∃ mo : Int, atI [V.int 8, .int 57] d2 = some (.int mo) ∧ 0 < mo ∧ mo ≤ 57 := by
        have : d2 = 0 ∨ d2 = 1 := by omega
        rcases this with rfl | rfl
        · exact ⟨8, rfl, by decide, by decide⟩
        · exact ⟨57, rfl, by decide, by decide⟩
      have G3 : Gr b H2 H3 := (Gr.of sL g2.2).trans g3
      refine ⟨L, _, d2, .int mo, rfl, rfl, SqL.of (g3.1 _ _ nLb upd_same), hmo, ?_⟩
      refine ⟨_, _, rfl, rfl, ⟨by decide, by decide, by decide⟩, ?_⟩
      have hw3 := hw.mono (KT.gr g2.2 G3)
      refine ⟨b, p, mo, _, wd, rfl, g3.2, hw3, good, mo0, by omega, fun t H4 tr g4 ht drt => ?_⟩
      have tm0 : TmT 60 tr := drt.tm good (by omega) (by decide)
      have hw4 := hw3.mono (KT.gr g3.2 g4)
      have G4 : Gr b H1 H4 := (g2.trans G3).trans g4
      refine ⟨_, rfl, ?_⟩
      refine ⟨_, rfl, b, 3, rfl, g4.2, by decide, by decide +kernel, fun t3 H5 t30 t31 g5 => ?_⟩
      refine ⟨_, _, rfl, rfl, 1 + t3, rfl, by omega, by omega, ?_⟩
      refine for_range (lo := 0) (n := (1 + t3).toNat) (fun j σ H' => ∃ (y6 : Option V) (t' : Addr) (tr' : List Row), σ = [some (.ref a), some (.int (0 + (i : Int))), some (.ref b), some (.ref p), some (.ref t), some (.ref t'), y6, y7] ∧ Gr b H1 H' ∧ WdAt H' p wd ∧ TrAt H' t tr ∧ TrAt H' t' tr' ∧ TmT (60 + 3 * j) tr') ⟨y6, t, tr, rfl, G4.trans g5, hw4.mono (KT.gr g4.2 g5), ht.mono (KT.gr g4.2 g5), ht.mono (KT.gr g4.2 g5), tm0⟩ (fun j σ H' hj hP => ?_) (fun σ H' hP => ?_)
      · obtain ⟨z6, t', tr', rfl, g6, hw6, ht6, ht6', tm⟩ := hP
        refine ⟨_, rfl, _, rfl, _, rfl, b, p, t', 60 + 3 * j, wd, tr', rfl, g6.2, hw6, good, ht6', tm, by omega, by omega, fun t2 H7 tr2 g7 ht7 tm7 => ?_⟩
        exact ⟨_, t2, tr2, rfl, g6.trans g7, hw6.mono (KT.gr g6.2 g7), ht6.mono (KT.gr g6.2 g7), ht7, tm7⟩
      · obtain ⟨z6, t', tr', rfl, g6, hw6, ht6, ht6', tm⟩ := hP
        have tmA : TmT 1000 tr' := ⟨Nat.le_trans tm.few (by omega), fun r hr => ⟨(tm.rowT r hr).1, Nat.le_trans (tm.rowT r hr).2 (by omega)⟩⟩
        have tmB : TmT 1000 tr := ⟨Nat.le_trans tm0.few (by omega), fun r hr => ⟨(tm0.rowT r hr).1, Nat.le_trans (tm0.rowT r hr).2 (by omega)⟩⟩
        refine ⟨_, rfl, _, rfl, _, rfl, s0, fun te nte => ⟨s4, fun tt ntt => ?_⟩⟩
        have sT : Same H' (upd (upd H' te (.tup [])) tt (.tup [.ref t', .ref t, .ref t', .ref te])) := (same_new nte).trans (same_new ntt)
        have ee : upd (upd H' te (.tup [])) tt (.tup [.ref t', .ref t, .ref t', .ref te]) te = some (.tup []) := (same_new ntt) _ _ upd_same
        have ett : upd (upd H' te (.tup [])) tt (.tup [.ref t', .ref t, .ref t', .ref te]) tt = some (.tup [.ref t', .ref t, .ref t', .ref te]) := upd_same
        refine ⟨tt, rfl, ⟨_, SqT.of upd_same⟩, ?_⟩
        generalize upd (upd H' te (.tup [])) tt (.tup [.ref t', .ref t, .ref t', .ref te]) = H0 at sT ee ett
        refine for_it (walk_tup (xs := [V.ref t', .ref t, .ref t', .ref te])) (fun i' σ H'' => ∃ (z7 : Option V), σ = [some (.ref a), some (.int (0 + (i : Int))), some (.ref b), some (.ref p), some (.ref t), some (.ref t'), z6, z7] ∧ Same H0 H'') ⟨_, rfl, Same.refl _⟩ (fun i' σ H'' hi P => ?_) (fun i' x σ H'' Hx hi P y => ?_) (fun σ H'' P => ?_)
        · obtain ⟨_, _, s5⟩ := P
          exact SqT.of (s5 _ _ ett)
        · obtain ⟨z7, rfl, s5⟩ := P
          obtain ⟨rfl, ex⟩ := y
          have s6 := sT.trans s5
          obtain ⟨p3, tr3, rfl, ht3, tm3⟩ : ∃ p3 tr3, x = .ref p3 ∧ TrAt Hx p3 tr3 ∧ TmT 1000 tr3 := by
            have hx := List.mem_of_getElem? ex
            rcases List.mem_cons.mp hx with rfl | hx
            · exact ⟨_, _, rfl, ht6'.mono (KT.of s6), tmA⟩
            · rcases List.mem_cons.mp hx with rfl | hx
              · exact ⟨_, _, rfl, ht6.mono (KT.of s6), tmB⟩
              · rcases List.mem_cons.mp hx with rfl | hx
                · exact ⟨_, _, rfl, ht6'.mono (KT.of s6), tmA⟩
                · rw [List.mem_singleton.mp hx]
                  exact ⟨te, [], rfl, ⟨[], s5 _ _ ee, .nil⟩, ⟨by decide, fun _ h => nomatch h⟩⟩
          have hwx := hw6.mono (KT.of s6)
          refine ⟨_, rfl, _, rfl, p, p3, wd, tr3, rfl, hwx, good, ht3, tm3, fun t1 H7 s7 e1 => ?_⟩
          refine ⟨_, rfl, _, rfl, p, p3, wd, tr3, rfl, hwx.mono (KT.of s7), good, ht3.mono (KT.of s7), tm3, fun t2 H8 s8 e2 => ?_⟩
          refine ⟨.tuple _, .tuple _, .tup (SqT.of (s8 _ _ e1)) toldD_at, .tup (SqT.of e2) toldD_at, toldD_ok, toldD_ok, _, rfl, ?_⟩
          rw [toldD_eq]
          exact iteF ⟨_, rfl, (s5.trans s7).trans s8⟩
        · obtain ⟨z7, rfl, s5⟩ := P
          refine ⟨_, _, _, _, _, _, _, rfl, fun c o e => s5 _ _ (sT _ _ (g6.1 _ _ (ne_of_none e nbH) (s1 _ _ (sm _ _ e))))⟩
    · obtain ⟨_, _, _, _, _, _, _, rfl, _⟩ := hP
      exact q _
end

theorem all_mk {l : PySem.W.OpenLaw} {w : World} {K : PySem.W.Frag} {h : Heap} {mg : Str → Option Value} {fa : Addr} (X : K.In h) (G : h.Ns mainGlobals mg) (hfa : mg "law" = some (.ref fa))
    {f_table : Addr} {od_table an_table : Option Addr} {sl_table : Array (Option Value)} {oc_table kV_table dc_table pm_table cd_table ct_table : Value}
    (a_table : PySem.W.nsIn K mainGlobals "maker_table" = some (some (.ref f_table))) (l_table : K.lookup f_table = some ⟨oc_table, od_table, .func (PySem.W.fnOf "maker_table" "maker_table" (defArgs st_table) (defBody st_table) (defScope st_table) .none kV_table dc_table pm_table an_table cd_table ct_table), sl_table⟩) (c_table : PySem.W.codeIn K cd_table "maker_table" = true) (k_table : PySem.W.keepIn K (.ref f_table) = true)
    {f_looktree : Addr} {od_looktree an_looktree : Option Addr} {sl_looktree : Array (Option Value)} {oc_looktree kV_looktree dc_looktree pm_looktree cd_looktree ct_looktree : Value}
    (a_looktree : PySem.W.nsIn K mainGlobals "look_tree" = some (some (.ref f_looktree))) (l_looktree : K.lookup f_looktree = some ⟨oc_looktree, od_looktree, .func (PySem.W.fnOf "look_tree" "look_tree" (defArgs st_looktree) (defBody st_looktree) (defScope st_looktree) .none kV_looktree dc_looktree pm_looktree an_looktree cd_looktree ct_looktree), sl_looktree⟩) (c_looktree : PySem.W.codeIn K cd_looktree "look_tree" = true) (k_looktree : PySem.W.keepIn K (.ref f_looktree) = true)
    {f_rowsof : Addr} {od_rowsof an_rowsof : Option Addr} {sl_rowsof : Array (Option Value)} {oc_rowsof kV_rowsof dc_rowsof pm_rowsof cd_rowsof ct_rowsof : Value}
    (a_rowsof : PySem.W.nsIn K mainGlobals "are_rows_of" = some (some (.ref f_rowsof))) (l_rowsof : K.lookup f_rowsof = some ⟨oc_rowsof, od_rowsof, .func (PySem.W.fnOf "are_rows_of" "are_rows_of" (defArgs st_rowsof) (defBody st_rowsof) (defScope st_rowsof) .none kV_rowsof dc_rowsof pm_rowsof an_rowsof cd_rowsof ct_rowsof), sl_rowsof⟩) (c_rowsof : PySem.W.codeIn K cd_rowsof "are_rows_of" = true) (k_rowsof : PySem.W.keepIn K (.ref f_rowsof) = true)
    {f_box : Addr} {od_box an_box : Option Addr} {sl_box : Array (Option Value)} {oc_box kV_box dc_box pm_box cd_box ct_box : Value}
    (a_box : PySem.W.nsIn K mainGlobals "_law_box" = some (some (.ref f_box))) (l_box : K.lookup f_box = some ⟨oc_box, od_box, .func (PySem.W.fnOf "_law_box" "_law_box" (defArgs st_box) (defBody st_box) (defScope st_box) .none kV_box dc_box pm_box an_box cd_box ct_box), sl_box⟩) (c_box : PySem.W.codeIn K cd_box "_law_box" = true) (k_box : PySem.W.keepIn K (.ref f_box) = true)
    {f_take : Addr} {od_take an_take : Option Addr} {sl_take : Array (Option Value)} {oc_take kV_take dc_take pm_take cd_take ct_take : Value}
    (a_take : PySem.W.nsIn K mainGlobals "_law_take" = some (some (.ref f_take))) (l_take : K.lookup f_take = some ⟨oc_take, od_take, .func (PySem.W.fnOf "_law_take" "_law_take" (defArgs st_take) (defBody st_take) (defScope st_take) .none kV_take dc_take pm_take an_take cd_take ct_take), sl_take⟩) (c_take : PySem.W.codeIn K cd_take "_law_take" = true) (k_take : PySem.W.keepIn K (.ref f_take) = true)
    {f_names : Addr} {od_names an_names : Option Addr} {sl_names : Array (Option Value)} {oc_names kV_names dc_names pm_names cd_names ct_names : Value}
    (a_names : PySem.W.nsIn K mainGlobals "_law_names" = some (some (.ref f_names))) (l_names : K.lookup f_names = some ⟨oc_names, od_names, .func (PySem.W.fnOf "_law_names" "_law_names" (defArgs st_names) (defBody st_names) (defScope st_names) .none kV_names dc_names pm_names an_names cd_names ct_names), sl_names⟩) (c_names : PySem.W.codeIn K cd_names "_law_names" = true) (k_names : PySem.W.keepIn K (.ref f_names) = true)
    {f_wood : Addr} {od_wood an_wood : Option Addr} {sl_wood : Array (Option Value)} {oc_wood kV_wood dc_wood pm_wood cd_wood ct_wood : Value}
    (a_wood : PySem.W.nsIn K mainGlobals "_law_wood" = some (some (.ref f_wood))) (l_wood : K.lookup f_wood = some ⟨oc_wood, od_wood, .func (PySem.W.fnOf "_law_wood" "_law_wood" (defArgs st_wood) (defBody st_wood) (defScope st_wood) .none kV_wood dc_wood pm_wood an_wood cd_wood ct_wood), sl_wood⟩) (c_wood : PySem.W.codeIn K cd_wood "_law_wood" = true) (k_wood : PySem.W.keepIn K (.ref f_wood) = true)
    {f_lmakers : Addr} {od_lmakers an_lmakers : Option Addr} {sl_lmakers : Array (Option Value)} {oc_lmakers kV_lmakers dc_lmakers pm_lmakers cd_lmakers ct_lmakers : Value}
    (a_lmakers : PySem.W.nsIn K mainGlobals "_law_makers" = some (some (.ref f_lmakers))) (l_lmakers : K.lookup f_lmakers = some ⟨oc_lmakers, od_lmakers, .func (PySem.W.fnOf "_law_makers" "_law_makers" (defArgs st_lmakers) (defBody st_lmakers) (defScope st_lmakers) .none kV_lmakers dc_lmakers pm_lmakers an_lmakers cd_lmakers ct_lmakers), sl_lmakers⟩) (c_lmakers : PySem.W.codeIn K cd_lmakers "_law_makers" = true) (k_lmakers : PySem.W.keepIn K (.ref f_lmakers) = true)
    {f_anytext : Addr} {od_anytext an_anytext : Option Addr} {sl_anytext : Array (Option Value)} {oc_anytext kV_anytext dc_anytext pm_anytext cd_anytext ct_anytext : Value}
    (a_anytext : PySem.W.nsIn K mainGlobals "_law_any_text" = some (some (.ref f_anytext))) (l_anytext : K.lookup f_anytext = some ⟨oc_anytext, od_anytext, .func (PySem.W.fnOf "_law_any_text" "_law_any_text" (defArgs st_anytext) (defBody st_anytext) (defScope st_anytext) .none kV_anytext dc_anytext pm_anytext an_anytext cd_anytext ct_anytext), sl_anytext⟩) (c_anytext : PySem.W.codeIn K cd_anytext "_law_any_text" = true) (k_anytext : PySem.W.keepIn K (.ref f_anytext) = true)
    {f_tree : Addr} {od_tree an_tree : Option Addr} {sl_tree : Array (Option Value)} {oc_tree kV_tree dc_tree pm_tree cd_tree ct_tree : Value}
    (a_tree : PySem.W.nsIn K mainGlobals "_law_tree" = some (some (.ref f_tree))) (l_tree : K.lookup f_tree = some ⟨oc_tree, od_tree, .func (PySem.W.fnOf "_law_tree" "_law_tree" (defArgs st_tree) (defBody st_tree) (defScope st_tree) .none kV_tree dc_tree pm_tree an_tree cd_tree ct_tree), sl_tree⟩) (c_tree : PySem.W.codeIn K cd_tree "_law_tree" = true) (k_tree : PySem.W.keepIn K (.ref f_tree) = true)
    {f_spoilt : Addr} {od_spoilt an_spoilt : Option Addr} {sl_spoilt : Array (Option Value)} {oc_spoilt kV_spoilt dc_spoilt pm_spoilt cd_spoilt ct_spoilt : Value}
    (a_spoilt : PySem.W.nsIn K mainGlobals "_law_spoilt_tree" = some (some (.ref f_spoilt))) (l_spoilt : K.lookup f_spoilt = some ⟨oc_spoilt, od_spoilt, .func (PySem.W.fnOf "_law_spoilt_tree" "_law_spoilt_tree" (defArgs st_spoilt) (defBody st_spoilt) (defScope st_spoilt) .none kV_spoilt dc_spoilt pm_spoilt an_spoilt cd_spoilt ct_spoilt), sl_spoilt⟩) (c_spoilt : PySem.W.codeIn K cd_spoilt "_law_spoilt_tree" = true) (k_spoilt : PySem.W.keepIn K (.ref f_spoilt) = true)
    {f_due : Addr} {od_due an_due : Option Addr} {sl_due : Array (Option Value)} {oc_due kV_due dc_due pm_due cd_due ct_due : Value}
    (a_due : PySem.W.nsIn K mainGlobals "_law_due" = some (some (.ref f_due))) (l_due : K.lookup f_due = some ⟨oc_due, od_due, .func (PySem.W.fnOf "_law_due" "_law_due" (defArgs st_due) (defBody st_due) (defScope st_due) .none kV_due dc_due pm_due an_due cd_due ct_due), sl_due⟩) (c_due : PySem.W.codeIn K cd_due "_law_due" = true) (k_due : PySem.W.keepIn K (.ref f_due) = true)
    {f_told : Addr} {od_told an_told : Option Addr} {sl_told : Array (Option Value)} {oc_told kV_told dc_told pm_told cd_told ct_told : Value}
    (a_told : PySem.W.nsIn K mainGlobals "_law_told" = some (some (.ref f_told))) (l_told : K.lookup f_told = some ⟨oc_told, od_told, .func (PySem.W.fnOf "_law_told" "_law_told" (defArgs st_told) (defBody st_told) (defScope st_told) .none kV_told dc_told pm_told an_told cd_told ct_told), sl_told⟩) (c_told : PySem.W.codeIn K cd_told "_law_told" = true) (k_told : PySem.W.keepIn K (.ref f_told) = true)
    {f_law : Addr} {od_law an_law : Option Addr} {sl_law : Array (Option Value)} {oc_law kV_law dc_law pm_law cd_law ct_law : Value}
    (a_law : PySem.W.nsIn K mainGlobals "law" = some (some (.ref f_law))) (l_law : K.lookup f_law = some ⟨oc_law, od_law, .func (PySem.W.fnOf "law" "law" (defArgs st_law) (defBody st_law) (defScope st_law) .none kV_law dc_law pm_law an_law cd_law ct_law), sl_law⟩) (c_law : PySem.W.codeIn K cd_law "law" = true) (k_law : PySem.W.keepIn K (.ref f_law) = true)
    (z_len : PySem.W.nsIn K mainGlobals "len" = some none)
    (z_int : PySem.W.nsIn K mainGlobals "int" = some none)
    (z_list : PySem.W.nsIn K mainGlobals "list" = some none)
    (z_tuple : PySem.W.nsIn K mainGlobals "tuple" = some none)
    (z_zip : PySem.W.nsIn K mainGlobals "zip" = some none)
    (z_isinstance : PySem.W.nsIn K mainGlobals "isinstance" = some none)
    (z_max : PySem.W.nsIn K mainGlobals "max" = some none)
    (z_min : PySem.W.nsIn K mainGlobals "min" = some none)
    (z_range : PySem.W.nsIn K mainGlobals "range" = some none)
    (z_enumerate : PySem.W.nsIn K mainGlobals "enumerate" = some none)
    (z_all : PySem.W.nsIn K mainGlobals "all" = some none)
    (z_sum : PySem.W.nsIn K mainGlobals "sum" = some none)
    (z_ValueError : PySem.W.nsIn K mainGlobals "ValueError" = some none)
    (z_super : PySem.W.nsIn K mainGlobals "super" = some none)
    {C fI cc cda CB : Addr} {nmX qX : Str} {N : Addr} {bs : List Value} {sn : List Str} {sub : List Value} {ab : Bool} {col : Option Bool} {dd : Option Addr} {m0 m1 m2 m3 m5 : Option Value}
    {C_NoFit C_NoPrinter C_NoReader C_NoRow C_NoText C_NoTurner C_NoWood C_NoWord C_TooLong C_TooWide : Addr}
    (aC : PySem.W.nsIn K mainGlobals "NoTree" = some (some (.ref C))) (aB : PySem.W.nsIn K mainGlobals "BoughError" = some (some (.ref CB)))
    (xL : K.lookup C = some (excClassObj nmX qX C N bs [.ref CB, .type "ValueError", .type "Exception", .type "BaseException", .type "object"] true sn sub ab col dd m0 m1 m2 m3 m5 "ValueError.__new__"))
    (iC : PySem.W.findIn K (.ref C) "__init__" = some (some (.ref fI))) (tI : PySem.W.typeIn K (.ref fI) = some (.type "function"))
    {ocI kVI dcI pmI ctI : Value} {odI anI : Option Addr} {slI : Array (Option Value)} (lI : K.lookup fI = some ⟨ocI, odI, .func (PySem.W.ksFn "__init__" "NoTree.__init__" (defArgs st_nt) (defBody st_nt) (defScope st_nt) .none kVI dcI pmI anI (.ref cda) ctI cc), slI⟩) (cI : PySem.W.codeIn K (.ref cda) "NoTree.__init__" = true)
    {cclX : Value} {cddX : Option Addr} {vsX : Array Value} {ccsX : Array (Option Value)} (lcd : K.lookup cda = some ⟨cclX, cddX, .fields vsX, ccsX⟩) {fileX : Str} {tfX : Tok} (vs2 : vsX[2]? = some (.str fileX tfX)) (fileE : ((l.prog.main.file : Str) == fileX) = true)
    {clX : Value} {cldX : Option Addr} {cslX : Array (Option Value)} (lcc : K.lookup cc = some ⟨clX, cldX, .cell (some (.ref C)), cslX⟩)
    (supC : PySem.W.ks_superIn K C C "__init__" = some (some (.builtin "ValueError.__init__"))) (opq : PySem.W.nsIn K cStatics "thirdparty.any" = some none) (topN : (l.prog.main.scope.names.lookup ("super" : Str)).isSome = false)
    (subB : PySem.W.subIn K (.ref C) (.type "ValueError") = some true) (subC : PySem.W.mroIn K C (.ref C) = some true) (kC : PySem.W.keepIn K (.ref C) = true) (exC : PySem.W.subIn K (.ref C) (.type "BaseException") = some true) (tyC : PySem.W.typeIn K (.ref C) = some (.type "type"))
    (gaC : PySem.W.findIn K (.ref C) "__getattribute__" = some (some (.builtin "BaseException.__getattribute__"))) (ggC : PySem.W.findIn K (.ref C) "__getattr__" = some none) (hdC : PySem.W.hasDictIn K C = true) (clC : PySem.W.findIn K (.ref C) "__class__" = some (some (.builtin "object.__class__")))
    (snC : PySem.W.specialIn K (.builtin "object.__class__") "__get__" = some (some (.builtin "getset_descriptor.__get__"))) (tkC : PySem.W.takesIn K (.builtin "object.__class__") = some true) (mrC : PySem.W.mroIn K C (.type "object") = some true)
    (saC : PySem.W.findIn K (.ref C) "__setattr__" = some (some (.builtin "object.__setattr__"))) (nW : PySem.W.findIn K (.ref C) "at" = some none)
    (exB : PySem.W.subIn K (.ref CB) (.type "BaseException") = some true) (hdB : PySem.W.hasDictIn K CB = true) (tyB : PySem.W.typeIn K (.ref CB) = some (.type "type")) (sCB : PySem.W.subIn K (.ref C) (.ref CB) = some true)
    (kCC : PySem.W.kitOne K (.ref C) (.ref C) = some true) (kVE : PySem.W.kitOne K (.ref C) (.type "ValueError") = some true)
    (g_NoFit : PySem.W.nsIn K mainGlobals "NoFit" = some (some (.ref C_NoFit))) (k_NoFit : PySem.W.kitOne K (.ref C) (.ref C_NoFit) = some false)
    (g_NoPrinter : PySem.W.nsIn K mainGlobals "NoPrinter" = some (some (.ref C_NoPrinter))) (k_NoPrinter : PySem.W.kitOne K (.ref C) (.ref C_NoPrinter) = some false)
    (g_NoReader : PySem.W.nsIn K mainGlobals "NoReader" = some (some (.ref C_NoReader))) (k_NoReader : PySem.W.kitOne K (.ref C) (.ref C_NoReader) = some false)
    (g_NoRow : PySem.W.nsIn K mainGlobals "NoRow" = some (some (.ref C_NoRow))) (k_NoRow : PySem.W.kitOne K (.ref C) (.ref C_NoRow) = some false)
    (g_NoText : PySem.W.nsIn K mainGlobals "NoText" = some (some (.ref C_NoText))) (k_NoText : PySem.W.kitOne K (.ref C) (.ref C_NoText) = some false)
    (g_NoTurner : PySem.W.nsIn K mainGlobals "NoTurner" = some (some (.ref C_NoTurner))) (k_NoTurner : PySem.W.kitOne K (.ref C) (.ref C_NoTurner) = some false)
    (g_NoWood : PySem.W.nsIn K mainGlobals "NoWood" = some (some (.ref C_NoWood))) (k_NoWood : PySem.W.kitOne K (.ref C) (.ref C_NoWood) = some false)
    (g_NoWord : PySem.W.nsIn K mainGlobals "NoWord" = some (some (.ref C_NoWord))) (k_NoWord : PySem.W.kitOne K (.ref C) (.ref C_NoWord) = some false)
    (g_TooLong : PySem.W.nsIn K mainGlobals "TooLong" = some (some (.ref C_TooLong))) (k_TooLong : PySem.W.kitOne K (.ref C) (.ref C_TooLong) = some false)
    (g_TooWide : PySem.W.nsIn K mainGlobals "TooWide" = some (some (.ref C_TooWide))) (k_TooWide : PySem.W.kitOne K (.ref C) (.ref C_TooWide) = some false)
    : ∃ fd : FuncData, (∀ (s : Shared) (v : Value), BindsTo s fd ⟨[v], []⟩ [("_law_script", v)]) ∧ ∀ base : Heap, K.In base → base.Ns mainGlobals mg → FnOk l.prog w K mg base CX0 4 fa fd ["_law_script"] (spLaw K) := by
  have e := hfa.symm.trans (PySem.W.mg_of X G a_law)
  cases e
  have F_table := fun_mk (st := st_table) l_table c_table k_table
  have b_table := F_table.binds (ps := ["wood"]) fun _ _ _ _ _ _ us hl => match us, hl with | [_], _ => rfl
  have F_looktree := fun_mk (st := st_looktree) l_looktree c_looktree k_looktree
  have b_looktree := F_looktree.binds (ps := ["wood", "tree"]) fun _ _ _ _ _ _ us hl => match us, hl with | [_, _], _ => rfl
  have F_rowsof := fun_mk (st := st_rowsof) l_rowsof c_rowsof k_rowsof
  have b_rowsof := F_rowsof.binds (ps := ["kinds", "parts", "wanted"]) fun _ _ _ _ _ _ us hl => match us, hl with | [_, _, _], _ => rfl
  have F_box := fun_mk (st := st_box) l_box c_box k_box
  have b_box := F_box.binds (ps := ["_law_script", "_law_k"]) fun _ _ _ _ _ _ us hl => match us, hl with | [_, _], _ => rfl
  have F_take := fun_mk (st := st_take) l_take c_take k_take
  have b_take := F_take.binds (ps := ["_law_box_here", "_law_many"]) fun _ _ _ _ _ _ us hl => match us, hl with | [_, _], _ => rfl
  have F_names := fun_mk (st := st_names) l_names c_names k_names
  have b_names := F_names.binds (ps := ["_law_box_here", "_law_many"]) fun _ _ _ _ _ _ us hl => match us, hl with | [_, _], _ => rfl
  have F_wood := fun_mk (st := st_wood) l_wood c_wood k_wood
  have b_wood := F_wood.binds (ps := ["_law_box_here", "_law_most"]) fun _ _ _ _ _ _ us hl => match us, hl with | [_, _], _ => rfl
  have F_lmakers := fun_mk (st := st_lmakers) l_lmakers c_lmakers k_lmakers
  have b_lmakers := F_lmakers.binds (ps := ["_law_wood_here"]) fun _ _ _ _ _ _ us hl => match us, hl with | [_], _ => rfl
  have F_anytext := fun_mk (st := st_anytext) l_anytext c_anytext k_anytext
  have b_anytext := F_anytext.binds (ps := ["_law_box_here"]) fun _ _ _ _ _ _ us hl => match us, hl with | [_], _ => rfl
  have F_tree := fun_mk (st := st_tree) l_tree c_tree k_tree
  have b_tree := F_tree.binds (ps := ["_law_box_here", "_law_wood_here", "_law_most", "_law_size"]) fun _ _ _ _ _ _ us hl => match us, hl with | [_, _, _, _], _ => rfl
  have F_spoilt := fun_mk (st := st_spoilt) l_spoilt c_spoilt k_spoilt
  have b_spoilt := F_spoilt.binds (ps := ["_law_box_here", "_law_wood_here", "_law_tree_here"]) fun _ _ _ _ _ _ us hl => match us, hl with | [_, _, _], _ => rfl
  have F_due := fun_mk (st := st_due) l_due c_due k_due
  have b_due := F_due.binds (ps := ["_law_wood_here", "_law_tree_here"]) fun _ _ _ _ _ _ us hl => match us, hl with | [_, _], _ => rfl
  have F_told := fun_mk (st := st_told) l_told c_told k_told
  have b_told := F_told.binds (ps := ["_law_wood_here", "_law_tree_here"]) fun _ _ _ _ _ _ us hl => match us, hl with | [_, _], _ => rfl
  have F_law := fun_mk (st := st_law) l_law c_law k_law
  have exc : PySem.BX.ETxt l.prog K mg C fI cc cda "ValueError" "ValueError.__new__" "ValueError.__init__" [.type "ValueError", .type "Exception", .type "BaseException", .type "object"] "NoTree" "NoTree.__init__" (defArgs st_nt) fs_nt [fs_nt1] (defScope st_nt) := { gC := PySem.W.mg_of X G aC, cls := ⟨_, _, _, _, _, _, _, _, _, _, _, _, _, _, _, xL, fun _ => rfl⟩, base := F.excBase_ValueError, kxs := PySem.W.kxs_ValueError, iC := iC, tI := tI, fn := ⟨_, _, _, _, _, _, _, _, lI⟩, code := cI, cdo := ⟨_, _, _, _, _, _, lcd, vs2, fileE⟩, cell := ⟨_, _, _, lcc⟩, sup := supC, opq := opq, noS := PySem.W.mg_none_of X G z_super, topS := topN, subB := subB, subC := subC, kC := kC, exC := exC, tyC := tyC, kS := by decide +kernel, kCl := by decide +kernel, kSf := by decide +kernel, kF := rfl, st := ⟨_, _, _, _, _, _, _, _, rfl, fun L => ⟨rfl, rfl, _, rfl⟩⟩, hd := ⟨_, rfl, rfl⟩ }
  have T : Tx l.prog K mg := { f_table := f_table, fd_table := _, F_table := F_table, g_table := PySem.W.mg_of X G a_table, b_table := b_table, f_looktree := f_looktree, fd_looktree := _, F_looktree := F_looktree, g_looktree := PySem.W.mg_of X G a_looktree, b_looktree := b_looktree, f_rowsof := f_rowsof, fd_rowsof := _, F_rowsof := F_rowsof, g_rowsof := PySem.W.mg_of X G a_rowsof, b_rowsof := b_rowsof, f_box := f_box, fd_box := _, F_box := F_box, g_box := PySem.W.mg_of X G a_box, b_box := b_box, f_take := f_take, fd_take := _, F_take := F_take, g_take := PySem.W.mg_of X G a_take, b_take := b_take, f_names := f_names, fd_names := _, F_names := F_names, g_names := PySem.W.mg_of X G a_names, b_names := b_names, f_wood := f_wood, fd_wood := _, F_wood := F_wood, g_wood := PySem.W.mg_of X G a_wood, b_wood := b_wood, f_lmakers := f_lmakers, fd_lmakers := _, F_lmakers := F_lmakers, g_lmakers := PySem.W.mg_of X G a_lmakers, b_lmakers := b_lmakers, f_anytext := f_anytext, fd_anytext := _, F_anytext := F_anytext, g_anytext := PySem.W.mg_of X G a_anytext, b_anytext := b_anytext, f_tree := f_tree, fd_tree := _, F_tree := F_tree, g_tree := PySem.W.mg_of X G a_tree, b_tree := b_tree, f_spoilt := f_spoilt, fd_spoilt := _, F_spoilt := F_spoilt, g_spoilt := PySem.W.mg_of X G a_spoilt, b_spoilt := b_spoilt, f_due := f_due, fd_due := _, F_due := F_due, g_due := PySem.W.mg_of X G a_due, b_due := b_due, f_told := f_told, fd_told := _, F_told := F_told, g_told := PySem.W.mg_of X G a_told, b_told := b_told, m_len := PySem.W.mg_none_of X G z_len, m_int := PySem.W.mg_none_of X G z_int, m_list := PySem.W.mg_none_of X G z_list, m_tuple := PySem.W.mg_none_of X G z_tuple, m_zip := PySem.W.mg_none_of X G z_zip, m_isinstance := PySem.W.mg_none_of X G z_isinstance, m_max := PySem.W.mg_none_of X G z_max, m_min := PySem.W.mg_none_of X G z_min, m_range := PySem.W.mg_none_of X G z_range, m_enumerate := PySem.W.mg_none_of X G z_enumerate, m_all := PySem.W.mg_none_of X G z_all, m_sum := PySem.W.mg_none_of X G z_sum, m_ValueError := PySem.W.mg_none_of X G z_ValueError, m_super := PySem.W.mg_none_of X G z_super, C := C, fI := fI, cc := cc, cda := cda, CB := CB, exc := exc, fld := ⟨⟨_, (by unfold PySem.W.clsIn; rw [xL]), rfl, rfl⟩, saC, fun f hf => by rw [List.mem_singleton.mp hf]; exact nW⟩, is1 := ⟨_, _, _, _, rfl, by decide +kernel, by decide +kernel, fun L => rfl⟩, exI := ⟨gaC, ggC, exC, hdC, clC, snC, tkC, mrC⟩, xfc := ⟨gaC, ggC, exC, hdC⟩, noAt := nW, g_BoughError := PySem.W.mg_of X G aB, exm := PySem.W.exm_ref exB hdB tyB sCB, kC := kCC, kV := kVE, C_NoFit := C_NoFit, g_NoFit := PySem.W.mg_of X G g_NoFit, k_NoFit := k_NoFit, C_NoPrinter := C_NoPrinter, g_NoPrinter := PySem.W.mg_of X G g_NoPrinter, k_NoPrinter := k_NoPrinter, C_NoReader := C_NoReader, g_NoReader := PySem.W.mg_of X G g_NoReader, k_NoReader := k_NoReader, C_NoRow := C_NoRow, g_NoRow := PySem.W.mg_of X G g_NoRow, k_NoRow := k_NoRow, C_NoText := C_NoText, g_NoText := PySem.W.mg_of X G g_NoText, k_NoText := k_NoText, C_NoTurner := C_NoTurner, g_NoTurner := PySem.W.mg_of X G g_NoTurner, k_NoTurner := k_NoTurner, C_NoWood := C_NoWood, g_NoWood := PySem.W.mg_of X G g_NoWood, k_NoWood := k_NoWood, C_NoWord := C_NoWord, g_NoWord := PySem.W.mg_of X G g_NoWord, k_NoWord := k_NoWord, C_TooLong := C_TooLong, g_TooLong := PySem.W.mg_of X G g_TooLong, k_TooLong := k_TooLong, C_TooWide := C_TooWide, g_TooWide := PySem.W.mg_of X G g_TooWide, k_TooWide := k_TooWide }
  exact ⟨PySem.W.fnOf "law" "law" (defArgs st_law) (defBody st_law) (defScope st_law) .none kV_law dc_law pm_law an_law cd_law ct_law, fun s v => .of_eq rfl, fun base _ _ => ok_law T F_law⟩
end B08
open PySem PySem.W PyProof.Rows
set_option maxRecDepth 100000 in
set_option maxHeartbeats 0 in
theorem PySem.Challenge.cw_boughkept_k08_trees_looked_at_holds : PySem.Challenge.rw_boughkept_k08_trees_looked_at.Holds := by
  w_on; o_law; k_head; (case hw => w_witness2)
  k_fill
  refine L2.walk_of (l := PySem.Challenge.rw_boughkept_k08_trees_looked_at) (n := 63) (k := 4) (x := "_law_script") (CX := fun _ => L2.CX0) (sp := fun w => B08.spLaw _) rfl (by decide) rfl ⟨rfl, by decide, by decide⟩ (fun w h Y => PySem.W.kIn_of Y) ?F (fun _ _ a ns hl _ hS => ⟨a, ns, rfl, hS, hl, fun _ => rfl⟩) (fun _ _ _ _ _ h => h)
  case F =>
    intro w mg fa h KX G hmg
    refine' B08.all_mk KX G hmg ?a_table ?l_table ?c_table ?k_table ?a_looktree ?l_looktree ?c_looktree ?k_looktree ?a_rowsof ?l_rowsof ?c_rowsof ?k_rowsof ?a_box ?l_box ?c_box ?k_box ?a_take ?l_take ?c_take ?k_take ?a_names ?l_names ?c_names ?k_names ?a_wood ?l_wood ?c_wood ?k_wood ?a_lmakers ?l_lmakers ?c_lmakers ?k_lmakers ?a_anytext ?l_anytext ?c_anytext ?k_anytext ?a_tree ?l_tree ?c_tree ?k_tree ?a_spoilt ?l_spoilt ?c_spoilt ?k_spoilt ?a_due ?l_due ?c_due ?k_due ?a_told ?l_told ?c_told ?k_told ?a_law ?l_law ?c_law ?k_law ?z_len ?z_int ?z_list ?z_tuple ?z_zip ?z_isinstance ?z_max ?z_min ?z_range ?z_enumerate ?z_all ?z_sum ?z_ValueError ?z_super ?aC ?aB ?xL ?iC ?tI ?lI ?cI ?lcd ?vs2 ?fileE ?lcc ?supC ?opq ?topN ?subB ?subC ?kC ?exC ?tyC ?gaC ?ggC ?hdC ?clC ?snC ?tkC ?mrC ?saC ?nW ?exB ?hdB ?tyB ?sCB ?kCC ?kVE ?g_NoFit ?k_NoFit ?g_NoPrinter ?k_NoPrinter ?g_NoReader ?k_NoReader ?g_NoRow ?k_NoRow ?g_NoText ?k_NoText ?g_NoTurner ?k_NoTurner ?g_NoWood ?k_NoWood ?g_NoWord ?k_NoWord ?g_TooLong ?k_TooLong ?g_TooWide ?k_TooWide
    (case a_table => k_is)
    (case l_table => k_is)
    (case c_table => k_is)
    (case k_table => k_is)
    (case a_looktree => k_is)
    (case l_looktree => k_is)
    (case c_looktree => k_is)
    (case k_looktree => k_is)
    (case a_rowsof => k_is)
    (case l_rowsof => k_is)
    (case c_rowsof => k_is)
    (case k_rowsof => k_is)
    (case a_box => k_is)
    (case l_box => k_is)
    (case c_box => k_is)
    (case k_box => k_is)
    (case a_take => k_is)
    (case l_take => k_is)
    (case c_take => k_is)
    (case k_take => k_is)
    (case a_names => k_is)
    (case l_names => k_is)
    (case c_names => k_is)
    (case k_names => k_is)
    (case a_wood => k_is)
    (case l_wood => k_is)
    (case c_wood => k_is)
    (case k_wood => k_is)
    (case a_lmakers => k_is)
    (case l_lmakers => k_is)
    (case c_lmakers => k_is)
    (case k_lmakers => k_is)
    (case a_anytext => k_is)
    (case l_anytext => k_is)
    (case c_anytext => k_is)
    (case k_anytext => k_is)
    (case a_tree => k_is)
    (case l_tree => k_is)
    (case c_tree => k_is)
    (case k_tree => k_is)
    (case a_spoilt => k_is)
    (case l_spoilt => k_is)
    (case c_spoilt => k_is)
    (case k_spoilt => k_is)
    (case a_due => k_is)
    (case l_due => k_is)
    (case c_due => k_is)
    (case k_due => k_is)
    (case a_told => k_is)
    (case l_told => k_is)
    (case c_told => k_is)
    (case k_told => k_is)
    (case a_law => k_is)
    (case l_law => k_is)
    (case c_law => k_is)
    (case k_law => k_is)
    (case z_len => k_is)
    (case z_int => k_is)
    (case z_list => k_is)
    (case z_tuple => k_is)
    (case z_zip => k_is)
    (case z_isinstance => k_is)
    (case z_max => k_is)
    (case z_min => k_is)
    (case z_range => k_is)
    (case z_enumerate => k_is)
    (case z_all => k_is)
    (case z_sum => k_is)
    (case z_ValueError => k_is)
    (case z_super => k_is)
    (case aC => k_is)
    (case aB => k_is)
    (case xL => k_is)
    (case iC => k_is)
    (case tI => k_is)
    (case lI => k_is)
    (case cI => k_is)
    (case lcd => k_is)
    (case vs2 => rfl)
    (case fileE => first | rfl | decide +kernel)
    (case lcc => k_is)
    (case supC => ks_is)
    (case opq => k_is)
    (case topN => first | rfl | decide +kernel)
    (case subB => k_is)
    (case subC => k_is)
    (case kC => k_is)
    (case exC => k_is)
    (case tyC => k_is)
    (case gaC => k_is)
    (case ggC => k_is)
    (case hdC => k_is)
    (case clC => k_is)
    (case snC => k_is)
    (case tkC => k_is)
    (case mrC => k_is)
    (case saC => k_is)
    (case nW => k_is)
    (case exB => k_is)
    (case hdB => k_is)
    (case tyB => k_is)
    (case sCB => first | rfl | k_is)
    (case kCC => kit_is)
    (case kVE => kit_is)
    (case g_NoFit => k_is)
    (case k_NoFit => kit_is)
    (case g_NoPrinter => k_is)
    (case k_NoPrinter => kit_is)
    (case g_NoReader => k_is)
    (case k_NoReader => kit_is)
    (case g_NoRow => k_is)
    (case k_NoRow => kit_is)
    (case g_NoText => k_is)
    (case k_NoText => kit_is)
    (case g_NoTurner => k_is)
    (case k_NoTurner => kit_is)
    (case g_NoWood => k_is)
    (case k_NoWood => kit_is)
    (case g_NoWord => k_is)
    (case k_NoWord => kit_is)
    (case g_TooLong => k_is)
    (case k_TooLong => kit_is)
    (case g_TooWide => k_is)
    (case k_TooWide => kit_is)
